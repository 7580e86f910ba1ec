/- Carried over from the seat of layer 2. -/
import Derived.Test.YtciipggccjiaiaaVI
import Derived.Test.YtciipggccjiaiaaVJ
namespace Go.Proofs.Ytciipggccjiaiaa
set_option maxRecDepth 100000
open Go.RowKit

theorem cmpF_copy (s : Nat) (a : V) : cmpF (copyV s a) a = 0 := by
  have e : cmpF (copyV s a) a = cmpF a a := by cases s <;> rfl
  rw [e]; exact ord_cmpF.refl a
theorem rowC_map {f : V → V → Int} {g : V → V} (h : ∀ x, f (g x) x = 0) : ∀ l, rowC f (l.map g) l = 0
  | [] => rfl
  | x :: l => by
    rw [List.map_cons, rowC, h x, orI, if_pos rfl]; exact rowC_map h l
/-- A copy that is deep enough is the same. -/
theorem cmp_copy : ∀ r s a, r ≤ s → cmpV r (copyV s a) a = 0
  | 0, s, a, _ => cmpF_copy s a
  | r + 1, 0, _, h => absurd h (by omega)
  | r + 1, s + 1, a, h => by
    have ih := fun x => cmp_copy r s x (by omega)
    show orI (cmpF (copyV (s + 1) a) a) (orI (rowC (cmpV r) (a.l.map (copyV s)) a.l) (rowC (cmpV r) (a.m.map (copyV s)) a.m)) = 0
    rw [cmpF_copy, rowC_map ih, rowC_map ih]; rfl
theorem cmp_copies (r s : Nat) (a b : V) (h : r ≤ s) : cmpV r (copyV s a) (copyV s b) = cmpV r a b := by
  rw [(ord_cmpV r).same_left _ _ _ (cmp_copy r s a h), (ord_cmpV r).same_right a (copyV s b) b (cmp_copy r s b h)]
end Go.Proofs.Ytciipggccjiaiaa

