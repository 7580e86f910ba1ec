/- Carried over from an earlier seat. -/
import Derived.Test.YtiiopbcihieblaaGreatDoorVG
import Derived.Test.YtiiopbcihieblaaGreatDoorVJ
namespace Go.Proofs.YtiiopbcihieblaaGreatDoor
set_option maxRecDepth 100000
set_option maxRecDepth 100000
set_option maxRecDepth 100000
set_option maxRecDepth 100000
open Go.RowKit

theorem cmpF_copy (s : Nat) (a : V) : cmpF (copyV s a) a = 0 := by
  have e : cmpF (copyV s a) a = cmpF a a := by cases s <;> rfl
  rw [e]; exact ord_cmpF.refl a
theorem rowC_map {f : V → V → Int} {g : V → V} (h : ∀ x, f (g x) x = 0) : ∀ l, rowC f (l.map g) l = 0
  | [] => rfl
  | x :: l => by
    rw [List.map_cons, rowC, h x, orI, if_pos rfl]; exact rowC_map h l
/-- A copy that is deep enough is the same. -/
theorem cmp_copy : ∀ r s a, r ≤ s → cmpV r (copyV s a) a = 0
  | 0, s, a, _ => cmpF_copy s a
  | r + 1, 0, _, h => absurd h (by omega)
  | r + 1, s + 1, a, h => by
    have ih := fun x => cmp_copy r s x (by omega)
    show orI (cmpF (copyV (s + 1) a) a) (orI (rowC (cmpV r) (a.l.map (copyV s)) a.l) (rowC (cmpV r) (a.m.map (copyV s)) a.m)) = 0
    rw [cmpF_copy, rowC_map ih, rowC_map ih]; rfl
theorem map_same {g : V → V} {l : List V} (h : ∀ x ∈ l, g x = x) : l.map g = l := by
  rw [List.map_congr_left h, List.map_id']
/-- What may be, after the copy, was not cut by it. -/
theorem ok_copy_same : ∀ r s a, okV r (copyV s a) = true → r ≤ s → copyV s a = a
  | 0, _, _, h, _ => by simp [okV] at h
  | r + 1, 0, _, _, h => absurd h (by omega)
  | r + 1, s + 1, a, h, hs => by
    simp only [okV, Bool.and_eq_true] at h
    obtain ⟨⟨⟨_, h1⟩, h2⟩, _⟩ := h
    have e1 : a.l.map (copyV s) = a.l := map_same fun x hx => ok_copy_same r s x (List.all_eq_true.1 h1 _ (List.mem_map_of_mem hx)) (by omega)
    have e2 : a.m.map (copyV s) = a.m := map_same fun x hx => ok_copy_same r s x (List.all_eq_true.1 h2 _ (List.mem_map_of_mem hx)) (by omega)
    show V.mk a.k a.n a.s (a.l.map (copyV s)) (a.m.map (copyV s)) = a
    rw [e1, e2]; exact a.eta.symm
theorem ok_same_copy : ∀ r s a, okV r a = true → r ≤ s → copyV s a = a
  | 0, _, _, h, _ => by simp [okV] at h
  | r + 1, 0, _, _, h => absurd h (by omega)
  | r + 1, s + 1, a, h, hs => by
    simp only [okV, Bool.and_eq_true] at h
    obtain ⟨⟨⟨_, h1⟩, h2⟩, _⟩ := h
    have e1 : a.l.map (copyV s) = a.l := map_same fun x hx => ok_same_copy r s x (List.all_eq_true.1 h1 _ hx) (by omega)
    have e2 : a.m.map (copyV s) = a.m := map_same fun x hx => ok_same_copy r s x (List.all_eq_true.1 h2 _ hx) (by omega)
    show V.mk a.k a.n a.s (a.l.map (copyV s)) (a.m.map (copyV s)) = a
    rw [e1, e2]; exact a.eta.symm
theorem ok_copy (r s : Nat) (a : V) (h : r ≤ s) : okV r (copyV s a) = okV r a := by
  cases e : okV r a with
  | true => rw [ok_same_copy r s a e h]; exact e
  | false =>
    cases e2 : okV r (copyV s a) with
    | false => rfl
    | true => rw [ok_copy_same r s a e2 h, e] at e2; cases e2
end Go.Proofs.YtiiopbcihieblaaGreatDoor




