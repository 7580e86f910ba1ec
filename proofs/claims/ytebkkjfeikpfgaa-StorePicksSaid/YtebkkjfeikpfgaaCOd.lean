/- Carried over from an earlier seat. -/
import Derived.Test.YtebkkjfeikpfgaaSO
namespace Go.Proofs.Ytebkkjfeikpfgaa
set_option maxRecDepth 100000
set_option maxRecDepth 100000
open Go.RowKit

theorem cmpF_copy (s : Nat) (a : V) : cmpF (copyV s a) a = 0 := by
  have e : cmpF (copyV s a) a = cmpF a a := by cases s <;> rfl
  rw [e]; exact ord_cmpF.refl a
theorem rowC_map {f : V → V → Int} {g : V → V} (h : ∀ x, f (g x) x = 0) : ∀ l, rowC f (l.map g) l = 0
  | [] => rfl
  | x :: l => by
    rw [List.map_cons, rowC, h x, orI, if_pos rfl]; exact rowC_map h l
/-- A copy that is deep enough is the same. -/
theorem cmp_copy : ∀ r s a, r ≤ s → cmpV r (copyV s a) a = 0
  | 0, s, a, _ => cmpF_copy s a
  | r + 1, 0, _, h => absurd h (by omega)
  | r + 1, s + 1, a, h => by
    have ih := fun x => cmp_copy r s x (by omega)
    show orI (cmpF (copyV (s + 1) a) a) (orI (rowC (cmpV r) (a.l.map (copyV s)) a.l) (rowC (cmpV r) (a.m.map (copyV s)) a.m)) = 0
    rw [cmpF_copy, rowC_map ih, rowC_map ih]; rfl
end Go.Proofs.Ytebkkjfeikpfgaa

namespace Go.Proofs.Ytebkkjfeikpfgaa
set_option maxRecDepth 100000
open Go.RowKit Go.Sort
set_option maxRecDepth 100000

theorem cmp_left (a b : V) : cmpV 12 (copyV 12 a) b = cmpV 12 a b := (ord_cmpV 12).same_left _ _ _ (cmp_copy 12 12 a (Nat.le_refl _))
theorem samP_refl (p : ByteArray × V) : samP p p = true := by
  unfold samP; rw [(ord_cmpV 12).refl]; simp
theorem samL_refl : ∀ l, samL l l = true
  | [] => rfl
  | p :: r => by simp [samL, samP_refl, samL_refl r]
theorem samT_refl (t : TV) : samT t t = true := by simp [samT, samL_refl]
theorem samP_left (p q : ByteArray × V) : samP (cP p) q = samP p q := by simp [samP, cP, cmp_left]
theorem samL_left : ∀ l m, samL (l.map cP) m = samL l m
  | [], [] => rfl
  | [], _ :: _ => rfl
  | _ :: _, [] => rfl
  | p :: r, q :: s => by simp [samL, samP_left, samL_left r s]
theorem samT_left (a b : TV) : samT (cT a) b = samT a b := by simp [samT, cT, samL_left]
/-- Found in both. -/
theorem at_both (id : Int) : ∀ (a b : List TA), a.map TA.tv' = b.map TA.ctv → (b.find? (idB id) = none ∧ a.find? (idB id) = none) ∨ ∃ x y, b.find? (idB id) = some x ∧ a.find? (idB id) = some y ∧ y.tv' = x.ctv
  | [], [], _ => .inl ⟨rfl, rfl⟩
  | [], _ :: _, h => by cases h
  | _ :: _, [], h => by cases h
  | y :: r, x :: s, h => by
    rw [List.map_cons, List.map_cons] at h
    injection h with h1 h2
    have hid : idB id y = idB id x := by have := congrArg TV.id h1; simp [TA.tv', TA.ctv] at this; simp [idB, this]
    cases hx : idB id x with
    | true => exact .inr ⟨x, y, by simp [hx], by simp [hid, hx], h1⟩
    | false =>
      rw [List.find?_cons_of_neg (by simp [hx]), List.find?_cons_of_neg (by simp [hid, hx])]
      exact at_both id r s h2
theorem at_same {id : Int} {a b : List TA} (h : a.map TA.tv' = b.map TA.ctv) {q u : TA} {is : Bool} (hq : q.tv' = (atV a id).1) (hu : (is = true ∧ b.find? (idB id) = some u) ∨ (is = false ∧ b.find? (idB id) = none ∧ u.tv' = zeroTV)) : samT q.tv' u.tv' = true ∧ (atV a id).2 = is := by
  rcases at_both id a b h with ⟨e1, e2⟩ | ⟨x, y, e1, e2, e3⟩
  · rcases hu with ⟨_, h1⟩ | ⟨h0, _, h2⟩
    · rw [h1] at e1; cases e1
    · have e : atV a id = (zeroTV, false) := by unfold atV; rw [e2]
      rw [hq, e, h2]
      exact ⟨samT_refl _, h0.symm⟩
  · rcases hu with ⟨h0, h1⟩ | ⟨_, h1, _⟩
    · have e : atV a id = (y.ctv, true) := by unfold atV; rw [e2]
      rw [h1] at e1
      injection e1 with e1
      subst e1
      rw [hq, e]
      refine ⟨?_, h0.symm⟩
      show samT y.ctv u.tv' = true
      rw [ctv_eq, samT_left, e3, ctv_eq, samT_left, samT_refl]
    · rw [h1] at e1; cases e1
end Go.Proofs.Ytebkkjfeikpfgaa

