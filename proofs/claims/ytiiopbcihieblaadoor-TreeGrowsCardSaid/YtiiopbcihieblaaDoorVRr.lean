/- Carried over from an earlier seat. -/
import Derived.Test.YtiiopbcihieblaaDoorVVb
import Derived.Test.YtiiopbcihieblaaDoorVF
namespace Go.Proofs.YtiiopbcihieblaaDoor
set_option maxRecDepth 100000
set_option maxRecDepth 100000
set_option maxRecDepth 100000
set_option maxRecDepth 100000
set_option maxRecDepth 100000
open Go.RowKit
attribute [local go_sem ↓] Go.wp_at_zero Go.wp_at_succ

theorem ok_parts (r : Nat) (t : V) : okV (r + 1) t = true ↔ fitsV t = true ∧ (∀ x ∈ t.l, okV r x = true) ∧ (∀ x ∈ t.m, okV r x = true) ∧ (t.k = 7 → risesV t.l = true) := by
  rw [okV]
  simp only [Bool.and_eq_true, List.all_eq_true, Bool.or_eq_true, bne_iff_ne, ne_eq]
  constructor
  · rintro ⟨⟨⟨h1, h2⟩, h3⟩, h4⟩
    exact ⟨h1, h2, h3, fun h => h4.resolve_left (fun hn => hn h)⟩
  · rintro ⟨h1, h2, h3, h4⟩
    refine ⟨⟨⟨h1, h2⟩, h3⟩, ?_⟩
    by_cases h : t.k = 7
    · exact .inr (h4 h)
    · exact .inl h
/-- So far the row is right. -/
structure So (r : Nat) (t : V) (k : Nat) : Prop where
  ok : ∀ i x, i < k → t.l[i]? = some x → okV r x = true
  up : t.k = 7 → ∀ i x y, i + 1 < k → t.l[i]? = some x → t.l[i + 1]? = some y → cmpV 12 x y < 0
theorem So.next {r : Nat} {t : V} {k : Nat} {y : V} (h : So r t k) (hy : t.l[k]? = some y) (ho : okV r y = true) (hu : t.k = 7 → ∀ i x, i + 1 = k → t.l[i]? = some x → cmpV 12 x y < 0) : So r t (k + 1) :=
  ⟨fun i x hi hx => by
    by_cases e : i = k
    · subst e; rw [hy] at hx; injection hx with hx; subst hx; exact ho
    · exact h.ok i x (by omega) hx, fun h7 i x z hi hx hz => by
    by_cases e : i + 1 = k
    · rw [e, hy] at hz; injection hz with hz; subst hz; exact hu h7 i x e hx
    · exact h.up h7 i x z (by omega) hx hz⟩
end Go.Proofs.YtiiopbcihieblaaDoor





