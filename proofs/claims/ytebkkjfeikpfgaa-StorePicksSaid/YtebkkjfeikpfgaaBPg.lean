/- Carried over from an earlier seat. -/
import Derived.Test.YtebkkjfeikpfgaaBPb
import Derived.Test.YtebkkjfeikpfgaaBPe
import Derived.Test.YtebkkjfeikpfgaaBNP
import Derived.Test.YtebkkjfeikpfgaaBNV
import Derived.Test.YtebkkjfeikpfgaaBNW
namespace Go.Proofs.Ytebkkjfeikpfgaa
set_option maxRecDepth 100000
open Go.RowKit Go.Sort
set_option maxRecDepth 100000

theorem okG_v {vs es : List TA} (h : okG vs es = true) {s : TA} (hs : s ∈ vs) : okTV s.tv' = true ∧ s.o = 0 ∧ s.i = 0 := by
  unfold okG at h
  simp only [Bool.and_eq_true, Bool.not_eq_true'] at h
  obtain ⟨h1, h2, _⟩ := h
  unfold okThs at h1
  simp only [Bool.and_eq_true] at h1
  have h3 := List.all_eq_true.1 h1.2.1 s hs
  rw [okTh_tv] at h3
  have h4 : endT s = false := by
    cases e : endT s with
    | false => rfl
    | true => rw [List.any_eq_true.2 ⟨s, hs, e⟩] at h2; cases h2
  unfold endT at h4
  simp at h4
  exact ⟨h3, h4.1, h4.2⟩
end Go.Proofs.Ytebkkjfeikpfgaa

