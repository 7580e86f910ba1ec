/- Carried over from an earlier seat. -/
import Derived.Test.YtiiopbcihieblaaDoorPI
import Derived.Test.YtiiopbcihieblaaDoorVRr
import Derived.Deep.Cut
namespace Go.Proofs.YtiiopbcihieblaaDoor
set_option maxRecDepth 100000
set_option maxRecDepth 100000
set_option maxRecDepth 100000
set_option maxRecDepth 100000
open Go.RowKit Go.Sort

theorem fits_none (t : P) (h : t.k < 1 ∨ 14 < t.k) : fitsP t = false := by unfold fitsP fitsN; repeat (rw [if_neg (by omega)])

theorem all_next {α : Type} (p : α → Bool) (l : List α) (k : Nat) {x : α} (hx : l[k]? = some x) : (l.take (k + 1)).all p = ((l.take k).all p && p x) := by
  obtain ⟨h1, e1⟩ := List.getElem?_eq_some_iff.1 hx
  rw [List.take_succ_eq_append_getElem h1, e1, List.all_append]; simp
theorem all_stop {α : Type} (p : α → Bool) (l : List α) (k : Nat) {x : α} (hx : l[k]? = some x) (h : p x = false) : l.all p = false := by
  rw [List.all_eq_false]; exact ⟨x, List.mem_of_getElem? hx, by simp [h]⟩

end Go.Proofs.YtiiopbcihieblaaDoor



