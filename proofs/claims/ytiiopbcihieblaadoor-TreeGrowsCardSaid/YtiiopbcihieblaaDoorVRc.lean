/- Carried over from an earlier seat. -/
import Derived.Test.YtiiopbcihieblaaDoorVG
namespace Go.Proofs.YtiiopbcihieblaaDoor
set_option maxRecDepth 100000
set_option maxRecDepth 100000
set_option maxRecDepth 100000
set_option maxRecDepth 100000
set_option maxRecDepth 100000
open Go.RowKit Go.Sort

theorem toList_size (s : ByteArray) : s.toList.length = s.size := by rw [ByteArray.toList_eq]; simp
theorem toList_at (a : ByteArray) (k : Nat) (h : k < a.size) : a.toList[k]? = some (a[k]'h) := by
  rw [ByteArray.toList_eq]
  have : k < a.data.toList.length := by rw [Array.length_toList]; exact h
  rw [List.getElem?_eq_getElem this]; rfl
end Go.Proofs.YtiiopbcihieblaaDoor

namespace Go.Proofs.YtiiopbcihieblaaDoor
set_option maxRecDepth 100000
set_option maxRecDepth 100000
set_option maxRecDepth 100000
set_option maxRecDepth 100000
set_option maxRecDepth 100000
open Go.RowKit Go.Sort

end Go.Proofs.YtiiopbcihieblaaDoor





