/- Carried over from an earlier seat. -/
import Derived.Test.YtiiopbcihieblaaDoorKIA
import Derived.Test.YtiiopbcihieblaaDoorVRr
import Derived.Test.YtiiopbcihieblaaDoorVVb
import Derived.Deep.QuietTactic
import Derived.BigQuiet
namespace Go.Proofs.YtiiopbcihieblaaDoor
set_option maxRecDepth 100000
set_option maxRecDepth 100000
set_option maxRecDepth 100000
set_option maxRecDepth 100000
open Go.RowKit

end Go.Proofs.YtiiopbcihieblaaDoor

namespace Go.Proofs.YtiiopbcihieblaaDoor
set_option maxRecDepth 100000
set_option maxRecDepth 100000
set_option maxRecDepth 100000
set_option maxRecDepth 100000
open Go.RowKit

theorem take_next {α : Type} (l : List α) (k : Nat) {x : α} (hx : l[k]? = some x) : l.take (k + 1) = l.take k ++ [x] := by
  obtain ⟨h1, e1⟩ := List.getElem?_eq_some_iff.1 hx
  rw [List.take_succ_eq_append_getElem h1, e1]
end Go.Proofs.YtiiopbcihieblaaDoor

namespace Go.Proofs.YtiiopbcihieblaaDoor
set_option maxRecDepth 100000
set_option maxRecDepth 100000
set_option maxRecDepth 100000
set_option maxRecDepth 100000
open Go.RowKit

end Go.Proofs.YtiiopbcihieblaaDoor


namespace Go.Proofs.YtiiopbcihieblaaDoor
set_option maxRecDepth 100000
set_option maxRecDepth 100000
set_option maxRecDepth 100000
open Go.RowKit

abbrev Bs := List UInt8

/-- Items with a comma and a blank between: from item number i on. -/
def itemsT {α : Type} (f : α → Bs) : Nat → List α → Bs
  | _, [] => []
  | i, x :: r => ((if 0 < i then [44, 32] else []) ++ f x) ++ itemsT f (i + 1) r
def numB (c : UInt8) : Bool := c == 45 || digB c
end Go.Proofs.YtiiopbcihieblaaDoor
namespace Go.Proofs.YtiiopbcihieblaaDoor
set_option maxRecDepth 100000
set_option maxRecDepth 100000
set_option maxRecDepth 100000
set_option maxRecDepth 100000
open Go.RowKit

end Go.Proofs.YtiiopbcihieblaaDoor
namespace Go.Proofs.YtiiopbcihieblaaDoor
set_option maxRecDepth 100000
set_option maxRecDepth 100000
set_option maxRecDepth 100000
set_option maxRecDepth 100000
open Go.RowKit

end Go.Proofs.YtiiopbcihieblaaDoor
namespace Go.Proofs.YtiiopbcihieblaaDoor
set_option maxRecDepth 100000
set_option maxRecDepth 100000
set_option maxRecDepth 100000
set_option maxRecDepth 100000
open Go.RowKit

end Go.Proofs.YtiiopbcihieblaaDoor

namespace Go.Proofs.YtiiopbcihieblaaDoor
set_option maxRecDepth 100000
set_option maxRecDepth 100000
set_option maxRecDepth 100000
set_option maxRecDepth 100000
open Go.RowKit Go.Sort

section
variable {α : Type} {e : Bs} {one : Bs → Option (α × Bs)} {n : Nat} {acc : List α} {l r q : Bs} {x : α}
end
end Go.Proofs.YtiiopbcihieblaaDoor

namespace Go.Proofs.YtiiopbcihieblaaDoor
set_option maxRecDepth 100000
set_option maxRecDepth 100000
set_option maxRecDepth 100000
set_option maxRecDepth 100000
open Go.RowKit Go.Sort

end Go.Proofs.YtiiopbcihieblaaDoor
namespace Go.Proofs.YtiiopbcihieblaaDoor
set_option maxRecDepth 100000
set_option maxRecDepth 100000
set_option maxRecDepth 100000
set_option maxRecDepth 100000
open Go.RowKit Go.Sort

theorem lit_list (L : Bs) : (⟨L.toArray⟩ : ByteArray).toList = L := by rw [ByteArray.toList_eq]
theorem lit_size (L : Bs) : (⟨L.toArray⟩ : ByteArray).size = L.length := by rw [← toList_size, lit_list]
def cm (k : Nat) : Bs := if 0 < k then [44, 32] else []
theorem digL_len (n : Int) (h : fitsB n = true) : (digL n).length ≤ 21 := by
  unfold digL
  have := lowsAll_len n.natAbs (by rw [fits_iff] at h; omega)
  rw [List.length_append, List.length_map, List.length_reverse]
  split <;> simp <;> omega
section
variable {α : Type} (f : α → Bs)
theorem itemsT_append : ∀ (a b : List α) (i : Nat), itemsT f i (a ++ b) = itemsT f i a ++ itemsT f (i + a.length) b
  | [], b, i => rfl
  | x :: a, b, i => by
    simp only [List.cons_append, itemsT, itemsT_append a b (i + 1), List.length_cons, List.append_assoc]
    rw [show i + 1 + a.length = i + (a.length + 1) from by omega]
theorem itemsT_next (l : List α) (k : Nat) {x : α} (h : l[k]? = some x) : itemsT f 0 (l.take (k + 1)) = itemsT f 0 (l.take k) ++ (cm k ++ f x) := by
  have hk := (List.getElem?_eq_some_iff.1 h).1
  rw [take_next l k h, itemsT_append]
  simp only [itemsT, List.append_nil]
  rw [List.length_take, show min k l.length = k from by omega, Nat.zero_add]
  rfl
theorem itemsT_take_le (l : List α) (k : Nat) : (itemsT f 0 (l.take k)).length ≤ (itemsT f 0 l).length := by
  have := congrArg (fun m => (itemsT f 0 m).length) (List.take_append_drop k l).symm
  simp only [itemsT_append, List.length_append] at this
  omega
end
end Go.Proofs.YtiiopbcihieblaaDoor

namespace Go.Proofs.YtiiopbcihieblaaDoor
set_option maxRecDepth 100000
set_option maxRecDepth 100000
set_option maxRecDepth 100000
set_option maxRecDepth 100000
open Go.RowKit Go.Sort

end Go.Proofs.YtiiopbcihieblaaDoor
namespace Go.Proofs.YtiiopbcihieblaaDoor
set_option maxRecDepth 100000
set_option maxRecDepth 100000
set_option maxRecDepth 100000
set_option maxRecDepth 100000
open Go.RowKit Go.Sort

end Go.Proofs.YtiiopbcihieblaaDoor

namespace Go.Proofs.YtiiopbcihieblaaDoor
set_option maxRecDepth 100000
set_option maxRecDepth 100000
set_option maxRecDepth 100000
set_option maxRecDepth 100000
open Go.RowKit

end Go.Proofs.YtiiopbcihieblaaDoor
namespace Go.Proofs.YtiiopbcihieblaaDoor
set_option maxRecDepth 100000
set_option maxRecDepth 100000
set_option maxRecDepth 100000
set_option maxRecDepth 100000
open Go.RowKit

/-- What may stand behind a value. -/
def sep (q : Bs) : Prop := numB (q.headD 0) = false
end Go.Proofs.YtiiopbcihieblaaDoor

namespace Go.Proofs.YtiiopbcihieblaaDoor
set_option maxRecDepth 100000
set_option maxRecDepth 100000
set_option maxRecDepth 100000
set_option maxRecDepth 100000
open Go.RowKit

end Go.Proofs.YtiiopbcihieblaaDoor

namespace Go.Proofs.YtiiopbcihieblaaDoor
set_option maxRecDepth 100000
set_option maxRecDepth 100000
set_option maxRecDepth 100000
set_option maxRecDepth 100000
open Go.RowKit Go.Sort

end Go.Proofs.YtiiopbcihieblaaDoor

namespace Go.Proofs.YtiiopbcihieblaaDoor
set_option maxRecDepth 100000
set_option maxRecDepth 100000
set_option maxRecDepth 100000
set_option maxRecDepth 100000
open Go.RowKit Go.Sort

end Go.Proofs.YtiiopbcihieblaaDoor



