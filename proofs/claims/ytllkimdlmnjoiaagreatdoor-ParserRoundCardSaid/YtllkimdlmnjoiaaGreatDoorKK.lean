/- Carried over from an earlier seat. -/
import Derived.Test.YtllkimdlmnjoiaaGreatDoorKIA
import Derived.Test.YtllkimdlmnjoiaaGreatDoorVRr
import Derived.Test.YtllkimdlmnjoiaaGreatDoorVVb
import Derived.Test.YtllkimdlmnjoiaaGreatDoorKIS
import Derived.Deep.QuietTactic
import Derived.BigQuiet
namespace Go.Proofs.YtllkimdlmnjoiaaGreatDoor
set_option maxRecDepth 100000
set_option maxRecDepth 100000
set_option maxRecDepth 100000
set_option maxRecDepth 100000
open Go.RowKit

end Go.Proofs.YtllkimdlmnjoiaaGreatDoor

namespace Go.Proofs.YtllkimdlmnjoiaaGreatDoor
set_option maxRecDepth 100000
set_option maxRecDepth 100000
set_option maxRecDepth 100000
set_option maxRecDepth 100000
open Go.RowKit

theorem take_next {α : Type} (l : List α) (k : Nat) {x : α} (hx : l[k]? = some x) : l.take (k + 1) = l.take k ++ [x] := by
  obtain ⟨h1, e1⟩ := List.getElem?_eq_some_iff.1 hx
  rw [List.take_succ_eq_append_getElem h1, e1]
end Go.Proofs.YtllkimdlmnjoiaaGreatDoor

namespace Go.Proofs.YtllkimdlmnjoiaaGreatDoor
set_option maxRecDepth 100000
set_option maxRecDepth 100000
set_option maxRecDepth 100000
set_option maxRecDepth 100000
open Go.RowKit

end Go.Proofs.YtllkimdlmnjoiaaGreatDoor


namespace Go.Proofs.YtllkimdlmnjoiaaGreatDoor
set_option maxRecDepth 100000
set_option maxRecDepth 100000
set_option maxRecDepth 100000
open Go.RowKit

abbrev Bs := List UInt8

/-- Items with a comma and a blank between: from item number i on. -/
def itemsT {α : Type} (f : α → Bs) : Nat → List α → Bs
  | _, [] => []
  | i, x :: r => ((if 0 < i then [44, 32] else []) ++ f x) ++ itemsT f (i + 1) r
def numB (c : UInt8) : Bool := c == 45 || digB c
def numR (l : Bs) : Option (Int × Bs) := if parseE (l.takeWhile numB) = 0 then some (parseV (l.takeWhile numB), l.dropWhile numB) else none
def takeL (p l : Bs) : Option Bs := if p.isPrefixOf l then some (l.drop p.length) else none
/-- So many items at most, and the end of them. -/
def itemsR {α : Type} (e : Bs) (one : Bs → Option (α × Bs)) : Nat → List α → Bs → Option (List α × Bs)
  | 0, _, _ => none
  | n + 1, acc, l => match one l with
    | none => none
    | some (x, r) => match takeL e r with
      | some q => some (acc ++ [x], q)
      | none => match takeL [44, 32] r with
        | none => none
        | some q => itemsR e one n (acc ++ [x]) q
end Go.Proofs.YtllkimdlmnjoiaaGreatDoor
namespace Go.Proofs.YtllkimdlmnjoiaaGreatDoor
set_option maxRecDepth 100000
set_option maxRecDepth 100000
set_option maxRecDepth 100000
set_option maxRecDepth 100000
open Go.RowKit

end Go.Proofs.YtllkimdlmnjoiaaGreatDoor
namespace Go.Proofs.YtllkimdlmnjoiaaGreatDoor
set_option maxRecDepth 100000
set_option maxRecDepth 100000
set_option maxRecDepth 100000
set_option maxRecDepth 100000
open Go.RowKit

end Go.Proofs.YtllkimdlmnjoiaaGreatDoor
namespace Go.Proofs.YtllkimdlmnjoiaaGreatDoor
set_option maxRecDepth 100000
set_option maxRecDepth 100000
set_option maxRecDepth 100000
set_option maxRecDepth 100000
open Go.RowKit

end Go.Proofs.YtllkimdlmnjoiaaGreatDoor

namespace Go.Proofs.YtllkimdlmnjoiaaGreatDoor
set_option maxRecDepth 100000
set_option maxRecDepth 100000
set_option maxRecDepth 100000
set_option maxRecDepth 100000
open Go.RowKit Go.Sort

section
variable {α : Type} {e : Bs} {one : Bs → Option (α × Bs)} {n : Nat} {acc : List α} {l r q : Bs} {x : α}
end
end Go.Proofs.YtllkimdlmnjoiaaGreatDoor

namespace Go.Proofs.YtllkimdlmnjoiaaGreatDoor
set_option maxRecDepth 100000
set_option maxRecDepth 100000
set_option maxRecDepth 100000
set_option maxRecDepth 100000
open Go.RowKit Go.Sort

end Go.Proofs.YtllkimdlmnjoiaaGreatDoor
namespace Go.Proofs.YtllkimdlmnjoiaaGreatDoor
set_option maxRecDepth 100000
set_option maxRecDepth 100000
set_option maxRecDepth 100000
set_option maxRecDepth 100000
open Go.RowKit Go.Sort

theorem lit_list (L : Bs) : (⟨L.toArray⟩ : ByteArray).toList = L := by rw [ByteArray.toList_eq]
theorem lit_size (L : Bs) : (⟨L.toArray⟩ : ByteArray).size = L.length := by rw [← toList_size, lit_list]
def cm (k : Nat) : Bs := if 0 < k then [44, 32] else []
theorem digL_len (n : Int) (h : fitsB n = true) : (digL n).length ≤ 21 := by
  unfold digL
  have := lowsAll_len n.natAbs (by rw [fits_iff] at h; omega)
  rw [List.length_append, List.length_map, List.length_reverse]
  split <;> simp <;> omega
section
variable {α : Type} (f : α → Bs)
theorem itemsT_append : ∀ (a b : List α) (i : Nat), itemsT f i (a ++ b) = itemsT f i a ++ itemsT f (i + a.length) b
  | [], b, i => rfl
  | x :: a, b, i => by
    simp only [List.cons_append, itemsT, itemsT_append a b (i + 1), List.length_cons, List.append_assoc]
    rw [show i + 1 + a.length = i + (a.length + 1) from by omega]
theorem itemsT_next (l : List α) (k : Nat) {x : α} (h : l[k]? = some x) : itemsT f 0 (l.take (k + 1)) = itemsT f 0 (l.take k) ++ (cm k ++ f x) := by
  have hk := (List.getElem?_eq_some_iff.1 h).1
  rw [take_next l k h, itemsT_append]
  simp only [itemsT, List.append_nil]
  rw [List.length_take, show min k l.length = k from by omega, Nat.zero_add]
  rfl
theorem itemsT_take_le (l : List α) (k : Nat) : (itemsT f 0 (l.take k)).length ≤ (itemsT f 0 l).length := by
  have := congrArg (fun m => (itemsT f 0 m).length) (List.take_append_drop k l).symm
  simp only [itemsT_append, List.length_append] at this
  omega
end
end Go.Proofs.YtllkimdlmnjoiaaGreatDoor

namespace Go.Proofs.YtllkimdlmnjoiaaGreatDoor
set_option maxRecDepth 100000
set_option maxRecDepth 100000
set_option maxRecDepth 100000
set_option maxRecDepth 100000
open Go.RowKit Go.Sort

end Go.Proofs.YtllkimdlmnjoiaaGreatDoor
namespace Go.Proofs.YtllkimdlmnjoiaaGreatDoor
set_option maxRecDepth 100000
set_option maxRecDepth 100000
set_option maxRecDepth 100000
set_option maxRecDepth 100000
open Go.RowKit Go.Sort

end Go.Proofs.YtllkimdlmnjoiaaGreatDoor

namespace Go.Proofs.YtllkimdlmnjoiaaGreatDoor
set_option maxRecDepth 100000
set_option maxRecDepth 100000
set_option maxRecDepth 100000
set_option maxRecDepth 100000
open Go.RowKit

end Go.Proofs.YtllkimdlmnjoiaaGreatDoor
namespace Go.Proofs.YtllkimdlmnjoiaaGreatDoor
set_option maxRecDepth 100000
set_option maxRecDepth 100000
set_option maxRecDepth 100000
set_option maxRecDepth 100000
open Go.RowKit

theorem digL_num (n : Int) : ∀ c ∈ digL n, numB c = true := by
  intro c hc
  unfold digL at hc
  rw [List.mem_append] at hc
  rcases hc with hc | hc
  · split at hc
    · simp at hc; subst hc; decide
    · simp at hc
  · obtain ⟨z, hz, rfl⟩ := List.mem_map.1 hc
    have := lowsAll_dig n.natAbs z (by simpa using hz)
    unfold numB digB
    rw [Bool.or_eq_true]
    right
    rw [decide_eq_true_iff]
    simp; omega
theorem digL_ne (n : Int) : digL n ≠ [] := by
  unfold digL
  intro h
  rw [List.append_eq_nil_iff] at h
  have := h.2
  simp [lowsAll] at this
/-- What may stand behind a value. -/
def sep (q : Bs) : Prop := numB (q.headD 0) = false
theorem str_eta (s : ByteArray) : (⟨s.toList.toArray⟩ : ByteArray) = s := by
  apply ByteArray.ext
  rw [ByteArray.toList_eq]
/-- All numbers are a machine's. -/
def intsOk : Nat → V → Prop
  | 0, _ => True
  | r + 1, t => fitsB t.n = true ∧ (∀ x ∈ t.l, intsOk r x) ∧ (∀ x ∈ t.m, intsOk r x)
theorem ints_of_rd {w : World} {lo B : Nat} : ∀ (d r : Nat) (t : V) (A : Option Addr) (c : Nat) (A' : Option Addr) (c' : Nat), Rd w lo B d t A c A' c' → intsOk r t
  | _, 0, _, _, _, _, _, _ => trivial
  | 0, r + 1, _, _, _, _, _, h => h.elim
  | d + 1, r + 1, t, A, c, A', c', h => by
    have row : ∀ (A : Option Addr) (c : Nat) (l : List V), Rw w lo B d A c l → ∀ x ∈ l, intsOk r x := fun A c l hr x hx => by
      obtain ⟨j, hj⟩ := List.getElem?_of_mem hx
      obtain ⟨_, _, t', A1, c1, A2, c2, _, _, _, ht, _, rt⟩ := hr.elem (k := j) (List.getElem?_eq_some_iff.1 hj).1
      rw [hj] at ht
      injection ht with ht
      subst ht
      exact ints_of_rd d r _ _ _ _ _ rt
    exact ⟨by rw [fits_iff]; exact ⟨h.1.n0, h.1.n1⟩, row _ _ _ h.2.1, row _ _ _ h.2.2⟩

end Go.Proofs.YtllkimdlmnjoiaaGreatDoor

namespace Go.Proofs.YtllkimdlmnjoiaaGreatDoor
set_option maxRecDepth 100000
set_option maxRecDepth 100000
set_option maxRecDepth 100000
set_option maxRecDepth 100000
open Go.RowKit

end Go.Proofs.YtllkimdlmnjoiaaGreatDoor

namespace Go.Proofs.YtllkimdlmnjoiaaGreatDoor
set_option maxRecDepth 100000
set_option maxRecDepth 100000
set_option maxRecDepth 100000
set_option maxRecDepth 100000
open Go.RowKit Go.Sort

/-- Two values that may be and are not told apart are one. -/
theorem cmpI_zero {a b : Int} (h : cmpI a b = 0) : a = b := by
  unfold cmpI at h
  split at h
  · cases h
  · split at h
    · cases h
    · omega
theorem cmpS_zero {a b : ByteArray} (h : cmpS a b = 0) : a = b := by
  have := (same_iff _ _).1 h
  rw [ByteArray.toList_eq, ByteArray.toList_eq] at this
  apply ByteArray.ext
  exact Array.toList_inj.1 this
theorem orI_both {x y : Int} (h : orI x y = 0) : x = 0 ∧ y = 0 := by
  unfold orI at h
  split at h
  · rename_i h0; exact ⟨h0, h⟩
  · rename_i h0; exact absurd h h0
theorem rowC_zero {f : V → V → Int} : ∀ (l l' : List V), (∀ x ∈ l, ∀ y ∈ l', f x y = 0 → x = y) → rowC f l l' = 0 → l = l'
  | [], [], _, _ => rfl
  | [], _ :: _, _, h => by simp [rowC] at h
  | _ :: _, [], _, h => by simp [rowC] at h
  | x :: l, y :: l', hf, h => by
    have h' : orI (f x y) (rowC f l l') = 0 := h
    obtain ⟨h1, h2⟩ := orI_both h'
    rw [hf x (by simp) y (by simp) h1, rowC_zero l l' (fun a ha b hb => hf a (by simp [ha]) b (by simp [hb])) h2]
end Go.Proofs.YtllkimdlmnjoiaaGreatDoor

namespace Go.Proofs.YtllkimdlmnjoiaaGreatDoor
set_option maxRecDepth 100000
set_option maxRecDepth 100000
set_option maxRecDepth 100000
set_option maxRecDepth 100000
open Go.RowKit Go.Sort

theorem str_same {a b : ByteArray} (h : a.toList = b.toList) : a = b := by rw [← str_eta a, ← str_eta b, h]
end Go.Proofs.YtllkimdlmnjoiaaGreatDoor




