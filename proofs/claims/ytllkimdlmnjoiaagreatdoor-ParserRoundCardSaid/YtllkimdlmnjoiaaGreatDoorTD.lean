/- Carried over from an earlier seat. -/
import Derived.Test.YtllkimdlmnjoiaaGreatDoorTC
import Derived.Test.YtllkimdlmnjoiaaGreatDoorPK
import Derived.Test.YtllkimdlmnjoiaaGreatDoorKK
namespace Go.Proofs.YtllkimdlmnjoiaaGreatDoor
set_option maxRecDepth 100000
set_option maxRecDepth 100000
set_option maxRecDepth 100000
open Go.RowKit Go.Sort

/-- The table of names, as it lies. -/
def NM (w : World) : Prop := ∀ i s, namesL[i]? = some s → w.cell? ⟨0, i, none⟩ = some (.string s)
theorem NM.lt {w : World} (h : NM w) : 0 < w.heap.size := World.block_lt_of_cell? w ⟨0, 0, none⟩ (h 0 _ rfl)
theorem NM.next {w w' : World} (h : NM w) (hb : Below w.heap.size w w') : NM w' := fun i s hi => (hb.cell (p := ⟨0, i, none⟩) h.lt).trans (h i s hi)
theorem NM.kept {w w' : World} (h : NM w) (hk : w'.heap[0]? = w.heap[0]?) : NM w' := fun i s hi => (World.cell?_of_block (w := w) (w' := w') (a := ⟨0, i, none⟩) hk).trans (h i s hi)
theorem any_snoc {α : Type} (p : α → Bool) (l : List α) (k : Nat) {x : α} (hx : l[k]? = some x) : (l.take (k + 1)).any p = ((l.take k).any p || p x) := by
  rw [take_snoc l k hx, List.any_append]; simp
theorem taken_next (s : ByteArray) (k : Nat) (_b : Bool) (h : (namesB.take k).any (fun n => s.toList == n) = false) {n : Bs} (hn : namesB[k]? = some n) (hb : (s.toList == n) = false) : (namesB.take (k + 1)).any (fun n => s.toList == n) = false := by
  rw [any_snoc _ _ _ hn, h, hb]; rfl
theorem taken_here (s : ByteArray) {k : Nat} {n : Bs} (hn : namesB[k]? = some n) (hb : (s.toList == n) = true) : takenB s = true := by
  have : namesB.any (fun n => s.toList == n) = true := List.any_eq_true.2 ⟨n, List.mem_of_getElem? hn, hb⟩
  unfold takenB
  rw [this]; rfl
theorem taken_last (s : ByteArray) (h : (namesB.take 15).any (fun n => s.toList == n) = false) : takenB s = (s.toList == [116, 114, 117, 101] || s.toList == [102, 97, 108, 115, 101] || s.toList == [95, 95]) := by
  have : namesB.any (fun n => s.toList == n) = false := h
  unfold takenB
  rw [this, Bool.false_or]

set_option maxHeartbeats 3200000 in
theorem taken_any (s : ByteArray) (w : World) (hm : NM w) : Calls Tryz.prog 106 #[.string s] w fun e w' => e = .returned (.bool (takenB s)) ∧ w = w' := by
  have n0 := hm 0 _ rfl
  have n1 := hm 1 _ rfl
  have n2 := hm 2 _ rfl
  have n3 := hm 3 _ rfl
  have n4 := hm 4 _ rfl
  have n5 := hm 5 _ rfl
  have n6 := hm 6 _ rfl
  have n7 := hm 7 _ rfl
  have n8 := hm 8 _ rfl
  have n9 := hm 9 _ rfl
  have n10 := hm 10 _ rfl
  have n11 := hm 11 _ rfl
  have n12 := hm 12 _ rfl
  have n13 := hm 13 _ rfl
  have n14 := hm 14 _ rfl
  go_enter Tryz.func106, Tryz.ntmps106
  go_wp2
  clear n0 n1 n2 n3 n4 n5 n6 n7 n8 n9 n10 n11 n12 n13 n14
  go_loopw [6] (fun i wr => ∃ k : Nat, k ≤ 15 ∧ i = .int .i64 k ∧ wr = w ∧ Hid ((namesB.take k).any (fun n => s.toList == n) = false)) (fun i _ => 15 - (intOf i).toNat)
  case atStart => exact ⟨0, by omega, rfl, rfl, Lib.hid rfl⟩
  case round =>
    obtain ⟨k, hk, rfl, rfl, hA⟩ := hrel
    obtain rfl | rfl | rfl | rfl | rfl | rfl | rfl | rfl | rfl | rfl | rfl | rfl | rfl | rfl | rfl | rfl : k = 0 ∨ k = 1 ∨ k = 2 ∨ k = 3 ∨ k = 4 ∨ k = 5 ∨ k = 6 ∨ k = 7 ∨ k = 8 ∨ k = 9 ∨ k = 10 ∨ k = 11 ∨ k = 12 ∨ k = 13 ∨ k = 14 ∨ k = 15 := by omega
    · have ix : ∀ W : World, (Instr.index 138 (.agg #[.string ⟨#[]⟩, .string ⟨#[101, 113]⟩, .string ⟨#[110, 101, 113]⟩, .string ⟨#[108, 116]⟩, .string ⟨#[108, 116, 101]⟩, .string ⟨#[103, 116]⟩, .string ⟨#[103, 116, 101]⟩, .string ⟨#[98, 101, 116, 119, 101, 101, 110]⟩, .string ⟨#[105, 110, 115, 105, 100, 101]⟩, .string ⟨#[111, 117, 116, 115, 105, 100, 101]⟩, .string ⟨#[119, 105, 116, 104, 105, 110]⟩, .string ⟨#[119, 105, 116, 104, 111, 117, 116]⟩, .string ⟨#[110, 111, 116]⟩, .string ⟨#[97, 110, 100]⟩, .string ⟨#[111, 114]⟩]) (.int .i64 0)).run Tryz.prog W = .ok (.string ⟨#[]⟩) W := fun _ => by kernel_rfl
      cases hb : (s.toList.isEmpty)
      · have NX := Lib.hid (taken_next s 0 true hA.out (n := []) rfl (by rw [← hb]; cases s.toList <;> rfl))
        go_wp2
        go_roundw
        case rel => exact ⟨1, by omega, by go_num, trivial, NX⟩
        case measure => simp [intOf]
      · have FIN := Lib.hid (taken_here s (k := 0) (n := []) rfl (by rw [← hb]; cases s.toList <;> rfl))
        go_wp2
        go_ret
        exact ⟨by rw [FIN.out]; rfl, rfl⟩
    · have ix : ∀ W : World, (Instr.index 138 (.agg #[.string ⟨#[]⟩, .string ⟨#[101, 113]⟩, .string ⟨#[110, 101, 113]⟩, .string ⟨#[108, 116]⟩, .string ⟨#[108, 116, 101]⟩, .string ⟨#[103, 116]⟩, .string ⟨#[103, 116, 101]⟩, .string ⟨#[98, 101, 116, 119, 101, 101, 110]⟩, .string ⟨#[105, 110, 115, 105, 100, 101]⟩, .string ⟨#[111, 117, 116, 115, 105, 100, 101]⟩, .string ⟨#[119, 105, 116, 104, 105, 110]⟩, .string ⟨#[119, 105, 116, 104, 111, 117, 116]⟩, .string ⟨#[110, 111, 116]⟩, .string ⟨#[97, 110, 100]⟩, .string ⟨#[111, 114]⟩]) (.int .i64 1)).run Tryz.prog W = .ok (.string ⟨#[101, 113]⟩) W := fun _ => by kernel_rfl
      cases hb : (s.toList == [101, 113])
      · have NX := Lib.hid (taken_next s 1 true hA.out (n := [101, 113]) rfl (by exact hb))
        go_wp2
        go_roundw
        case rel => exact ⟨2, by omega, by go_num, trivial, NX⟩
        case measure => simp [intOf]
      · have FIN := Lib.hid (taken_here s (k := 1) (n := [101, 113]) rfl (by exact hb))
        go_wp2
        go_ret
        exact ⟨by rw [FIN.out]; rfl, rfl⟩
    · have ix : ∀ W : World, (Instr.index 138 (.agg #[.string ⟨#[]⟩, .string ⟨#[101, 113]⟩, .string ⟨#[110, 101, 113]⟩, .string ⟨#[108, 116]⟩, .string ⟨#[108, 116, 101]⟩, .string ⟨#[103, 116]⟩, .string ⟨#[103, 116, 101]⟩, .string ⟨#[98, 101, 116, 119, 101, 101, 110]⟩, .string ⟨#[105, 110, 115, 105, 100, 101]⟩, .string ⟨#[111, 117, 116, 115, 105, 100, 101]⟩, .string ⟨#[119, 105, 116, 104, 105, 110]⟩, .string ⟨#[119, 105, 116, 104, 111, 117, 116]⟩, .string ⟨#[110, 111, 116]⟩, .string ⟨#[97, 110, 100]⟩, .string ⟨#[111, 114]⟩]) (.int .i64 2)).run Tryz.prog W = .ok (.string ⟨#[110, 101, 113]⟩) W := fun _ => by kernel_rfl
      cases hb : (s.toList == [110, 101, 113])
      · have NX := Lib.hid (taken_next s 2 true hA.out (n := [110, 101, 113]) rfl (by exact hb))
        go_wp2
        go_roundw
        case rel => exact ⟨3, by omega, by go_num, trivial, NX⟩
        case measure => simp [intOf]
      · have FIN := Lib.hid (taken_here s (k := 2) (n := [110, 101, 113]) rfl (by exact hb))
        go_wp2
        go_ret
        exact ⟨by rw [FIN.out]; rfl, rfl⟩
    · have ix : ∀ W : World, (Instr.index 138 (.agg #[.string ⟨#[]⟩, .string ⟨#[101, 113]⟩, .string ⟨#[110, 101, 113]⟩, .string ⟨#[108, 116]⟩, .string ⟨#[108, 116, 101]⟩, .string ⟨#[103, 116]⟩, .string ⟨#[103, 116, 101]⟩, .string ⟨#[98, 101, 116, 119, 101, 101, 110]⟩, .string ⟨#[105, 110, 115, 105, 100, 101]⟩, .string ⟨#[111, 117, 116, 115, 105, 100, 101]⟩, .string ⟨#[119, 105, 116, 104, 105, 110]⟩, .string ⟨#[119, 105, 116, 104, 111, 117, 116]⟩, .string ⟨#[110, 111, 116]⟩, .string ⟨#[97, 110, 100]⟩, .string ⟨#[111, 114]⟩]) (.int .i64 3)).run Tryz.prog W = .ok (.string ⟨#[108, 116]⟩) W := fun _ => by kernel_rfl
      cases hb : (s.toList == [108, 116])
      · have NX := Lib.hid (taken_next s 3 true hA.out (n := [108, 116]) rfl (by exact hb))
        go_wp2
        go_roundw
        case rel => exact ⟨4, by omega, by go_num, trivial, NX⟩
        case measure => simp [intOf]
      · have FIN := Lib.hid (taken_here s (k := 3) (n := [108, 116]) rfl (by exact hb))
        go_wp2
        go_ret
        exact ⟨by rw [FIN.out]; rfl, rfl⟩
    · have ix : ∀ W : World, (Instr.index 138 (.agg #[.string ⟨#[]⟩, .string ⟨#[101, 113]⟩, .string ⟨#[110, 101, 113]⟩, .string ⟨#[108, 116]⟩, .string ⟨#[108, 116, 101]⟩, .string ⟨#[103, 116]⟩, .string ⟨#[103, 116, 101]⟩, .string ⟨#[98, 101, 116, 119, 101, 101, 110]⟩, .string ⟨#[105, 110, 115, 105, 100, 101]⟩, .string ⟨#[111, 117, 116, 115, 105, 100, 101]⟩, .string ⟨#[119, 105, 116, 104, 105, 110]⟩, .string ⟨#[119, 105, 116, 104, 111, 117, 116]⟩, .string ⟨#[110, 111, 116]⟩, .string ⟨#[97, 110, 100]⟩, .string ⟨#[111, 114]⟩]) (.int .i64 4)).run Tryz.prog W = .ok (.string ⟨#[108, 116, 101]⟩) W := fun _ => by kernel_rfl
      cases hb : (s.toList == [108, 116, 101])
      · have NX := Lib.hid (taken_next s 4 true hA.out (n := [108, 116, 101]) rfl (by exact hb))
        go_wp2
        go_roundw
        case rel => exact ⟨5, by omega, by go_num, trivial, NX⟩
        case measure => simp [intOf]
      · have FIN := Lib.hid (taken_here s (k := 4) (n := [108, 116, 101]) rfl (by exact hb))
        go_wp2
        go_ret
        exact ⟨by rw [FIN.out]; rfl, rfl⟩
    · have ix : ∀ W : World, (Instr.index 138 (.agg #[.string ⟨#[]⟩, .string ⟨#[101, 113]⟩, .string ⟨#[110, 101, 113]⟩, .string ⟨#[108, 116]⟩, .string ⟨#[108, 116, 101]⟩, .string ⟨#[103, 116]⟩, .string ⟨#[103, 116, 101]⟩, .string ⟨#[98, 101, 116, 119, 101, 101, 110]⟩, .string ⟨#[105, 110, 115, 105, 100, 101]⟩, .string ⟨#[111, 117, 116, 115, 105, 100, 101]⟩, .string ⟨#[119, 105, 116, 104, 105, 110]⟩, .string ⟨#[119, 105, 116, 104, 111, 117, 116]⟩, .string ⟨#[110, 111, 116]⟩, .string ⟨#[97, 110, 100]⟩, .string ⟨#[111, 114]⟩]) (.int .i64 5)).run Tryz.prog W = .ok (.string ⟨#[103, 116]⟩) W := fun _ => by kernel_rfl
      cases hb : (s.toList == [103, 116])
      · have NX := Lib.hid (taken_next s 5 true hA.out (n := [103, 116]) rfl (by exact hb))
        go_wp2
        go_roundw
        case rel => exact ⟨6, by omega, by go_num, trivial, NX⟩
        case measure => simp [intOf]
      · have FIN := Lib.hid (taken_here s (k := 5) (n := [103, 116]) rfl (by exact hb))
        go_wp2
        go_ret
        exact ⟨by rw [FIN.out]; rfl, rfl⟩
    · have ix : ∀ W : World, (Instr.index 138 (.agg #[.string ⟨#[]⟩, .string ⟨#[101, 113]⟩, .string ⟨#[110, 101, 113]⟩, .string ⟨#[108, 116]⟩, .string ⟨#[108, 116, 101]⟩, .string ⟨#[103, 116]⟩, .string ⟨#[103, 116, 101]⟩, .string ⟨#[98, 101, 116, 119, 101, 101, 110]⟩, .string ⟨#[105, 110, 115, 105, 100, 101]⟩, .string ⟨#[111, 117, 116, 115, 105, 100, 101]⟩, .string ⟨#[119, 105, 116, 104, 105, 110]⟩, .string ⟨#[119, 105, 116, 104, 111, 117, 116]⟩, .string ⟨#[110, 111, 116]⟩, .string ⟨#[97, 110, 100]⟩, .string ⟨#[111, 114]⟩]) (.int .i64 6)).run Tryz.prog W = .ok (.string ⟨#[103, 116, 101]⟩) W := fun _ => by kernel_rfl
      cases hb : (s.toList == [103, 116, 101])
      · have NX := Lib.hid (taken_next s 6 true hA.out (n := [103, 116, 101]) rfl (by exact hb))
        go_wp2
        go_roundw
        case rel => exact ⟨7, by omega, by go_num, trivial, NX⟩
        case measure => simp [intOf]
      · have FIN := Lib.hid (taken_here s (k := 6) (n := [103, 116, 101]) rfl (by exact hb))
        go_wp2
        go_ret
        exact ⟨by rw [FIN.out]; rfl, rfl⟩
    · have ix : ∀ W : World, (Instr.index 138 (.agg #[.string ⟨#[]⟩, .string ⟨#[101, 113]⟩, .string ⟨#[110, 101, 113]⟩, .string ⟨#[108, 116]⟩, .string ⟨#[108, 116, 101]⟩, .string ⟨#[103, 116]⟩, .string ⟨#[103, 116, 101]⟩, .string ⟨#[98, 101, 116, 119, 101, 101, 110]⟩, .string ⟨#[105, 110, 115, 105, 100, 101]⟩, .string ⟨#[111, 117, 116, 115, 105, 100, 101]⟩, .string ⟨#[119, 105, 116, 104, 105, 110]⟩, .string ⟨#[119, 105, 116, 104, 111, 117, 116]⟩, .string ⟨#[110, 111, 116]⟩, .string ⟨#[97, 110, 100]⟩, .string ⟨#[111, 114]⟩]) (.int .i64 7)).run Tryz.prog W = .ok (.string ⟨#[98, 101, 116, 119, 101, 101, 110]⟩) W := fun _ => by kernel_rfl
      cases hb : (s.toList == [98, 101, 116, 119, 101, 101, 110])
      · have NX := Lib.hid (taken_next s 7 true hA.out (n := [98, 101, 116, 119, 101, 101, 110]) rfl (by exact hb))
        go_wp2
        go_roundw
        case rel => exact ⟨8, by omega, by go_num, trivial, NX⟩
        case measure => simp [intOf]
      · have FIN := Lib.hid (taken_here s (k := 7) (n := [98, 101, 116, 119, 101, 101, 110]) rfl (by exact hb))
        go_wp2
        go_ret
        exact ⟨by rw [FIN.out]; rfl, rfl⟩
    · have ix : ∀ W : World, (Instr.index 138 (.agg #[.string ⟨#[]⟩, .string ⟨#[101, 113]⟩, .string ⟨#[110, 101, 113]⟩, .string ⟨#[108, 116]⟩, .string ⟨#[108, 116, 101]⟩, .string ⟨#[103, 116]⟩, .string ⟨#[103, 116, 101]⟩, .string ⟨#[98, 101, 116, 119, 101, 101, 110]⟩, .string ⟨#[105, 110, 115, 105, 100, 101]⟩, .string ⟨#[111, 117, 116, 115, 105, 100, 101]⟩, .string ⟨#[119, 105, 116, 104, 105, 110]⟩, .string ⟨#[119, 105, 116, 104, 111, 117, 116]⟩, .string ⟨#[110, 111, 116]⟩, .string ⟨#[97, 110, 100]⟩, .string ⟨#[111, 114]⟩]) (.int .i64 8)).run Tryz.prog W = .ok (.string ⟨#[105, 110, 115, 105, 100, 101]⟩) W := fun _ => by kernel_rfl
      cases hb : (s.toList == [105, 110, 115, 105, 100, 101])
      · have NX := Lib.hid (taken_next s 8 true hA.out (n := [105, 110, 115, 105, 100, 101]) rfl (by exact hb))
        go_wp2
        go_roundw
        case rel => exact ⟨9, by omega, by go_num, trivial, NX⟩
        case measure => simp [intOf]
      · have FIN := Lib.hid (taken_here s (k := 8) (n := [105, 110, 115, 105, 100, 101]) rfl (by exact hb))
        go_wp2
        go_ret
        exact ⟨by rw [FIN.out]; rfl, rfl⟩
    · have ix : ∀ W : World, (Instr.index 138 (.agg #[.string ⟨#[]⟩, .string ⟨#[101, 113]⟩, .string ⟨#[110, 101, 113]⟩, .string ⟨#[108, 116]⟩, .string ⟨#[108, 116, 101]⟩, .string ⟨#[103, 116]⟩, .string ⟨#[103, 116, 101]⟩, .string ⟨#[98, 101, 116, 119, 101, 101, 110]⟩, .string ⟨#[105, 110, 115, 105, 100, 101]⟩, .string ⟨#[111, 117, 116, 115, 105, 100, 101]⟩, .string ⟨#[119, 105, 116, 104, 105, 110]⟩, .string ⟨#[119, 105, 116, 104, 111, 117, 116]⟩, .string ⟨#[110, 111, 116]⟩, .string ⟨#[97, 110, 100]⟩, .string ⟨#[111, 114]⟩]) (.int .i64 9)).run Tryz.prog W = .ok (.string ⟨#[111, 117, 116, 115, 105, 100, 101]⟩) W := fun _ => by kernel_rfl
      cases hb : (s.toList == [111, 117, 116, 115, 105, 100, 101])
      · have NX := Lib.hid (taken_next s 9 true hA.out (n := [111, 117, 116, 115, 105, 100, 101]) rfl (by exact hb))
        go_wp2
        go_roundw
        case rel => exact ⟨10, by omega, by go_num, trivial, NX⟩
        case measure => simp [intOf]
      · have FIN := Lib.hid (taken_here s (k := 9) (n := [111, 117, 116, 115, 105, 100, 101]) rfl (by exact hb))
        go_wp2
        go_ret
        exact ⟨by rw [FIN.out]; rfl, rfl⟩
    · have ix : ∀ W : World, (Instr.index 138 (.agg #[.string ⟨#[]⟩, .string ⟨#[101, 113]⟩, .string ⟨#[110, 101, 113]⟩, .string ⟨#[108, 116]⟩, .string ⟨#[108, 116, 101]⟩, .string ⟨#[103, 116]⟩, .string ⟨#[103, 116, 101]⟩, .string ⟨#[98, 101, 116, 119, 101, 101, 110]⟩, .string ⟨#[105, 110, 115, 105, 100, 101]⟩, .string ⟨#[111, 117, 116, 115, 105, 100, 101]⟩, .string ⟨#[119, 105, 116, 104, 105, 110]⟩, .string ⟨#[119, 105, 116, 104, 111, 117, 116]⟩, .string ⟨#[110, 111, 116]⟩, .string ⟨#[97, 110, 100]⟩, .string ⟨#[111, 114]⟩]) (.int .i64 10)).run Tryz.prog W = .ok (.string ⟨#[119, 105, 116, 104, 105, 110]⟩) W := fun _ => by kernel_rfl
      cases hb : (s.toList == [119, 105, 116, 104, 105, 110])
      · have NX := Lib.hid (taken_next s 10 true hA.out (n := [119, 105, 116, 104, 105, 110]) rfl (by exact hb))
        go_wp2
        go_roundw
        case rel => exact ⟨11, by omega, by go_num, trivial, NX⟩
        case measure => simp [intOf]
      · have FIN := Lib.hid (taken_here s (k := 10) (n := [119, 105, 116, 104, 105, 110]) rfl (by exact hb))
        go_wp2
        go_ret
        exact ⟨by rw [FIN.out]; rfl, rfl⟩
    · have ix : ∀ W : World, (Instr.index 138 (.agg #[.string ⟨#[]⟩, .string ⟨#[101, 113]⟩, .string ⟨#[110, 101, 113]⟩, .string ⟨#[108, 116]⟩, .string ⟨#[108, 116, 101]⟩, .string ⟨#[103, 116]⟩, .string ⟨#[103, 116, 101]⟩, .string ⟨#[98, 101, 116, 119, 101, 101, 110]⟩, .string ⟨#[105, 110, 115, 105, 100, 101]⟩, .string ⟨#[111, 117, 116, 115, 105, 100, 101]⟩, .string ⟨#[119, 105, 116, 104, 105, 110]⟩, .string ⟨#[119, 105, 116, 104, 111, 117, 116]⟩, .string ⟨#[110, 111, 116]⟩, .string ⟨#[97, 110, 100]⟩, .string ⟨#[111, 114]⟩]) (.int .i64 11)).run Tryz.prog W = .ok (.string ⟨#[119, 105, 116, 104, 111, 117, 116]⟩) W := fun _ => by kernel_rfl
      cases hb : (s.toList == [119, 105, 116, 104, 111, 117, 116])
      · have NX := Lib.hid (taken_next s 11 true hA.out (n := [119, 105, 116, 104, 111, 117, 116]) rfl (by exact hb))
        go_wp2
        go_roundw
        case rel => exact ⟨12, by omega, by go_num, trivial, NX⟩
        case measure => simp [intOf]
      · have FIN := Lib.hid (taken_here s (k := 11) (n := [119, 105, 116, 104, 111, 117, 116]) rfl (by exact hb))
        go_wp2
        go_ret
        exact ⟨by rw [FIN.out]; rfl, rfl⟩
    · have ix : ∀ W : World, (Instr.index 138 (.agg #[.string ⟨#[]⟩, .string ⟨#[101, 113]⟩, .string ⟨#[110, 101, 113]⟩, .string ⟨#[108, 116]⟩, .string ⟨#[108, 116, 101]⟩, .string ⟨#[103, 116]⟩, .string ⟨#[103, 116, 101]⟩, .string ⟨#[98, 101, 116, 119, 101, 101, 110]⟩, .string ⟨#[105, 110, 115, 105, 100, 101]⟩, .string ⟨#[111, 117, 116, 115, 105, 100, 101]⟩, .string ⟨#[119, 105, 116, 104, 105, 110]⟩, .string ⟨#[119, 105, 116, 104, 111, 117, 116]⟩, .string ⟨#[110, 111, 116]⟩, .string ⟨#[97, 110, 100]⟩, .string ⟨#[111, 114]⟩]) (.int .i64 12)).run Tryz.prog W = .ok (.string ⟨#[110, 111, 116]⟩) W := fun _ => by kernel_rfl
      cases hb : (s.toList == [110, 111, 116])
      · have NX := Lib.hid (taken_next s 12 true hA.out (n := [110, 111, 116]) rfl (by exact hb))
        go_wp2
        go_roundw
        case rel => exact ⟨13, by omega, by go_num, trivial, NX⟩
        case measure => simp [intOf]
      · have FIN := Lib.hid (taken_here s (k := 12) (n := [110, 111, 116]) rfl (by exact hb))
        go_wp2
        go_ret
        exact ⟨by rw [FIN.out]; rfl, rfl⟩
    · have ix : ∀ W : World, (Instr.index 138 (.agg #[.string ⟨#[]⟩, .string ⟨#[101, 113]⟩, .string ⟨#[110, 101, 113]⟩, .string ⟨#[108, 116]⟩, .string ⟨#[108, 116, 101]⟩, .string ⟨#[103, 116]⟩, .string ⟨#[103, 116, 101]⟩, .string ⟨#[98, 101, 116, 119, 101, 101, 110]⟩, .string ⟨#[105, 110, 115, 105, 100, 101]⟩, .string ⟨#[111, 117, 116, 115, 105, 100, 101]⟩, .string ⟨#[119, 105, 116, 104, 105, 110]⟩, .string ⟨#[119, 105, 116, 104, 111, 117, 116]⟩, .string ⟨#[110, 111, 116]⟩, .string ⟨#[97, 110, 100]⟩, .string ⟨#[111, 114]⟩]) (.int .i64 13)).run Tryz.prog W = .ok (.string ⟨#[97, 110, 100]⟩) W := fun _ => by kernel_rfl
      cases hb : (s.toList == [97, 110, 100])
      · have NX := Lib.hid (taken_next s 13 true hA.out (n := [97, 110, 100]) rfl (by exact hb))
        go_wp2
        go_roundw
        case rel => exact ⟨14, by omega, by go_num, trivial, NX⟩
        case measure => simp [intOf]
      · have FIN := Lib.hid (taken_here s (k := 13) (n := [97, 110, 100]) rfl (by exact hb))
        go_wp2
        go_ret
        exact ⟨by rw [FIN.out]; rfl, rfl⟩
    · have ix : ∀ W : World, (Instr.index 138 (.agg #[.string ⟨#[]⟩, .string ⟨#[101, 113]⟩, .string ⟨#[110, 101, 113]⟩, .string ⟨#[108, 116]⟩, .string ⟨#[108, 116, 101]⟩, .string ⟨#[103, 116]⟩, .string ⟨#[103, 116, 101]⟩, .string ⟨#[98, 101, 116, 119, 101, 101, 110]⟩, .string ⟨#[105, 110, 115, 105, 100, 101]⟩, .string ⟨#[111, 117, 116, 115, 105, 100, 101]⟩, .string ⟨#[119, 105, 116, 104, 105, 110]⟩, .string ⟨#[119, 105, 116, 104, 111, 117, 116]⟩, .string ⟨#[110, 111, 116]⟩, .string ⟨#[97, 110, 100]⟩, .string ⟨#[111, 114]⟩]) (.int .i64 14)).run Tryz.prog W = .ok (.string ⟨#[111, 114]⟩) W := fun _ => by kernel_rfl
      cases hb : (s.toList == [111, 114])
      · have NX := Lib.hid (taken_next s 14 true hA.out (n := [111, 114]) rfl (by exact hb))
        go_wp2
        go_roundw
        case rel => exact ⟨15, by omega, by go_num, trivial, NX⟩
        case measure => simp [intOf]
      · have FIN := Lib.hid (taken_here s (k := 14) (n := [111, 114]) rfl (by exact hb))
        go_wp2
        go_ret
        exact ⟨by rw [FIN.out]; rfl, rfl⟩
    · have FIN := Lib.hid (taken_last s hA.out)
      cases h1 : (s.toList == [116, 114, 117, 101]) <;> cases h2 : (s.toList == [102, 97, 108, 115, 101]) <;> cases h3 : (s.toList == [95, 95])
      all_goals
        rw [h1, h2, h3] at FIN
        go_wp2
        go_ret
        exact ⟨by rw [FIN.out]; rfl, rfl⟩

set_option maxHeartbeats 1600000 in
theorem wtext_any (s : ByteArray) (w : World) (hs : s.size ≤ 140737488355328) : Calls Tryz.prog 125 #[.string s] w fun e w' => e = .returned (.bool (s.toList.all (fun c => decide (32 ≤ c.toNat)))) ∧ w = w' := by
  obtain ⟨ans, hans⟩ : ∃ b, b = s.toList.all (fun c => decide (32 ≤ c.toNat)) := ⟨_, rfl⟩
  rw [← hans]
  have ANS := Lib.hid hans
  clear hans
  have hs' : (s.size : Int) ≤ 140737488355328 := by omega
  go_enter Tryz.func125, Tryz.ntmps125
  go_wp2
  go_loopw [6] (fun i wr => ∃ k : Nat, k ≤ s.size ∧ i = .int .i64 k ∧ wr = w ∧ Hid ((s.toList.take k).all (fun c => decide (32 ≤ c.toNat)) = true)) (fun i _ => s.size - (intOf i).toNat)
  case atStart => exact ⟨0, by omega, rfl, rfl, Lib.hid rfl⟩
  case round =>
    obtain ⟨k, hk, rfl, rfl, hA⟩ := hrel
    by_cases hlt : k < s.size
    · have hx := toList_at s k hlt
      have NX := Lib.hid (all_next (fun c : UInt8 => decide (32 ≤ c.toNat)) s.toList k hx)
      have ST := Lib.hid (all_stop (fun c : UInt8 => decide (32 ≤ c.toNat)) s.toList k hx)
      clear hx
      have k0 : (0 : Int) ≤ (k : Int) := by omega
      have k1 : (k : Int) < (s.size : Int) := by omega
      by_cases hc : (s[k]'hlt).toNat < 32
      · have FIN := Lib.hid (ST.out (by simp; omega))
        have hc' : (((s[k]'hlt).toNat : Nat) : Int) < 32 := by omega
        clear hc
        go_wp2
        go_ret
        exact ⟨by rw [ANS.out, FIN.out]; rfl, rfl⟩
      · have hc' : ¬ (((s[k]'hlt).toNat : Nat) : Int) < 32 := by omega
        have OK := Lib.hid (show decide (32 ≤ (s[k]'hlt).toNat) = true by simp; omega)
        clear hc
        go_wp2
        go_roundw
        case rel => exact ⟨k + 1, by omega, by go_num, trivial, Lib.hid (by rw [NX.out, hA.out, OK.out]; rfl)⟩
        case measure => simp [intOf]; omega
    · have FIN := Lib.hid (show ans = true by
        have h := hA.out
        rw [List.take_of_length_le (by rw [toList_size]; omega)] at h
        rw [ANS.out, h])
      go_wp2
      go_ret
      exact ⟨by rw [FIN.out]; rfl, rfl⟩
end Go.Proofs.YtllkimdlmnjoiaaGreatDoor



