/- The document's text of a number of any greatness: contract of Text. -/
import Derived.Test.YtgjimgopfpaimaaY
import Derived.Laws.BytesString
namespace Go.Proofs.Ytgjimgopfpaimaa
open Go.RowKit

def byteD (d : Int) : UInt8 := UInt8.ofNat (48 + d).toNat
/-- The digits, the highest first, as bytes. -/
def highL (ds : List Int) : List UInt8 := ds.reverse.map byteD
theorem highL_snoc (ds : List Int) (d : Int) : highL (ds ++ [d]) = byteD d :: highL ds := by simp [highL]
def textL (m : Bool) (ds : List Int) : List UInt8 := if ds = [] then [48] else (if m then [45] else []) ++ highL ds

theorem cons_bytes (c : UInt8) (bs : List UInt8) : (⟨#[c]⟩ : ByteArray) ++ ⟨bs.toArray⟩ = ⟨(c :: bs).toArray⟩ := by
  apply ByteArray.ext; simp

theorem byte_string (W : World) (d : Int) : (convert 70 9 (.slice (some ⟨W.heap.size, 0, none⟩) 1 1)).run Try.prog (W.alloc (.cells #[.int .u8 (48 + d)] 5)) = .ok (.string ⟨#[byteD d]⟩) (W.alloc (.cells #[.int .u8 (48 + d)] 5)) := by
  rw [run_convert_bytes_string _ 70 9 5 _ _ _ Try.underlying70 Try.underlying5 Try.underlying9]
  have h : (loadCells (⟨W.heap.size, 0, none⟩ : Addr) 1).run Try.prog (W.alloc (.cells #[.int .u8 (48 + d)] 5)) = .ok (([48 + d] : List Int).map (Value.int .u8)).toArray (W.alloc (.cells #[.int .u8 (48 + d)] 5)) := by
    rw [run_loadCells _ _ 1 (fun _ => .int .u8 (48 + d)) (fun j hj => by
      obtain rfl : j = 0 := by omega
      rw [show (⟨W.heap.size, 0, none⟩ : Addr).add 0 = ⟨W.heap.size, 0, none⟩ from by simp [Addr.add], World.cell?_alloc_at _ _ _ _ rfl]
      rfl)]
    rfl
  rw [run_bytesToString _ _ 1 1 [48 + d] h]
  rfl

set_option maxHeartbeats 800000 in
theorem text_core (m : Bool) (A : Option Addr) (n c : Nat) (ds : List Int) (w : World) (hI : Ints w w.heap.size A n ds) (hn : n ≤ 1000) (hd : Digs ds) :
    Calls Try.prog 36 #[.agg #[.bool m, .slice A n c]] w fun e w' => e = .returned (.string ⟨(textL m ds).toArray⟩) ∧ Below w.heap.size w w' := by
  have HI := Lib.hid hI
  have HD := Lib.hid hd
  clear hI hd
  by_cases h0 : n = 0
  · subst h0
    have HT : Hid (textL m ds = [48]) := Lib.hid (by unfold textL; rw [if_pos (List.eq_nil_of_length_eq_zero HI.out.1)])
    go_enter Try.func36, Try.ntmps36
    go_wp2
    go_ret
    exact ⟨ret_str (by rw [HT.out]), below_new _ _⟩
  · have hne : ((n : Int) == 0) = false := by rw [beq_eq_false_iff_ne]; omega
    go_enter Try.func36, Try.ntmps36
    go_wp2
    go_loopw [3, 4] (fun v i wr => ∃ (k : Nat) (bs : List UInt8), k ≤ n ∧ i = .int .i64 k ∧ v = .string ⟨bs.toArray⟩ ∧ Hid (bs = highL (ds.take k)) ∧ Hid (bs.length = k) ∧ Hid (Below (w.heap.size + 1) (w.alloc (.cells #[.bool m, .slice A n c] 46)) wr)) (fun _ i _ => n - (intOf i).toNat)
    case atStart => exact ⟨0, [], by omega, rfl, rfl, Lib.hid rfl, Lib.hid rfl, Lib.hid (Below.refl _ _)⟩
    case round =>
      obtain ⟨k, bs, hk, rfl, rfl, hv, hl, hbel⟩ := hrel
      have hz : w.heap.size < wr.heap.size := by have := hbel.out.size; simp at this; omega
      have p0 : wr.cell? ⟨w.heap.size, 0, none⟩ = some (.bool m) := cell_kept hbel.out (by show w.heap.size < _; omega) (World.cell?_alloc_at _ _ _ _ rfl)
      have p1 : wr.cell? ⟨w.heap.size, 1, none⟩ = some (.slice A n c) := cell_kept hbel.out (by show w.heap.size < _; omega) (World.cell?_alloc_at _ _ _ _ rfl)
      by_cases hT : k < n
      · obtain ⟨b, off, rfl, hb, hc⟩ := ((HI.out.below (below_new _ _) (Nat.le_refl _)).below hbel.out (by omega)).2.2.2 (by omega)
        have ck := hc k hT
        clear hc
        have d1 := digs_getD HD.out k
        have HS : Hid (byteD (ds.getD k 0) :: bs = highL (ds.take (k + 1))) := Lib.hid (by
          have hlt : k < ds.length := by have := HI.out.1; omega
          rw [List.take_succ_eq_append_getElem hlt, highL_snoc, hv.out]
          congr 1
          simp [hlt])
        generalize ds.getD k 0 = d at ck d1 HS
        have hkn : (k : Int) < (n : Int) := by omega
        have hbl : bs.length ≤ 1000 := by have := hl.out; omega
        have hcv := byte_string wr d
        have hsz : 1 + bs.length ≤ 9223372036854775807 := by omega
        go_wp2
        go_roundw
        case rel => exact ⟨k + 1, byteD d :: bs, by omega, by go_num, congrArg Value.string (cons_bytes _ _), HS, Lib.hid (by have := hl.out; simp; omega), Lib.hid (hbel.out.alloc (by omega) _)⟩
        case measure => simp [intOf]; omega
      · obtain rfl : k = n := by omega
        have HE : Hid (bs = highL ds) := Lib.hid (by rw [hv.out, List.take_of_length_le (by have := HI.out.1; omega)])
        have HNE : Hid (ds ≠ []) := Lib.hid (by intro e; have := HI.out.1; rw [e] at this; simp at this; omega)
        have hbl : bs.length ≤ 1000 := by have := hl.out; omega
        have hsz : 1 + bs.length ≤ 9223372036854775807 := by omega
        have HB : Hid (Below w.heap.size w wr) := Lib.hid ((below_new _ _).trans (hbel.out.mono (by omega)))
        cases m
        · go_wp2
          go_ret
          exact ⟨ret_str (by rw [HE.out]; simp [textL, HNE.out]), HB.out⟩
        · go_wp2
          go_ret
          exact ⟨ret_str (by rw [cons_bytes, HE.out]; simp [textL, HNE.out]), HB.out⟩

theorem text_any (K : Nat) (m : Bool) (A : Option Addr) (n c : Nat) (ds : List Int) (w : World) (hI : Ints w w.heap.size A n ds) (hn : n ≤ K) (hK : K ≤ 1000) (hd : Digs ds) :
    Calls Try.prog 36 #[.agg #[.bool m, .slice A n c]] w fun e w' => e = .returned (.string ⟨(textL m ds).toArray⟩) ∧ Below w.heap.size w w' :=
  text_core m A n c ds w hI (by omega) hd
end Go.Proofs.Ytgjimgopfpaimaa
