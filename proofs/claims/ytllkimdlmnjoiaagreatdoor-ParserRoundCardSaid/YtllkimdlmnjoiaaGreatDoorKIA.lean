/- Carried over from an earlier seat. -/
import Derived.Test.YtllkimdlmnjoiaaGreatDoorVRr
import Derived.Test.YtllkimdlmnjoiaaGreatDoorVVb
import GoSem.Op.String
import Derived.WalkKit
import Derived.WalkLawsBesides
import Derived.LoopTactic
import Derived.Lib.Hide
import Derived.Below
import Derived.StillTailTactics
import Derived.Lib.Mul64
import Derived.Laws.Bits64b
import Derived.Laws.Externs
import Derived.Deep.LoopGhost
import Derived.Lib.Walk
import Derived.Sort.WalkB12
import Derived.Lib.SlicesMore
import Derived.Lib.OwnBridge
import Derived.RegionTactic
import Derived.Laws.Cover4
import Derived.Deep.AppendLies
import Derived.OpenShut
import Derived.Laws.AppendOwnNone
import Derived.Deep.QuietTactic
import Derived.BigQuiet
namespace Go.Proofs.YtllkimdlmnjoiaaGreatDoor
set_option maxRecDepth 100000
set_option maxRecDepth 100000
set_option maxRecDepth 100000
set_option maxRecDepth 100000

end Go.Proofs.YtllkimdlmnjoiaaGreatDoor

namespace Go.Proofs.YtllkimdlmnjoiaaGreatDoor
set_option maxRecDepth 100000
set_option maxRecDepth 100000
set_option maxRecDepth 100000
set_option maxRecDepth 100000
open Go.RowKit

theorem ret_int {k : IntKind} {a b : Int} (h : a = b) : Ending.returned (.int k a) = .returned (.int k b) := by rw [h]
end Go.Proofs.YtllkimdlmnjoiaaGreatDoor

namespace Go.Proofs.YtllkimdlmnjoiaaGreatDoor
set_option maxRecDepth 100000
set_option maxRecDepth 100000
set_option maxRecDepth 100000
set_option maxRecDepth 100000
open Go.RowKit

end Go.Proofs.YtllkimdlmnjoiaaGreatDoor

namespace Go.Proofs.YtllkimdlmnjoiaaGreatDoor
set_option maxRecDepth 100000
set_option maxRecDepth 100000
set_option maxRecDepth 100000
set_option maxRecDepth 100000
open Go.RowKit

end Go.Proofs.YtllkimdlmnjoiaaGreatDoor


namespace Go.Proofs.YtllkimdlmnjoiaaGreatDoor
set_option maxRecDepth 100000
set_option maxRecDepth 100000
set_option maxRecDepth 100000
set_option maxRecDepth 100000
open Go.RowKit

set_option maxHeartbeats 400000 in
theorem sizeOf_neg (n : Int) (w : World) (h : n < 0) (h1 : -9223372036854775808 ≤ n) :
    Calls Tryz.prog 109 #[.int .i64 n] w fun e w' => e = .returned (.int .u64 (n.natAbs : Int)) ∧ w = w' := by
  go_enter Tryz.func109, Tryz.ntmps109
  go_wp2
  go_ret
  exact ⟨ret_int (by simp only [IntKind.wrap_u64]; omega), rfl⟩

set_option maxHeartbeats 400000 in
theorem sizeOf_pos (n : Int) (w : World) (h : 0 ≤ n) (h1 : n ≤ 9223372036854775807) :
    Calls Tryz.prog 109 #[.int .i64 n] w fun e w' => e = .returned (.int .u64 (n.natAbs : Int)) ∧ w = w' := by
  go_enter Tryz.func109, Tryz.ntmps109
  go_wp2
  go_ret
  exact ⟨ret_int (by omega), rfl⟩

theorem sizeOf_any (n : Int) (w : World) (h0 : -9223372036854775808 ≤ n) (h1 : n ≤ 9223372036854775807) :
    Calls Tryz.prog 109 #[.int .i64 n] w fun e w' => e = .returned (.int .u64 (n.natAbs : Int)) ∧ w = w' := by
  by_cases h : n < 0
  · exact sizeOf_neg n w h h0
  · exact sizeOf_pos n w (by omega) h1

namespace Mul64
set_option maxRecDepth 100000
set_option maxRecDepth 100000
set_option maxRecDepth 100000
end Mul64

set_option maxHeartbeats 400000 in
theorem lastDigit_any (n : Int) (w : World) (h0 : 0 ≤ n) (h1 : n ≤ 9223372036854775808) :
    Calls Tryz.prog 110 #[.int .u64 n] w fun e w' => e = .returned (.int .i32 (48 + n % 10)) ∧ w = w' := by
  go_enter Tryz.func110, Tryz.ntmps110
  go_wp2
  go_ret
  exact ⟨rfl, rfl⟩
end Go.Proofs.YtllkimdlmnjoiaaGreatDoor

namespace Go.Proofs.YtllkimdlmnjoiaaGreatDoor
set_option maxRecDepth 100000
set_option maxRecDepth 100000
set_option maxRecDepth 100000
set_option maxRecDepth 100000
open Go.RowKit

def fitsB (n : Int) : Bool := decide (-9223372036854775808 ≤ n ∧ n ≤ 9223372036854775807)
theorem fits_iff (n : Int) : fitsB n = true ↔ (-9223372036854775808 ≤ n ∧ n ≤ 9223372036854775807) := by simp [fitsB]
/-- What has room, or 0. -/
def room (n : Int) : Int := if fitsB n then n else 0

theorem room_ok {n : Int} (h : fitsB n = true) : room n = n := by simp [room, h]
end Go.Proofs.YtllkimdlmnjoiaaGreatDoor

namespace Go.Proofs.YtllkimdlmnjoiaaGreatDoor
set_option maxRecDepth 100000
set_option maxRecDepth 100000
set_option maxRecDepth 100000
set_option maxRecDepth 100000
open Go.RowKit

/-- A slice that reads as a list of ints, below block B. -/
def Ints (w : World) (B : Nat) (A : Option Addr) (n : Nat) (l : List Int) : Prop :=
  l.length = n ∧ n ≤ 140737488355328 ∧ (∀ x ∈ l, fitsB x = true) ∧ (0 < n → ∃ b off, A = some ⟨b, off, none⟩ ∧ b < B ∧ ∀ j, j < n → w.cell? ⟨b, off + j, none⟩ = some (.int .i64 (l.getD j 0)))

end Go.Proofs.YtllkimdlmnjoiaaGreatDoor

namespace Go.Proofs.YtllkimdlmnjoiaaGreatDoor
set_option maxRecDepth 100000
set_option maxRecDepth 100000
set_option maxRecDepth 100000
set_option maxRecDepth 100000
open Go.RowKit

def digB (c : UInt8) : Bool := decide (48 ≤ c.toNat ∧ c.toNat ≤ 57)
/-- The digits of a whole number that is not below 0. -/
def wholeL (l : List UInt8) : Bool := l.all digB && (l == [48] || (!l.isEmpty && l.headD 0 != 48))

end Go.Proofs.YtllkimdlmnjoiaaGreatDoor
namespace Go.Proofs.YtllkimdlmnjoiaaGreatDoor
set_option maxRecDepth 100000
set_option maxRecDepth 100000
set_option maxRecDepth 100000
set_option maxRecDepth 100000
open Go.RowKit

def valStep (n : Nat) (c : UInt8) : Nat := n * 10 + (c.toNat - 48)
/-- The number that digits tell. -/
def valL (l : List UInt8) : Nat := l.foldl valStep 0
end Go.Proofs.YtllkimdlmnjoiaaGreatDoor
namespace Go.Proofs.YtllkimdlmnjoiaaGreatDoor
set_option maxRecDepth 100000
set_option maxRecDepth 100000
set_option maxRecDepth 100000
set_option maxRecDepth 100000
open Go.RowKit

/-- It opens with a minus. -/
def minusB (l : List UInt8) : Bool := l.take 1 == [45]

/-- What Parse answers: a number and an error's number. -/
def parseN (m : Bool) (d : List UInt8) : Int := if m then -(valL d : Int) else (valL d : Int)
def digsOf (l : List UInt8) : List UInt8 := if minusB l then l.drop 1 else l
def parseArg (l : List UInt8) : Bool := !(wholeL (digsOf l)) || (minusB l && digsOf l == [48])
def parseV (l : List UInt8) : Int := if parseArg l then 0 else room (parseN (minusB l) (digsOf l))
def parseE (l : List UInt8) : Int := if parseArg l then 2 else if fitsB (parseN (minusB l) (digsOf l)) then 0 else 10

end Go.Proofs.YtllkimdlmnjoiaaGreatDoor
namespace Go.Proofs.YtllkimdlmnjoiaaGreatDoor
set_option maxRecDepth 100000
set_option maxRecDepth 100000
set_option maxRecDepth 100000
set_option maxRecDepth 100000
open Go.RowKit Go.Sort Go.Lib

set_option maxHeartbeats 1600000 in
set_option maxRecDepth 1000000 in
theorem reverse_arr (blk off cap : Nat) (d : Array Int) (w : World) (hH : Holds (Value.int .i32) w blk off d) (hsz : d.size ≤ 9223372036854775807) :
    Calls Tryz.prog 111 #[.slice (some ⟨blk, off, none⟩) d.size cap] w fun e w' => e = .returned (.tuple #[]) ∧ ∃ n, w' = putRow (Value.int .i32) (Sort.ahead w n) blk off d.reverse := by
  go_enter Tryz.func111, Tryz.ntmps111
  go_wp2
  go_loopg [2, 3] d.size (fun k s2 s3 wr => ∃ (i jn : Nat) (jz : Int) (dk : Array Int) (n : Nat), s2 = .int .i64 i ∧ s3 = .int .i64 jz ∧ ((i : Int) < jz → jz = jn ∧ jn < d.size) ∧ (¬ (i : Int) < jz → ¬ i < jn) ∧ jn - i ≤ k ∧
    dk.size = d.size ∧ wr = putRow (Value.int .i32) (Sort.ahead w n) blk off dk ∧ reverseLoop i jn dk = reverseLoop 0 (d.size - 1) d)
  case atStart => exact ⟨0, d.size - 1, (d.size : Int) - 1, d, 0, rfl, rfl, fun h => ⟨by omega, by omega⟩, fun h => by omega, by omega, rfl, (putRow_self (Value.int .i32) w blk off d hH).symm, rfl⟩
  case round =>
    obtain ⟨i, jn, jz, dk, n, rfl, rfl, h1, h2, hk, hds, hwr, heq⟩ := hrel
    by_cases hlt : (i : Int) < jz
    · obtain ⟨rfl, hjn⟩ := h1 hlt
      have hij : i < jn := by omega
      have hHk : Holds (Value.int .i32) wr blk off dk := by rw [hwr]; exact holds_putRow (Value.int .i32) _ blk off d dk (holds_ahead (Value.int .i32) w n blk off d hH) hds
      obtain ⟨ci, fi⟩ := hHk i (by omega)
      obtain ⟨cj, fj⟩ := hHk jn (by omega)
      have A : Aside (wr = putRow (Value.int .i32) (Sort.ahead w n) blk off dk) := hwr
      clear hwr hHk hH h1 h2
      go_wp2_with fail
      go_region
      go_wp2
      go_roundg (jn - 1 - (i + 1))
      case measure => omega
      case rel =>
        rw [reverseLoop, if_pos hij] at heq
        exact ⟨i + 1, jn - 1, (jn : Int) - 1, swp dk i jn, n + 1, by simp, rfl, fun h => ⟨by omega, by omega⟩, fun h => by omega, Nat.le_refl _, by rw [size_swp]; exact hds,
          swap_world (Value.int .i32) (by omega) (by omega) A.out (by first | rfl | simp [getElem!_pos, show jn < dk.size by omega]) (by first | rfl | simp [getElem!_pos, show i < dk.size by omega]), heq⟩
    · have hnot := h2 hlt
      go_wp2
      go_end0
      refine ⟨rfl, n, ?_⟩
      rw [reverseLoop, if_neg hnot] at heq
      rw [← Lib.reverseLoop_reverse, ← heq]

theorem reverse_own {base : Nat} {g n cap : Nat} {zs : List Int} (w : World) (h : w.ownsRow base 21 1 (.slice (some ⟨g, 0, none⟩) n cap) n (zs.map (Value.int .i32))) :
    Calls Tryz.prog 111 #[.slice (some ⟨g, 0, none⟩) n cap] w fun e w' => e = .returned (.tuple #[]) ∧ w'.ownsRow base 21 1 (.slice (some ⟨g, 0, none⟩) n cap) n (zs.reverse.map (Value.int .i32)) ∧ (∀ w0 B, Below B w0 w → B ≤ base → Below B w0 w') := by
  obtain ⟨g', cap', he, hb, hlt, hn, hm, hl, hH⟩ := holds_of_ownsRow h (by simp)
  injection he with e1 _ e3
  injection e1 with e1
  injection e1 with e1
  subst e1; subst e3
  have hz : zs.toArray.size = n := by simp [hl]
  have hc := reverse_arr g 0 cap zs.toArray w hH (by rw [hz]; unfold maxLen at hm; omega)
  rw [hz] at hc
  refine hc.mono ?_
  rintro e w' ⟨rfl, q, rfl⟩
  refine ⟨rfl, ?_, fun w0 B hB hle => below_putRow hB (by omega)⟩
  have := ownsRow_putRow (q := q) (k := n) (ys := zs.reverse) h (by simp [hl]) (Nat.le_refl _)
  rw [List.take_of_length_le (by simp [hl])] at this
  simpa using this
end Go.Proofs.YtllkimdlmnjoiaaGreatDoor
namespace Go.Proofs.YtllkimdlmnjoiaaGreatDoor
set_option maxRecDepth 100000
set_option maxRecDepth 100000
set_option maxRecDepth 100000
set_option maxRecDepth 100000
open Go.RowKit Go.Sort Go.Lib

/-- The digits of n that is not 0, the lowest first, as runes; none of 0. -/
def lows (n : Nat) : List Int := if h : n = 0 then [] else (48 + ((n : Int) % 10)) :: lows (n / 10)
  termination_by n
  decreasing_by omega
theorem lows_zero : lows 0 = [] := by rw [lows]; simp
theorem lows_pos (n : Nat) (h : 0 < n) : lows n = (48 + ((n : Int) % 10)) :: lows (n / 10) := by rw [lows, dif_neg (by omega)]
theorem lows_len : ∀ (k n : Nat), n < 10 ^ k → (lows n).length ≤ k
  | 0, n, h => by
    have : n = 0 := by simpa using h
    subst this; rw [lows_zero]; simp
  | k + 1, n, h => by
    by_cases h0 : n = 0
    · subst h0; rw [lows_zero]; simp
    · rw [lows_pos n (by omega)]
      have := lows_len k (n / 10) (by rw [Nat.pow_succ] at h; omega)
      simp; omega
/-- The digits of n, the lowest first, as runes. -/
def lowsAll (n : Nat) : List Int := (48 + ((n : Int) % 10)) :: lows (n / 10)
theorem lowsAll_len (n : Nat) (h : n ≤ 9223372036854775808) : (lowsAll n).length ≤ 20 := by
  have := lows_len 19 (n / 10) (by omega)
  simp [lowsAll]; omega

theorem own_one (w : World) (z : Int) : (w.alloc (.cells #[.int .i32 z] 21)).ownsRow w.heap.size 21 1 (.slice (some ⟨w.heap.size, 0, none⟩) 1 1) ([z].length) ([z].map (Value.int .i32)) :=
  ⟨by simp, .inr ⟨w.heap.size, 1, _, rfl, Nat.le_refl _, heap_alloc_new w _, by simp, by unfold maxLen; omega, by simp, by simp⟩⟩


theorem ret_str {a b : ByteArray} (h : a = b) : Ending.returned (.string a) = .returned (.string b) := by rw [h]
theorem info21 : (Tryz.prog.info? 21).map (fun i => (i.zero, i.size, i.bytes)) = some (some (.int .i32 0), 1, 4) := by kernel_rfl

set_option maxHeartbeats 1600000 in
set_option maxRecDepth 1000000 in
theorem digits_neg (n : Int) (w : World) (hf : fitsB n = true) (h : n < 0) :
    Calls Tryz.prog 78 #[.int .i64 n] w fun e w' => e = .returned (.string (⟨#[45]⟩ ++ runesBytes (lowsAll n.natAbs).reverse)) ∧ Below w.heap.size w w' := by
  have HF := Lib.hid ((fits_iff _).1 hf)
  have HB : Hid (n.natAbs ≤ 9223372036854775808) := Lib.hid (by have := HF.out; omega)
  have hb1 : (n.natAbs : Int) ≤ 9223372036854775808 := by have := HB.out; omega
  clear hf
  obtain ⟨i0, hi, hz0, hz1, hz2⟩ := info_parts info21
  go_enter Tryz.func78, Tryz.ntmps78
  go_wp2_with fail
  refine (sizeOf_any _ _ HF.out.1 HF.out.2).mono ?_
  rintro e w' ⟨rfl, rfl⟩
  go_wp2_with fail
  refine (lastDigit_any _ _ (by omega) (by have := HB.out; omega)).mono ?_
  rintro e w' ⟨rfl, rfl⟩
  go_wp2_with fail
  go_loopw [3, 4] (fun r v wr => ∃ (k : Nat) (zs : List Int), r = .int .u64 k ∧ Hid (k ≤ 9223372036854775808) ∧ Hid (wr.ownsRow w.heap.size 21 1 v zs.length (zs.map (Value.int .i32))) ∧ Hid (0 < zs.length) ∧ Hid (zs ++ lows k = lowsAll n.natAbs) ∧ Hid (Below w.heap.size w wr)) (fun r _ _ => (RowKit.intOf r).toNat)
  case atStart =>
    exact ⟨n.natAbs / 10, [48 + (n.natAbs : Int) % 10], by go_num, Lib.hid (by have := HB.out; omega), Lib.hid (own_one _ _), Lib.hid (by simp), Lib.hid (by simp [lowsAll]), Lib.hid ((Below.refl _ _).alloc (Nat.le_refl _) _)⟩
  case round =>
    obtain ⟨k, zs, rfl, hk, hown, hpos, hall, hbel⟩ := hrel
    by_cases h0 : 0 < k
    · have HL : Hid (zs.length + 1 ≤ 20) := Lib.hid (by
        have e1 := lowsAll_len n.natAbs HB.out
        rw [← hall.out, lows_pos k h0] at e1
        simp at e1; omega)
      have HN : Hid ((zs ++ [48 + (k : Int) % 10]) ++ lows (k / 10) = lowsAll n.natAbs) := Lib.hid (by rw [← hall.out, lows_pos k h0]; simp)
      clear hall
      have h0' : (0 : Int) < k := by omega
      have hk1 : (k : Int) ≤ 9223372036854775808 := by have := hk.out; omega
      go_wp2_with fail
      refine (lastDigit_any _ _ (by omega) (by have := hk.out; omega)).mono ?_
      rintro e w' ⟨rfl, rfl⟩
      generalize hz : (48 + (k : Int) % 10) = z at HN
      have HZ := Lib.hid hz
      clear hz
      go_wp2_with (at_builtin; refine wpList_append_own _ rfl _ _ 163 rfl w.heap.size 21 i0 (.int .i32 0) 1 4 Tryz.underlying163 hi hz0 hz1 hz2 rfl (by decide) _ _ _ rfl (hown.out.alloc _) ⟨wr.heap.size, 0, none⟩ 1 1 [.int .i32 z] rfl rfl ?c1 ?c2 ?c3 ?c4 ?c5 ?_)
      case c1 =>
        intro j u hj
        match j, hj with
        | 0, hj => simp at hj; subst hj; simp [Addr.add]
      case c2 => intro u hu; simp at hu; subst hu; rfl
      case c3 => have := HL.out; unfold maxLen; omega
      case c4 => have := HL.out; omega
      case c5 => have := hbel.out.size; simp; omega
      intro v' w1 hown' hgrow _
      have HO : Hid (w1.ownsRow w.heap.size 21 1 v' (zs ++ [z]).length ((zs ++ [z]).map (Value.int .i32))) := Lib.hid (by simpa using hown')
      have HB2 : Hid (Below w.heap.size w w1) := Lib.hid ((hbel.out.alloc hbel.out.size _).grown hgrow (by have := hbel.out.size; simp; omega) (fun g hg => (hown.out.lt g hg).1))
      clear hown' hgrow
      go_wp2
      go_roundw
      case rel => exact ⟨k / 10, zs ++ [z], by go_num, Lib.hid (by have := hk.out; omega), HO, Lib.hid (by simp), HN, HB2⟩
      case measure => simp [RowKit.intOf]; omega
    · obtain rfl : k = 0 := by omega
      obtain ⟨g, cap, rfl, _, _⟩ := hown.out.form hpos.out
      have HN : Hid (zs = lowsAll n.natAbs) := Lib.hid (by rw [← hall.out, lows_zero, List.append_nil])
      go_wp2_with fail
      refine (reverse_own _ hown.out).mono ?_
      rintro e w1 ⟨rfl, hown1, hbel1⟩
      have HB2 := Lib.hid (hbel1 _ _ hbel.out (Nat.le_refl _))
      have hcv : (convert 163 9 (.slice (some ⟨g, 0, none⟩) zs.length cap)).run Tryz.prog w1 = .ok (.string (runesBytes zs.reverse)) w1 := by
        have := run_convert_runes (P := Tryz.prog) w1 163 9 21 ⟨g, 0, none⟩ zs.length cap zs.reverse (by simp) Tryz.underlying163 Tryz.underlying21 Tryz.underlying9 (fun j hj => hown1.cells rfl j _ (by simp at hj; simp [hj]))
        rwa [List.take_of_length_le (by simp)] at this
      have hsz : 1 + (runesBytes zs.reverse).size ≤ 9223372036854775807 := by
        have e1 := runesBytes_size_le zs.reverse
        have e2 := lowsAll_len n.natAbs HB.out
        rw [← HN.out] at e2
        simp at e1; omega
      clear hown1 hbel1
      go_wp2
      go_ret
      exact ⟨ret_str (by rw [HN.out]), HB2.out⟩

set_option maxHeartbeats 1600000 in
set_option maxRecDepth 1000000 in
theorem digits_pos (n : Int) (w : World) (hf : fitsB n = true) (h : 0 ≤ n) :
    Calls Tryz.prog 78 #[.int .i64 n] w fun e w' => e = .returned (.string (runesBytes (lowsAll n.natAbs).reverse)) ∧ Below w.heap.size w w' := by
  have HF := Lib.hid ((fits_iff _).1 hf)
  have HB : Hid (n.natAbs ≤ 9223372036854775808) := Lib.hid (by have := HF.out; omega)
  have hb1 : (n.natAbs : Int) ≤ 9223372036854775808 := by have := HB.out; omega
  clear hf
  obtain ⟨i0, hi, hz0, hz1, hz2⟩ := info_parts info21
  go_enter Tryz.func78, Tryz.ntmps78
  go_wp2_with fail
  refine (sizeOf_any _ _ HF.out.1 HF.out.2).mono ?_
  rintro e w' ⟨rfl, rfl⟩
  go_wp2_with fail
  refine (lastDigit_any _ _ (by omega) (by have := HB.out; omega)).mono ?_
  rintro e w' ⟨rfl, rfl⟩
  go_wp2_with fail
  go_loopw [3, 4] (fun r v wr => ∃ (k : Nat) (zs : List Int), r = .int .u64 k ∧ Hid (k ≤ 9223372036854775808) ∧ Hid (wr.ownsRow w.heap.size 21 1 v zs.length (zs.map (Value.int .i32))) ∧ Hid (0 < zs.length) ∧ Hid (zs ++ lows k = lowsAll n.natAbs) ∧ Hid (Below w.heap.size w wr)) (fun r _ _ => (RowKit.intOf r).toNat)
  case atStart =>
    exact ⟨n.natAbs / 10, [48 + (n.natAbs : Int) % 10], by go_num, Lib.hid (by have := HB.out; omega), Lib.hid (own_one _ _), Lib.hid (by simp), Lib.hid (by simp [lowsAll]), Lib.hid ((Below.refl _ _).alloc (Nat.le_refl _) _)⟩
  case round =>
    obtain ⟨k, zs, rfl, hk, hown, hpos, hall, hbel⟩ := hrel
    by_cases h0 : 0 < k
    · have HL : Hid (zs.length + 1 ≤ 20) := Lib.hid (by
        have e1 := lowsAll_len n.natAbs HB.out
        rw [← hall.out, lows_pos k h0] at e1
        simp at e1; omega)
      have HN : Hid ((zs ++ [48 + (k : Int) % 10]) ++ lows (k / 10) = lowsAll n.natAbs) := Lib.hid (by rw [← hall.out, lows_pos k h0]; simp)
      clear hall
      have h0' : (0 : Int) < k := by omega
      have hk1 : (k : Int) ≤ 9223372036854775808 := by have := hk.out; omega
      go_wp2_with fail
      refine (lastDigit_any _ _ (by omega) (by have := hk.out; omega)).mono ?_
      rintro e w' ⟨rfl, rfl⟩
      generalize hz : (48 + (k : Int) % 10) = z at HN
      have HZ := Lib.hid hz
      clear hz
      go_wp2_with (at_builtin; refine wpList_append_own _ rfl _ _ 163 rfl w.heap.size 21 i0 (.int .i32 0) 1 4 Tryz.underlying163 hi hz0 hz1 hz2 rfl (by decide) _ _ _ rfl (hown.out.alloc _) ⟨wr.heap.size, 0, none⟩ 1 1 [.int .i32 z] rfl rfl ?c1 ?c2 ?c3 ?c4 ?c5 ?_)
      case c1 =>
        intro j u hj
        match j, hj with
        | 0, hj => simp at hj; subst hj; simp [Addr.add]
      case c2 => intro u hu; simp at hu; subst hu; rfl
      case c3 => have := HL.out; unfold maxLen; omega
      case c4 => have := HL.out; omega
      case c5 => have := hbel.out.size; simp; omega
      intro v' w1 hown' hgrow _
      have HO : Hid (w1.ownsRow w.heap.size 21 1 v' (zs ++ [z]).length ((zs ++ [z]).map (Value.int .i32))) := Lib.hid (by simpa using hown')
      have HB2 : Hid (Below w.heap.size w w1) := Lib.hid ((hbel.out.alloc hbel.out.size _).grown hgrow (by have := hbel.out.size; simp; omega) (fun g hg => (hown.out.lt g hg).1))
      clear hown' hgrow
      go_wp2
      go_roundw
      case rel => exact ⟨k / 10, zs ++ [z], by go_num, Lib.hid (by have := hk.out; omega), HO, Lib.hid (by simp), HN, HB2⟩
      case measure => simp [RowKit.intOf]; omega
    · obtain rfl : k = 0 := by omega
      obtain ⟨g, cap, rfl, _, _⟩ := hown.out.form hpos.out
      have HN : Hid (zs = lowsAll n.natAbs) := Lib.hid (by rw [← hall.out, lows_zero, List.append_nil])
      go_wp2_with fail
      refine (reverse_own _ hown.out).mono ?_
      rintro e w1 ⟨rfl, hown1, hbel1⟩
      have HB2 := Lib.hid (hbel1 _ _ hbel.out (Nat.le_refl _))
      have hcv : (convert 163 9 (.slice (some ⟨g, 0, none⟩) zs.length cap)).run Tryz.prog w1 = .ok (.string (runesBytes zs.reverse)) w1 := by
        have := run_convert_runes (P := Tryz.prog) w1 163 9 21 ⟨g, 0, none⟩ zs.length cap zs.reverse (by simp) Tryz.underlying163 Tryz.underlying21 Tryz.underlying9 (fun j hj => hown1.cells rfl j _ (by simp at hj; simp [hj]))
        rwa [List.take_of_length_le (by simp)] at this
      have hsz : 1 + (runesBytes zs.reverse).size ≤ 9223372036854775807 := by
        have e1 := runesBytes_size_le zs.reverse
        have e2 := lowsAll_len n.natAbs HB.out
        rw [← HN.out] at e2
        simp at e1; omega
      clear hown1 hbel1
      go_wp2
      go_ret
      exact ⟨ret_str (by rw [HN.out]), HB2.out⟩

theorem encode_ascii (z : Int) (h0 : 0 ≤ z) (h1 : z < 128) : Utf8.encode z = ⟨#[UInt8.ofNat z.toNat]⟩ := by
  have hv : Utf8.valid z = true := by simp [Utf8.valid]; omega
  unfold Utf8.encode
  simp only [hv, if_true]
  rw [if_pos (by omega)]

theorem runes_ascii (zs : List Int) (h : ∀ z ∈ zs, 0 ≤ z ∧ z < 128) : ∀ b : ByteArray, zs.foldl (fun r n => r ++ Utf8.encode n) b = b ++ ⟨(zs.map fun z => UInt8.ofNat z.toNat).toArray⟩ := by
  induction zs with
  | nil => intro b; apply ByteArray.ext; simp
  | cons z r ih =>
    intro b
    have hz := h z (by simp)
    rw [List.foldl_cons, ih (fun x hx => h x (by simp [hx])), encode_ascii z hz.1 hz.2]
    rw [ByteArray.append_assoc]
    congr 1

theorem lows_dig : ∀ (k n : Nat), n < k → ∀ z ∈ lows n, 48 ≤ z ∧ z ≤ 57
  | 0, n, h => absurd h (by omega)
  | k + 1, n, h => by
    intro z hz
    by_cases h0 : n = 0
    · subst h0; rw [lows_zero] at hz; simp at hz
    · rw [lows_pos n (by omega)] at hz
      rcases List.mem_cons.1 hz with rfl | hz
      · omega
      · exact lows_dig k (n / 10) (by omega) z hz
theorem lowsAll_dig (n : Nat) : ∀ z ∈ lowsAll n, 48 ≤ z ∧ z ≤ 57 := by
  intro z hz
  rcases List.mem_cons.1 hz with rfl | hz
  · omega
  · exact lows_dig _ _ (Nat.lt_succ_self _) z hz

/-- What Digits answers, byte by byte. -/
def digL (n : Int) : List UInt8 := (if n < 0 then [45] else []) ++ ((lowsAll n.natAbs).reverse.map fun z => UInt8.ofNat z.toNat)

theorem digits_any (n : Int) (w : World) (hf : fitsB n = true) :
    Calls Tryz.prog 78 #[.int .i64 n] w fun e w' => e = .returned (.string ⟨(digL n).toArray⟩) ∧ Below w.heap.size w w' := by
  have hr : runesBytes (lowsAll n.natAbs).reverse = ⟨((lowsAll n.natAbs).reverse.map fun z => UInt8.ofNat z.toNat).toArray⟩ := by
    have := runes_ascii (lowsAll n.natAbs).reverse (fun z hz => by have := lowsAll_dig n.natAbs z (by simpa using hz); omega) ByteArray.empty
    unfold runesBytes
    rw [this]
    simp
  by_cases h : n < 0
  · refine (digits_neg n w hf h).mono fun e w' ⟨he, hb⟩ => ⟨?_, hb⟩
    rw [he, hr]
    refine ret_str ?_
    apply ByteArray.ext
    simp [digL, h]
  · refine (digits_pos n w hf (by omega)).mono fun e w' ⟨he, hb⟩ => ⟨?_, hb⟩
    rw [he, hr]
    refine ret_str ?_
    apply ByteArray.ext
    simp [digL, h]
end Go.Proofs.YtllkimdlmnjoiaaGreatDoor
namespace Go.Proofs.YtllkimdlmnjoiaaGreatDoor
set_option maxRecDepth 100000
set_option maxRecDepth 100000
set_option maxRecDepth 100000
set_option maxRecDepth 100000
open Go.RowKit

end Go.Proofs.YtllkimdlmnjoiaaGreatDoor

namespace Go.Proofs.YtllkimdlmnjoiaaGreatDoor
set_option maxRecDepth 100000
set_option maxRecDepth 100000
set_option maxRecDepth 100000
set_option maxRecDepth 100000
open Go.RowKit

end Go.Proofs.YtllkimdlmnjoiaaGreatDoor

namespace Go.Proofs.YtllkimdlmnjoiaaGreatDoor
set_option maxRecDepth 100000
set_option maxRecDepth 100000
set_option maxRecDepth 100000
set_option maxRecDepth 100000
open Go.RowKit

/-- A slice of numbers that the call itself made. -/
def OwnInts (w : World) (base : Nat) (v : Value) (l : List Int) : Prop := w.ownsRow base 3 1 v l.length (l.map (Value.int .i64))
end Go.Proofs.YtllkimdlmnjoiaaGreatDoor





