/- Carried over from an earlier seat. -/
import Derived.Test.YtllkimdlmnjoiaaGreatDoorChecked
import Derived.WalkKit
import Derived.Lib.Mul64
import Derived.Laws.Bits64b
import Derived.Laws.Externs
import Derived.Lib.Hide
import Derived.Below
import Derived.LoopTactic
import Derived.Deep.LoopGhost
import Derived.Lib.Walk
import Derived.Sort.WalkB12
import Derived.Lib.SlicesMore
import Derived.Lib.OwnBridge
import Derived.RegionTactic
import Derived.Laws.Cover4
import Derived.Deep.AppendLies
import Derived.OpenShut
import Derived.Laws.AppendOwnNone
import Derived.Deep.QuietTactic
import Derived.BigQuiet
namespace Go.Proofs.YtllkimdlmnjoiaaGreatDoor.E8
set_option maxRecDepth 100000
set_option maxRecDepth 100000
set_option maxRecDepth 100000
open Go.RowKit

theorem ret_int_bool {k : IntKind} {a b : Int} {c : Bool} (h : a = b) : Ending.returned (.tuple #[.int k a, .bool c]) = .returned (.tuple #[.int k b, .bool c]) := by rw [h]

theorem add64_any (x y c : Int) (w : World) (hx : 0 ≤ x) (hy : 0 ≤ y) (hc0 : 0 ≤ c) (hc : c ≤ 1) :
    (callFunc 155 #[.int .u64 x, .int .u64 y, .int .u64 c]).run Tryz.prog w =
      .ok (.value (.tuple #[.int .u64 ((x + y + c) % 18446744073709551616), .int .u64 ((x + y + c) / 18446744073709551616)])) w := by
  rw [run_callFunc_extern Tryz.func155 (by kernel_rfl) (by kernel_rfl) (by kernel_rfl) (e := add64Entry) (by kernel_rfl), run_add64 x y c hx hy hc0 hc]
  simp only [Result.andThen]

namespace Mul64
set_option maxRecDepth 100000
set_option maxRecDepth 100000
theorem maskN (a : Nat) (ha : a < 18446744073709551616) : bits .and .u64 (a : Int) 4294967295 = ((a % 4294967296 : Nat) : Int) := by
  have h := bits_and_u64_nat a 4294967295 ha (by omega)
  have e : a &&& 4294967295 = a % 4294967296 := Nat.and_two_pow_sub_one_eq_mod a 32
  rw [e] at h
  exact h
theorem divN (a : Nat) : (a : Int) / 4294967296 = ((a / 4294967296 : Nat) : Int) := by omega
theorem mulN (a b : Nat) : (a : Int) * (b : Int) = ((a * b : Nat) : Int) := (Int.natCast_mul a b).symm
theorem addN (a b : Nat) : (a : Int) + (b : Int) = ((a + b : Nat) : Int) := (Int.natCast_add a b).symm
theorem wrapN (a : Nat) (ha : a < 18446744073709551616) : IntKind.u64.wrap (a : Int) = (a : Int) := by rw [IntKind.wrap_u64]; omega
theorem wrapM (a : Nat) : IntKind.u64.wrap (a : Int) = ((a % 18446744073709551616 : Nat) : Int) := by rw [IntKind.wrap_u64]; omega
end Mul64

set_option maxHeartbeats 1000000 in
theorem mul64_any (x y : Nat) (hx : x < 18446744073709551616) (hy : y < 18446744073709551616) (w : World) :
    Calls Tryz.prog 154 #[.int .u64 x, .int .u64 y] w fun e w' => e = .returned (.tuple #[.int .u64 ((x * y / 18446744073709551616 : Nat) : Int), .int .u64 ((x * y % 18446744073709551616 : Nat) : Int)]) ∧ w = w' := by
  obtain ⟨bd, bt, bw, hhi⟩ := Lib.mul64_hi x y hx hy
  have ba := Lib.half_mul_le (a := x / 4294967296) (b := y / 4294967296) (by omega) (by omega)
  have bb := Lib.half_mul_le (a := x / 4294967296) (b := y % 4294967296) (by omega) (by omega)
  have bc := Lib.half_mul_le (a := x % 4294967296) (b := y / 4294967296) (by omega) (by omega)
  have ba' : x / 4294967296 * (y / 4294967296) < 18446744073709551616 := by omega
  have bb' : x / 4294967296 * (y % 4294967296) < 18446744073709551616 := by omega
  have bc' : x % 4294967296 * (y / 4294967296) < 18446744073709551616 := by omega
  have bh1 : x / 4294967296 * (y / 4294967296) + (x / 4294967296 * (y % 4294967296) + x % 4294967296 * (y % 4294967296) / 4294967296) / 4294967296 < 18446744073709551616 := by omega
  have bh : x / 4294967296 * (y / 4294967296) + (x / 4294967296 * (y % 4294967296) + x % 4294967296 * (y % 4294967296) / 4294967296) / 4294967296 + ((x / 4294967296 * (y % 4294967296) + x % 4294967296 * (y % 4294967296) / 4294967296) % 4294967296 + x % 4294967296 * (y / 4294967296)) / 4294967296 < 18446744073709551616 := by omega
  go_enter Tryz.func154, Tryz.ntmps154
  go_wp2
  simp only [Mul64.maskN x hx, Mul64.maskN y hy, Mul64.divN, Mul64.mulN, Mul64.addN, Mul64.wrapN _ bd, Mul64.wrapN _ bb', Mul64.wrapN _ bt, Mul64.maskN _ bt, Mul64.wrapN _ bc', Mul64.wrapN _ bw, Mul64.wrapN _ ba', Mul64.wrapN _ bh1, Mul64.wrapN _ bh, Mul64.wrapM (x * y)]
  rw [hhi]
  go_ret2
  exact ⟨rfl, rfl⟩

set_option maxHeartbeats 400000 in
theorem signed_neg_ok (n : Int) (w : World) (h0 : 0 ≤ n) (h1 : n ≤ 9223372036854775808) :
    Calls Tryz.prog 135 #[.int .u64 n, .bool true] w fun e w' => e = .returned (.tuple #[.int .i64 (-n), .bool true]) ∧ w = w' := by
  go_enter Tryz.func135, Tryz.ntmps135
  go_wp2
  go_ret2
  exact ⟨ret_int_bool (by simp only [IntKind.wrap_u64]; unfold wrap64; omega), rfl⟩

set_option maxHeartbeats 400000 in
theorem signed_neg_no (n : Int) (w : World) (h1 : 9223372036854775808 < n) :
    Calls Tryz.prog 135 #[.int .u64 n, .bool true] w fun e w' => e = .returned (.tuple #[.int .i64 0, .bool false]) ∧ w = w' := by
  go_enter Tryz.func135, Tryz.ntmps135
  go_wp2
  go_ret2
  exact ⟨rfl, rfl⟩

set_option maxHeartbeats 400000 in
theorem signed_pos_ok (n : Int) (w : World) (h0 : 0 ≤ n) (h1 : n ≤ 9223372036854775807) :
    Calls Tryz.prog 135 #[.int .u64 n, .bool false] w fun e w' => e = .returned (.tuple #[.int .i64 n, .bool true]) ∧ w = w' := by
  go_enter Tryz.func135, Tryz.ntmps135
  go_wp2
  go_ret2
  exact ⟨rfl, rfl⟩

set_option maxHeartbeats 400000 in
theorem signed_pos_no (n : Int) (w : World) (h1 : 9223372036854775807 < n) :
    Calls Tryz.prog 135 #[.int .u64 n, .bool false] w fun e w' => e = .returned (.tuple #[.int .i64 0, .bool false]) ∧ w = w' := by
  go_enter Tryz.func135, Tryz.ntmps135
  go_wp2
  go_ret2
  exact ⟨rfl, rfl⟩

end Go.Proofs.YtllkimdlmnjoiaaGreatDoor.E8

namespace Go.Proofs.YtllkimdlmnjoiaaGreatDoor.E8
set_option maxRecDepth 100000
set_option maxRecDepth 100000
set_option maxRecDepth 100000
open Go.RowKit

def fitsB (n : Int) : Bool := decide (-9223372036854775808 ≤ n ∧ n ≤ 9223372036854775807)
theorem fits_iff (n : Int) : fitsB n = true ↔ (-9223372036854775808 ≤ n ∧ n ≤ 9223372036854775807) := by simp [fitsB]
theorem fits_not (n : Int) : fitsB n = false ↔ ¬ (-9223372036854775808 ≤ n ∧ n ≤ 9223372036854775807) := by simp only [fitsB, decide_eq_false_iff_not]
/-- What has room, or 0. -/
def room (n : Int) : Int := if fitsB n then n else 0

theorem room_ok {n : Int} (h : fitsB n = true) : room n = n := by simp [room, h]
theorem room_no {n : Int} (h : fitsB n = false) : room n = 0 := by simp [room, h]

end Go.Proofs.YtllkimdlmnjoiaaGreatDoor.E8

namespace Go.Proofs.YtllkimdlmnjoiaaGreatDoor.E8
set_option maxRecDepth 100000
set_option maxRecDepth 100000
set_option maxRecDepth 100000
open Go.RowKit

end Go.Proofs.YtllkimdlmnjoiaaGreatDoor.E8

namespace Go.Proofs.YtllkimdlmnjoiaaGreatDoor.E8
set_option maxRecDepth 100000
set_option maxRecDepth 100000
set_option maxRecDepth 100000
open Go.RowKit

def digB (c : UInt8) : Bool := decide (48 ≤ c.toNat ∧ c.toNat ≤ 57)
/-- The first k bytes are digits. -/
def DigsTo (s : ByteArray) (k : Nat) : Prop := ∀ i (h : i < s.size), i < k → digB (s[i]'h) = true

theorem below_iter (w : World) (s : ByteArray) (pos : Nat) : Below w.heap.size w (w.iter s pos) := (Below.refl w.heap.size w).alloc (Nat.le_refl _) (.stringIter s pos)

theorem digs_next (s : ByteArray) (k : Nat) (hk : k < s.size) (h : DigsTo s k) (hd : digB s[k] = true) : DigsTo s (k + 1) := by
  intro i hi hik
  by_cases h' : i = k
  · subst h'; exact hd
  · exact h i hi (by omega)

set_option maxHeartbeats 400000 in
theorem whole_not (s : ByteArray) (w : World) (hn : ¬ DigsTo s s.size) :
    Calls Tryz.prog 133 #[.string s] w fun e w' => e = .returned (.bool false) ∧ Below w.heap.size w w' := by
  have HN := Lib.hid hn
  clear hn
  go_enter Tryz.func133, Tryz.ntmps133
  go_wp2
  go_loopw [] (fun w' => ∃ pos : Nat, w' = w.iter s pos ∧ pos ≤ s.size ∧ Hid (DigsTo s pos)) (fun w' => s.size - w'.iterPos w.heap.size)
  case atStart => exact ⟨0, rfl, by omega, Lib.hid (fun i _ h => absurd h (by omega))⟩
  case round =>
    obtain ⟨pos, rfl, hp, hd⟩ := hrel
    by_cases hlt : pos < s.size
    · by_cases ha : (s[pos]'hlt).toNat < 128
      · have hnx := fun ty => run_next_ascii (P := Tryz.prog) w s pos ty hlt ha
        by_cases hb : digB (s[pos]'hlt) = true
        · have HD := Lib.hid (digs_next s pos hlt hd.out hb)
          have hb' : 48 ≤ (s[pos]'hlt).toNat ∧ (s[pos]'hlt).toNat ≤ 57 := by simpa [digB] using hb
          clear hb
          generalize (s[pos]'hlt).toNat = c at *
          go_wp2
          go_roundw
          case rel => exact ⟨pos + 1, rfl, by omega, HD⟩
          case measure => simp; omega
        · have hb' : ¬ (48 ≤ (s[pos]'hlt).toNat ∧ (s[pos]'hlt).toNat ≤ 57) := by simpa [digB] using hb
          clear hb
          generalize (s[pos]'hlt).toNat = c at *
          rcases Nat.lt_or_ge c 48 with h1 | h1
          · go_wp2
            go_ret
            exact ⟨rfl, below_iter _ _ _⟩
          · go_wp2
            go_ret
            exact ⟨rfl, below_iter _ _ _⟩
      · have hnx := fun ty => run_next_any (P := Tryz.prog) w s pos ty hlt
        have hr := (decode_high s pos hlt (by omega)).1
        generalize Utf8.decode s pos = rd at *
        go_wp2
        go_ret
        exact ⟨rfl, below_iter _ _ _⟩
    · exact absurd (fun i h _ => hd.out i h (by omega)) HN.out

/-- The digits of a whole number that is not below 0. -/
def wholeL (l : List UInt8) : Bool := l.all digB && (l == [48] || (!l.isEmpty && l.headD 0 != 48))

set_option maxHeartbeats 400000 in
theorem whole_zero (s : ByteArray) (w : World) (hn : DigsTo s s.size) (h1 : s.toList = [48]) :
    Calls Tryz.prog 133 #[.string s] w fun e w' => e = .returned (.bool true) ∧ Below w.heap.size w w' := by
  have HN := Lib.hid hn
  clear hn
  go_enter Tryz.func133, Tryz.ntmps133
  go_wp2
  go_loopw [] (fun w' => ∃ pos : Nat, w' = w.iter s pos ∧ pos ≤ s.size) (fun w' => s.size - w'.iterPos w.heap.size)
  case atStart => exact ⟨0, rfl, by omega⟩
  case round =>
    obtain ⟨pos, rfl, hp⟩ := hrel
    by_cases hlt : pos < s.size
    · have hb := HN.out pos hlt hlt
      have hb' : 48 ≤ (s[pos]'hlt).toNat ∧ (s[pos]'hlt).toNat ≤ 57 := by simpa [digB] using hb
      have hnx := fun ty => run_next_ascii (P := Tryz.prog) w s pos ty hlt (by omega)
      clear hb h1
      generalize (s[pos]'hlt).toNat = c at *
      go_wp2
      go_roundw
      case rel => exact ⟨pos + 1, rfl, by omega⟩
      case measure => simp; omega
    · have hnx := fun ty => run_next_end (P := Tryz.prog) w s pos ty hlt
      go_wp2
      go_ret
      exact ⟨rfl, below_iter _ _ _⟩

set_option maxHeartbeats 400000 in
theorem whole_empty (s : ByteArray) (w : World) (hn : DigsTo s s.size) (h1 : (s.toList == [48]) = false) (h2 : (!s.toList.isEmpty) = false) :
    Calls Tryz.prog 133 #[.string s] w fun e w' => e = .returned (.bool false) ∧ Below w.heap.size w w' := by
  have HN := Lib.hid hn
  clear hn
  go_enter Tryz.func133, Tryz.ntmps133
  go_wp2
  go_loopw [] (fun w' => ∃ pos : Nat, w' = w.iter s pos ∧ pos ≤ s.size) (fun w' => s.size - w'.iterPos w.heap.size)
  case atStart => exact ⟨0, rfl, by omega⟩
  case round =>
    obtain ⟨pos, rfl, hp⟩ := hrel
    by_cases hlt : pos < s.size
    · have hb := HN.out pos hlt hlt
      have hb' : 48 ≤ (s[pos]'hlt).toNat ∧ (s[pos]'hlt).toNat ≤ 57 := by simpa [digB] using hb
      have hnx := fun ty => run_next_ascii (P := Tryz.prog) w s pos ty hlt (by omega)
      clear hb h1 h2
      generalize (s[pos]'hlt).toNat = c at *
      go_wp2
      go_roundw
      case rel => exact ⟨pos + 1, rfl, by omega⟩
      case measure => simp; omega
    · have hnx := fun ty => run_next_end (P := Tryz.prog) w s pos ty hlt
      go_wp2
      go_ret
      exact ⟨rfl, below_iter _ _ _⟩

set_option maxHeartbeats 400000 in
theorem whole_more (s : ByteArray) (w : World) (hn : DigsTo s s.size) (h0 : 0 < s.size) (t : Bool) (h1 : (s.toList == [48]) = false) (h2 : (!s.toList.isEmpty) = true) (h3 : (((s[0]'h0).toNat : Int) != 48) = t) :
    Calls Tryz.prog 133 #[.string s] w fun e w' => e = .returned (.bool t) ∧ Below w.heap.size w w' := by
  have HN := Lib.hid hn
  clear hn
  go_enter Tryz.func133, Tryz.ntmps133
  go_wp2
  go_loopw [] (fun w' => ∃ pos : Nat, w' = w.iter s pos ∧ pos ≤ s.size) (fun w' => s.size - w'.iterPos w.heap.size)
  case atStart => exact ⟨0, rfl, by omega⟩
  case round =>
    obtain ⟨pos, rfl, hp⟩ := hrel
    by_cases hlt : pos < s.size
    · have hb := HN.out pos hlt hlt
      have hb' : 48 ≤ (s[pos]'hlt).toNat ∧ (s[pos]'hlt).toNat ≤ 57 := by simpa [digB] using hb
      have hnx := fun ty => run_next_ascii (P := Tryz.prog) w s pos ty hlt (by omega)
      clear hb h1 h2 h3
      generalize (s[pos]'hlt).toNat = c at *
      go_wp2
      go_roundw
      case rel => exact ⟨pos + 1, rfl, by omega⟩
      case measure => simp; omega
    · have hnx := fun ty => run_next_end (P := Tryz.prog) w s pos ty hlt
      go_wp2
      go_ret
      exact ⟨rfl, below_iter _ _ _⟩

theorem digs_all (s : ByteArray) : DigsTo s s.size ↔ s.toList.all digB = true := by
  rw [ByteArray.toList_eq, List.all_eq_true]
  constructor
  · intro h x hx
    obtain ⟨i, hi, rfl⟩ := List.mem_iff_getElem.1 hx
    have hi' : i < s.size := by simpa using hi
    have := h i hi' hi'
    rwa [show s[i]'hi' = s.data.toList[i]'hi from by simp; rfl] at this
  · intro h i hi _
    apply h
    have : s[i]'hi = s.data.toList[i]'(by simpa using hi) := by simp; rfl
    rw [this]
    exact List.getElem_mem _

theorem whole_any (s : ByteArray) (w : World) :
    Calls Tryz.prog 133 #[.string s] w fun e w' => e = .returned (.bool (wholeL s.toList)) ∧ Below w.heap.size w w' := by
  by_cases hd : DigsTo s s.size
  · have ha := (digs_all s).1 hd
    by_cases h1 : s.toList = [48]
    · have := whole_zero s w hd h1
      rwa [show wholeL s.toList = true from by rw [h1]; decide]
    · have h1' : (s.toList == [48]) = false := by simp [h1]
      by_cases h2 : s.toList = []
      · have := whole_empty s w hd h1' (by simp [h2])
        rwa [show wholeL s.toList = false from by rw [h2]; decide]
      · have hs : s.toList.length = s.size := by rw [ByteArray.toList_eq]; simp
        have h0 : 0 < s.size := by
          rcases Nat.eq_zero_or_pos s.size with h | h
          · rw [h] at hs; exact absurd (List.eq_nil_of_length_eq_zero hs) h2
          · exact h
        have hh : s.toList.headD 0 = s[0]'h0 := by
          rw [ByteArray.toList_eq]
          have hz : 0 < s.data.toList.length := by simpa using h0
          cases hq : s.data.toList with
          | nil => rw [hq] at hz; simp at hz
          | cons c r =>
            have e : s[0]'h0 = s.data.toList[0]'hz := by simp; rfl
            rw [e]; simp [hq]
        have := whole_more s w hd h0 _ h1' (by simp [h2]) rfl
        rwa [show wholeL s.toList = (((s[0]'h0).toNat : Int) != 48) from ?_]
        unfold wholeL
        rw [ha, h1', hh]
        have h3 : (!s.toList.isEmpty) = true := by simp [h2]
        rw [h3, Bool.true_and, Bool.false_or, Bool.true_and]
        rw [Bool.eq_iff_iff, bne_iff_ne, bne_iff_ne, ne_eq, ne_eq, ← UInt8.toNat_inj]
        rw [show (48 : UInt8).toNat = 48 from rfl]
        omega
  · have := whole_not s w hd
    rwa [show wholeL s.toList = false from ?_]
    have : s.toList.all digB = false := by
      cases h : s.toList.all digB
      · rfl
      · exact absurd ((digs_all s).2 h) hd
    simp only [wholeL, this, Bool.false_and]
end Go.Proofs.YtllkimdlmnjoiaaGreatDoor.E8
namespace Go.Proofs.YtllkimdlmnjoiaaGreatDoor.E8
set_option maxRecDepth 100000
set_option maxRecDepth 100000
set_option maxRecDepth 100000
open Go.RowKit

def valStep (n : Nat) (c : UInt8) : Nat := n * 10 + (c.toNat - 48)
/-- The number that digits tell. -/
def valL (l : List UInt8) : Nat := l.foldl valStep 0
def Big : Nat := 18446744073709551616
theorem big_eq : Big = 18446744073709551616 := rfl

theorem foldl_ge (l : List UInt8) : ∀ n, n ≤ l.foldl valStep n := by
  induction l with
  | nil => intro n; exact Nat.le_refl _
  | cons c r ih => intro n; exact Nat.le_trans (by unfold valStep; omega) (ih (valStep n c))

theorem mulTen (n : Nat) (hn : n < Big) (w : World) :
    Calls Tryz.prog 154 #[.int .u64 (n : Int), .int .u64 10] w fun e w' => e = .returned (.tuple #[.int .u64 ((n * 10 / Big : Nat) : Int), .int .u64 ((n * 10 % Big : Nat) : Int)]) ∧ w = w' :=
  mul64_any n 10 hn (by decide) w

theorem val_take (s : ByteArray) (k : Nat) (hk : k < s.size) : valL (s.toList.take (k + 1)) = valStep (valL (s.toList.take k)) (s[k]'hk) := by
  have hl : k < s.toList.length := by rw [ByteArray.toList_eq]; simpa using hk
  have e : s.toList[k]'hl = s[k]'hk := by simp only [ByteArray.toList_eq]; simp; rfl
  rw [List.take_succ_eq_append_getElem hl, e]
  simp [valL, List.foldl_append]

theorem val_take_le (s : ByteArray) (k : Nat) : valL (s.toList.take k) ≤ valL s.toList := by
  conv => rhs; rw [← List.take_append_drop k s.toList]
  unfold valL
  rw [List.foldl_append]
  exact foldl_ge _ _

theorem addDigit (n c : Nat) (hc : 48 ≤ c) (W : World) : (callFunc 155 #[.int .u64 ((n * 10 % Big : Nat) : Int), .int .u64 ((c : Int) - 48), .int .u64 0]).run Tryz.prog W = .ok (.value (.tuple #[.int .u64 (((n * 10 % Big + (c - 48)) % Big : Nat) : Int), .int .u64 (((n * 10 % Big + (c - 48)) / Big : Nat) : Int)])) W := by
  rw [add64_any _ _ 0 W (by omega) (by omega) (by omega) (by omega)]
  simp only [Big]
  rw [show ((n * 10 % 18446744073709551616 : Nat) : Int) + ((c : Int) - 48) + 0 = ((n * 10 % 18446744073709551616 + (c - 48) : Nat) : Int) from by omega]
  congr 6

set_option maxHeartbeats 1000000 in
theorem read_ok (s : ByteArray) (w : World) (hn : DigsTo s s.size) (hv0 : valL s.toList < Big) :
    Calls Tryz.prog 134 #[.string s] w fun e w' => e = .returned (.tuple #[.int .u64 (valL s.toList), .bool true]) ∧ Below w.heap.size w w' := by
  have HN := Lib.hid hn
  have H0 := Lib.hid hv0
  clear hn hv0
  go_enter Tryz.func134, Tryz.ntmps134
  go_wp2
  go_loopw [4] (fun v w' => ∃ (pos n : Nat), w' = w.iter s pos ∧ pos ≤ s.size ∧ v = .int .u64 n ∧ Hid (n = valL (s.toList.take pos)) ∧ Hid (n < Big)) (fun _ w' => s.size - w'.iterPos w.heap.size)
  case atStart => exact ⟨0, 0, rfl, by omega, rfl, Lib.hid (by simp [valL]), Lib.hid (by simp [Big])⟩
  case round =>
    obtain ⟨pos, n, rfl, hp, rfl, hv, hbig⟩ := hrel
    by_cases hlt : pos < s.size
    · have hb := HN.out pos hlt hlt
      have hb' : 48 ≤ (s[pos]'hlt).toNat ∧ (s[pos]'hlt).toNat ≤ 57 := by simpa [digB] using hb
      have hnx := fun ty => run_next_ascii (P := Tryz.prog) w s pos ty hlt (by omega)
      have HV := Lib.hid (val_take s pos hlt)
      have HT := Lib.hid (val_take_le s (pos + 1))
      clear hb
      have HM := Lib.hid (mulTen n hbig.out)
      unfold valStep at HV
      generalize (s[pos]'hlt).toNat = c at *
      have HA := Lib.hid (addDigit n c hb'.1)
      by_cases hB : n * 10 + (c - 48) < Big
      · have HF := Lib.hid hB
        have HV2 : Hid (n * 10 + (c - 48) = valL (s.toList.take (pos + 1))) := Lib.hid (by rw [HV.out, hv.out])
        have e1 : n * 10 / Big = 0 := by unfold Big at *; omega
        have e2 : n * 10 % Big = n * 10 := by unfold Big at *; omega
        have e3 : (n * 10 + (c - 48)) / Big = 0 := by unfold Big at *; omega
        have e4 : (n * 10 + (c - 48)) % Big = n * 10 + (c - 48) := by unfold Big at *; omega
        rw [e2] at HA HM
        rw [e1] at HM
        rw [e3, e4] at HA
        clear e1 e2 e3 e4 hB HV
        generalize n * 10 = lo at HA HM HF HV2
        have ha := HA.out
        clear HA
        generalize lo + (c - 48) = sum at ha HF HV2
        go_wp2_with (go_at_call 154; refine (HM.out _).mono ?_; rintro e w' ⟨rfl, rfl⟩)
        go_roundw
        case rel => exact ⟨pos + 1, sum, rfl, by omega, rfl, HV2, HF⟩
        case measure => simp; omega
      · exact absurd (Nat.lt_of_le_of_lt HT.out H0.out) (by rw [HV.out, ← hv.out]; exact hB)
    · have hnx := fun ty => run_next_end (P := Tryz.prog) w s pos ty hlt
      have HE : Hid (n = valL s.toList) := Lib.hid (by
        rw [hv.out, List.take_of_length_le]
        rw [ByteArray.toList_eq]
        show s.size ≤ pos
        omega)
      go_wp2
      go_ret2
      exact ⟨ret_int_bool (by rw [HE.out]), below_iter _ _ _⟩

set_option maxHeartbeats 1000000 in
theorem read_no (s : ByteArray) (w : World) (hn : DigsTo s s.size) (hv0 : ¬ valL s.toList < Big) :
    Calls Tryz.prog 134 #[.string s] w fun e w' => e = .returned (.tuple #[.int .u64 0, .bool false]) ∧ Below w.heap.size w w' := by
  have HN := Lib.hid hn
  have H0 := Lib.hid hv0
  clear hn hv0
  go_enter Tryz.func134, Tryz.ntmps134
  go_wp2
  go_loopw [4] (fun v w' => ∃ (pos n : Nat), w' = w.iter s pos ∧ pos ≤ s.size ∧ v = .int .u64 n ∧ Hid (n = valL (s.toList.take pos)) ∧ Hid (n < Big)) (fun _ w' => s.size - w'.iterPos w.heap.size)
  case atStart => exact ⟨0, 0, rfl, by omega, rfl, Lib.hid (by simp [valL]), Lib.hid (by simp [Big])⟩
  case round =>
    obtain ⟨pos, n, rfl, hp, rfl, hv, hbig⟩ := hrel
    by_cases hlt : pos < s.size
    · have hb := HN.out pos hlt hlt
      have hb' : 48 ≤ (s[pos]'hlt).toNat ∧ (s[pos]'hlt).toNat ≤ 57 := by simpa [digB] using hb
      have hnx := fun ty => run_next_ascii (P := Tryz.prog) w s pos ty hlt (by omega)
      have HV := Lib.hid (val_take s pos hlt)
      have HT := Lib.hid (val_take_le s (pos + 1))
      clear hb
      have HM := Lib.hid (mulTen n hbig.out)
      unfold valStep at HV
      generalize (s[pos]'hlt).toNat = c at *
      have HA := Lib.hid (addDigit n c hb'.1)
      by_cases hB : n * 10 + (c - 48) < Big
      · have HF := Lib.hid hB
        have HV2 : Hid (n * 10 + (c - 48) = valL (s.toList.take (pos + 1))) := Lib.hid (by rw [HV.out, hv.out])
        have e1 : n * 10 / Big = 0 := by unfold Big at *; omega
        have e2 : n * 10 % Big = n * 10 := by unfold Big at *; omega
        have e3 : (n * 10 + (c - 48)) / Big = 0 := by unfold Big at *; omega
        have e4 : (n * 10 + (c - 48)) % Big = n * 10 + (c - 48) := by unfold Big at *; omega
        rw [e2] at HA HM
        rw [e1] at HM
        rw [e3, e4] at HA
        clear e1 e2 e3 e4 hB HV
        generalize n * 10 = lo at HA HM HF HV2
        have ha := HA.out
        clear HA
        generalize lo + (c - 48) = sum at ha HF HV2
        go_wp2_with (go_at_call 154; refine (HM.out _).mono ?_; rintro e w' ⟨rfl, rfl⟩)
        go_roundw
        case rel => exact ⟨pos + 1, sum, rfl, by omega, rfl, HV2, HF⟩
        case measure => simp; omega
      · have HO : Hid (n * 10 / Big ≠ 0 ∨ n * 10 / Big = 0 ∧ (n * 10 % Big + (c - 48)) / Big ≠ 0) := Lib.hid (by unfold Big at *; omega)
        clear HV hB
        generalize n * 10 % Big = lo at HA HM HO
        generalize n * 10 / Big = hi at HM HO
        have ha := HA.out
        clear HA
        generalize (lo + (c - 48)) / Big = ca at ha HO
        generalize (lo + (c - 48)) % Big = sum at ha
        rcases HO.out with h1 | ⟨h1, h2⟩
        · have t1 : ((hi : Int) != 0) = true := by rw [bne_iff_ne]; omega
          clear h1
          go_wp2_with (go_at_call 154; refine (HM.out _).mono ?_; rintro e w' ⟨rfl, rfl⟩)
          go_ret2
          exact ⟨rfl, below_iter _ _ _⟩
        · subst h1
          have t2 : ((ca : Int) != 0) = true := by rw [bne_iff_ne]; omega
          clear h2
          go_wp2_with (go_at_call 154; refine (HM.out _).mono ?_; rintro e w' ⟨rfl, rfl⟩)
          go_ret2
          exact ⟨rfl, below_iter _ _ _⟩
    · exact absurd (by
        have := hbig.out
        rw [hv.out, List.take_of_length_le] at this
        · exact this
        · rw [ByteArray.toList_eq]
          show s.size ≤ pos
          omega) H0.out
end Go.Proofs.YtllkimdlmnjoiaaGreatDoor.E8
namespace Go.Proofs.YtllkimdlmnjoiaaGreatDoor.E8
set_option maxRecDepth 100000
set_option maxRecDepth 100000
set_option maxRecDepth 100000
open Go.RowKit

theorem toList_len (s : ByteArray) : s.toList.length = s.size := by rw [ByteArray.toList_eq]; simp
theorem toList_cut (s : ByteArray) (i j : Nat) : (s.extract i j).toList = (s.toList.take j).drop i := by
  simp [ByteArray.toList_eq, ByteArray.data_extract, List.drop_take]

/-- It opens with a minus. -/
def minusB (l : List UInt8) : Bool := l.take 1 == [45]

set_option maxHeartbeats 400000 in
theorem cut_yes (s : ByteArray) (w : World) (h : minusB s.toList = true) :
    Calls Tryz.prog 132 #[.string s, .string ⟨#[45]⟩] w fun e w' => e = .returned (.tuple #[.string (s.extract 1 s.size), .bool true]) ∧ w = w' := by
  have h1 : 1 ≤ (s.size : Int) := by
    have := toList_len s
    cases hq : s.toList with
    | nil => rw [hq] at h; exact absurd h (by decide)
    | cons c r => rw [hq] at this; simp at this; omega
  have h2 : ((s.extract 0 1).toList == [45]) = true := by rw [toList_cut]; simpa [minusB] using h
  clear h
  go_enter Tryz.func132, Tryz.ntmps132
  go_wp2
  go_ret2
  exact ⟨rfl, rfl⟩

set_option maxHeartbeats 400000 in
theorem cut_no (s : ByteArray) (w : World) (h : minusB s.toList = false) :
    Calls Tryz.prog 132 #[.string s, .string ⟨#[45]⟩] w fun e w' => e = .returned (.tuple #[.string s, .bool false]) ∧ w = w' := by
  have h2 : ((s.extract 0 1).toList == [45]) = false := by rw [toList_cut]; simpa [minusB] using h
  clear h
  by_cases h1 : 1 ≤ (s.size : Int)
  all_goals
    go_enter Tryz.func132, Tryz.ntmps132
    go_wp2
    go_ret2
    exact ⟨rfl, rfl⟩

set_option maxHeartbeats 1000000 in
theorem parse_w1 (s d : ByteArray) (m : Bool)  (w : World) (hcut : Hid (∀ W, Calls Tryz.prog 132 #[.string s, .string ⟨#[45]⟩] W fun e w' => e = .returned (.tuple #[.string d, .bool m]) ∧ W = w')) (h1 : wholeL d.toList = false) :
    Calls Tryz.prog 114 #[.string s] w fun e w' => e = .returned (.tuple #[.int .i64 0, .int .i64 2]) ∧ Below w.heap.size w w' := by

  go_enter Tryz.func114, Tryz.ntmps114
  go_wp2_with fail
  refine (hcut.out _).mono ?_
  rintro e w' ⟨rfl, rfl⟩
  go_wp2_with fail
  refine (whole_any _ _).mono ?_
  rintro e w1 ⟨rfl, hb1⟩
  have HB1 := Lib.hid hb1
  clear hb1
  go_wp2
  go_ret2
  exact ⟨rfl, HB1.out⟩

set_option maxHeartbeats 1000000 in
theorem parse_w2 (s d : ByteArray) (m : Bool)  (w : World) (hcut : Hid (∀ W, Calls Tryz.prog 132 #[.string s, .string ⟨#[45]⟩] W fun e w' => e = .returned (.tuple #[.string d, .bool m]) ∧ W = w')) (h1 : wholeL d.toList = true) (h2 : m = true) (h3 : (d.toList == [48]) = true) :
    Calls Tryz.prog 114 #[.string s] w fun e w' => e = .returned (.tuple #[.int .i64 0, .int .i64 2]) ∧ Below w.heap.size w w' := by
  subst h2
  go_enter Tryz.func114, Tryz.ntmps114
  go_wp2_with fail
  refine (hcut.out _).mono ?_
  rintro e w' ⟨rfl, rfl⟩
  go_wp2_with fail
  refine (whole_any _ _).mono ?_
  rintro e w1 ⟨rfl, hb1⟩
  have HB1 := Lib.hid hb1
  clear hb1
  go_wp2
  go_ret2
  exact ⟨rfl, HB1.out⟩

set_option maxHeartbeats 1000000 in
theorem parse_w3 (s d : ByteArray) (m : Bool)  (w : World) (hcut : Hid (∀ W, Calls Tryz.prog 132 #[.string s, .string ⟨#[45]⟩] W fun e w' => e = .returned (.tuple #[.string d, .bool m]) ∧ W = w')) (h1 : wholeL d.toList = true) (h2 : m = true → (d.toList == [48]) = false) (HR : Hid (∀ W : World, Calls Tryz.prog 134 #[.string d] W fun e w' => e = .returned (.tuple #[.int .u64 0, .bool false]) ∧ Below W.heap.size W w')) :
    Calls Tryz.prog 114 #[.string s] w fun e w' => e = .returned (.tuple #[.int .i64 0, .int .i64 10]) ∧ Below w.heap.size w w' := by
  cases m
  all_goals
    try have h3 := h2 rfl
    clear h2
    go_enter Tryz.func114, Tryz.ntmps114
    go_wp2_with fail
    refine (hcut.out _).mono ?_
    rintro e w' ⟨rfl, rfl⟩
    go_wp2_with fail
    refine (whole_any _ _).mono ?_
    rintro e w1 ⟨rfl, hb1⟩
    have HB1 := Lib.hid hb1
    clear hb1
    go_wp2_with fail
    refine (HR.out _).mono ?_
    rintro e w2 ⟨rfl, hb2⟩
    have HB2 := Lib.hid hb2
    clear hb2
    go_wp2
    go_ret2
    exact ⟨rfl, HB1.out.trans (HB2.out.mono HB1.out.size)⟩

set_option maxHeartbeats 1000000 in
theorem parse_w4 (s d : ByteArray) (m : Bool) (n : Int) (w : World) (hcut : Hid (∀ W, Calls Tryz.prog 132 #[.string s, .string ⟨#[45]⟩] W fun e w' => e = .returned (.tuple #[.string d, .bool m]) ∧ W = w')) (h1 : wholeL d.toList = true) (h2 : m = true → (d.toList == [48]) = false) (HR : Hid (∀ W : World, Calls Tryz.prog 134 #[.string d] W fun e w' => e = .returned (.tuple #[.int .u64 n, .bool true]) ∧ Below W.heap.size W w')) (HS : Hid (∀ W : World, Calls Tryz.prog 135 #[.int .u64 n, .bool m] W fun e w' => e = .returned (.tuple #[.int .i64 0, .bool false]) ∧ W = w')) :
    Calls Tryz.prog 114 #[.string s] w fun e w' => e = .returned (.tuple #[.int .i64 0, .int .i64 10]) ∧ Below w.heap.size w w' := by
  cases m
  all_goals
    try have h3 := h2 rfl
    clear h2
    go_enter Tryz.func114, Tryz.ntmps114
    go_wp2_with fail
    refine (hcut.out _).mono ?_
    rintro e w' ⟨rfl, rfl⟩
    go_wp2_with fail
    refine (whole_any _ _).mono ?_
    rintro e w1 ⟨rfl, hb1⟩
    have HB1 := Lib.hid hb1
    clear hb1
    go_wp2_with fail
    refine (HR.out _).mono ?_
    rintro e w2 ⟨rfl, hb2⟩
    have HB2 := Lib.hid hb2
    clear hb2
    go_wp2_with fail
    refine (HS.out _).mono ?_
    rintro e w3 ⟨rfl, rfl⟩
    go_wp2
    go_ret2
    exact ⟨rfl, HB1.out.trans (HB2.out.mono HB1.out.size)⟩

set_option maxHeartbeats 1000000 in
theorem parse_w5 (s d : ByteArray) (m : Bool) (n r : Int) (w : World) (hcut : Hid (∀ W, Calls Tryz.prog 132 #[.string s, .string ⟨#[45]⟩] W fun e w' => e = .returned (.tuple #[.string d, .bool m]) ∧ W = w')) (h1 : wholeL d.toList = true) (h2 : m = true → (d.toList == [48]) = false) (HR : Hid (∀ W : World, Calls Tryz.prog 134 #[.string d] W fun e w' => e = .returned (.tuple #[.int .u64 n, .bool true]) ∧ Below W.heap.size W w')) (HS : Hid (∀ W : World, Calls Tryz.prog 135 #[.int .u64 n, .bool m] W fun e w' => e = .returned (.tuple #[.int .i64 r, .bool true]) ∧ W = w')) :
    Calls Tryz.prog 114 #[.string s] w fun e w' => e = .returned (.tuple #[.int .i64 r, .int .i64 0]) ∧ Below w.heap.size w w' := by
  cases m
  all_goals
    try have h3 := h2 rfl
    clear h2
    go_enter Tryz.func114, Tryz.ntmps114
    go_wp2_with fail
    refine (hcut.out _).mono ?_
    rintro e w' ⟨rfl, rfl⟩
    go_wp2_with fail
    refine (whole_any _ _).mono ?_
    rintro e w1 ⟨rfl, hb1⟩
    have HB1 := Lib.hid hb1
    clear hb1
    go_wp2_with fail
    refine (HR.out _).mono ?_
    rintro e w2 ⟨rfl, hb2⟩
    have HB2 := Lib.hid hb2
    clear hb2
    go_wp2_with fail
    refine (HS.out _).mono ?_
    rintro e w3 ⟨rfl, rfl⟩
    go_wp2
    go_ret2
    exact ⟨rfl, HB1.out.trans (HB2.out.mono HB1.out.size)⟩

/-- What Parse answers: a number and an error's number. -/
def parseN (m : Bool) (d : List UInt8) : Int := if m then -(valL d : Int) else (valL d : Int)
def digsOf (l : List UInt8) : List UInt8 := if minusB l then l.drop 1 else l
def parseArg (l : List UInt8) : Bool := !(wholeL (digsOf l)) || (minusB l && digsOf l == [48])
def parseV (l : List UInt8) : Int := if parseArg l then 0 else room (parseN (minusB l) (digsOf l))
def parseE (l : List UInt8) : Int := if parseArg l then 2 else if fitsB (parseN (minusB l) (digsOf l)) then 0 else 10

theorem parse_core (s d : ByteArray) (m : Bool) (w : World) (hcut : Hid (∀ W, Calls Tryz.prog 132 #[.string s, .string ⟨#[45]⟩] W fun e w' => e = .returned (.tuple #[.string d, .bool m]) ∧ W = w'))
    (hm : minusB s.toList = m) (hd : digsOf s.toList = d.toList) :
    Calls Tryz.prog 114 #[.string s] w fun e w' => e = .returned (.tuple #[.int .i64 (parseV s.toList), .int .i64 (parseE s.toList)]) ∧ Below w.heap.size w w' := by
  unfold parseV parseE parseArg
  rw [hm, hd]
  cases hw : wholeL d.toList
  · exact parse_w1 s d m w hcut hw
  · have hdig : DigsTo d d.size := by
      rw [digs_all]
      unfold wholeL at hw
      rw [Bool.and_eq_true] at hw
      exact hw.1
    cases hz : (m && d.toList == [48])
    · have hz' : m = true → (d.toList == [48]) = false := by intro e; subst e; simpa using hz
      simp only [Bool.not_true, Bool.or_false, Bool.false_eq_true, if_false]
      by_cases hbig : valL d.toList < Big
      · have hr := Lib.hid fun W => read_ok d W hdig hbig
        cases hf : fitsB (parseN m d.toList)
        · rw [room_no hf]
          refine parse_w4 s d m _ w hcut hw hz' hr (Lib.hid fun W => ?_)
          rw [fits_not] at hf
          cases m
          · exact signed_pos_no _ W (by simp only [parseN, Bool.false_eq_true, if_false] at hf; omega)
          · exact signed_neg_no _ W (by simp only [parseN, if_true] at hf; omega)
        · rw [room_ok hf]
          refine parse_w5 s d m _ _ w hcut hw hz' hr (Lib.hid fun W => ?_)
          rw [fits_iff] at hf
          cases m
          · simp only [parseN, Bool.false_eq_true, if_false] at hf ⊢; exact signed_pos_ok _ W (by omega) (by omega)
          · simp only [parseN, if_true] at hf ⊢; exact signed_neg_ok _ W (by omega) (by omega)
      · have hf : fitsB (parseN m d.toList) = false := by
          rw [fits_not]; unfold parseN; rw [big_eq] at hbig; split <;> omega
        rw [hf, room_no hf]
        exact parse_w3 s d m w hcut hw hz' (Lib.hid fun W => read_no d W hdig hbig)
    · rw [Bool.and_eq_true] at hz
      exact parse_w2 s d m w hcut hw hz.1 hz.2

theorem parse_any (s : ByteArray) (w : World) :
    Calls Tryz.prog 114 #[.string s] w fun e w' => e = .returned (.tuple #[.int .i64 (parseV s.toList), .int .i64 (parseE s.toList)]) ∧ Below w.heap.size w w' := by
  cases hm : minusB s.toList
  · exact parse_core s s false w (Lib.hid fun W => cut_no s W hm) hm (by simp [digsOf, hm])
  · refine parse_core s (s.extract 1 s.size) true w (Lib.hid fun W => cut_yes s W hm) hm ?_
    rw [toList_cut, ← toList_len, List.take_length]
    simp [digsOf, hm]
end Go.Proofs.YtllkimdlmnjoiaaGreatDoor.E8
namespace Go.Proofs.YtllkimdlmnjoiaaGreatDoor.E8
set_option maxRecDepth 100000
set_option maxRecDepth 100000
set_option maxRecDepth 100000
open Go.RowKit Go.Sort Go.Lib

end Go.Proofs.YtllkimdlmnjoiaaGreatDoor.E8
namespace Go.Proofs.YtllkimdlmnjoiaaGreatDoor.E8
set_option maxRecDepth 100000
set_option maxRecDepth 100000
set_option maxRecDepth 100000
open Go.RowKit Go.Sort Go.Lib

end Go.Proofs.YtllkimdlmnjoiaaGreatDoor.E8
namespace Go.Proofs.YtllkimdlmnjoiaaGreatDoor.E8
set_option maxRecDepth 100000
set_option maxRecDepth 100000
set_option maxRecDepth 100000
open Go.RowKit

end Go.Proofs.YtllkimdlmnjoiaaGreatDoor.E8

namespace Go.Proofs.YtllkimdlmnjoiaaGreatDoor.E8
set_option maxRecDepth 100000
set_option maxRecDepth 100000
set_option maxRecDepth 100000
open Go.RowKit

end Go.Proofs.YtllkimdlmnjoiaaGreatDoor.E8

namespace Go.Proofs.YtllkimdlmnjoiaaGreatDoor.E8
set_option maxRecDepth 100000
set_option maxRecDepth 100000
set_option maxRecDepth 100000
open Go.RowKit

end Go.Proofs.YtllkimdlmnjoiaaGreatDoor.E8



