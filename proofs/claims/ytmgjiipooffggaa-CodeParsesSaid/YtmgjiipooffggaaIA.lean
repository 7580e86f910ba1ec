/- Contracts of the small functions of package ints: upper, sizeOf, signed, plus, by, lastDigit; math/bits.Add64 and Mul64. For every argument of the parameters' types. -/
import Derived.Test.YtmgjiipooffggaaChecked
import Derived.Test.YtmgjiipooffggaaVA
import Derived.WalkKit
import Derived.Lib.Mul64
import Derived.Laws.Bits64b
import Derived.Laws.Externs
import Derived.Lib.Hide
import Derived.Below
import Derived.LoopTactic
import Derived.Deep.LoopGhost
import Derived.Lib.Walk
import Derived.Sort.WalkB12
import Derived.Lib.SlicesMore
import Derived.Lib.OwnBridge
import Derived.RegionTactic
import Derived.Laws.Cover4
import Derived.Deep.AppendLies
import Derived.OpenShut
import Derived.Laws.AppendOwnNone
import Derived.Deep.QuietTactic
import Derived.BigQuiet
namespace Go.Proofs.Ytmgjiipooffggaa
set_option maxRecDepth 100000
open Go.RowKit

theorem ret_int_bool {k : IntKind} {a b : Int} {c : Bool} (h : a = b) : Ending.returned (.tuple #[.int k a, .bool c]) = .returned (.tuple #[.int k b, .bool c]) := by rw [h]

set_option maxHeartbeats 400000 in
theorem sizeOf_neg (n : Int) (w : World) (h : n < 0) (h1 : -9223372036854775808 ≤ n) :
    Calls Try.prog 72 #[.int .i64 n] w fun e w' => e = .returned (.int .u64 (n.natAbs : Int)) ∧ w = w' := by
  go_enter Try.func72, Try.ntmps72
  go_wp2
  go_ret
  exact ⟨ret_int (by simp only [IntKind.wrap_u64]; omega), rfl⟩

set_option maxHeartbeats 400000 in
theorem sizeOf_pos (n : Int) (w : World) (h : 0 ≤ n) (h1 : n ≤ 9223372036854775807) :
    Calls Try.prog 72 #[.int .i64 n] w fun e w' => e = .returned (.int .u64 (n.natAbs : Int)) ∧ w = w' := by
  go_enter Try.func72, Try.ntmps72
  go_wp2
  go_ret
  exact ⟨ret_int (by omega), rfl⟩

theorem sizeOf_any (n : Int) (w : World) (h0 : -9223372036854775808 ≤ n) (h1 : n ≤ 9223372036854775807) :
    Calls Try.prog 72 #[.int .i64 n] w fun e w' => e = .returned (.int .u64 (n.natAbs : Int)) ∧ w = w' := by
  by_cases h : n < 0
  · exact sizeOf_neg n w h h0
  · exact sizeOf_pos n w (by omega) h1

theorem add64_any (x y c : Int) (w : World) (hx : 0 ≤ x) (hy : 0 ≤ y) (hc0 : 0 ≤ c) (hc : c ≤ 1) :
    (callFunc 104 #[.int .u64 x, .int .u64 y, .int .u64 c]).run Try.prog w =
      .ok (.value (.tuple #[.int .u64 ((x + y + c) % 18446744073709551616), .int .u64 ((x + y + c) / 18446744073709551616)])) w := by
  rw [run_callFunc_extern Try.func104 (by kernel_rfl) (by kernel_rfl) (by kernel_rfl) (e := add64Entry) (by kernel_rfl), run_add64 x y c hx hy hc0 hc]
  simp only [Result.andThen]

namespace Mul64
theorem maskN (a : Nat) (ha : a < 18446744073709551616) : bits .and .u64 (a : Int) 4294967295 = ((a % 4294967296 : Nat) : Int) := by
  have h := bits_and_u64_nat a 4294967295 ha (by omega)
  have e : a &&& 4294967295 = a % 4294967296 := Nat.and_two_pow_sub_one_eq_mod a 32
  rw [e] at h
  exact h
theorem divN (a : Nat) : (a : Int) / 4294967296 = ((a / 4294967296 : Nat) : Int) := by omega
theorem mulN (a b : Nat) : (a : Int) * (b : Int) = ((a * b : Nat) : Int) := (Int.natCast_mul a b).symm
theorem addN (a b : Nat) : (a : Int) + (b : Int) = ((a + b : Nat) : Int) := (Int.natCast_add a b).symm
theorem wrapN (a : Nat) (ha : a < 18446744073709551616) : IntKind.u64.wrap (a : Int) = (a : Int) := by rw [IntKind.wrap_u64]; omega
theorem wrapM (a : Nat) : IntKind.u64.wrap (a : Int) = ((a % 18446744073709551616 : Nat) : Int) := by rw [IntKind.wrap_u64]; omega
end Mul64

set_option maxHeartbeats 1000000 in
theorem mul64_any (x y : Nat) (hx : x < 18446744073709551616) (hy : y < 18446744073709551616) (w : World) :
    Calls Try.prog 103 #[.int .u64 x, .int .u64 y] w fun e w' => e = .returned (.tuple #[.int .u64 ((x * y / 18446744073709551616 : Nat) : Int), .int .u64 ((x * y % 18446744073709551616 : Nat) : Int)]) ∧ w = w' := by
  obtain ⟨bd, bt, bw, hhi⟩ := Lib.mul64_hi x y hx hy
  have ba := Lib.half_mul_le (a := x / 4294967296) (b := y / 4294967296) (by omega) (by omega)
  have bb := Lib.half_mul_le (a := x / 4294967296) (b := y % 4294967296) (by omega) (by omega)
  have bc := Lib.half_mul_le (a := x % 4294967296) (b := y / 4294967296) (by omega) (by omega)
  have ba' : x / 4294967296 * (y / 4294967296) < 18446744073709551616 := by omega
  have bb' : x / 4294967296 * (y % 4294967296) < 18446744073709551616 := by omega
  have bc' : x % 4294967296 * (y / 4294967296) < 18446744073709551616 := by omega
  have bh1 : x / 4294967296 * (y / 4294967296) + (x / 4294967296 * (y % 4294967296) + x % 4294967296 * (y % 4294967296) / 4294967296) / 4294967296 < 18446744073709551616 := by omega
  have bh : x / 4294967296 * (y / 4294967296) + (x / 4294967296 * (y % 4294967296) + x % 4294967296 * (y % 4294967296) / 4294967296) / 4294967296 + ((x / 4294967296 * (y % 4294967296) + x % 4294967296 * (y % 4294967296) / 4294967296) % 4294967296 + x % 4294967296 * (y / 4294967296)) / 4294967296 < 18446744073709551616 := by omega
  go_enter Try.func103, Try.ntmps103
  go_wp2
  simp only [Mul64.maskN x hx, Mul64.maskN y hy, Mul64.divN, Mul64.mulN, Mul64.addN, Mul64.wrapN _ bd, Mul64.wrapN _ bb', Mul64.wrapN _ bt, Mul64.maskN _ bt, Mul64.wrapN _ bc', Mul64.wrapN _ bw, Mul64.wrapN _ ba', Mul64.wrapN _ bh1, Mul64.wrapN _ bh, Mul64.wrapM (x * y)]
  rw [hhi]
  go_ret2
  exact ⟨rfl, rfl⟩

set_option maxHeartbeats 400000 in
theorem signed_neg_ok (n : Int) (w : World) (h0 : 0 ≤ n) (h1 : n ≤ 9223372036854775808) :
    Calls Try.prog 97 #[.int .u64 n, .bool true] w fun e w' => e = .returned (.tuple #[.int .i64 (-n), .bool true]) ∧ w = w' := by
  go_enter Try.func97, Try.ntmps97
  go_wp2
  go_ret2
  exact ⟨ret_int_bool (by simp only [IntKind.wrap_u64]; unfold wrap64; omega), rfl⟩

set_option maxHeartbeats 400000 in
theorem signed_neg_no (n : Int) (w : World) (h1 : 9223372036854775808 < n) :
    Calls Try.prog 97 #[.int .u64 n, .bool true] w fun e w' => e = .returned (.tuple #[.int .i64 0, .bool false]) ∧ w = w' := by
  go_enter Try.func97, Try.ntmps97
  go_wp2
  go_ret2
  exact ⟨rfl, rfl⟩

set_option maxHeartbeats 400000 in
theorem signed_pos_ok (n : Int) (w : World) (h0 : 0 ≤ n) (h1 : n ≤ 9223372036854775807) :
    Calls Try.prog 97 #[.int .u64 n, .bool false] w fun e w' => e = .returned (.tuple #[.int .i64 n, .bool true]) ∧ w = w' := by
  go_enter Try.func97, Try.ntmps97
  go_wp2
  go_ret2
  exact ⟨rfl, rfl⟩

set_option maxHeartbeats 400000 in
theorem signed_pos_no (n : Int) (w : World) (h1 : 9223372036854775807 < n) :
    Calls Try.prog 97 #[.int .u64 n, .bool false] w fun e w' => e = .returned (.tuple #[.int .i64 0, .bool false]) ∧ w = w' := by
  go_enter Try.func97, Try.ntmps97
  go_wp2
  go_ret2
  exact ⟨rfl, rfl⟩

set_option maxHeartbeats 400000 in
theorem lastDigit_any (n : Int) (w : World) (h0 : 0 ≤ n) (h1 : n ≤ 9223372036854775808) :
    Calls Try.prog 73 #[.int .u64 n] w fun e w' => e = .returned (.int .i32 (48 + n % 10)) ∧ w = w' := by
  go_enter Try.func73, Try.ntmps73
  go_wp2
  go_ret
  exact ⟨rfl, rfl⟩
end Go.Proofs.Ytmgjiipooffggaa

/- Contracts of ints.plus and ints.by: the sum and the product of two numbers, or that they have no room. For every two numbers of 64 bits. -/
namespace Go.Proofs.Ytmgjiipooffggaa
set_option maxRecDepth 100000
open Go.RowKit

def fitsB (n : Int) : Bool := decide (-9223372036854775808 ≤ n ∧ n ≤ 9223372036854775807)
theorem fits_iff (n : Int) : fitsB n = true ↔ (-9223372036854775808 ≤ n ∧ n ≤ 9223372036854775807) := by simp [fitsB]
theorem fits_not (n : Int) : fitsB n = false ↔ ¬ (-9223372036854775808 ≤ n ∧ n ≤ 9223372036854775807) := by simp only [fitsB, decide_eq_false_iff_not]
/-- What has room, or 0. -/
def room (n : Int) : Int := if fitsB n then n else 0

theorem room_ok {n : Int} (h : fitsB n = true) : room n = n := by simp [room, h]
theorem room_no {n : Int} (h : fitsB n = false) : room n = 0 := by simp [room, h]

end Go.Proofs.Ytmgjiipooffggaa

/- Contracts of ints.Add and ints.Mul over a slice of numbers of 64 bits, of ints.Times and ints.Neg. -/
namespace Go.Proofs.Ytmgjiipooffggaa
set_option maxRecDepth 100000
open Go.RowKit

/-- A slice that reads as a list of ints, below block B. -/
def Ints (w : World) (B : Nat) (A : Option Addr) (n : Nat) (l : List Int) : Prop :=
  l.length = n ∧ n ≤ 140737488355328 ∧ (∀ x ∈ l, fitsB x = true) ∧ (0 < n → ∃ b off, A = some ⟨b, off, none⟩ ∧ b < B ∧ ∀ j, j < n → w.cell? ⟨b, off + j, none⟩ = some (.int .i64 (l.getD j 0)))

theorem drop_cons (l : List Int) (k : Nat) (h : k < l.length) : l.drop k = l.getD k 0 :: l.drop (k + 1) := by
  rw [List.drop_eq_getElem_cons h]; simp [h]
end Go.Proofs.Ytmgjiipooffggaa

/- Contracts of ints.whole and ints.read at any string. -/
namespace Go.Proofs.Ytmgjiipooffggaa
set_option maxRecDepth 100000
open Go.RowKit

def digB (c : UInt8) : Bool := decide (48 ≤ c.toNat ∧ c.toNat ≤ 57)
/-- The first k bytes are digits. -/
def DigsTo (s : ByteArray) (k : Nat) : Prop := ∀ i (h : i < s.size), i < k → digB (s[i]'h) = true

theorem below_iter (w : World) (s : ByteArray) (pos : Nat) : Below w.heap.size w (w.iter s pos) := (Below.refl w.heap.size w).alloc (Nat.le_refl _) (.stringIter s pos)

theorem digs_next (s : ByteArray) (k : Nat) (hk : k < s.size) (h : DigsTo s k) (hd : digB s[k] = true) : DigsTo s (k + 1) := by
  intro i hi hik
  by_cases h' : i = k
  · subst h'; exact hd
  · exact h i hi (by omega)

set_option maxHeartbeats 400000 in
theorem whole_not (s : ByteArray) (w : World) (hn : ¬ DigsTo s s.size) :
    Calls Try.prog 95 #[.string s] w fun e w' => e = .returned (.bool false) ∧ Below w.heap.size w w' := by
  have HN := Lib.hid hn
  clear hn
  go_enter Try.func95, Try.ntmps95
  go_wp2
  go_loopw [] (fun w' => ∃ pos : Nat, w' = w.iter s pos ∧ pos ≤ s.size ∧ Hid (DigsTo s pos)) (fun w' => s.size - w'.iterPos w.heap.size)
  case atStart => exact ⟨0, rfl, by omega, Lib.hid (fun i _ h => absurd h (by omega))⟩
  case round =>
    obtain ⟨pos, rfl, hp, hd⟩ := hrel
    by_cases hlt : pos < s.size
    · by_cases ha : (s[pos]'hlt).toNat < 128
      · have hnx := fun ty => run_next_ascii (P := Try.prog) w s pos ty hlt ha
        by_cases hb : digB (s[pos]'hlt) = true
        · have HD := Lib.hid (digs_next s pos hlt hd.out hb)
          have hb' : 48 ≤ (s[pos]'hlt).toNat ∧ (s[pos]'hlt).toNat ≤ 57 := by simpa [digB] using hb
          clear hb
          generalize (s[pos]'hlt).toNat = c at *
          go_wp2
          go_roundw
          case rel => exact ⟨pos + 1, rfl, by omega, HD⟩
          case measure => simp; omega
        · have hb' : ¬ (48 ≤ (s[pos]'hlt).toNat ∧ (s[pos]'hlt).toNat ≤ 57) := by simpa [digB] using hb
          clear hb
          generalize (s[pos]'hlt).toNat = c at *
          rcases Nat.lt_or_ge c 48 with h1 | h1
          · go_wp2
            go_ret
            exact ⟨rfl, below_iter _ _ _⟩
          · go_wp2
            go_ret
            exact ⟨rfl, below_iter _ _ _⟩
      · have hnx := fun ty => run_next_any (P := Try.prog) w s pos ty hlt
        have hr := (decode_high s pos hlt (by omega)).1
        generalize Utf8.decode s pos = rd at *
        go_wp2
        go_ret
        exact ⟨rfl, below_iter _ _ _⟩
    · exact absurd (fun i h _ => hd.out i h (by omega)) HN.out

/-- The digits of a whole number that is not below 0. -/
def wholeL (l : List UInt8) : Bool := l.all digB && (l == [48] || (!l.isEmpty && l.headD 0 != 48))

set_option maxHeartbeats 400000 in
theorem whole_zero (s : ByteArray) (w : World) (hn : DigsTo s s.size) (h1 : s.toList = [48]) :
    Calls Try.prog 95 #[.string s] w fun e w' => e = .returned (.bool true) ∧ Below w.heap.size w w' := by
  have HN := Lib.hid hn
  clear hn
  go_enter Try.func95, Try.ntmps95
  go_wp2
  go_loopw [] (fun w' => ∃ pos : Nat, w' = w.iter s pos ∧ pos ≤ s.size) (fun w' => s.size - w'.iterPos w.heap.size)
  case atStart => exact ⟨0, rfl, by omega⟩
  case round =>
    obtain ⟨pos, rfl, hp⟩ := hrel
    by_cases hlt : pos < s.size
    · have hb := HN.out pos hlt hlt
      have hb' : 48 ≤ (s[pos]'hlt).toNat ∧ (s[pos]'hlt).toNat ≤ 57 := by simpa [digB] using hb
      have hnx := fun ty => run_next_ascii (P := Try.prog) w s pos ty hlt (by omega)
      clear hb h1
      generalize (s[pos]'hlt).toNat = c at *
      go_wp2
      go_roundw
      case rel => exact ⟨pos + 1, rfl, by omega⟩
      case measure => simp; omega
    · have hnx := fun ty => run_next_end (P := Try.prog) w s pos ty hlt
      go_wp2
      go_ret
      exact ⟨rfl, below_iter _ _ _⟩

set_option maxHeartbeats 400000 in
theorem whole_empty (s : ByteArray) (w : World) (hn : DigsTo s s.size) (h1 : (s.toList == [48]) = false) (h2 : (!s.toList.isEmpty) = false) :
    Calls Try.prog 95 #[.string s] w fun e w' => e = .returned (.bool false) ∧ Below w.heap.size w w' := by
  have HN := Lib.hid hn
  clear hn
  go_enter Try.func95, Try.ntmps95
  go_wp2
  go_loopw [] (fun w' => ∃ pos : Nat, w' = w.iter s pos ∧ pos ≤ s.size) (fun w' => s.size - w'.iterPos w.heap.size)
  case atStart => exact ⟨0, rfl, by omega⟩
  case round =>
    obtain ⟨pos, rfl, hp⟩ := hrel
    by_cases hlt : pos < s.size
    · have hb := HN.out pos hlt hlt
      have hb' : 48 ≤ (s[pos]'hlt).toNat ∧ (s[pos]'hlt).toNat ≤ 57 := by simpa [digB] using hb
      have hnx := fun ty => run_next_ascii (P := Try.prog) w s pos ty hlt (by omega)
      clear hb h1 h2
      generalize (s[pos]'hlt).toNat = c at *
      go_wp2
      go_roundw
      case rel => exact ⟨pos + 1, rfl, by omega⟩
      case measure => simp; omega
    · have hnx := fun ty => run_next_end (P := Try.prog) w s pos ty hlt
      go_wp2
      go_ret
      exact ⟨rfl, below_iter _ _ _⟩

set_option maxHeartbeats 400000 in
theorem whole_more (s : ByteArray) (w : World) (hn : DigsTo s s.size) (h0 : 0 < s.size) (t : Bool) (h1 : (s.toList == [48]) = false) (h2 : (!s.toList.isEmpty) = true) (h3 : (((s[0]'h0).toNat : Int) != 48) = t) :
    Calls Try.prog 95 #[.string s] w fun e w' => e = .returned (.bool t) ∧ Below w.heap.size w w' := by
  have HN := Lib.hid hn
  clear hn
  go_enter Try.func95, Try.ntmps95
  go_wp2
  go_loopw [] (fun w' => ∃ pos : Nat, w' = w.iter s pos ∧ pos ≤ s.size) (fun w' => s.size - w'.iterPos w.heap.size)
  case atStart => exact ⟨0, rfl, by omega⟩
  case round =>
    obtain ⟨pos, rfl, hp⟩ := hrel
    by_cases hlt : pos < s.size
    · have hb := HN.out pos hlt hlt
      have hb' : 48 ≤ (s[pos]'hlt).toNat ∧ (s[pos]'hlt).toNat ≤ 57 := by simpa [digB] using hb
      have hnx := fun ty => run_next_ascii (P := Try.prog) w s pos ty hlt (by omega)
      clear hb h1 h2 h3
      generalize (s[pos]'hlt).toNat = c at *
      go_wp2
      go_roundw
      case rel => exact ⟨pos + 1, rfl, by omega⟩
      case measure => simp; omega
    · have hnx := fun ty => run_next_end (P := Try.prog) w s pos ty hlt
      go_wp2
      go_ret
      exact ⟨rfl, below_iter _ _ _⟩

theorem digs_all (s : ByteArray) : DigsTo s s.size ↔ s.toList.all digB = true := by
  rw [ByteArray.toList_eq, List.all_eq_true]
  constructor
  · intro h x hx
    obtain ⟨i, hi, rfl⟩ := List.mem_iff_getElem.1 hx
    have hi' : i < s.size := by simpa using hi
    have := h i hi' hi'
    rwa [show s[i]'hi' = s.data.toList[i]'hi from by simp; rfl] at this
  · intro h i hi _
    apply h
    have : s[i]'hi = s.data.toList[i]'(by simpa using hi) := by simp; rfl
    rw [this]
    exact List.getElem_mem _

theorem whole_any (s : ByteArray) (w : World) :
    Calls Try.prog 95 #[.string s] w fun e w' => e = .returned (.bool (wholeL s.toList)) ∧ Below w.heap.size w w' := by
  by_cases hd : DigsTo s s.size
  · have ha := (digs_all s).1 hd
    by_cases h1 : s.toList = [48]
    · have := whole_zero s w hd h1
      rwa [show wholeL s.toList = true from by rw [h1]; decide]
    · have h1' : (s.toList == [48]) = false := by simp [h1]
      by_cases h2 : s.toList = []
      · have := whole_empty s w hd h1' (by simp [h2])
        rwa [show wholeL s.toList = false from by rw [h2]; decide]
      · have hs : s.toList.length = s.size := by rw [ByteArray.toList_eq]; simp
        have h0 : 0 < s.size := by
          rcases Nat.eq_zero_or_pos s.size with h | h
          · rw [h] at hs; exact absurd (List.eq_nil_of_length_eq_zero hs) h2
          · exact h
        have hh : s.toList.headD 0 = s[0]'h0 := by
          rw [ByteArray.toList_eq]
          have hz : 0 < s.data.toList.length := by simpa using h0
          cases hq : s.data.toList with
          | nil => rw [hq] at hz; simp at hz
          | cons c r =>
            have e : s[0]'h0 = s.data.toList[0]'hz := by simp; rfl
            rw [e]; simp [hq]
        have := whole_more s w hd h0 _ h1' (by simp [h2]) rfl
        rwa [show wholeL s.toList = (((s[0]'h0).toNat : Int) != 48) from ?_]
        unfold wholeL
        rw [ha, h1', hh]
        have h3 : (!s.toList.isEmpty) = true := by simp [h2]
        rw [h3, Bool.true_and, Bool.false_or, Bool.true_and]
        rw [Bool.eq_iff_iff, bne_iff_ne, bne_iff_ne, ne_eq, ne_eq, ← UInt8.toNat_inj]
        rw [show (48 : UInt8).toNat = 48 from rfl]
        omega
  · have := whole_not s w hd
    rwa [show wholeL s.toList = false from ?_]
    have : s.toList.all digB = false := by
      cases h : s.toList.all digB
      · rfl
      · exact absurd ((digs_all s).2 h) hd
    simp only [wholeL, this, Bool.false_and]
end Go.Proofs.Ytmgjiipooffggaa
/- Contract of ints.read at any string of digits: the number, or that 64 bits have no room for it. -/
namespace Go.Proofs.Ytmgjiipooffggaa
set_option maxRecDepth 100000
open Go.RowKit

def valStep (n : Nat) (c : UInt8) : Nat := n * 10 + (c.toNat - 48)
/-- The number that digits tell. -/
def valL (l : List UInt8) : Nat := l.foldl valStep 0
def Big : Nat := 18446744073709551616
theorem big_eq : Big = 18446744073709551616 := rfl

theorem foldl_ge (l : List UInt8) : ∀ n, n ≤ l.foldl valStep n := by
  induction l with
  | nil => intro n; exact Nat.le_refl _
  | cons c r ih => intro n; exact Nat.le_trans (by unfold valStep; omega) (ih (valStep n c))

theorem mulTen (n : Nat) (hn : n < Big) (w : World) :
    Calls Try.prog 103 #[.int .u64 (n : Int), .int .u64 10] w fun e w' => e = .returned (.tuple #[.int .u64 ((n * 10 / Big : Nat) : Int), .int .u64 ((n * 10 % Big : Nat) : Int)]) ∧ w = w' :=
  mul64_any n 10 hn (by decide) w

theorem val_take (s : ByteArray) (k : Nat) (hk : k < s.size) : valL (s.toList.take (k + 1)) = valStep (valL (s.toList.take k)) (s[k]'hk) := by
  have hl : k < s.toList.length := by rw [ByteArray.toList_eq]; simpa using hk
  have e : s.toList[k]'hl = s[k]'hk := by simp only [ByteArray.toList_eq]; simp; rfl
  rw [List.take_succ_eq_append_getElem hl, e]
  simp [valL, List.foldl_append]

theorem val_take_le (s : ByteArray) (k : Nat) : valL (s.toList.take k) ≤ valL s.toList := by
  conv => rhs; rw [← List.take_append_drop k s.toList]
  unfold valL
  rw [List.foldl_append]
  exact foldl_ge _ _

theorem addDigit (n c : Nat) (hc : 48 ≤ c) (W : World) : (callFunc 104 #[.int .u64 ((n * 10 % Big : Nat) : Int), .int .u64 ((c : Int) - 48), .int .u64 0]).run Try.prog W = .ok (.value (.tuple #[.int .u64 (((n * 10 % Big + (c - 48)) % Big : Nat) : Int), .int .u64 (((n * 10 % Big + (c - 48)) / Big : Nat) : Int)])) W := by
  rw [add64_any _ _ 0 W (by omega) (by omega) (by omega) (by omega)]
  simp only [Big]
  rw [show ((n * 10 % 18446744073709551616 : Nat) : Int) + ((c : Int) - 48) + 0 = ((n * 10 % 18446744073709551616 + (c - 48) : Nat) : Int) from by omega]
  congr 6

set_option maxHeartbeats 1000000 in
theorem read_ok (s : ByteArray) (w : World) (hn : DigsTo s s.size) (hv0 : valL s.toList < Big) :
    Calls Try.prog 96 #[.string s] w fun e w' => e = .returned (.tuple #[.int .u64 (valL s.toList), .bool true]) ∧ Below w.heap.size w w' := by
  have HN := Lib.hid hn
  have H0 := Lib.hid hv0
  clear hn hv0
  go_enter Try.func96, Try.ntmps96
  go_wp2
  go_loopw [4] (fun v w' => ∃ (pos n : Nat), w' = w.iter s pos ∧ pos ≤ s.size ∧ v = .int .u64 n ∧ Hid (n = valL (s.toList.take pos)) ∧ Hid (n < Big)) (fun _ w' => s.size - w'.iterPos w.heap.size)
  case atStart => exact ⟨0, 0, rfl, by omega, rfl, Lib.hid (by simp [valL]), Lib.hid (by simp [Big])⟩
  case round =>
    obtain ⟨pos, n, rfl, hp, rfl, hv, hbig⟩ := hrel
    by_cases hlt : pos < s.size
    · have hb := HN.out pos hlt hlt
      have hb' : 48 ≤ (s[pos]'hlt).toNat ∧ (s[pos]'hlt).toNat ≤ 57 := by simpa [digB] using hb
      have hnx := fun ty => run_next_ascii (P := Try.prog) w s pos ty hlt (by omega)
      have HV := Lib.hid (val_take s pos hlt)
      have HT := Lib.hid (val_take_le s (pos + 1))
      clear hb
      have HM := Lib.hid (mulTen n hbig.out)
      unfold valStep at HV
      generalize (s[pos]'hlt).toNat = c at *
      have HA := Lib.hid (addDigit n c hb'.1)
      by_cases hB : n * 10 + (c - 48) < Big
      · have HF := Lib.hid hB
        have HV2 : Hid (n * 10 + (c - 48) = valL (s.toList.take (pos + 1))) := Lib.hid (by rw [HV.out, hv.out])
        have e1 : n * 10 / Big = 0 := by unfold Big at *; omega
        have e2 : n * 10 % Big = n * 10 := by unfold Big at *; omega
        have e3 : (n * 10 + (c - 48)) / Big = 0 := by unfold Big at *; omega
        have e4 : (n * 10 + (c - 48)) % Big = n * 10 + (c - 48) := by unfold Big at *; omega
        rw [e2] at HA HM
        rw [e1] at HM
        rw [e3, e4] at HA
        clear e1 e2 e3 e4 hB HV
        generalize n * 10 = lo at HA HM HF HV2
        have ha := HA.out
        clear HA
        generalize lo + (c - 48) = sum at ha HF HV2
        go_wp2_with (go_at_call 103; refine (HM.out _).mono ?_; rintro e w' ⟨rfl, rfl⟩)
        go_roundw
        case rel => exact ⟨pos + 1, sum, rfl, by omega, rfl, HV2, HF⟩
        case measure => simp; omega
      · exact absurd (Nat.lt_of_le_of_lt HT.out H0.out) (by rw [HV.out, ← hv.out]; exact hB)
    · have hnx := fun ty => run_next_end (P := Try.prog) w s pos ty hlt
      have HE : Hid (n = valL s.toList) := Lib.hid (by
        rw [hv.out, List.take_of_length_le]
        rw [ByteArray.toList_eq]
        show s.size ≤ pos
        omega)
      go_wp2
      go_ret2
      exact ⟨ret_int_bool (by rw [HE.out]), below_iter _ _ _⟩

set_option maxHeartbeats 1000000 in
theorem read_no (s : ByteArray) (w : World) (hn : DigsTo s s.size) (hv0 : ¬ valL s.toList < Big) :
    Calls Try.prog 96 #[.string s] w fun e w' => e = .returned (.tuple #[.int .u64 0, .bool false]) ∧ Below w.heap.size w w' := by
  have HN := Lib.hid hn
  have H0 := Lib.hid hv0
  clear hn hv0
  go_enter Try.func96, Try.ntmps96
  go_wp2
  go_loopw [4] (fun v w' => ∃ (pos n : Nat), w' = w.iter s pos ∧ pos ≤ s.size ∧ v = .int .u64 n ∧ Hid (n = valL (s.toList.take pos)) ∧ Hid (n < Big)) (fun _ w' => s.size - w'.iterPos w.heap.size)
  case atStart => exact ⟨0, 0, rfl, by omega, rfl, Lib.hid (by simp [valL]), Lib.hid (by simp [Big])⟩
  case round =>
    obtain ⟨pos, n, rfl, hp, rfl, hv, hbig⟩ := hrel
    by_cases hlt : pos < s.size
    · have hb := HN.out pos hlt hlt
      have hb' : 48 ≤ (s[pos]'hlt).toNat ∧ (s[pos]'hlt).toNat ≤ 57 := by simpa [digB] using hb
      have hnx := fun ty => run_next_ascii (P := Try.prog) w s pos ty hlt (by omega)
      have HV := Lib.hid (val_take s pos hlt)
      have HT := Lib.hid (val_take_le s (pos + 1))
      clear hb
      have HM := Lib.hid (mulTen n hbig.out)
      unfold valStep at HV
      generalize (s[pos]'hlt).toNat = c at *
      have HA := Lib.hid (addDigit n c hb'.1)
      by_cases hB : n * 10 + (c - 48) < Big
      · have HF := Lib.hid hB
        have HV2 : Hid (n * 10 + (c - 48) = valL (s.toList.take (pos + 1))) := Lib.hid (by rw [HV.out, hv.out])
        have e1 : n * 10 / Big = 0 := by unfold Big at *; omega
        have e2 : n * 10 % Big = n * 10 := by unfold Big at *; omega
        have e3 : (n * 10 + (c - 48)) / Big = 0 := by unfold Big at *; omega
        have e4 : (n * 10 + (c - 48)) % Big = n * 10 + (c - 48) := by unfold Big at *; omega
        rw [e2] at HA HM
        rw [e1] at HM
        rw [e3, e4] at HA
        clear e1 e2 e3 e4 hB HV
        generalize n * 10 = lo at HA HM HF HV2
        have ha := HA.out
        clear HA
        generalize lo + (c - 48) = sum at ha HF HV2
        go_wp2_with (go_at_call 103; refine (HM.out _).mono ?_; rintro e w' ⟨rfl, rfl⟩)
        go_roundw
        case rel => exact ⟨pos + 1, sum, rfl, by omega, rfl, HV2, HF⟩
        case measure => simp; omega
      · have HO : Hid (n * 10 / Big ≠ 0 ∨ n * 10 / Big = 0 ∧ (n * 10 % Big + (c - 48)) / Big ≠ 0) := Lib.hid (by unfold Big at *; omega)
        clear HV hB
        generalize n * 10 % Big = lo at HA HM HO
        generalize n * 10 / Big = hi at HM HO
        have ha := HA.out
        clear HA
        generalize (lo + (c - 48)) / Big = ca at ha HO
        generalize (lo + (c - 48)) % Big = sum at ha
        rcases HO.out with h1 | ⟨h1, h2⟩
        · have t1 : ((hi : Int) != 0) = true := by rw [bne_iff_ne]; omega
          clear h1
          go_wp2_with (go_at_call 103; refine (HM.out _).mono ?_; rintro e w' ⟨rfl, rfl⟩)
          go_ret2
          exact ⟨rfl, below_iter _ _ _⟩
        · subst h1
          have t2 : ((ca : Int) != 0) = true := by rw [bne_iff_ne]; omega
          clear h2
          go_wp2_with (go_at_call 103; refine (HM.out _).mono ?_; rintro e w' ⟨rfl, rfl⟩)
          go_ret2
          exact ⟨rfl, below_iter _ _ _⟩
    · exact absurd (by
        have := hbig.out
        rw [hv.out, List.take_of_length_le] at this
        · exact this
        · rw [ByteArray.toList_eq]
          show s.size ≤ pos
          omega) H0.out
end Go.Proofs.Ytmgjiipooffggaa
/- Contract of strings.CutPrefix at the prefix "-", and of ints.Parse at any string. -/
namespace Go.Proofs.Ytmgjiipooffggaa
set_option maxRecDepth 100000
open Go.RowKit

theorem toList_len (s : ByteArray) : s.toList.length = s.size := by rw [ByteArray.toList_eq]; simp
theorem toList_cut (s : ByteArray) (i j : Nat) : (s.extract i j).toList = (s.toList.take j).drop i := by
  simp [ByteArray.toList_eq, ByteArray.data_extract, List.drop_take]

/-- It opens with a minus. -/
def minusB (l : List UInt8) : Bool := l.take 1 == [45]

set_option maxHeartbeats 400000 in
theorem cut_yes (s : ByteArray) (w : World) (h : minusB s.toList = true) :
    Calls Try.prog 94 #[.string s, .string ⟨#[45]⟩] w fun e w' => e = .returned (.tuple #[.string (s.extract 1 s.size), .bool true]) ∧ w = w' := by
  have h1 : 1 ≤ (s.size : Int) := by
    have := toList_len s
    cases hq : s.toList with
    | nil => rw [hq] at h; exact absurd h (by decide)
    | cons c r => rw [hq] at this; simp at this; omega
  have h2 : ((s.extract 0 1).toList == [45]) = true := by rw [toList_cut]; simpa [minusB] using h
  clear h
  go_enter Try.func94, Try.ntmps94
  go_wp2
  go_ret2
  exact ⟨rfl, rfl⟩

set_option maxHeartbeats 400000 in
theorem cut_no (s : ByteArray) (w : World) (h : minusB s.toList = false) :
    Calls Try.prog 94 #[.string s, .string ⟨#[45]⟩] w fun e w' => e = .returned (.tuple #[.string s, .bool false]) ∧ w = w' := by
  have h2 : ((s.extract 0 1).toList == [45]) = false := by rw [toList_cut]; simpa [minusB] using h
  clear h
  by_cases h1 : 1 ≤ (s.size : Int)
  all_goals
    go_enter Try.func94, Try.ntmps94
    go_wp2
    go_ret2
    exact ⟨rfl, rfl⟩

set_option maxHeartbeats 1000000 in
theorem parse_w1 (s d : ByteArray) (m : Bool)  (w : World) (hcut : Hid (∀ W, Calls Try.prog 94 #[.string s, .string ⟨#[45]⟩] W fun e w' => e = .returned (.tuple #[.string d, .bool m]) ∧ W = w')) (h1 : wholeL d.toList = false) :
    Calls Try.prog 79 #[.string s] w fun e w' => e = .returned (.tuple #[.int .i64 0, .int .i64 2]) ∧ Below w.heap.size w w' := by

  go_enter Try.func79, Try.ntmps79
  go_wp2_with fail
  refine (hcut.out _).mono ?_
  rintro e w' ⟨rfl, rfl⟩
  go_wp2_with fail
  refine (whole_any _ _).mono ?_
  rintro e w1 ⟨rfl, hb1⟩
  have HB1 := Lib.hid hb1
  clear hb1
  go_wp2
  go_ret2
  exact ⟨rfl, HB1.out⟩

set_option maxHeartbeats 1000000 in
theorem parse_w2 (s d : ByteArray) (m : Bool)  (w : World) (hcut : Hid (∀ W, Calls Try.prog 94 #[.string s, .string ⟨#[45]⟩] W fun e w' => e = .returned (.tuple #[.string d, .bool m]) ∧ W = w')) (h1 : wholeL d.toList = true) (h2 : m = true) (h3 : (d.toList == [48]) = true) :
    Calls Try.prog 79 #[.string s] w fun e w' => e = .returned (.tuple #[.int .i64 0, .int .i64 2]) ∧ Below w.heap.size w w' := by
  subst h2
  go_enter Try.func79, Try.ntmps79
  go_wp2_with fail
  refine (hcut.out _).mono ?_
  rintro e w' ⟨rfl, rfl⟩
  go_wp2_with fail
  refine (whole_any _ _).mono ?_
  rintro e w1 ⟨rfl, hb1⟩
  have HB1 := Lib.hid hb1
  clear hb1
  go_wp2
  go_ret2
  exact ⟨rfl, HB1.out⟩

set_option maxHeartbeats 1000000 in
theorem parse_w3 (s d : ByteArray) (m : Bool)  (w : World) (hcut : Hid (∀ W, Calls Try.prog 94 #[.string s, .string ⟨#[45]⟩] W fun e w' => e = .returned (.tuple #[.string d, .bool m]) ∧ W = w')) (h1 : wholeL d.toList = true) (h2 : m = true → (d.toList == [48]) = false) (HR : Hid (∀ W : World, Calls Try.prog 96 #[.string d] W fun e w' => e = .returned (.tuple #[.int .u64 0, .bool false]) ∧ Below W.heap.size W w')) :
    Calls Try.prog 79 #[.string s] w fun e w' => e = .returned (.tuple #[.int .i64 0, .int .i64 10]) ∧ Below w.heap.size w w' := by
  cases m
  all_goals
    try have h3 := h2 rfl
    clear h2
    go_enter Try.func79, Try.ntmps79
    go_wp2_with fail
    refine (hcut.out _).mono ?_
    rintro e w' ⟨rfl, rfl⟩
    go_wp2_with fail
    refine (whole_any _ _).mono ?_
    rintro e w1 ⟨rfl, hb1⟩
    have HB1 := Lib.hid hb1
    clear hb1
    go_wp2_with fail
    refine (HR.out _).mono ?_
    rintro e w2 ⟨rfl, hb2⟩
    have HB2 := Lib.hid hb2
    clear hb2
    go_wp2
    go_ret2
    exact ⟨rfl, HB1.out.trans (HB2.out.mono HB1.out.size)⟩

set_option maxHeartbeats 1000000 in
theorem parse_w4 (s d : ByteArray) (m : Bool) (n : Int) (w : World) (hcut : Hid (∀ W, Calls Try.prog 94 #[.string s, .string ⟨#[45]⟩] W fun e w' => e = .returned (.tuple #[.string d, .bool m]) ∧ W = w')) (h1 : wholeL d.toList = true) (h2 : m = true → (d.toList == [48]) = false) (HR : Hid (∀ W : World, Calls Try.prog 96 #[.string d] W fun e w' => e = .returned (.tuple #[.int .u64 n, .bool true]) ∧ Below W.heap.size W w')) (HS : Hid (∀ W : World, Calls Try.prog 97 #[.int .u64 n, .bool m] W fun e w' => e = .returned (.tuple #[.int .i64 0, .bool false]) ∧ W = w')) :
    Calls Try.prog 79 #[.string s] w fun e w' => e = .returned (.tuple #[.int .i64 0, .int .i64 10]) ∧ Below w.heap.size w w' := by
  cases m
  all_goals
    try have h3 := h2 rfl
    clear h2
    go_enter Try.func79, Try.ntmps79
    go_wp2_with fail
    refine (hcut.out _).mono ?_
    rintro e w' ⟨rfl, rfl⟩
    go_wp2_with fail
    refine (whole_any _ _).mono ?_
    rintro e w1 ⟨rfl, hb1⟩
    have HB1 := Lib.hid hb1
    clear hb1
    go_wp2_with fail
    refine (HR.out _).mono ?_
    rintro e w2 ⟨rfl, hb2⟩
    have HB2 := Lib.hid hb2
    clear hb2
    go_wp2_with fail
    refine (HS.out _).mono ?_
    rintro e w3 ⟨rfl, rfl⟩
    go_wp2
    go_ret2
    exact ⟨rfl, HB1.out.trans (HB2.out.mono HB1.out.size)⟩

set_option maxHeartbeats 1000000 in
theorem parse_w5 (s d : ByteArray) (m : Bool) (n r : Int) (w : World) (hcut : Hid (∀ W, Calls Try.prog 94 #[.string s, .string ⟨#[45]⟩] W fun e w' => e = .returned (.tuple #[.string d, .bool m]) ∧ W = w')) (h1 : wholeL d.toList = true) (h2 : m = true → (d.toList == [48]) = false) (HR : Hid (∀ W : World, Calls Try.prog 96 #[.string d] W fun e w' => e = .returned (.tuple #[.int .u64 n, .bool true]) ∧ Below W.heap.size W w')) (HS : Hid (∀ W : World, Calls Try.prog 97 #[.int .u64 n, .bool m] W fun e w' => e = .returned (.tuple #[.int .i64 r, .bool true]) ∧ W = w')) :
    Calls Try.prog 79 #[.string s] w fun e w' => e = .returned (.tuple #[.int .i64 r, .int .i64 0]) ∧ Below w.heap.size w w' := by
  cases m
  all_goals
    try have h3 := h2 rfl
    clear h2
    go_enter Try.func79, Try.ntmps79
    go_wp2_with fail
    refine (hcut.out _).mono ?_
    rintro e w' ⟨rfl, rfl⟩
    go_wp2_with fail
    refine (whole_any _ _).mono ?_
    rintro e w1 ⟨rfl, hb1⟩
    have HB1 := Lib.hid hb1
    clear hb1
    go_wp2_with fail
    refine (HR.out _).mono ?_
    rintro e w2 ⟨rfl, hb2⟩
    have HB2 := Lib.hid hb2
    clear hb2
    go_wp2_with fail
    refine (HS.out _).mono ?_
    rintro e w3 ⟨rfl, rfl⟩
    go_wp2
    go_ret2
    exact ⟨rfl, HB1.out.trans (HB2.out.mono HB1.out.size)⟩

/-- What Parse answers: a number and an error's number. -/
def parseN (m : Bool) (d : List UInt8) : Int := if m then -(valL d : Int) else (valL d : Int)
def digsOf (l : List UInt8) : List UInt8 := if minusB l then l.drop 1 else l
def parseArg (l : List UInt8) : Bool := !(wholeL (digsOf l)) || (minusB l && digsOf l == [48])
def parseV (l : List UInt8) : Int := if parseArg l then 0 else room (parseN (minusB l) (digsOf l))
def parseE (l : List UInt8) : Int := if parseArg l then 2 else if fitsB (parseN (minusB l) (digsOf l)) then 0 else 10

theorem parse_core (s d : ByteArray) (m : Bool) (w : World) (hcut : Hid (∀ W, Calls Try.prog 94 #[.string s, .string ⟨#[45]⟩] W fun e w' => e = .returned (.tuple #[.string d, .bool m]) ∧ W = w'))
    (hm : minusB s.toList = m) (hd : digsOf s.toList = d.toList) :
    Calls Try.prog 79 #[.string s] w fun e w' => e = .returned (.tuple #[.int .i64 (parseV s.toList), .int .i64 (parseE s.toList)]) ∧ Below w.heap.size w w' := by
  unfold parseV parseE parseArg
  rw [hm, hd]
  cases hw : wholeL d.toList
  · exact parse_w1 s d m w hcut hw
  · have hdig : DigsTo d d.size := by
      rw [digs_all]
      unfold wholeL at hw
      rw [Bool.and_eq_true] at hw
      exact hw.1
    cases hz : (m && d.toList == [48])
    · have hz' : m = true → (d.toList == [48]) = false := by intro e; subst e; simpa using hz
      simp only [Bool.not_true, Bool.or_false, Bool.false_eq_true, if_false]
      by_cases hbig : valL d.toList < Big
      · have hr := Lib.hid fun W => read_ok d W hdig hbig
        cases hf : fitsB (parseN m d.toList)
        · rw [room_no hf]
          refine parse_w4 s d m _ w hcut hw hz' hr (Lib.hid fun W => ?_)
          rw [fits_not] at hf
          cases m
          · exact signed_pos_no _ W (by simp only [parseN, Bool.false_eq_true, if_false] at hf; omega)
          · exact signed_neg_no _ W (by simp only [parseN, if_true] at hf; omega)
        · rw [room_ok hf]
          refine parse_w5 s d m _ _ w hcut hw hz' hr (Lib.hid fun W => ?_)
          rw [fits_iff] at hf
          cases m
          · simp only [parseN, Bool.false_eq_true, if_false] at hf ⊢; exact signed_pos_ok _ W (by omega) (by omega)
          · simp only [parseN, if_true] at hf ⊢; exact signed_neg_ok _ W (by omega) (by omega)
      · have hf : fitsB (parseN m d.toList) = false := by
          rw [fits_not]; unfold parseN; rw [big_eq] at hbig; split <;> omega
        rw [hf, room_no hf]
        exact parse_w3 s d m w hcut hw hz' (Lib.hid fun W => read_no d W hdig hbig)
    · rw [Bool.and_eq_true] at hz
      exact parse_w2 s d m w hcut hw hz.1 hz.2

theorem parse_any (s : ByteArray) (w : World) :
    Calls Try.prog 79 #[.string s] w fun e w' => e = .returned (.tuple #[.int .i64 (parseV s.toList), .int .i64 (parseE s.toList)]) ∧ Below w.heap.size w w' := by
  cases hm : minusB s.toList
  · exact parse_core s s false w (Lib.hid fun W => cut_no s W hm) hm (by simp [digsOf, hm])
  · refine parse_core s (s.extract 1 s.size) true w (Lib.hid fun W => cut_yes s W hm) hm ?_
    rw [toList_cut, ← toList_len, List.take_length]
    simp [digsOf, hm]
end Go.Proofs.Ytmgjiipooffggaa
/- Contract of slices.Reverse at a slice of runes that the call itself made. -/
namespace Go.Proofs.Ytmgjiipooffggaa
set_option maxRecDepth 100000
open Go.RowKit Go.Sort Go.Lib

def encR (x : Int) : Value := .int .i32 x

set_option maxHeartbeats 1600000 in
set_option maxRecDepth 1000000 in
theorem reverse_arr (blk off cap : Nat) (d : Array Int) (w : World) (hH : Holds (Value.int .i32) w blk off d) (hsz : d.size ≤ 9223372036854775807) :
    Calls Try.prog 74 #[.slice (some ⟨blk, off, none⟩) d.size cap] w fun e w' => e = .returned (.tuple #[]) ∧ ∃ n, w' = putRow (Value.int .i32) (Sort.ahead w n) blk off d.reverse := by
  go_enter Try.func74, Try.ntmps74
  go_wp2
  go_loopg [2, 3] d.size (fun k s2 s3 wr => ∃ (i jn : Nat) (jz : Int) (dk : Array Int) (n : Nat), s2 = .int .i64 i ∧ s3 = .int .i64 jz ∧ ((i : Int) < jz → jz = jn ∧ jn < d.size) ∧ (¬ (i : Int) < jz → ¬ i < jn) ∧ jn - i ≤ k ∧
    dk.size = d.size ∧ wr = putRow (Value.int .i32) (Sort.ahead w n) blk off dk ∧ reverseLoop i jn dk = reverseLoop 0 (d.size - 1) d)
  case atStart => exact ⟨0, d.size - 1, (d.size : Int) - 1, d, 0, rfl, rfl, fun h => ⟨by omega, by omega⟩, fun h => by omega, by omega, rfl, (putRow_self (Value.int .i32) w blk off d hH).symm, rfl⟩
  case round =>
    obtain ⟨i, jn, jz, dk, n, rfl, rfl, h1, h2, hk, hds, hwr, heq⟩ := hrel
    by_cases hlt : (i : Int) < jz
    · obtain ⟨rfl, hjn⟩ := h1 hlt
      have hij : i < jn := by omega
      have hHk : Holds (Value.int .i32) wr blk off dk := by rw [hwr]; exact holds_putRow (Value.int .i32) _ blk off d dk (holds_ahead (Value.int .i32) w n blk off d hH) hds
      obtain ⟨ci, fi⟩ := hHk i (by omega)
      obtain ⟨cj, fj⟩ := hHk jn (by omega)
      have A : Aside (wr = putRow (Value.int .i32) (Sort.ahead w n) blk off dk) := hwr
      clear hwr hHk hH h1 h2
      go_wp2_with fail
      go_region
      go_wp2
      go_roundg (jn - 1 - (i + 1))
      case measure => omega
      case rel =>
        rw [reverseLoop, if_pos hij] at heq
        exact ⟨i + 1, jn - 1, (jn : Int) - 1, swp dk i jn, n + 1, by simp, rfl, fun h => ⟨by omega, by omega⟩, fun h => by omega, Nat.le_refl _, by rw [size_swp]; exact hds,
          swap_world (Value.int .i32) (by omega) (by omega) A.out (by first | rfl | simp [getElem!_pos, show jn < dk.size by omega]) (by first | rfl | simp [getElem!_pos, show i < dk.size by omega]), heq⟩
    · have hnot := h2 hlt
      go_wp2
      go_end0
      refine ⟨rfl, n, ?_⟩
      rw [reverseLoop, if_neg hnot] at heq
      rw [← Lib.reverseLoop_reverse, ← heq]

theorem reverse_own {base : Nat} {g n cap : Nat} {zs : List Int} (w : World) (h : w.ownsRow base 21 1 (.slice (some ⟨g, 0, none⟩) n cap) n (zs.map (Value.int .i32))) :
    Calls Try.prog 74 #[.slice (some ⟨g, 0, none⟩) n cap] w fun e w' => e = .returned (.tuple #[]) ∧ w'.ownsRow base 21 1 (.slice (some ⟨g, 0, none⟩) n cap) n (zs.reverse.map (Value.int .i32)) ∧ (∀ w0 B, Below B w0 w → B ≤ base → Below B w0 w') := by
  obtain ⟨g', cap', he, hb, hlt, hn, hm, hl, hH⟩ := holds_of_ownsRow h (by simp)
  injection he with e1 _ e3
  injection e1 with e1
  injection e1 with e1
  subst e1; subst e3
  have hz : zs.toArray.size = n := by simp [hl]
  have hc := reverse_arr g 0 cap zs.toArray w hH (by rw [hz]; unfold maxLen at hm; omega)
  rw [hz] at hc
  refine hc.mono ?_
  rintro e w' ⟨rfl, q, rfl⟩
  refine ⟨rfl, ?_, fun w0 B hB hle => below_putRow hB (by omega)⟩
  have := ownsRow_putRow (q := q) (k := n) (ys := zs.reverse) h (by simp [hl]) (Nat.le_refl _)
  rw [List.take_of_length_le (by simp [hl])] at this
  simpa using this
end Go.Proofs.Ytmgjiipooffggaa
/- Contract of ints.Digits at any number of 64 bits. -/
namespace Go.Proofs.Ytmgjiipooffggaa
set_option maxRecDepth 100000
open Go.RowKit Go.Sort Go.Lib

/-- The digits of n that is not 0, the lowest first, as runes; none of 0. -/
def lows (n : Nat) : List Int := if h : n = 0 then [] else (48 + ((n : Int) % 10)) :: lows (n / 10)
  termination_by n
  decreasing_by omega
theorem lows_zero : lows 0 = [] := by rw [lows]; simp
theorem lows_pos (n : Nat) (h : 0 < n) : lows n = (48 + ((n : Int) % 10)) :: lows (n / 10) := by rw [lows, dif_neg (by omega)]
theorem lows_len : ∀ (k n : Nat), n < 10 ^ k → (lows n).length ≤ k
  | 0, n, h => by
    have : n = 0 := by simpa using h
    subst this; rw [lows_zero]; simp
  | k + 1, n, h => by
    by_cases h0 : n = 0
    · subst h0; rw [lows_zero]; simp
    · rw [lows_pos n (by omega)]
      have := lows_len k (n / 10) (by rw [Nat.pow_succ] at h; omega)
      simp; omega
/-- The digits of n, the lowest first, as runes. -/
def lowsAll (n : Nat) : List Int := (48 + ((n : Int) % 10)) :: lows (n / 10)
theorem lowsAll_len (n : Nat) (h : n ≤ 9223372036854775808) : (lowsAll n).length ≤ 20 := by
  have := lows_len 19 (n / 10) (by omega)
  simp [lowsAll]; omega

theorem own_one (w : World) (z : Int) : (w.alloc (.cells #[.int .i32 z] 21)).ownsRow w.heap.size 21 1 (.slice (some ⟨w.heap.size, 0, none⟩) 1 1) ([z].length) ([z].map (Value.int .i32)) :=
  ⟨by simp, .inr ⟨w.heap.size, 1, _, rfl, Nat.le_refl _, heap_alloc_new w _, by simp, by unfold maxLen; omega, by simp, by simp⟩⟩


theorem ret_str {a b : ByteArray} (h : a = b) : Ending.returned (.string a) = .returned (.string b) := by rw [h]
theorem info21 : (Try.prog.info? 21).map (fun i => (i.zero, i.size, i.bytes)) = some (some (.int .i32 0), 1, 4) := by kernel_rfl

set_option maxHeartbeats 1600000 in
set_option maxRecDepth 1000000 in
theorem digits_neg (n : Int) (w : World) (hf : fitsB n = true) (h : n < 0) :
    Calls Try.prog 42 #[.int .i64 n] w fun e w' => e = .returned (.string (⟨#[45]⟩ ++ runesBytes (lowsAll n.natAbs).reverse)) ∧ Below w.heap.size w w' := by
  have HF := Lib.hid ((fits_iff _).1 hf)
  have HB : Hid (n.natAbs ≤ 9223372036854775808) := Lib.hid (by have := HF.out; omega)
  have hb1 : (n.natAbs : Int) ≤ 9223372036854775808 := by have := HB.out; omega
  clear hf
  obtain ⟨i0, hi, hz0, hz1, hz2⟩ := info_parts info21
  go_enter Try.func42, Try.ntmps42
  go_wp2_with fail
  refine (sizeOf_any _ _ HF.out.1 HF.out.2).mono ?_
  rintro e w' ⟨rfl, rfl⟩
  go_wp2_with fail
  refine (lastDigit_any _ _ (by omega) (by have := HB.out; omega)).mono ?_
  rintro e w' ⟨rfl, rfl⟩
  go_wp2_with fail
  go_loopw [3, 4] (fun r v wr => ∃ (k : Nat) (zs : List Int), r = .int .u64 k ∧ Hid (k ≤ 9223372036854775808) ∧ Hid (wr.ownsRow w.heap.size 21 1 v zs.length (zs.map (Value.int .i32))) ∧ Hid (0 < zs.length) ∧ Hid (zs ++ lows k = lowsAll n.natAbs) ∧ Hid (Below w.heap.size w wr)) (fun r _ _ => (RowKit.intOf r).toNat)
  case atStart =>
    exact ⟨n.natAbs / 10, [48 + (n.natAbs : Int) % 10], by go_num, Lib.hid (by have := HB.out; omega), Lib.hid (own_one _ _), Lib.hid (by simp), Lib.hid (by simp [lowsAll]), Lib.hid ((Below.refl _ _).alloc (Nat.le_refl _) _)⟩
  case round =>
    obtain ⟨k, zs, rfl, hk, hown, hpos, hall, hbel⟩ := hrel
    by_cases h0 : 0 < k
    · have HL : Hid (zs.length + 1 ≤ 20) := Lib.hid (by
        have e1 := lowsAll_len n.natAbs HB.out
        rw [← hall.out, lows_pos k h0] at e1
        simp at e1; omega)
      have HN : Hid ((zs ++ [48 + (k : Int) % 10]) ++ lows (k / 10) = lowsAll n.natAbs) := Lib.hid (by rw [← hall.out, lows_pos k h0]; simp)
      clear hall
      have h0' : (0 : Int) < k := by omega
      have hk1 : (k : Int) ≤ 9223372036854775808 := by have := hk.out; omega
      go_wp2_with fail
      refine (lastDigit_any _ _ (by omega) (by have := hk.out; omega)).mono ?_
      rintro e w' ⟨rfl, rfl⟩
      generalize hz : (48 + (k : Int) % 10) = z at HN
      have HZ := Lib.hid hz
      clear hz
      go_wp2_with (at_builtin; refine wpList_append_own _ rfl _ _ 102 rfl w.heap.size 21 i0 (.int .i32 0) 1 4 Try.underlying102 hi hz0 hz1 hz2 rfl (by decide) _ _ _ rfl (hown.out.alloc _) ⟨wr.heap.size, 0, none⟩ 1 1 [.int .i32 z] rfl rfl ?c1 ?c2 ?c3 ?c4 ?c5 ?_)
      case c1 =>
        intro j u hj
        match j, hj with
        | 0, hj => simp at hj; subst hj; simp [Addr.add]
      case c2 => intro u hu; simp at hu; subst hu; rfl
      case c3 => have := HL.out; unfold maxLen; omega
      case c4 => have := HL.out; omega
      case c5 => have := hbel.out.size; simp; omega
      intro v' w1 hown' hgrow _
      have HO : Hid (w1.ownsRow w.heap.size 21 1 v' (zs ++ [z]).length ((zs ++ [z]).map (Value.int .i32))) := Lib.hid (by simpa using hown')
      have HB2 : Hid (Below w.heap.size w w1) := Lib.hid ((hbel.out.alloc hbel.out.size _).grown hgrow (by have := hbel.out.size; simp; omega) (fun g hg => (hown.out.lt g hg).1))
      clear hown' hgrow
      go_wp2
      go_roundw
      case rel => exact ⟨k / 10, zs ++ [z], by go_num, Lib.hid (by have := hk.out; omega), HO, Lib.hid (by simp), HN, HB2⟩
      case measure => simp [RowKit.intOf]; omega
    · obtain rfl : k = 0 := by omega
      obtain ⟨g, cap, rfl, _, _⟩ := hown.out.form hpos.out
      have HN : Hid (zs = lowsAll n.natAbs) := Lib.hid (by rw [← hall.out, lows_zero, List.append_nil])
      go_wp2_with fail
      refine (reverse_own _ hown.out).mono ?_
      rintro e w1 ⟨rfl, hown1, hbel1⟩
      have HB2 := Lib.hid (hbel1 _ _ hbel.out (Nat.le_refl _))
      have hcv : (convert 102 9 (.slice (some ⟨g, 0, none⟩) zs.length cap)).run Try.prog w1 = .ok (.string (runesBytes zs.reverse)) w1 := by
        have := run_convert_runes (P := Try.prog) w1 102 9 21 ⟨g, 0, none⟩ zs.length cap zs.reverse (by simp) Try.underlying102 Try.underlying21 Try.underlying9 (fun j hj => hown1.cells rfl j _ (by simp at hj; simp [hj]))
        rwa [List.take_of_length_le (by simp)] at this
      have hsz : 1 + (runesBytes zs.reverse).size ≤ 9223372036854775807 := by
        have e1 := runesBytes_size_le zs.reverse
        have e2 := lowsAll_len n.natAbs HB.out
        rw [← HN.out] at e2
        simp at e1; omega
      clear hown1 hbel1
      go_wp2
      go_ret
      exact ⟨ret_str (by rw [HN.out]), HB2.out⟩

set_option maxHeartbeats 1600000 in
set_option maxRecDepth 1000000 in
theorem digits_pos (n : Int) (w : World) (hf : fitsB n = true) (h : 0 ≤ n) :
    Calls Try.prog 42 #[.int .i64 n] w fun e w' => e = .returned (.string (runesBytes (lowsAll n.natAbs).reverse)) ∧ Below w.heap.size w w' := by
  have HF := Lib.hid ((fits_iff _).1 hf)
  have HB : Hid (n.natAbs ≤ 9223372036854775808) := Lib.hid (by have := HF.out; omega)
  have hb1 : (n.natAbs : Int) ≤ 9223372036854775808 := by have := HB.out; omega
  clear hf
  obtain ⟨i0, hi, hz0, hz1, hz2⟩ := info_parts info21
  go_enter Try.func42, Try.ntmps42
  go_wp2_with fail
  refine (sizeOf_any _ _ HF.out.1 HF.out.2).mono ?_
  rintro e w' ⟨rfl, rfl⟩
  go_wp2_with fail
  refine (lastDigit_any _ _ (by omega) (by have := HB.out; omega)).mono ?_
  rintro e w' ⟨rfl, rfl⟩
  go_wp2_with fail
  go_loopw [3, 4] (fun r v wr => ∃ (k : Nat) (zs : List Int), r = .int .u64 k ∧ Hid (k ≤ 9223372036854775808) ∧ Hid (wr.ownsRow w.heap.size 21 1 v zs.length (zs.map (Value.int .i32))) ∧ Hid (0 < zs.length) ∧ Hid (zs ++ lows k = lowsAll n.natAbs) ∧ Hid (Below w.heap.size w wr)) (fun r _ _ => (RowKit.intOf r).toNat)
  case atStart =>
    exact ⟨n.natAbs / 10, [48 + (n.natAbs : Int) % 10], by go_num, Lib.hid (by have := HB.out; omega), Lib.hid (own_one _ _), Lib.hid (by simp), Lib.hid (by simp [lowsAll]), Lib.hid ((Below.refl _ _).alloc (Nat.le_refl _) _)⟩
  case round =>
    obtain ⟨k, zs, rfl, hk, hown, hpos, hall, hbel⟩ := hrel
    by_cases h0 : 0 < k
    · have HL : Hid (zs.length + 1 ≤ 20) := Lib.hid (by
        have e1 := lowsAll_len n.natAbs HB.out
        rw [← hall.out, lows_pos k h0] at e1
        simp at e1; omega)
      have HN : Hid ((zs ++ [48 + (k : Int) % 10]) ++ lows (k / 10) = lowsAll n.natAbs) := Lib.hid (by rw [← hall.out, lows_pos k h0]; simp)
      clear hall
      have h0' : (0 : Int) < k := by omega
      have hk1 : (k : Int) ≤ 9223372036854775808 := by have := hk.out; omega
      go_wp2_with fail
      refine (lastDigit_any _ _ (by omega) (by have := hk.out; omega)).mono ?_
      rintro e w' ⟨rfl, rfl⟩
      generalize hz : (48 + (k : Int) % 10) = z at HN
      have HZ := Lib.hid hz
      clear hz
      go_wp2_with (at_builtin; refine wpList_append_own _ rfl _ _ 102 rfl w.heap.size 21 i0 (.int .i32 0) 1 4 Try.underlying102 hi hz0 hz1 hz2 rfl (by decide) _ _ _ rfl (hown.out.alloc _) ⟨wr.heap.size, 0, none⟩ 1 1 [.int .i32 z] rfl rfl ?c1 ?c2 ?c3 ?c4 ?c5 ?_)
      case c1 =>
        intro j u hj
        match j, hj with
        | 0, hj => simp at hj; subst hj; simp [Addr.add]
      case c2 => intro u hu; simp at hu; subst hu; rfl
      case c3 => have := HL.out; unfold maxLen; omega
      case c4 => have := HL.out; omega
      case c5 => have := hbel.out.size; simp; omega
      intro v' w1 hown' hgrow _
      have HO : Hid (w1.ownsRow w.heap.size 21 1 v' (zs ++ [z]).length ((zs ++ [z]).map (Value.int .i32))) := Lib.hid (by simpa using hown')
      have HB2 : Hid (Below w.heap.size w w1) := Lib.hid ((hbel.out.alloc hbel.out.size _).grown hgrow (by have := hbel.out.size; simp; omega) (fun g hg => (hown.out.lt g hg).1))
      clear hown' hgrow
      go_wp2
      go_roundw
      case rel => exact ⟨k / 10, zs ++ [z], by go_num, Lib.hid (by have := hk.out; omega), HO, Lib.hid (by simp), HN, HB2⟩
      case measure => simp [RowKit.intOf]; omega
    · obtain rfl : k = 0 := by omega
      obtain ⟨g, cap, rfl, _, _⟩ := hown.out.form hpos.out
      have HN : Hid (zs = lowsAll n.natAbs) := Lib.hid (by rw [← hall.out, lows_zero, List.append_nil])
      go_wp2_with fail
      refine (reverse_own _ hown.out).mono ?_
      rintro e w1 ⟨rfl, hown1, hbel1⟩
      have HB2 := Lib.hid (hbel1 _ _ hbel.out (Nat.le_refl _))
      have hcv : (convert 102 9 (.slice (some ⟨g, 0, none⟩) zs.length cap)).run Try.prog w1 = .ok (.string (runesBytes zs.reverse)) w1 := by
        have := run_convert_runes (P := Try.prog) w1 102 9 21 ⟨g, 0, none⟩ zs.length cap zs.reverse (by simp) Try.underlying102 Try.underlying21 Try.underlying9 (fun j hj => hown1.cells rfl j _ (by simp at hj; simp [hj]))
        rwa [List.take_of_length_le (by simp)] at this
      have hsz : 1 + (runesBytes zs.reverse).size ≤ 9223372036854775807 := by
        have e1 := runesBytes_size_le zs.reverse
        have e2 := lowsAll_len n.natAbs HB.out
        rw [← HN.out] at e2
        simp at e1; omega
      clear hown1 hbel1
      go_wp2
      go_ret
      exact ⟨ret_str (by rw [HN.out]), HB2.out⟩

theorem encode_ascii (z : Int) (h0 : 0 ≤ z) (h1 : z < 128) : Utf8.encode z = ⟨#[UInt8.ofNat z.toNat]⟩ := by
  have hv : Utf8.valid z = true := by simp [Utf8.valid]; omega
  unfold Utf8.encode
  simp only [hv, if_true]
  rw [if_pos (by omega)]

theorem runes_ascii (zs : List Int) (h : ∀ z ∈ zs, 0 ≤ z ∧ z < 128) : ∀ b : ByteArray, zs.foldl (fun r n => r ++ Utf8.encode n) b = b ++ ⟨(zs.map fun z => UInt8.ofNat z.toNat).toArray⟩ := by
  induction zs with
  | nil => intro b; apply ByteArray.ext; simp
  | cons z r ih =>
    intro b
    have hz := h z (by simp)
    rw [List.foldl_cons, ih (fun x hx => h x (by simp [hx])), encode_ascii z hz.1 hz.2]
    rw [ByteArray.append_assoc]
    congr 1

theorem lows_dig : ∀ (k n : Nat), n < k → ∀ z ∈ lows n, 48 ≤ z ∧ z ≤ 57
  | 0, n, h => absurd h (by omega)
  | k + 1, n, h => by
    intro z hz
    by_cases h0 : n = 0
    · subst h0; rw [lows_zero] at hz; simp at hz
    · rw [lows_pos n (by omega)] at hz
      rcases List.mem_cons.1 hz with rfl | hz
      · omega
      · exact lows_dig k (n / 10) (by omega) z hz
theorem lowsAll_dig (n : Nat) : ∀ z ∈ lowsAll n, 48 ≤ z ∧ z ≤ 57 := by
  intro z hz
  rcases List.mem_cons.1 hz with rfl | hz
  · omega
  · exact lows_dig _ _ (Nat.lt_succ_self _) z hz

/-- What Digits answers, byte by byte. -/
def digL (n : Int) : List UInt8 := (if n < 0 then [45] else []) ++ ((lowsAll n.natAbs).reverse.map fun z => UInt8.ofNat z.toNat)

theorem digits_any (n : Int) (w : World) (hf : fitsB n = true) :
    Calls Try.prog 42 #[.int .i64 n] w fun e w' => e = .returned (.string ⟨(digL n).toArray⟩) ∧ Below w.heap.size w w' := by
  have hr : runesBytes (lowsAll n.natAbs).reverse = ⟨((lowsAll n.natAbs).reverse.map fun z => UInt8.ofNat z.toNat).toArray⟩ := by
    have := runes_ascii (lowsAll n.natAbs).reverse (fun z hz => by have := lowsAll_dig n.natAbs z (by simpa using hz); omega) ByteArray.empty
    unfold runesBytes
    rw [this]
    simp
  by_cases h : n < 0
  · refine (digits_neg n w hf h).mono fun e w' ⟨he, hb⟩ => ⟨?_, hb⟩
    rw [he, hr]
    refine ret_str ?_
    apply ByteArray.ext
    simp [digL, h]
  · refine (digits_pos n w hf (by omega)).mono fun e w' ⟨he, hb⟩ => ⟨?_, hb⟩
    rw [he, hr]
    refine ret_str ?_
    apply ByteArray.ext
    simp [digL, h]
end Go.Proofs.Ytmgjiipooffggaa
/- The chapter's examples, as the laws ask them: known() answers true, in whatever memory, and changes nothing that was there. -/
namespace Go.Proofs.Ytmgjiipooffggaa
set_option maxRecDepth 100000
open Go.RowKit

end Go.Proofs.Ytmgjiipooffggaa

/- Two numbers' sum and product, as a call with two arguments makes them: what has room, and the error's number. -/
namespace Go.Proofs.Ytmgjiipooffggaa
set_option maxRecDepth 100000
open Go.RowKit

def errB (n : Int) : Int := if fitsB n then 0 else 10
theorem errB_ok {n : Int} (h : fitsB n = true) : errB n = 0 := by simp [errB, h]
theorem errB_no {n : Int} (h : fitsB n = false) : errB n = 10 := by simp [errB, h]

end Go.Proofs.Ytmgjiipooffggaa

/- SameInts at two slices that read as one list: true. And append, at a slice of numbers of the call's own, of a slice of numbers, nil or not. -/
namespace Go.Proofs.Ytmgjiipooffggaa
set_option maxRecDepth 100000
open Go.RowKit

theorem Ints.keep {w w' : World} {B n : Nat} {A : Option Addr} {l : List Int} (h : Ints w B A n l) (hk : ∀ p : Addr, p.block < B → w'.cell? p = w.cell? p) : Ints w' B A n l :=
  ⟨h.1, h.2.1, h.2.2.1, fun h0 => by
    obtain ⟨b, off, e, hb, hc⟩ := h.2.2.2 h0
    exact ⟨b, off, e, hb, fun j hj => (hk _ hb).trans (hc j hj)⟩⟩
theorem Ints.below {w w' : World} {B B' n : Nat} {A : Option Addr} {l : List Int} (h : Ints w B A n l) (hb : Below B' w w') (hB : B ≤ B') : Ints w' B A n l := h.keep fun _ hp => hb.cell (Nat.lt_of_lt_of_le hp hB)
theorem Ints.more {w : World} {B B' n : Nat} {A : Option Addr} {l : List Int} (h : Ints w B A n l) (hB : B ≤ B') : Ints w B' A n l :=
  ⟨h.1, h.2.1, h.2.2.1, fun h0 => by
    obtain ⟨b, off, e, hb, hc⟩ := h.2.2.2 h0
    exact ⟨b, off, e, by omega, hc⟩⟩
theorem Ints.front {w : World} {B n : Nat} {A : Option Addr} {l : List Int} (h : Ints w B A n l) (k : Nat) (hk : k ≤ n) : Ints w B A k (l.take k) := by
  obtain ⟨h1, h2, h3, h4⟩ := h
  refine ⟨by rw [List.length_take]; omega, by omega, fun x hx => h3 x (List.mem_of_mem_take hx), fun h0 => ?_⟩
  obtain ⟨b, off, e, hb, hc⟩ := h4 (by omega)
  exact ⟨b, off, e, hb, fun j hj => (hc j (by omega)).trans (by simp [List.getD, hj])⟩
/-- A slice of numbers that the call itself made. -/
def OwnInts (w : World) (base : Nat) (v : Value) (l : List Int) : Prop := w.ownsRow base 3 1 v l.length (l.map (Value.int .i64))
theorem ownInts_nil (w : World) (base : Nat) : OwnInts w base (.slice none 0 0) [] := World.ownsRow_nil w base 3 1

theorem OwnInts.ints {w : World} {base : Nat} {v : Value} {l : List Int} (h : OwnInts w base v l) (h0 : 0 < l.length) (hl : l.length ≤ 140737488355328) (hf : ∀ x ∈ l, fitsB x = true) :
    ∃ g cap, v = .slice (some ⟨g, 0, none⟩) l.length cap ∧ l.length ≤ cap ∧ cap ≤ maxLen ∧ base ≤ g ∧ Ints w w.heap.size (some ⟨g, 0, none⟩) l.length l := by
  rcases h.2 with ⟨_, e⟩ | ⟨g, cap, cur, rfl, hb, hg, hnc, hcm, hcs, ht⟩
  · omega
  · refine ⟨g, cap, rfl, hnc, hcm, hb, rfl, hl, hf, fun _ => ⟨g, 0, rfl, (Array.getElem?_eq_some_iff.1 hg).1, fun j hj => ?_⟩⟩
    have := World.ownsRow.cells (g := g) h rfl j (.int .i64 (l.getD j 0)) (by simp [hj])
    have e : (⟨g, 0, none⟩ : Addr).add j = ⟨g, 0 + j, none⟩ := by unfold Addr.add; split <;> simp_all
    rwa [e] at this

theorem info3 : (Try.prog.info? 3).map (fun i => (i.zero, i.size, i.bytes)) = some (some (.int .i64 0), 1, 8) := by kernel_rfl

/-- append(v, x...): v of the call's own, x any slice of numbers. -/
theorem append_ints {w : World} {ops : Array Oper} {rest : List Oper} {o : Oper} {a : Act} {Q : Exit → Act → World → Prop} (hgd : o.guard = none) (s x : Operand)
    (ho : o.op = .call { callee := .builtin .append, args := #[s, x], argTypes := #[104, 104] })
    (base : Nat) (v : Value) (l : List Int) (hs : a.eval s = v) (hown : OwnInts w base v l)
    (A : Option Addr) (B m c : Nat) (l2 : List Int) (hx : a.eval x = .slice A m c) (hnil : A = none → c = 0) (hr : Ints w B A m l2)
    (hlen : l.length + m ≤ 65536) (hbase : base ≤ w.heap.size)
    (h : ∀ v' w', OwnInts w' base v' (l ++ l2) → w.grownBy w' v.ownBlock → wpList Try.prog ops Q rest (a.put o.dst v') w') : wpList Try.prog ops Q (o :: rest) a w := by
  obtain ⟨i0, hi, hz0, hz1, hz2⟩ := info_parts info3
  have hl2 : l2.length = m := hr.1
  rcases Nat.eq_zero_or_pos m with hm | hm
  · subst hm
    have e2 : l2 = [] := List.eq_nil_of_length_eq_zero hl2
    subst e2
    cases A with
    | none =>
      have hc := hnil rfl
      subst hc
      refine wpList_append_own_none hgd s x 104 ho base 3 i0 1 Try.underlying104 hi v _ _ hs hown hx ?_
      exact h v w (by simpa using hown) ⟨rfl, rfl, rfl, Nat.le_refl _, fun _ _ _ => rfl⟩
    | some ad =>
      refine wpList_append_own _ hgd s x 104 ho base 3 i0 (.int .i64 0) 1 8 Try.underlying104 hi hz0 hz1 hz2 rfl (by decide) v _ _ hs hown ad 0 c [] hx rfl (by simp) (by simp) (by unfold maxLen; omega) (by omega) hbase ?_
      intro v' w' h1 h2 _
      exact h v' w' (by simpa [OwnInts] using h1) h2
  · obtain ⟨b, off, rfl, hb, hc⟩ := hr.2.2.2 hm
    refine wpList_append_own _ hgd s x 104 ho base 3 i0 (.int .i64 0) 1 8 Try.underlying104 hi hz0 hz1 hz2 rfl (by decide) v _ _ hs hown ⟨b, off, none⟩ m c (l2.map (Value.int .i64)) hx (by simp [hl2]) ?_ ?_ (by unfold maxLen; omega) (by omega) hbase ?_
    · intro j u hj
      have hjm : j < l2.length := by
        rcases Nat.lt_or_ge j l2.length with h | h
        · exact h
        · rw [List.getElem?_eq_none (by simpa using h)] at hj; cases hj
      have e : (⟨b, off, none⟩ : Addr).add j = ⟨b, off + j, none⟩ := by unfold Addr.add; split <;> simp_all
      rw [e, hc j (by omega)]
      simp [hjm] at hj ⊢
      exact hj
    · intro u hu
      obtain ⟨z, _, rfl⟩ := List.mem_map.1 hu
      rfl
    · intro v' w' h1 h2 _
      refine h v' w' ?_ h2
      unfold OwnInts
      rw [List.length_append, hl2, List.map_append]
      exact h1
end Go.Proofs.Ytmgjiipooffggaa

