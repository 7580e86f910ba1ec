/- Contracts of ints.plus and ints.by: the sum and the product of two numbers, or that they have no room. For every two numbers of 64 bits. -/
import Derived.Test.YtgjimgopfpaimaaA
namespace Go.Proofs.Ytgjimgopfpaimaa
open Go.RowKit

def up (n : Int) : Int := if n < 0 then 18446744073709551615 else 0

theorem upper_any (n : Int) (w : World) :
    Calls Try.prog 43 #[.int .i64 n] w fun e w' => e = .returned (.int .u64 (up n)) ∧ w = w' := by
  by_cases h : n < 0
  · have := upper_neg n w h
    rwa [show up n = 18446744073709551615 from by simp [up, h]]
  · have := upper_pos n w (by omega)
    rwa [show up n = 0 from by simp [up, h]]

theorem up_nonneg (n : Int) : 0 ≤ up n := by unfold up; split <;> omega
theorem wrapu_nonneg (n : Int) : 0 ≤ IntKind.u64.wrap n := by rw [IntKind.wrap_u64]; omega

set_option maxHeartbeats 400000 in
theorem plus_walk (a b lo ca hi c2 s : Int) (w : World)
    (h1 : ∀ W, (callFunc 42 #[.int .u64 (IntKind.u64.wrap a), .int .u64 (IntKind.u64.wrap b), .int .u64 0]).run Try.prog W = .ok (.value (.tuple #[.int .u64 lo, .int .u64 ca])) W)
    (h2 : ∀ W, (callFunc 42 #[.int .u64 (up a), .int .u64 (up b), .int .u64 ca]).run Try.prog W = .ok (.value (.tuple #[.int .u64 hi, .int .u64 c2])) W)
    (h3 : IntKind.i64.wrap lo = s) (t : Bool) (h4 : (hi != up s) = t) :
    Calls Try.prog 24 #[.int .i64 a, .int .i64 b] w fun e w' => e = .returned (.tuple #[.int .i64 (if t then 0 else s), .bool (!t)]) ∧ w = w' := by
  cases t
  all_goals
    go_enter Try.func24, Try.ntmps24
    go_wp2_with (go_at_call 43; refine (upper_any _ _).mono ?_; rintro e w' ⟨rfl, rfl⟩)
    go_ret2
    exact ⟨rfl, rfl⟩

def fitsB (n : Int) : Bool := decide (-9223372036854775808 ≤ n ∧ n ≤ 9223372036854775807)
theorem fits_iff (n : Int) : fitsB n = true ↔ (-9223372036854775808 ≤ n ∧ n ≤ 9223372036854775807) := by simp [fitsB]
theorem fits_not (n : Int) : fitsB n = false ↔ ¬ (-9223372036854775808 ≤ n ∧ n ≤ 9223372036854775807) := by simp only [fitsB, decide_eq_false_iff_not]
/-- What has room, or 0. -/
def room (n : Int) : Int := if fitsB n then n else 0

theorem plus_any (a b : Int) (w : World) (ha : fitsB a = true) (hb : fitsB b = true) :
    Calls Try.prog 24 #[.int .i64 a, .int .i64 b] w fun e w' => e = .returned (.tuple #[.int .i64 (room (a + b)), .bool (fitsB (a + b))]) ∧ w = w' := by
  rw [fits_iff] at ha hb
  have hc0 : 0 ≤ (IntKind.u64.wrap a + IntKind.u64.wrap b + 0) / 18446744073709551616 := by have := wrapu_nonneg a; have := wrapu_nonneg b; omega
  have hc1 : (IntKind.u64.wrap a + IntKind.u64.wrap b + 0) / 18446744073709551616 ≤ 1 := by rw [IntKind.wrap_u64, IntKind.wrap_u64]; omega
  have hs : (up a + up b + (IntKind.u64.wrap a + IntKind.u64.wrap b + 0) / 18446744073709551616) % 18446744073709551616 = up (IntKind.i64.wrap ((IntKind.u64.wrap a + IntKind.u64.wrap b + 0) % 18446744073709551616)) ↔ fitsB (a + b) = true := by
    rw [fits_iff, IntKind.wrap_u64, IntKind.wrap_u64, IntKind.wrap_i64]
    unfold up
    split <;> split <;> split <;> omega
  have hv : fitsB (a + b) = true → IntKind.i64.wrap ((IntKind.u64.wrap a + IntKind.u64.wrap b + 0) % 18446744073709551616) = a + b := by
    rw [fits_iff, IntKind.wrap_u64, IntKind.wrap_u64, IntKind.wrap_i64]; omega
  have hw := plus_walk a b _ _ _ _ _ w (fun W => add64_any _ _ 0 W (wrapu_nonneg a) (wrapu_nonneg b) (by omega) (by omega)) (fun W => add64_any _ _ _ W (up_nonneg a) (up_nonneg b) hc0 hc1) rfl _ rfl
  refine hw.mono fun e w' ⟨he, hw'⟩ => ⟨?_, hw'⟩
  rw [he]
  cases hf : fitsB (a + b)
  · have : ((up a + up b + (IntKind.u64.wrap a + IntKind.u64.wrap b + 0) / 18446744073709551616) % 18446744073709551616 != up (IntKind.i64.wrap ((IntKind.u64.wrap a + IntKind.u64.wrap b + 0) % 18446744073709551616))) = true := by
      rw [bne_iff_ne, ne_eq, hs, hf]; simp
    rw [this]; simp [room, hf]
  · have : ((up a + up b + (IntKind.u64.wrap a + IntKind.u64.wrap b + 0) / 18446744073709551616) % 18446744073709551616 != up (IntKind.i64.wrap ((IntKind.u64.wrap a + IntKind.u64.wrap b + 0) % 18446744073709551616))) = false := by
      rw [bne_eq_false_iff_eq, hs, hf]
    rw [this, hv hf]; simp [room, hf]

set_option maxHeartbeats 400000 in
theorem by_walk0 (a b hi lo r : Int) (w : World) (u : Bool) (ha : fitsB a = true) (hb : fitsB b = true)
    (hm : Hid (∀ W, Calls Try.prog 46 #[.int .u64 (a.natAbs : Int), .int .u64 (b.natAbs : Int)] W fun e w' => e = .returned (.tuple #[.int .u64 hi, .int .u64 lo]) ∧ W = w'))
    (h0 : (hi != 0) = false)
    (hs : Hid (∀ W, Calls Try.prog 34 #[.int .u64 lo, .bool (!(decide (a < 0) == decide (b < 0)))] W fun e w' => e = .returned (.tuple #[.int .i64 r, .bool u]) ∧ W = w')) :
    Calls Try.prog 29 #[.int .i64 a, .int .i64 b] w fun e w' => e = .returned (.tuple #[.int .i64 r, .bool u]) ∧ w = w' := by
  have HA := Lib.hid ((fits_iff _).1 ha)
  have HB := Lib.hid ((fits_iff _).1 hb)
  clear ha hb
  go_enter Try.func29, Try.ntmps29
  go_wp2_with fail
  refine (sizeOf_any _ _ HA.out.1 HA.out.2).mono ?_
  rintro e w' ⟨rfl, rfl⟩
  go_wp2_with fail
  refine (sizeOf_any _ _ HB.out.1 HB.out.2).mono ?_
  rintro e w' ⟨rfl, rfl⟩
  go_wp2_with fail
  refine (hm.out _).mono ?_
  rintro e w' ⟨rfl, rfl⟩
  go_wp2_with fail
  refine (hs.out _).mono ?_
  rintro e w' ⟨rfl, rfl⟩
  go_wp2
  go_ret2
  exact ⟨rfl, rfl⟩

set_option maxHeartbeats 400000 in
theorem by_walk1 (a b hi lo : Int) (w : World) (ha : fitsB a = true) (hb : fitsB b = true)
    (hm : Hid (∀ W, Calls Try.prog 46 #[.int .u64 (a.natAbs : Int), .int .u64 (b.natAbs : Int)] W fun e w' => e = .returned (.tuple #[.int .u64 hi, .int .u64 lo]) ∧ W = w'))
    (h0 : (hi != 0) = true) :
    Calls Try.prog 29 #[.int .i64 a, .int .i64 b] w fun e w' => e = .returned (.tuple #[.int .i64 0, .bool false]) ∧ w = w' := by
  have HA := Lib.hid ((fits_iff _).1 ha)
  have HB := Lib.hid ((fits_iff _).1 hb)
  clear ha hb
  go_enter Try.func29, Try.ntmps29
  go_wp2_with fail
  refine (sizeOf_any _ _ HA.out.1 HA.out.2).mono ?_
  rintro e w' ⟨rfl, rfl⟩
  go_wp2_with fail
  refine (sizeOf_any _ _ HB.out.1 HB.out.2).mono ?_
  rintro e w' ⟨rfl, rfl⟩
  go_wp2_with fail
  refine (hm.out _).mono ?_
  rintro e w' ⟨rfl, rfl⟩
  go_wp2
  go_ret2
  exact ⟨rfl, rfl⟩

theorem mul_sign (a b : Int) : a * b = if (decide (a < 0) == decide (b < 0)) then ((a.natAbs * b.natAbs : Nat) : Int) else -((a.natAbs * b.natAbs : Nat) : Int) := by
  rw [Int.natCast_mul]
  by_cases ha : a < 0 <;> by_cases hb : b < 0
  · rw [show (a.natAbs : Int) = -a from by omega, show (b.natAbs : Int) = -b from by omega]; simp [ha, hb, Int.neg_mul, Int.mul_neg]
  · rw [show (a.natAbs : Int) = -a from by omega, show (b.natAbs : Int) = b from by omega]; simp [ha, hb, Int.neg_mul]
  · rw [show (a.natAbs : Int) = a from by omega, show (b.natAbs : Int) = -b from by omega]; simp [ha, hb, Int.mul_neg]
  · rw [show (a.natAbs : Int) = a from by omega, show (b.natAbs : Int) = b from by omega]; simp [ha, hb]

theorem room_ok {n : Int} (h : fitsB n = true) : room n = n := by simp [room, h]
theorem room_no {n : Int} (h : fitsB n = false) : room n = 0 := by simp [room, h]

theorem by_any (a b : Int) (w : World) (ha : fitsB a = true) (hb : fitsB b = true) :
    Calls Try.prog 29 #[.int .i64 a, .int .i64 b] w fun e w' => e = .returned (.tuple #[.int .i64 (room (a * b)), .bool (fitsB (a * b))]) ∧ w = w' := by
  have ha' := (fits_iff _).1 ha
  have hb' := (fits_iff _).1 hb
  have hm := fun W => mul64_any a.natAbs b.natAbs (by omega) (by omega) W
  have hsg := mul_sign a b
  generalize a.natAbs * b.natAbs = N at hm hsg
  by_cases hN : N / 18446744073709551616 = 0
  · have hlo : N % 18446744073709551616 = N := by omega
    have hh : (((N / 18446744073709551616 : Nat) : Int) != 0) = false := by rw [bne_eq_false_iff_eq, hN]; rfl
    cases hs : (decide (a < 0) == decide (b < 0))
    · rw [hs] at hsg
      simp only [Bool.false_eq_true, if_false] at hsg
      by_cases hf : N ≤ 9223372036854775808
      · have e1 : fitsB (a * b) = true := by rw [fits_iff]; omega
        rw [room_ok e1, e1, hsg]
        refine by_walk0 a b _ _ _ w _ ha hb (Lib.hid hm) hh (Lib.hid fun W => ?_)
        rw [hs, hlo]
        exact signed_neg_ok _ W (by omega) (by omega)
      · have e1 : fitsB (a * b) = false := by rw [fits_not]; omega
        rw [room_no e1, e1]
        refine by_walk0 a b _ _ _ w _ ha hb (Lib.hid hm) hh (Lib.hid fun W => ?_)
        rw [hs, hlo]
        exact signed_neg_no _ W (by omega)
    · rw [hs] at hsg
      simp only [if_true] at hsg
      by_cases hf : N ≤ 9223372036854775807
      · have e1 : fitsB (a * b) = true := by rw [fits_iff]; omega
        rw [room_ok e1, e1, hsg]
        refine by_walk0 a b _ _ _ w _ ha hb (Lib.hid hm) hh (Lib.hid fun W => ?_)
        rw [hs, hlo]
        exact signed_pos_ok _ W (by omega) (by omega)
      · have e1 : fitsB (a * b) = false := by rw [fits_not]; omega
        rw [room_no e1, e1]
        refine by_walk0 a b _ _ _ w _ ha hb (Lib.hid hm) hh (Lib.hid fun W => ?_)
        rw [hs, hlo]
        exact signed_pos_no _ W (by omega)
  · have hh : (((N / 18446744073709551616 : Nat) : Int) != 0) = true := by rw [bne_iff_ne]; omega
    have e1 : fitsB (a * b) = false := by rw [fits_not]; split at hsg <;> omega
    rw [room_no e1, e1]
    exact by_walk1 a b _ _ w ha hb (Lib.hid hm) hh
end Go.Proofs.Ytgjimgopfpaimaa
