/- The chapter's examples, as the laws ask them: known() answers true, in whatever memory, and changes nothing that was there. -/
import Derived.Test.YtgjimgopfpaimaaD
import Derived.Test.YtgjimgopfpaimaaG
import Derived.Test.YtgjimgopfpaimaaI
namespace Go.Proofs.Ytgjimgopfpaimaa
open Go.RowKit

theorem three_new (w : World) (t : TypeId) (x y z : Int) (hx : fitsB x = true) (hy : fitsB y = true) (hz : fitsB z = true) :
    Ints (w.alloc (.cells #[.int .i64 x, .int .i64 y, .int .i64 z] t)) (w.heap.size + 1) (some ⟨w.heap.size, 0, none⟩) 3 [x, y, z] := by
  refine ⟨rfl, by omega, ?_, fun _ => ⟨_, _, rfl, by omega, ?_⟩⟩
  · intro u hu; simp at hu; rcases hu with rfl | rfl | rfl <;> assumption
  · intro j hj
    rw [World.cell?_alloc_at _ _ _ _ rfl]
    have : j = 0 ∨ j = 1 ∨ j = 2 := by omega
    rcases this with rfl | rfl | rfl <;> rfl

/-- Below, from one call's world to the next one's. -/
theorem bnext {a b c : World} (h : Below a.heap.size a b) (k : Below b.heap.size b c) : Below a.heap.size a c := h.trans (k.mono h.size)

theorem below_new (w : World) (o : Obj) : Below w.heap.size w (w.alloc o) := (Below.refl _ _).alloc (Nat.le_refl _) o

/-- Add and Mul of two numbers, as a call with two arguments makes it. -/
theorem add_two (w : World) (x y : Int) (hx : fitsB x = true) (hy : fitsB y = true) : Calls Try.prog 11 #[.slice (some ⟨w.heap.size, 0, none⟩) 2 2] (w.alloc (.cells #[.int .i64 x, .int .i64 y] 3)) fun e w' => e = .returned (.tuple #[.int .i64 (valOf (runs (· + ·) 0 [x, y])), .int .i64 (errOf (runs (· + ·) 0 [x, y]))]) ∧ Below w.heap.size w w' :=
  (add_any _ _ _ 2 [x, y] _ (two_new w 3 _ _ hx hy)).mono fun _ _ ⟨he, hw⟩ => ⟨he, hw ▸ below_new _ _⟩
theorem mul_two (w : World) (x y : Int) (hx : fitsB x = true) (hy : fitsB y = true) : Calls Try.prog 13 #[.slice (some ⟨w.heap.size, 0, none⟩) 2 2] (w.alloc (.cells #[.int .i64 x, .int .i64 y] 3)) fun e w' => e = .returned (.tuple #[.int .i64 (valOf (runs (· * ·) 1 [x, y])), .int .i64 (errOf (runs (· * ·) 1 [x, y]))]) ∧ Below w.heap.size w w' :=
  (mul_any _ _ _ 2 [x, y] _ (two_new w 3 _ _ hx hy)).mono fun _ _ ⟨he, hw⟩ => ⟨he, hw ▸ below_new _ _⟩

theorem known_add (w : World) : Calls Try.prog 11 #[.slice (some ⟨w.heap.size, 0, none⟩) 2 2] (w.alloc (.cells #[.int .i64 9223372036854775807, .int .i64 1] 3)) fun e w' => e = .returned (.tuple #[.int .i64 0, .int .i64 10]) ∧ Below w.heap.size w w' :=
  (add_two w 9223372036854775807 1 (by decide) (by decide)).mono fun e w' ⟨he, hw⟩ => ⟨he.trans (by rw [show runs (· + ·) 0 [9223372036854775807, 1] = none from by decide +kernel]; rfl), hw⟩
theorem known_mul (w : World) : Calls Try.prog 13 #[.slice (some ⟨w.heap.size, 0, none⟩) 2 2] (w.alloc (.cells #[.int .i64 (-3), .int .i64 4] 3)) fun e w' => e = .returned (.tuple #[.int .i64 (-12), .int .i64 0]) ∧ Below w.heap.size w w' :=
  (mul_two w (-3) 4 (by decide) (by decide)).mono fun e w' ⟨he, hw⟩ => ⟨he.trans (by rw [show runs (· * ·) 1 [-3, 4] = some (-12) from by decide +kernel]; rfl), hw⟩
theorem known_times (w : World) : Calls Try.prog 15 #[.int .i64 7, .int .i64 3] w fun e w' => e = .returned (.tuple #[.int .i64 21, .int .i64 0]) ∧ Below w.heap.size w w' :=
  (times_pos 7 3 w (by decide) (by decide) (by decide)).mono fun e w' ⟨he, hw⟩ => ⟨he.trans (by rw [show runs (· * ·) 1 [7, 3] = some 21 from by decide +kernel]; rfl), hw⟩
theorem known_parse0 (w : World) : Calls Try.prog 17 #[.string ⟨#[45, 48]⟩] w fun e w' => e = .returned (.tuple #[.int .i64 0, .int .i64 2]) ∧ Below w.heap.size w w' :=
  (parse_any ⟨#[45, 48]⟩ w).mono fun e w' ⟨he, hw⟩ => ⟨he.trans (by rw [show (ByteArray.mk #[45, 48]).toList = [45, 48] from ByteArray.toList_mk _, show parseV [45, 48] = 0 from by decide +kernel, show parseE [45, 48] = 2 from by decide +kernel]), hw⟩
theorem known_parse12 (w : World) : Calls Try.prog 17 #[.string ⟨#[45, 49, 50]⟩] w fun e w' => e = .returned (.tuple #[.int .i64 (-12), .int .i64 0]) ∧ Below w.heap.size w w' :=
  (parse_any ⟨#[45, 49, 50]⟩ w).mono fun e w' ⟨he, hw⟩ => ⟨he.trans (by rw [show (ByteArray.mk #[45, 49, 50]).toList = [45, 49, 50] from ByteArray.toList_mk _, show parseV [45, 49, 50] = -12 from by decide +kernel, show parseE [45, 49, 50] = 0 from by decide +kernel]), hw⟩
theorem known_least (w : World) : Calls Try.prog 21 #[.slice (some ⟨w.heap.size, 0, none⟩) 3 3] (w.alloc (.cells #[.int .i64 4, .int .i64 (-2), .int .i64 9] 3)) fun e w' => e = .returned (.tuple #[.int .i64 (-2), .bool true]) ∧ Below w.heap.size w w' :=
  (least_some _ _ 3 3 [4, -2, 9] _ (three_new w 3 _ _ _ (by decide) (by decide) (by decide)) (by omega)).mono fun e w' ⟨⟨m, he, hm⟩, hw⟩ => ⟨he.trans (by
    obtain ⟨⟨i, hi, e⟩, ha⟩ := hm
    have h1 := ha 1 (by omega)
    have : m = -2 := by
      have : i = 0 ∨ i = 1 ∨ i = 2 := by omega
      rcases this with rfl | rfl | rfl <;> simp at e h1 <;> omega
    rw [this]), hw ▸ below_new _ _⟩
theorem digL_40 : digL (-40) = [45, 52, 48] := by
  unfold digL lowsAll
  rw [show (-40 : Int).natAbs / 10 = 4 from rfl, lows_pos 4 (by omega), show 4 / 10 = 0 from rfl, lows_zero]
  decide
theorem known_digits (w : World) : Calls Try.prog 19 #[.int .i64 (-40)] w fun e w' => e = .returned (.string ⟨#[45, 52, 48]⟩) ∧ Below w.heap.size w w' :=
  (digits_any (-40) w (by decide)).mono fun e w' ⟨he, hw⟩ => ⟨he.trans (by rw [digL_40]), hw⟩

set_option maxHeartbeats 1600000 in
theorem known_any (w : World) : Calls Try.prog 10 #[] w fun e w' => e = .returned (.bool true) ∧ Below w.heap.size w w' := by
  go_enter Try.func10, Try.ntmps10
  go_wp2_with fail
  refine (known_add _).mono ?_
  rintro e w1 ⟨rfl, hb⟩
  have B1 := Lib.hid hb
  clear hb
  go_wp2_with fail
  refine (known_mul _).mono ?_
  rintro e w2 ⟨rfl, hb⟩
  have B2 := Lib.hid hb
  clear hb
  go_wp2_with fail
  refine (known_times _).mono ?_
  rintro e w3 ⟨rfl, hb⟩
  have B3 := Lib.hid hb
  clear hb
  go_wp2_with fail
  refine (known_parse0 _).mono ?_
  rintro e w4 ⟨rfl, hb⟩
  have B4 := Lib.hid hb
  clear hb
  go_wp2_with fail
  refine (known_parse12 _).mono ?_
  rintro e w5 ⟨rfl, hb⟩
  have B5 := Lib.hid hb
  clear hb
  go_wp2_with fail
  refine (known_least _).mono ?_
  rintro e w6 ⟨rfl, hb⟩
  have B6 := Lib.hid hb
  clear hb
  go_wp2_with fail
  refine (known_digits _).mono ?_
  rintro e w7 ⟨rfl, hb⟩
  have B7 := Lib.hid hb
  clear hb
  go_wp2
  go_ret
  exact ⟨rfl, bnext (bnext (bnext (bnext (bnext (bnext B1.out B2.out) B3.out) B4.out) B5.out) B6.out) B7.out⟩
end Go.Proofs.Ytgjimgopfpaimaa
