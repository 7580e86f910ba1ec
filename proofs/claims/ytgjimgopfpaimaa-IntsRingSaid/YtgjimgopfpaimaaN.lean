/- IntsRing: of any three numbers the law's call answers true. -/
import Derived.Test.YtgjimgopfpaimaaL
namespace Go.Proofs.Ytgjimgopfpaimaa
open Go.RowKit

/-- Which of the three sums and products have room, in the order of the law's test. -/
def RingTests (E F G H I X Y : Int) : Prop :=
  (E == 0) = false ∨ ((E == 0) = true ∧ (F == 0) = false) ∨ ((E == 0) = true ∧ (F == 0) = true ∧ (G == 0) = false) ∨ ((E == 0) = true ∧ (F == 0) = true ∧ (G == 0) = true ∧ (H != I) = false ∧ (X != Y) = false)
def RingNeg (a J K Z : Int) : Prop :=
  ((J != 0) = false ∧ (J == 0) = true ∧ (K == 0) = true ∧ (Z == 0) = true) ∨ ((J != 0) = true ∧ (J == 0) = false ∧ (a == -9223372036854775808) = true)

set_option maxHeartbeats 3200000 in
set_option maxRecDepth 100000 in
theorem ring_core (a b c S E P F Q G X H Y I N J Z K : Int) (w : World)
    (c1 : Hid (∀ W : World, Calls Try.prog 11 #[.slice (some ⟨W.heap.size, 0, none⟩) 2 2] (W.alloc (.cells #[.int .i64 b, .int .i64 c] 3)) fun e w' => e = .returned (.tuple #[.int .i64 S, .int .i64 E]) ∧ Below W.heap.size W w'))
    (c2 : Hid (∀ W : World, Calls Try.prog 13 #[.slice (some ⟨W.heap.size, 0, none⟩) 2 2] (W.alloc (.cells #[.int .i64 a, .int .i64 b] 3)) fun e w' => e = .returned (.tuple #[.int .i64 P, .int .i64 F]) ∧ Below W.heap.size W w'))
    (c3 : Hid (∀ W : World, Calls Try.prog 13 #[.slice (some ⟨W.heap.size, 0, none⟩) 2 2] (W.alloc (.cells #[.int .i64 a, .int .i64 c] 3)) fun e w' => e = .returned (.tuple #[.int .i64 Q, .int .i64 G]) ∧ Below W.heap.size W w'))
    (c4 : Hid (∀ W : World, Calls Try.prog 13 #[.slice (some ⟨W.heap.size, 0, none⟩) 2 2] (W.alloc (.cells #[.int .i64 a, .int .i64 S] 3)) fun e w' => e = .returned (.tuple #[.int .i64 X, .int .i64 H]) ∧ Below W.heap.size W w'))
    (c5 : Hid (∀ W : World, Calls Try.prog 11 #[.slice (some ⟨W.heap.size, 0, none⟩) 2 2] (W.alloc (.cells #[.int .i64 P, .int .i64 Q] 3)) fun e w' => e = .returned (.tuple #[.int .i64 Y, .int .i64 I]) ∧ Below W.heap.size W w'))
    (c6 : Hid (∀ W : World, Calls Try.prog 16 #[.int .i64 a] W fun e w' => e = .returned (.tuple #[.int .i64 N, .int .i64 J]) ∧ W = w'))
    (c7 : Hid (∀ W : World, Calls Try.prog 11 #[.slice (some ⟨W.heap.size, 0, none⟩) 2 2] (W.alloc (.cells #[.int .i64 a, .int .i64 N] 3)) fun e w' => e = .returned (.tuple #[.int .i64 Z, .int .i64 K]) ∧ Below W.heap.size W w'))
    (ht : RingTests E F G H I X Y) (hn : RingNeg a J K Z) :
    Calls Try.prog 9 #[.int .i64 a, .int .i64 b, .int .i64 c] w fun e w' => e = .returned (.bool true) ∧ Below w.heap.size w w' := by
  rcases ht with t1 | ⟨t1, t2⟩ | ⟨t1, t2, t3⟩ | ⟨t1, t2, t3, t4, t5⟩ <;> rcases hn with ⟨n1, n2, n3, n4⟩ | ⟨n1, n2, n3⟩
  all_goals
    go_enter Try.func9, Try.ntmps9
    go_wp2_with fail
    refine (c1.out _).mono ?_
    rintro e w1 ⟨rfl, hb⟩
    have B1 := Lib.hid hb
    clear hb
    go_wp2_with fail
    refine (c2.out _).mono ?_
    rintro e w2 ⟨rfl, hb⟩
    have B2 := Lib.hid hb
    clear hb
    go_wp2_with fail
    refine (c3.out _).mono ?_
    rintro e w3 ⟨rfl, hb⟩
    have B3 := Lib.hid hb
    clear hb
    go_wp2_with fail
    refine (c4.out _).mono ?_
    rintro e w4 ⟨rfl, hb⟩
    have B4 := Lib.hid hb
    clear hb
    go_wp2_with fail
    refine (c5.out _).mono ?_
    rintro e w5 ⟨rfl, hb⟩
    have B5 := Lib.hid hb
    clear hb
    go_wp2_with fail
    refine (c6.out _).mono ?_
    rintro e w' ⟨rfl, rfl⟩
    go_wp2_with fail
    refine (c7.out _).mono ?_
    rintro e w6 ⟨rfl, hb⟩
    have B6 := Lib.hid hb
    clear hb
    go_wp2_with fail
    refine (known_any _).mono ?_
    rintro e w7 ⟨rfl, hb⟩
    have B7 := Lib.hid hb
    clear hb
    go_wp2
    go_ret
    exact ⟨rfl, bnext (bnext (bnext (bnext (bnext (bnext B1.out B2.out) B3.out) B4.out) B5.out) B6.out) B7.out⟩

theorem fits_room (n : Int) : fitsB (room n) = true := by
  cases h : fitsB n
  · rw [room_no h]; decide
  · rw [room_ok h]; exact h
theorem errB_zero (n : Int) : (errB n == 0) = fitsB n := by
  cases h : fitsB n
  · rw [errB_no h]; rfl
  · rw [errB_ok h]; rfl

theorem ring_walk (a b c : Int) (w : World) (ha : fitsB a = true) (hb : fitsB b = true) (hc : fitsB c = true) :
    Calls Try.prog 9 #[.int .i64 a, .int .i64 b, .int .i64 c] w fun e w' => e = .returned (.bool true) ∧ Below w.heap.size w w' := by
  have ht : RingTests (errB (b + c)) (errB (a * b)) (errB (a * c)) (errB (a * room (b + c))) (errB (room (a * b) + room (a * c))) (room (a * room (b + c))) (room (room (a * b) + room (a * c))) := by
    unfold RingTests
    rw [errB_zero, errB_zero, errB_zero]
    cases h1 : fitsB (b + c)
    · exact .inl rfl
    · cases h2 : fitsB (a * b)
      · exact .inr (.inl ⟨rfl, rfl⟩)
      · cases h3 : fitsB (a * c)
        · exact .inr (.inr (.inl ⟨rfl, rfl, rfl⟩))
        · refine .inr (.inr (.inr ⟨rfl, rfl, rfl, ?_, ?_⟩))
          · rw [room_ok h1, room_ok h2, room_ok h3, Int.mul_add]; simp
          · rw [room_ok h1, room_ok h2, room_ok h3, Int.mul_add]; simp
  have C1 := Lib.hid fun W => add2 W b c _ hb hc rfl
  have C2 := Lib.hid fun W => mul2 W a b _ ha hb rfl
  have C3 := Lib.hid fun W => mul2 W a c _ ha hc rfl
  have C4 := Lib.hid fun W => mul2 W a (room (b + c)) _ ha (fits_room _) rfl
  have C5 := Lib.hid fun W => add2 W (room (a * b)) (room (a * c)) _ (fits_room _) (fits_room _) rfl
  by_cases hm : a = -9223372036854775808
  · exact ring_core a b c _ _ _ _ _ _ _ _ _ _ 0 10 _ _ w C1 C2 C3 C4 C5 (Lib.hid fun W => neg_min a W (by simp [hm])) (Lib.hid fun W => add2 W a 0 _ ha (by decide) rfl) ht (.inr ⟨by decide, by decide, by simp [hm]⟩)
  · have hf : fitsB (-a) = true := by
      have := (fits_iff _).1 ha
      rw [fits_iff]; omega
    refine ring_core a b c _ _ _ _ _ _ _ _ _ _ (-a) 0 0 0 w C1 C2 C3 C4 C5 (Lib.hid fun W => neg_ok a W (by simp [hm]) hf) (Lib.hid fun W => ?_) ht (.inl ⟨by decide, by decide, by decide, by decide⟩)
    have := add2 W a (-a) 0 ha hf (by omega)
    rwa [show room 0 = 0 from by decide, show errB 0 = 0 from by decide] at this
end Go.Proofs.Ytgjimgopfpaimaa
