/- IntsOrder: of any two numbers the law's call answers true. -/
import Derived.Test.YtgjimgopfpaimaaL
namespace Go.Proofs.Ytgjimgopfpaimaa
open Go.RowKit

set_option maxHeartbeats 1600000 in
theorem order_core (a b X E P G : Int) (w : World) (bb : -9223372036854775808 ≤ b ∧ b ≤ 9223372036854775807)
    (c1 : Hid (∀ W : World, Calls Try.prog 11 #[.slice (some ⟨W.heap.size, 0, none⟩) 2 2] (W.alloc (.cells #[.int .i64 a, .int .i64 b] 3)) fun e w' => e = .returned (.tuple #[.int .i64 X, .int .i64 E]) ∧ Below W.heap.size W w'))
    (c2 : Hid (∀ W : World, Calls Try.prog 11 #[.slice (some ⟨W.heap.size, 0, none⟩) 2 2] (W.alloc (.cells #[.int .i64 b, .int .i64 a] 3)) fun e w' => e = .returned (.tuple #[.int .i64 X, .int .i64 E]) ∧ Below W.heap.size W w'))
    (c3 : Hid (∀ W : World, Calls Try.prog 13 #[.slice (some ⟨W.heap.size, 0, none⟩) 2 2] (W.alloc (.cells #[.int .i64 a, .int .i64 b] 3)) fun e w' => e = .returned (.tuple #[.int .i64 P, .int .i64 G]) ∧ Below W.heap.size W w'))
    (c4 : Hid (∀ W : World, Calls Try.prog 13 #[.slice (some ⟨W.heap.size, 0, none⟩) 2 2] (W.alloc (.cells #[.int .i64 b, .int .i64 a] 3)) fun e w' => e = .returned (.tuple #[.int .i64 P, .int .i64 G]) ∧ Below W.heap.size W w'))
    (te tg ta : Bool) (hE : (E == 0) = te) (hG : (G == 0) = tg) (hA : (a != 0) = ta)
    (hs : te = true → (wrap64 (X - a) != b) = false) (hq : tg = true → ta = true → P.tdiv a = b) (hr : tg = true → ta = true → P.tmod a = 0) (hz : ta = true → ¬ a = 0) :
    Calls Try.prog 7 #[.int .i64 a, .int .i64 b] w fun e w' => e = .returned (.bool true) ∧ Below w.heap.size w w' := by
  cases te <;> cases tg <;> cases ta
  all_goals
    try have hs' := hs rfl
    try have hq' := hq rfl rfl
    try have hr' := hr rfl rfl
    try have hz' := hz rfl
    clear hs hq hr hz
    go_enter Try.func7, Try.ntmps7
    go_wp2_with fail
    refine (c1.out _).mono ?_
    rintro e w1 ⟨rfl, hb⟩
    have B1 := Lib.hid hb
    clear hb
    go_wp2_with fail
    refine (c2.out _).mono ?_
    rintro e w2 ⟨rfl, hb⟩
    have B2 := Lib.hid hb
    clear hb
    go_wp2_with fail
    refine (c3.out _).mono ?_
    rintro e w3 ⟨rfl, hb⟩
    have B3 := Lib.hid hb
    clear hb
    go_wp2_with fail
    refine (c4.out _).mono ?_
    rintro e w4 ⟨rfl, hb⟩
    have B4 := Lib.hid hb
    clear hb
    go_wp2_with fail
    refine (known_any _).mono ?_
    rintro e w5 ⟨rfl, hb⟩
    have B5 := Lib.hid hb
    clear hb
    go_wp2
    go_ret
    exact ⟨rfl, bnext (bnext (bnext (bnext B1.out B2.out) B3.out) B4.out) B5.out⟩

theorem order_walk (a b : Int) (w : World) (ha : fitsB a = true) (hb : fitsB b = true) :
    Calls Try.prog 7 #[.int .i64 a, .int .i64 b] w fun e w' => e = .returned (.bool true) ∧ Below w.heap.size w w' := by
  have ba := (fits_iff _).1 ha
  have bb := (fits_iff _).1 hb
  refine order_core a b (room (a + b)) (errB (a + b)) (room (a * b)) (errB (a * b)) w bb (Lib.hid fun W => add2 W a b _ ha hb rfl) (Lib.hid fun W => add2 W b a _ hb ha (Int.add_comm b a)) (Lib.hid fun W => mul2 W a b _ ha hb rfl) (Lib.hid fun W => mul2 W b a _ hb ha (Int.mul_comm b a)) _ _ _ rfl rfl rfl ?_ ?_ ?_ ?_
  · intro he
    cases hf : fitsB (a + b)
    · rw [errB_no hf] at he; exact absurd he (by decide)
    · rw [room_ok hf, bne_eq_false_iff_eq]; unfold wrap64; omega
  · intro he hn
    cases hf : fitsB (a * b)
    · rw [errB_no hf] at he; exact absurd he (by decide)
    · rw [room_ok hf]; exact Int.mul_tdiv_cancel_left b (by simpa using hn)
  · intro he hn
    cases hf : fitsB (a * b)
    · rw [errB_no hf] at he; exact absurd he (by decide)
    · rw [room_ok hf]; exact Int.mul_tmod_right a b
  · intro h; simpa using h
end Go.Proofs.Ytgjimgopfpaimaa
