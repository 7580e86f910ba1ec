/- Carried over from the seat of layer 2. -/
import Derived.Test.YtciipggccjiaiaaVB
namespace Go.Proofs.Ytciipggccjiaiaa
set_option maxRecDepth 100000
open Go.RowKit

set_option maxHeartbeats 400000 in
theorem nanI (a : Int) (w : World) : Calls Try.prog 90 #[.int .i64 a] w fun e w' => e = .returned (.bool false) ∧ w = w' := by
  go_enter Try.func90, Try.ntmps90
  go_wp2
  go_ret
  exact ⟨by simp, rfl⟩
set_option maxHeartbeats 400000 in
theorem nanS (a : ByteArray) (w : World) : Calls Try.prog 91 #[.string a] w fun e w' => e = .returned (.bool false) ∧ w = w' := by
  go_enter Try.func91, Try.ntmps91
  go_wp2
  go_ret
  exact ⟨by simp, rfl⟩
set_option maxHeartbeats 400000 in
theorem compareI (a b : Int) (w : World) : Calls Try.prog 86 #[.int .i64 a, .int .i64 b] w fun e w' => e = .returned (.int .i64 (cmpI a b)) ∧ w = w' := by
  have H1 := Lib.hid (show a < b → cmpI a b = -1 from fun h => by unfold cmpI; rw [if_pos h])
  have H2 := Lib.hid (show b < a → cmpI a b = 1 from fun h => by unfold cmpI; rw [if_neg (by omega), if_pos h])
  have H3 := Lib.hid (show ¬ a < b → ¬ b < a → cmpI a b = 0 from fun h h' => by unfold cmpI; rw [if_neg h, if_neg h'])
  by_cases h1 : a < b
  · go_enter Try.func86, Try.ntmps86
    go_wp2_with (go_at_call 90; refine (nanI _ _).mono ?_; rintro e w' ⟨rfl, rfl⟩)
    go_ret
    exact ⟨by rw [H1.out (by omega)]; rfl, rfl⟩
  · by_cases h2 : b < a
    · go_enter Try.func86, Try.ntmps86
      go_wp2_with (go_at_call 90; refine (nanI _ _).mono ?_; rintro e w' ⟨rfl, rfl⟩)
      go_ret
      exact ⟨by rw [H2.out (by omega)]; rfl, rfl⟩
    · go_enter Try.func86, Try.ntmps86
      go_wp2_with (go_at_call 90; refine (nanI _ _).mono ?_; rintro e w' ⟨rfl, rfl⟩)
      go_ret
      exact ⟨by rw [H3.out (by omega) (by omega)]; rfl, rfl⟩
set_option maxHeartbeats 400000 in
theorem signI (a b : Int) (w : World) : Calls Try.prog 64 #[.int .i64 a, .int .i64 b] w fun e w' => e = .returned (.int .i64 (cmpI a b)) ∧ w = w' := by
  have H1 := Lib.hid (show a < b → cmpI a b = -1 from fun h => by unfold cmpI; rw [if_pos h])
  have H2 := Lib.hid (show b < a → cmpI a b = 1 from fun h => by unfold cmpI; rw [if_neg (by omega), if_pos h])
  have H3 := Lib.hid (show ¬ a < b → ¬ b < a → cmpI a b = 0 from fun h h' => by unfold cmpI; rw [if_neg h, if_neg h'])
  by_cases h1 : a < b
  · go_enter Try.func64, Try.ntmps64
    go_wp2
    go_ret
    exact ⟨by rw [H1.out (by omega)]; rfl, rfl⟩
  · by_cases h2 : b < a
    · go_enter Try.func64, Try.ntmps64
      go_wp2
      go_ret
      exact ⟨by rw [H2.out (by omega)]; rfl, rfl⟩
    · go_enter Try.func64, Try.ntmps64
      go_wp2
      go_ret
      exact ⟨by rw [H3.out (by omega) (by omega)]; rfl, rfl⟩

theorem cmpS_cases (a b : ByteArray) : (Op.bytesLess a.toList b.toList = true ∧ cmpS a b = -1) ∨ (Op.bytesLess a.toList b.toList = false ∧ (a.toList == b.toList) = true ∧ cmpS a b = 0) ∨ (Op.bytesLess a.toList b.toList = false ∧ (a.toList == b.toList) = false ∧ cmpS a b = 1) := by
  have t := ord_cmpS.tri a b
  have e := same_iff a.toList b.toList
  rw [less_iff]
  unfold cmpS at t ⊢
  rcases t with t | t | t
  · exact .inl ⟨by simp [t], t⟩
  · exact .inr (.inl ⟨by simp [t], beq_iff_eq.2 (e.1 t), t⟩)
  · refine .inr (.inr ⟨by simp [t], beq_eq_false_iff_ne.2 (fun h => ?_), t⟩)
    have := e.2 h; omega
set_option maxHeartbeats 400000 in
theorem compareS (a b : ByteArray) (w : World) : Calls Try.prog 87 #[.string a, .string b] w fun e w' => e = .returned (.int .i64 (cmpS a b)) ∧ w = w' := by
  rcases cmpS_cases a b with ⟨h1, h⟩ | ⟨h1, h2, h⟩ | ⟨h1, h2, h⟩
  all_goals
    have H := Lib.hid h
    clear h
    go_enter Try.func87, Try.ntmps87
    go_wp2_with (go_at_call 91; refine (nanS _ _).mono ?_; rintro e w' ⟨rfl, rfl⟩)
    go_ret
    exact ⟨by rw [H.out]; rfl, rfl⟩

theorem or3 (x y z : Int) : orI x (orI y z) = if x = 0 then (if y = 0 then z else y) else x := rfl

set_option maxHeartbeats 800000 in
/-- cmp.Or of three numbers that lie in a row. -/
theorem or_any (x y z : Int) (b : Nat) (w : World) (c0 : w.cell? ⟨b, 0, none⟩ = some (.int .i64 x)) (c1 : w.cell? ⟨b, 1, none⟩ = some (.int .i64 y)) (c2 : w.cell? ⟨b, 2, none⟩ = some (.int .i64 z)) :
    Calls Try.prog 85 #[.slice (some ⟨b, 0, none⟩) 3 3] w fun e w' => e = .returned (.int .i64 (orI x (orI y z))) ∧ w = w' := by
  have E := Lib.hid (or3 x y z)
  by_cases hx : (x == 0) = true
  · have hx' : (x != 0) = false := by simp [beq_iff_eq.1 hx]
    have HX := Lib.hid (beq_iff_eq.1 hx)
    by_cases hy : (y == 0) = true
    · have hy' : (y != 0) = false := by simp [beq_iff_eq.1 hy]
      have HY := Lib.hid (beq_iff_eq.1 hy)
      by_cases hz : (z == 0) = true
      · have hz' : (z != 0) = false := by simp [beq_iff_eq.1 hz]
        have HZ := Lib.hid (beq_iff_eq.1 hz)
        go_enter Try.func85, Try.ntmps85
        go_wp2
        refine wp_loop_rounds 4 ?_
        iterate 4 (rw [rounds_succ]; go_wp2)
        go_ret
        exact ⟨by rw [E.out, if_pos HX.out, if_pos HY.out, HZ.out]; rfl, rfl⟩
      · have hz' : (z != 0) = true := by simpa using hz
        go_enter Try.func85, Try.ntmps85
        go_wp2
        refine wp_loop_rounds 4 ?_
        iterate 3 (rw [rounds_succ]; go_wp2)
        go_ret
        exact ⟨by rw [E.out, if_pos HX.out, if_pos HY.out]; rfl, rfl⟩
    · have hy' : (y != 0) = true := by simpa using hy
      have HY := Lib.hid (show ¬ y = 0 by simpa using hy)
      go_enter Try.func85, Try.ntmps85
      go_wp2
      refine wp_loop_rounds 4 ?_
      iterate 2 (rw [rounds_succ]; go_wp2)
      go_ret
      exact ⟨by rw [E.out, if_pos HX.out, if_neg HY.out]; rfl, rfl⟩
  · have hx' : (x != 0) = true := by simpa using hx
    have HX := Lib.hid (show ¬ x = 0 by simpa using hx)
    go_enter Try.func85, Try.ntmps85
    go_wp2
    refine wp_loop_rounds 4 ?_
    iterate 1 (rw [rounds_succ]; go_wp2)
    go_ret
    exact ⟨by rw [E.out, if_neg HX.out]; rfl, rfl⟩
end Go.Proofs.Ytciipggccjiaiaa

