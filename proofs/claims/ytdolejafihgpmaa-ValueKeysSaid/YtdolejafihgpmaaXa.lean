/- Contract of slices.swapRangeCmpFunc over a row of pairs: two stretches change places, pair by pair. -/
import Derived.Test.YtdolejafihgpmaaP
import Derived.Laws.IdiomCopy
import Derived.Test.YtdolejafihgpmaaXb
namespace Go.Proofs.Ytdolejafihgpmaa
open Go.RowKit Go.Sort

theorem drew_cell (w : World) (p : Addr) : w.drew.cell? p = w.cell? p := rfl
theorem drew_frozen (w : World) (p : Addr) : w.drew.frozen? p = w.frozen? p := rfl
/-- What stands apart from a pair that was written. -/
theorem put10_off (w : World) (g o j : Nat) (p : Pr) (h : j < o ∨ o + 10 ≤ j) : (put10 w g o p).drew.cell? ⟨g, j, none⟩ = w.cell? ⟨g, j, none⟩ := by
  rw [drew_cell, put10_eq]
  exact World.cell?_setCells_out g _ _ _ _ (fun _ _ => by rw [Pr.len]; omega)
theorem put10_frozen (w : World) (g o j : Nat) (p : Pr) : (put10 w g o p).drew.frozen? ⟨g, j, none⟩ = w.frozen? ⟨g, j, none⟩ := by
  rw [drew_frozen, put10_eq, World.frozen?_setCells]
set_option maxHeartbeats 4000000 in
set_option maxRecDepth 100000 in
theorem swapRange_any (w : World) (g B d n cap : Nat) (ps : Array Pr) (h : Held w w g B d n ps) (a b k : Nat) (hab : a + k ≤ b) (hb : b + k ≤ n) (hn : n ≤ 100000) :
    Calls Try.prog 67 #[.slice (some ⟨g, 0, none⟩) n cap, .int .i64 a, .int .i64 b, .int .i64 k, .func (.func 60) #[] #[]] w fun e w' => e = .returned (.tuple #[]) ∧ Held w w' g B d n (swpR ps a b k) := by
  have H := Lib.hid h
  clear h
  have haz : (a : Int) + (k : Int) ≤ (b : Int) := by omega
  have hbz : (b : Int) + (k : Int) ≤ (n : Int) := by omega
  go_enter Try.func67, Try.ntmps67
  go_wp2
  go_loopw [10] (fun vi wr => ∃ i : Nat, i ≤ k ∧ vi = .int .i64 i ∧ Hid (Held w wr g B d n (swpR ps a b i))) (fun vi _ => k - (intOf vi).toNat)
  case atStart => exact ⟨0, by omega, rfl, H⟩
  case round =>
    obtain ⟨i, hi, rfl, hH⟩ := hrel
    by_cases hlt : i < k
    · have hltz : (i : Int) < (k : Int) := by omega
      have j1 : IntKind.i64.wrap ((a : Int) + (i : Int)) = (a : Int) + (i : Int) := IntWalk.i64_in _ (by omega)
      have j2 : IntKind.i64.wrap ((b : Int) + (i : Int)) = (b : Int) + (i : Int) := IntWalk.i64_in _ (by omega)
      have a0 : (0 : Int) ≤ (a : Int) + (i : Int) := by omega
      have b0 : (0 : Int) ≤ (b : Int) + (i : Int) := by omega
      have a1 : (a : Int) + (i : Int) < (n : Int) := by omega
      have b1 : (b : Int) + (i : Int) < (n : Int) := by omega
      have a2 : ((a : Int) + (i : Int)).toNat = a + i := by omega
      have b2 : ((b : Int) + (i : Int)).toNat = b + i := by omega
      generalize hx : (swpR ps a b i)[a + i]! = x
      generalize hy : (swpR ps a b i)[b + i]! = y
      have HX := Lib.hid hx
      have HY := Lib.hid hy
      clear hx hy
      obtain ⟨q0, q1, q2, q3, q4, q5, q6, q7, q8, q9, zq0, zq1, zq2, zq3, zq4, zq5, zq6, zq7, zq8, zq9⟩ := hH.out.ten (a + i) (by omega) HX.out
      obtain ⟨p0, p1, p2, p3, p4, p5, p6, p7, p8, p9, zp0, zp1, zp2, zp3, zp4, zp5, zp6, zp7, zp8, zp9⟩ := hH.out.ten (b + i) (by omega) HY.out
      have SW := hH.out.swap10 (a + i) (b + i) (by omega) (by omega) HX.out HY.out
      change Held _ _ _ _ _ _ (swpR ps a b (i + 1)) at SW
      unfold put10 at SW
      have SWH := Lib.hid SW
      clear SW
      have X0 := (put10_off wr g ((a + i) * 10) ((b + i) * 10) y (by omega)).trans p0
      have Z0 := (put10_frozen wr g ((a + i) * 10) ((b + i) * 10) y).trans zp0
      have X1 := (put10_off wr g ((a + i) * 10) ((b + i) * 10 + 1) y (by omega)).trans p1
      have Z1 := (put10_frozen wr g ((a + i) * 10) ((b + i) * 10 + 1) y).trans zp1
      have X2 := (put10_off wr g ((a + i) * 10) ((b + i) * 10 + 2) y (by omega)).trans p2
      have Z2 := (put10_frozen wr g ((a + i) * 10) ((b + i) * 10 + 2) y).trans zp2
      have X3 := (put10_off wr g ((a + i) * 10) ((b + i) * 10 + 3) y (by omega)).trans p3
      have Z3 := (put10_frozen wr g ((a + i) * 10) ((b + i) * 10 + 3) y).trans zp3
      have X4 := (put10_off wr g ((a + i) * 10) ((b + i) * 10 + 4) y (by omega)).trans p4
      have Z4 := (put10_frozen wr g ((a + i) * 10) ((b + i) * 10 + 4) y).trans zp4
      have X5 := (put10_off wr g ((a + i) * 10) ((b + i) * 10 + 5) y (by omega)).trans p5
      have Z5 := (put10_frozen wr g ((a + i) * 10) ((b + i) * 10 + 5) y).trans zp5
      have X6 := (put10_off wr g ((a + i) * 10) ((b + i) * 10 + 6) y (by omega)).trans p6
      have Z6 := (put10_frozen wr g ((a + i) * 10) ((b + i) * 10 + 6) y).trans zp6
      have X7 := (put10_off wr g ((a + i) * 10) ((b + i) * 10 + 7) y (by omega)).trans p7
      have Z7 := (put10_frozen wr g ((a + i) * 10) ((b + i) * 10 + 7) y).trans zp7
      have X8 := (put10_off wr g ((a + i) * 10) ((b + i) * 10 + 8) y (by omega)).trans p8
      have Z8 := (put10_frozen wr g ((a + i) * 10) ((b + i) * 10 + 8) y).trans zp8
      have X9 := (put10_off wr g ((a + i) * 10) ((b + i) * 10 + 9) y (by omega)).trans p9
      have Z9 := (put10_frozen wr g ((a + i) * 10) ((b + i) * 10 + 9) y).trans zp9
      unfold put10 at X0 Z0 X1 Z1 X2 Z2 X3 Z3 X4 Z4 X5 Z5 X6 Z6 X7 Z7 X8 Z8 X9 Z9
      go_wp2_with fail
      go_region
      all_goals
        go_wp2
        go_roundw
        case rel => exact ⟨i + 1, by omega, by go_num, SWH⟩
        case measure => simp [intOf]; omega
    · obtain rfl : i = k := by omega
      go_wp2
      go_end0
      exact ⟨rfl, hH.out⟩
end Go.Proofs.Ytdolejafihgpmaa
