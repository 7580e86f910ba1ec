/- LexerNumbers, walked. -/
import Derived.Test.YthjbmlgjlndihaaLV
namespace Go.Proofs.Ythjbmlgjlndihaa
set_option maxRecDepth 100000
open Go.RowKit Go.Sort

theorem digits_any (n : Int) (h1 : -9223372036854775808 ≤ n) (h2 : n ≤ 9223372036854775807) (w : World) :
    Calls Try.prog 15 #[.int .i64 n] w fun e w' => e = .returned (.string (bs (decI n))) ∧ Below w.heap.size w w' := by
  by_cases h0 : n = 0
  · subst h0
    go_enter Try.func15, Try.ntmps15
    go_wp2
    go_ret
    exact ⟨rfl, Below.refl _ _⟩
  · by_cases hneg : n < 0
    · have := digits_neg n.natAbs (by omega) (by omega) w
      rw [show -(n.natAbs : Int) = n from by omega] at this
      unfold decI
      rw [if_neg h0, if_pos hneg]
      exact this
    · have := digits_pos n.natAbs (by omega) (by omega) w
      rw [show (n.natAbs : Int) = n from by omega] at this
      unfold decI
      rw [if_neg h0, if_neg hneg]
      exact this
set_option maxHeartbeats 3200000 in
theorem numbers_law (W : World) (n y : Int) (hn : -9223372036854775808 ≤ n ∧ n ≤ 9223372036854775807) (hy : 0 ≤ y ∧ y ≤ 255) : Calls Try.prog 7 #[.int .i64 n, .int .u8 y] W (Tr W) := by
  obtain ⟨hn1, hn2⟩ := hn
  obtain ⟨hy1, hy2⟩ := hy
  obtain ⟨D, hD1, hD2⟩ : ∃ D : Nat, y % 26 = (D : Int) ∧ D < 26 := ⟨(y % 26).toNat, by omega, by omega⟩
  obtain ⟨z, hz1, hz2⟩ : ∃ z : UInt8, z.toNat = 97 + D ∧ (97 ≤ z.toNat ∧ z.toNat ≤ 122) := ⟨UInt8.ofNat (97 + D), by simp; omega, by simp; omega⟩
  have cD := Lib.hid (fun w => digits_any n hn1 hn2 w)
  have R1 := Lib.hid (all_dec n hn1 hn2)
  have R2 := Lib.hid (all_bad_dec n (by omega) z hz2)
  have R3 := Lib.hid (all_name z hz2)
  have hl := (dec_len n (by omega)).2
  have V1 := Lib.hid (fun w => conv_bytes w (decI n ++ [41]) (by rw [List.length_append]; simp; omega))
  have V2 := Lib.hid (fun w => conv_bytes w (40 :: 32 :: (decI n ++ [z])) (by simp; omega))
  have V3 := Lib.hid (fun w => conv_bytes w [z, 55] (by simp))
  have K1 : Hid ((decI n ++ [41]).length ≤ 20000) := Lib.hid (by simp; omega)
  have K2 : Hid ((40 :: 32 :: (decI n ++ [z])).length ≤ 20000) := Lib.hid (by simp; omega)
  have p1 : bs (decI n) ++ (⟨#[41]⟩ : ByteArray) = bs (decI n ++ [41]) := bs_app _ [41]
  have p2 : (⟨#[40, 32]⟩ : ByteArray) ++ bs (decI n) = bs (40 :: 32 :: decI n) := bs_app [40, 32] _
  have p3 : bs (40 :: 32 :: decI n) ++ bs [z] = bs (40 :: 32 :: (decI n ++ [z])) := bs_app _ _
  have p4 : bs [z] ++ (⟨#[55]⟩ : ByteArray) = bs [z, 55] := bs_app _ [55]
  have q0 : (bs (decI n)).size ≤ 20 := by rw [bs_size]; exact hl
  have q2 : (bs (40 :: 32 :: decI n)).size ≤ 22 := by rw [bs_size]; simp; omega
  have q3 : (bs [z]).size = 1 := by rw [bs_size]; rfl
  have HC : Hid (∀ W : World, (convert 22 9 (.slice (some ⟨W.heap.size, 0, none⟩) 1 1)).run Try.prog (W.alloc (.cells #[.int .u8 (97 + (D : Int))] 5)) = .ok (.string (bs [z])) (W.alloc (.cells #[.int .u8 (97 + (D : Int))] 5))) := Lib.hid (fun W => by
    have h1 := (brow_one W z).conv 9 Try.underlying9
    have h2 : (z.toNat : Int) = 97 + (D : Int) := by omega
    unfold u8v at h1
    rw [h2] at h1
    exact h1)
  have s1 : Hid (bs [41] = ⟨#[41]⟩) := Lib.hid rfl
  generalize hG : decI n = G at cD R1 R2 V1 V2 K1 K2 p1 p2 p3 q0 q2
  clear hG hl hz1 hz2
  go_enter Try.func7, Try.ntmps7
  go_wp2_with fail
  refine (cD.out _).mono ?_
  rintro e w1 ⟨rfl, hb1⟩
  have B1 := Lib.hid hb1
  clear hb1
  obtain ⟨A1, c1, W1, run1, row1, bel1⟩ := V1.out w1
  have HR1 := Lib.hid row1
  have HB1 := Lib.hid (bnext B1.out bel1)
  have HK1 := Lib.hid K1.out
  clear row1 bel1
  generalize bs (G ++ [41]) = S1 at p1 run1
  generalize hL1 : (G ++ [41]).length = L1 at run1
  have HL1 := Lib.hid hL1
  clear hL1
  generalize bs G = S0 at p1 p2 q0 ⊢
  go_wp2_with fail
  refine (all_at (m := 2) HK1.out HL1.out.symm R1.out rfl HR1.out).mono ?_
  rintro e w2 ⟨A2, c2, rfl, hO2, hb2⟩
  obtain ⟨b, off, x0, rfl, hb, hx0, k0⟩ := hO2.row.elem (k := 0) (by simp)
  obtain ⟨b', off', x1, he, hb', hx1, k1⟩ := hO2.row.elem (k := 1) (by simp)
  injection he with he
  injection he with e1 e2
  subst e1 e2
  injection hx0 with hx0
  injection hx1 with hx1
  subst hx0 hx1
  have B2 := Lib.hid (bnext HB1.out hb2)
  have y0 : w2.cell? ⟨b, off, none⟩ = some (.int .i64 2) := by have := k0.c0; simpa using this
  have y3 : w2.cell? ⟨b, off + 3, none⟩ = some (.int .i64 n) := by have := k0.c3; simpa using this
  obtain ⟨S5, hS5⟩ : ∃ S, S = bs [41] := ⟨_, rfl⟩
  have y6 : w2.cell? ⟨b, off + 4 + 2, none⟩ = some (.string S5) := by rw [hS5]; have := k1.c2; simpa using this
  have t5 : (S5.toList == [41]) = true := by rw [hS5, bs_toList]; rfl
  clear hO2 hb2 k0 k1 hS5 run1 p1
  have hcv := HC.out w2
  generalize bs [z] = C at p3 p4 q3 hcv HC
  have N2 := Lib.hid (bnext B2.out (below_new w2 (.cells #[.int .u8 (97 + (D : Int))] 5)))
  obtain ⟨A3, c3, W3, run3, row3, bel3⟩ := V2.out (w2.alloc (.cells #[.int .u8 (97 + (D : Int))] 5))
  have HR3 := Lib.hid row3
  have HB3 := Lib.hid (bnext N2.out bel3)
  clear row3 bel3
  generalize bs (40 :: 32 :: (G ++ [z])) = S3 at p3 run3
  generalize hL3 : (40 :: 32 :: (G ++ [z])).length = L3 at run3
  have HL3 := Lib.hid hL3
  clear hL3
  generalize bs (40 :: 32 :: G) = S2 at p2 p3 q2
  go_wp2_with fail
  refine (all_at (m := 0) K2.out HL3.out.symm R2.out rfl HR3.out).mono ?_
  rintro e w4 ⟨A4, c4, rfl, hO4, hb4⟩
  have B4 := Lib.hid (bnext HB3.out hb4)
  clear hO4 hb4 run3 p3 hcv y0 y3 y6 t5
  obtain ⟨A5, c5, W5, run5, row5, bel5⟩ := V3.out w4
  have HR5 := Lib.hid row5
  have HB5 := Lib.hid (bnext B4.out bel5)
  clear row5 bel5
  rw [show [z, 55].length = 2 from rfl] at run5
  generalize hS4 : bs [z, 55] = S4 at p4 run5
  have HS4 := Lib.hid hS4
  clear hS4
  go_wp2_with fail
  refine (all_at (n := 2) (m := 1) (by simp) rfl R3.out rfl HR5.out).mono ?_
  rintro e w6 ⟨A6, c6, rfl, hO6, hb6⟩
  obtain ⟨b6, off6, x6, rfl, hb6', hx6, k6⟩ := hO6.row.elem (k := 0) (by simp)
  injection hx6 with hx6
  subst hx6
  have B6 := Lib.hid (bnext HB5.out hb6)
  have u0 : w6.cell? ⟨b6, off6, none⟩ = some (.int .i64 1) := by have := k6.c0; simpa using this
  have u2 : w6.cell? ⟨b6, off6 + 2, none⟩ = some (.string S4) := by rw [← HS4.out]; have := k6.c2; simpa using this
  clear hO6 hb6 k6 run5
  go_wp2_with fail
  refine (known_any _).mono ?_
  rintro e w' ⟨rfl, hb⟩
  have HF := Lib.hid (bnext B6.out hb)
  clear hb
  go_wp2
  go_ret
  exact ⟨rfl, HF.out⟩
end Go.Proofs.Ythjbmlgjlndihaa
