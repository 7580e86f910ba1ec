/- The token at the beginning of some bytes. -/
import Derived.Test.YthjbmlgjlndihaaLD
namespace Go.Proofs.Ythjbmlgjlndihaa
set_option maxRecDepth 100000
open Go.RowKit

/-- The first token of bytes that begin with no blank, without its place, and how many bytes it takes. -/
def firstP (l : Bs) : Option (TK × Nat) :=
  if letB (l.headD 0) = true then some (⟨1, 0, l.take (runN wordB l 1), 0⟩, runN wordB l 1)
  else if digB (l.headD 0) = true ∨ (l.headD 0).toNat = 45 then numP (l.take (runN wordB l 1))
  else if (l.headD 0).toNat = 39 then textO (textP (l.drop 1) [] 1)
  else if signB (l.headD 0) = true then some (⟨4, 0, l.take 1, 0⟩, 1)
  else none
theorem head_is (s : ByteArray) (hp : 0 < s.size) : s.toList.headD 0 = s[0]'hp := by
  have := drop_at s 0 hp
  rw [List.drop_zero] at this
  rw [this]; rfl
theorem first_let (s : ByteArray) (hp : 0 < s.size) (h : letB (s[0]'hp) = true) : firstP s.toList = some (⟨1, 0, s.toList.take (runN wordB s.toList 1), 0⟩, runN wordB s.toList 1) := by
  unfold firstP; rw [head_is s hp, if_pos h]
theorem first_num (s : ByteArray) (hp : 0 < s.size) (h : letB (s[0]'hp) = false) (h2 : digB (s[0]'hp) = true ∨ (s[0]'hp).toNat = 45) : firstP s.toList = numP (s.toList.take (runN wordB s.toList 1)) := by
  unfold firstP; rw [head_is s hp, if_neg (by simp [h]), if_pos h2]
theorem first_text (s : ByteArray) (hp : 0 < s.size) (h : letB (s[0]'hp) = false) (h2 : digB (s[0]'hp) = false) (h4 : (s[0]'hp).toNat = 39) : firstP s.toList = textO (textP (s.toList.drop 1) [] 1) := by
  unfold firstP; rw [head_is s hp, if_neg (by simp [h]), if_neg (by simp [h2]; omega), if_pos h4]
theorem first_sign (s : ByteArray) (hp : 0 < s.size) (h : letB (s[0]'hp) = false) (h2 : digB (s[0]'hp) = false) (h3 : ¬ (s[0]'hp).toNat = 45) (h4 : ¬ (s[0]'hp).toNat = 39) (h5 : signB (s[0]'hp) = true) : firstP s.toList = some (⟨4, 0, s.toList.take 1, 0⟩, 1) := by
  unfold firstP; rw [head_is s hp, if_neg (by simp [h]), if_neg (by simp [h2]; omega), if_neg h4, if_pos h5]
theorem first_none (s : ByteArray) (hp : 0 < s.size) (h : letB (s[0]'hp) = false) (h2 : digB (s[0]'hp) = false) (h3 : ¬ (s[0]'hp).toNat = 45) (h4 : ¬ (s[0]'hp).toNat = 39) (h5 : signB (s[0]'hp) = false) : firstP s.toList = none := by
  unfold firstP; rw [head_is s hp, if_neg (by simp [h]), if_neg (by simp [h2]; omega), if_neg h4, if_neg (by simp [h5])]

theorem take_bs (s : ByteArray) (n : Nat) : s.extract 0 n = bs (s.toList.take n) := by rw [bs_cut, List.drop_zero]

set_option maxHeartbeats 3200000 in
theorem first_any (s : ByteArray) (hs : s.size ≤ 20000) (hp : 0 < s.size) (w : World) : Calls Try.prog 24 #[.string s] w (FirstPost w (firstP s.toList)) := by
  cases hl : letB (s[0]'hp)
  · cases hd : digB (s[0]'hp)
    · by_cases h45 : (s[0]'hp).toNat = 45
      · have HN : Hid (firstP s.toList = numP (s.toList.take (runN wordB s.toList 1))) := Lib.hid (first_num s hp hl (.inr h45))
        have e45 : (((s[0]'hp).toNat : Int) == 45) = true := by simp; omega
        clear h45
        have hwl := runN_le wordB s.toList 1 (by rw [toList_size]; omega)
        rw [toList_size] at hwl
        have hwg := runN_ge wordB s.toList 1
        have cW := Lib.hid (word_any s hs (by omega))
        have HX := Lib.hid (take_bs s (runN wordB s.toList 1))
        have cN := Lib.hid (fun W => number_any (s.toList.take (runN wordB s.toList 1)) (by rw [List.length_take]; omega) W)
        unfold FirstPost at cN
        generalize numP (s.toList.take (runN wordB s.toList 1)) = X at cN HN
        generalize s.toList.take (runN wordB s.toList 1) = l2 at cN HX
        generalize runN wordB s.toList 1 = m at hwl hwg cW HX
        have hml : (m : Int) ≤ (s.size : Int) := by omega
        have hm0 : (0 : Int) ≤ (m : Int) := by omega
        generalize hT : tkO X = T at cN
        generalize hM : lnO X = M at cN
        generalize hI : X.isSome = I at cN
        have HT := Lib.hid hT
        have HM := Lib.hid hM
        have HI := Lib.hid hI
        clear hT hM hI
        generalize firstP s.toList = G at HN
        go_enter Try.func24, Try.ntmps24
        go_wp2_with fail
        have B0 := Lib.hid (tok_zero w)
        have z0 := Lib.hid (below_new w zbox)
        unfold zbox at B0 z0
        generalize hW : World.alloc w _ = W at B0 z0 ⊢
        clear hW
        refine (letter_any (s[0]'hp) _).mono ?_
        rintro e w' ⟨rfl, rfl⟩
        go_wp2_with fail
        refine (digit_any (s[0]'hp) _).mono ?_
        rintro e w' ⟨rfl, rfl⟩
        go_wp2_with fail
        refine (cW.out _).mono ?_
        rintro e w' ⟨rfl, rfl⟩
        have hX := HX.out
        go_wp2_with fail
        clear hX
        refine (cN.out _).mono ?_
        rintro e w1 ⟨rfl, hb⟩
        have B1 := Lib.hid (B0.out.next hb)
        have Z1 := Lib.hid (bnext z0.out hb)
        clear hb
        obtain ⟨c0, c1, c2, c3⟩ := B1.out.cells
        have f0 := B1.out.frozen 0
        have f1 := B1.out.frozen 1
        have f2 := B1.out.frozen 2
        have f3 := B1.out.frozen 3
        have HR := Lib.hid (B1.out.set ⟨T.k, T.p, T.s, T.n⟩)
        go_wp2
        obtain ⟨F, hF, ht', _, hbel', _⟩ := HR.out
        rw [← hF]
        clear hF
        obtain ⟨r0, r1, r2, r3⟩ := ht'.cells
        refine bodyPost_ret (v := .tuple #[.agg #[.int .i64 (T.k), .int .i64 (T.p), .string (bs (T.s)), .int .i64 (T.n)], .int .i64 (M : Int), .bool I]) (by simp [results, Try.results24, go_sem, r0, r1, r2, r3]) rfl ⟨?_, hbel' _ _ (Nat.le_refl _) Z1.out⟩
        rw [HN.out]
        rw [HT.out, HM.out, HI.out]
      · have e45 : (((s[0]'hp).toNat : Int) == 45) = false := by simp; omega
        by_cases h39 : (s[0]'hp).toNat = 39
        · have e39 : (((s[0]'hp).toNat : Int) == 39) = true := by simp; omega
          have HN := Lib.hid (first_text s hp hl hd h39)
          clear h39 h45
          have cN := Lib.hid (fun W => text_any s hs (by omega) W)
          unfold FirstPost at cN
          generalize textO (textP (s.toList.drop 1) [] 1) = X at cN HN
          generalize hT : tkO X = T at cN
          generalize hM : lnO X = M at cN
          generalize hI : X.isSome = I at cN
          have HT := Lib.hid hT
          have HM := Lib.hid hM
          have HI := Lib.hid hI
          clear hT hM hI
          generalize firstP s.toList = G at HN
          go_enter Try.func24, Try.ntmps24
          go_wp2_with fail
          have B0 := Lib.hid (tok_zero w)
          have z0 := Lib.hid (below_new w zbox)
          unfold zbox at B0 z0
          generalize hW : World.alloc w _ = W at B0 z0 ⊢
          clear hW
          refine (letter_any (s[0]'hp) _).mono ?_
          rintro e w' ⟨rfl, rfl⟩
          go_wp2_with fail
          refine (digit_any (s[0]'hp) _).mono ?_
          rintro e w' ⟨rfl, rfl⟩
          go_wp2_with fail
          refine (cN.out _).mono ?_
          rintro e w1 ⟨rfl, hb⟩
          have B1 := Lib.hid (B0.out.next hb)
          have Z1 := Lib.hid (bnext z0.out hb)
          clear hb
          obtain ⟨c0, c1, c2, c3⟩ := B1.out.cells
          have f0 := B1.out.frozen 0
          have f1 := B1.out.frozen 1
          have f2 := B1.out.frozen 2
          have f3 := B1.out.frozen 3
          have HR := Lib.hid (B1.out.set ⟨T.k, T.p, T.s, T.n⟩)
          go_wp2
          obtain ⟨F, hF, ht', _, hbel', _⟩ := HR.out
          rw [← hF]
          clear hF
          obtain ⟨r0, r1, r2, r3⟩ := ht'.cells
          refine bodyPost_ret (v := .tuple #[.agg #[.int .i64 (T.k), .int .i64 (T.p), .string (bs (T.s)), .int .i64 (T.n)], .int .i64 (M : Int), .bool I]) (by simp [results, Try.results24, go_sem, r0, r1, r2, r3]) rfl ⟨?_, hbel' _ _ (Nat.le_refl _) Z1.out⟩
          rw [HN.out]
          rw [HT.out, HM.out, HI.out]
        · have e39 : (((s[0]'hp).toNat : Int) == 39) = false := by simp; omega
          cases hg : signB (s[0]'hp)
          · have HN := Lib.hid (first_none s hp hl hd h45 h39 hg)
            clear h39 h45
            generalize firstP s.toList = G at HN
            go_enter Try.func24, Try.ntmps24
            go_wp2_with fail
            have B0 := Lib.hid (tok_zero w)
            have z0 := Lib.hid (below_new w zbox)
            unfold zbox at B0 z0
            generalize hW : World.alloc w _ = W at B0 z0 ⊢
            clear hW
            refine (letter_any (s[0]'hp) _).mono ?_
            rintro e w' ⟨rfl, rfl⟩
            go_wp2_with fail
            refine (digit_any (s[0]'hp) _).mono ?_
            rintro e w' ⟨rfl, rfl⟩
            go_wp2_with fail
            refine (sign_any (s[0]'hp) _).mono ?_
            rintro e w' ⟨rfl, rfl⟩
            obtain ⟨c0, c1, c2, c3⟩ := B0.out.cells
            have f0 := B0.out.frozen 0
            have f1 := B0.out.frozen 1
            have f2 := B0.out.frozen 2
            have f3 := B0.out.frozen 3
            have HR := Lib.hid (tok_clear B0.out)
            go_wp2
            obtain ⟨F, hF, ht', _, hbel', _⟩ := HR.out
            rw [← hF]
            clear hF
            obtain ⟨r0, r1, r2, r3⟩ := ht'.cells
            refine bodyPost_ret (v := .tuple #[.agg #[.int .i64 0, .int .i64 0, .string (bs []), .int .i64 0], .int .i64 0, .bool false]) (by simp [results, Try.results24, go_sem, r0, r1, r2, r3, TK.zero]) rfl ⟨?_, hbel' _ _ (Nat.le_refl _) z0.out⟩
            rw [HN.out]
            rfl
          · have HN := Lib.hid (first_sign s hp hl hd h45 h39 hg)
            clear h39 h45
            have HX := Lib.hid (take_bs s 1)
            generalize s.toList.take 1 = l2 at HN HX
            have h1i : (1 : Int) ≤ (s.size : Int) := by omega
            generalize firstP s.toList = G at HN
            go_enter Try.func24, Try.ntmps24
            go_wp2_with fail
            have B0 := Lib.hid (tok_zero w)
            have z0 := Lib.hid (below_new w zbox)
            unfold zbox at B0 z0
            generalize hW : World.alloc w _ = W at B0 z0 ⊢
            clear hW
            refine (letter_any (s[0]'hp) _).mono ?_
            rintro e w' ⟨rfl, rfl⟩
            go_wp2_with fail
            refine (digit_any (s[0]'hp) _).mono ?_
            rintro e w' ⟨rfl, rfl⟩
            go_wp2_with fail
            refine (sign_any (s[0]'hp) _).mono ?_
            rintro e w' ⟨rfl, rfl⟩
            have hX := HX.out
            obtain ⟨c0, c1, c2, c3⟩ := B0.out.cells
            have f0 := B0.out.frozen 0
            have f1 := B0.out.frozen 1
            have f2 := B0.out.frozen 2
            have f3 := B0.out.frozen 3
            have HR := Lib.hid (B0.out.set ⟨4, 0, l2, 0⟩)
            go_wp2
            obtain ⟨F, hF, ht', _, hbel', _⟩ := HR.out
            rw [← hF]
            clear hF
            obtain ⟨r0, r1, r2, r3⟩ := ht'.cells
            refine bodyPost_ret (v := .tuple #[.agg #[.int .i64 (4), .int .i64 (0), .string (bs (l2)), .int .i64 (0)], .int .i64 1, .bool true]) (by simp [results, Try.results24, go_sem, r0, r1, r2, r3]) rfl ⟨?_, hbel' _ _ (Nat.le_refl _) z0.out⟩
            rw [HN.out]
            rfl
    · have HN : Hid (firstP s.toList = numP (s.toList.take (runN wordB s.toList 1))) := Lib.hid (first_num s hp hl (.inl hd))
      have hwl := runN_le wordB s.toList 1 (by rw [toList_size]; omega)
      rw [toList_size] at hwl
      have hwg := runN_ge wordB s.toList 1
      have cW := Lib.hid (word_any s hs (by omega))
      have HX := Lib.hid (take_bs s (runN wordB s.toList 1))
      have cN := Lib.hid (fun W => number_any (s.toList.take (runN wordB s.toList 1)) (by rw [List.length_take]; omega) W)
      unfold FirstPost at cN
      generalize numP (s.toList.take (runN wordB s.toList 1)) = X at cN HN
      generalize s.toList.take (runN wordB s.toList 1) = l2 at cN HX
      generalize runN wordB s.toList 1 = m at hwl hwg cW HX
      have hml : (m : Int) ≤ (s.size : Int) := by omega
      have hm0 : (0 : Int) ≤ (m : Int) := by omega
      generalize hT : tkO X = T at cN
      generalize hM : lnO X = M at cN
      generalize hI : X.isSome = I at cN
      have HT := Lib.hid hT
      have HM := Lib.hid hM
      have HI := Lib.hid hI
      clear hT hM hI
      generalize firstP s.toList = G at HN
      go_enter Try.func24, Try.ntmps24
      go_wp2_with fail
      have B0 := Lib.hid (tok_zero w)
      have z0 := Lib.hid (below_new w zbox)
      unfold zbox at B0 z0
      generalize hW : World.alloc w _ = W at B0 z0 ⊢
      clear hW
      refine (letter_any (s[0]'hp) _).mono ?_
      rintro e w' ⟨rfl, rfl⟩
      go_wp2_with fail
      refine (digit_any (s[0]'hp) _).mono ?_
      rintro e w' ⟨rfl, rfl⟩
      go_wp2_with fail
      refine (cW.out _).mono ?_
      rintro e w' ⟨rfl, rfl⟩
      have hX := HX.out
      go_wp2_with fail
      clear hX
      refine (cN.out _).mono ?_
      rintro e w1 ⟨rfl, hb⟩
      have B1 := Lib.hid (B0.out.next hb)
      have Z1 := Lib.hid (bnext z0.out hb)
      clear hb
      obtain ⟨c0, c1, c2, c3⟩ := B1.out.cells
      have f0 := B1.out.frozen 0
      have f1 := B1.out.frozen 1
      have f2 := B1.out.frozen 2
      have f3 := B1.out.frozen 3
      have HR := Lib.hid (B1.out.set ⟨T.k, T.p, T.s, T.n⟩)
      go_wp2
      obtain ⟨F, hF, ht', _, hbel', _⟩ := HR.out
      rw [← hF]
      clear hF
      obtain ⟨r0, r1, r2, r3⟩ := ht'.cells
      refine bodyPost_ret (v := .tuple #[.agg #[.int .i64 (T.k), .int .i64 (T.p), .string (bs (T.s)), .int .i64 (T.n)], .int .i64 (M : Int), .bool I]) (by simp [results, Try.results24, go_sem, r0, r1, r2, r3]) rfl ⟨?_, hbel' _ _ (Nat.le_refl _) Z1.out⟩
      rw [HN.out]
      rw [HT.out, HM.out, HI.out]
  · have HN := Lib.hid (first_let s hp hl)
    have hwl := runN_le wordB s.toList 1 (by rw [toList_size]; omega)
    rw [toList_size] at hwl
    have hwg := runN_ge wordB s.toList 1
    have cW := Lib.hid (word_any s hs (by omega))
    have HX := Lib.hid (take_bs s (runN wordB s.toList 1))
    generalize s.toList.take (runN wordB s.toList 1) = l2 at HN HX
    generalize runN wordB s.toList 1 = m at hwl hwg cW HX HN
    have hml : (m : Int) ≤ (s.size : Int) := by omega
    have hm0 : (0 : Int) ≤ (m : Int) := by omega
    generalize firstP s.toList = G at HN
    go_enter Try.func24, Try.ntmps24
    go_wp2_with fail
    have B0 := Lib.hid (tok_zero w)
    have z0 := Lib.hid (below_new w zbox)
    unfold zbox at B0 z0
    generalize hW : World.alloc w _ = W at B0 z0 ⊢
    clear hW
    refine (letter_any (s[0]'hp) _).mono ?_
    rintro e w' ⟨rfl, rfl⟩
    go_wp2_with fail
    refine (cW.out _).mono ?_
    rintro e w' ⟨rfl, rfl⟩
    have hX := HX.out
    obtain ⟨c0, c1, c2, c3⟩ := B0.out.cells
    have f0 := B0.out.frozen 0
    have f1 := B0.out.frozen 1
    have f2 := B0.out.frozen 2
    have f3 := B0.out.frozen 3
    have HR := Lib.hid (B0.out.set ⟨1, 0, l2, 0⟩)
    go_wp2
    obtain ⟨F, hF, ht', _, hbel', _⟩ := HR.out
    rw [← hF]
    clear hF
    obtain ⟨r0, r1, r2, r3⟩ := ht'.cells
    refine bodyPost_ret (v := .tuple #[.agg #[.int .i64 (1), .int .i64 (0), .string (bs (l2)), .int .i64 (0)], .int .i64 (m : Int), .bool true]) (by simp [results, Try.results24, go_sem, r0, r1, r2, r3]) rfl ⟨?_, hbel' _ _ (Nat.le_refl _) z0.out⟩
    rw [HN.out]
    rfl
end Go.Proofs.Ythjbmlgjlndihaa
