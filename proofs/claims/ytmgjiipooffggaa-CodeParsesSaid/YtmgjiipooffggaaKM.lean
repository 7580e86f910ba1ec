/- The reader's read: a value at any level. -/
import Derived.Test.YtmgjiipooffggaaKL
namespace Go.Proofs.Ytmgjiipooffggaa
set_option maxRecDepth 100000
open Go.RowKit Go.Sort

theorem rd_succ (r : Nat) (l : Bs) : rd (r + 1) l =
    if numB (l.headD 0) then numV' (numR l)
    else if l.headD 0 = 39 then textV' (textR 1001 [] (l.drop 1))
    else if 97 ≤ (l.headD 0).toNat ∧ (l.headD 0).toNat ≤ 122 then namedR (rd r) l
    else match takeL [91] l with
      | some q => rowV' 6 (rowR [93] (rd r) q)
      | none => match takeL [123] l with
        | some q => dictV' (rowR [125] (pairR (rd r)) q)
        | none => none := rfl

set_option maxHeartbeats 1600000 in
theorem read_zero : ReadOk 0 := by
  intro w g s l lev hlev _ hR
  have HR := Lib.hid hR
  have LT := Lib.hid hR.lt
  have hl1 : 12 < lev := by omega
  clear hR hlev
  go_enter Try.func32, Try.ntmps32
  go_upto_region 1 with fail
  have z0 := below_new w (.cells #[.int .i64 0, .int .i64 0, .string ⟨#[]⟩, .slice none 0 0, .slice none 0 0] 24)
  have c0 := Cell.new w (.int .i64 0) (.int .i64 0) (.string ⟨#[]⟩) (.slice none 0 0) (.slice none 0 0)
  generalize hW : World.alloc w _ = W0 at z0 c0 ⊢
  clear hW
  have R0 := Lib.hid (HR.out.next z0)
  have K0 := Lib.hid (RK.below z0 LT.out)
  have B0 := Lib.hid c0
  clear z0 c0
  obtain ⟨r0, hr0⟩ : ∃ r0 : Nat, r0 = w.heap.size := ⟨_, rfl⟩
  rw [← hr0] at B0
  rw [← hr0]
  replace hr0 := Lib.hid hr0
  obtain ⟨s0, s1, s2, s3, s4, f0, f1, f2, f3, f4, hblk⟩ := B0.out
  have HRB := Lib.hid (ret_box hblk (.int .i64 0) (.int .i64 0) (.string ⟨#[]⟩) (.slice none 0 0) (.slice none 0 0))
  clear hblk
  go_wp2
  obtain ⟨F, hF, ⟨r0', r1', r2', r3', r4', _⟩, hk', hs', hbel'⟩ := HRB.out
  rw [← hF]
  clear hF
  refine bodyPost_ret (v := .tuple #[.agg #[.int .i64 0, .int .i64 0, .string ⟨#[]⟩, .slice none 0 0, .slice none 0 0], .bool false]) (by simp [results, Try.results32, go_sem, r0', r1', r2', r3', r4']) rfl
    (val_end (q := zAt) (lo := (r0 + 1)) LT.out (Nat.le_of_eq hr0.out.symm) hk' hs' hbel' K0.out R0.out (rd_plain _ _ _ _ 0 0 _ (fld_mk _ _ (by decide) (by decide) (by decide) (by decide) (by decide))) (Nat.lt_succ_self _) (by simp [rd]) (fun _ => rfl))

set_option maxHeartbeats 6400000 in
theorem read_succ (r : Nat) (ih : ReadOk r) : ReadOk (r + 1) := by
  intro w g s l lev hlev hr hR
  have hlev2 : lev = 12 - r := by omega
  have hr2 : r ≤ 11 := by omega
  have HR := Lib.hid hR
  have LT := Lib.hid hR.lt
  have N1 := Lib.hid (fun W (h : RL W g s l) => number_any' W g s l h)
  have N2 := Lib.hid (fun W (h : RL W g s l) => text_any' W g s l h)
  have N3 := Lib.hid (fun W (h : RL W g s l) => named_read r ih hr2 W g s l lev hlev2 h)
  have N4 := Lib.hid (fun W q (h : RL W g s q) => row_read r ih hr2 W g s q 6 lev (by omega) (by omega) hlev2 h)
  have N5 := Lib.hid (fun W q (h : RL W g s q) => dict_read r ih hr2 W g s q lev hlev2 h)
  have PK := Lib.hid (fun W (h : RL W g s l) => peek_any W g s l h)
  have hl1 : ¬ (12 < lev) := by omega
  have hl2 : lev ≤ 12 := by omega
  clear hR hlev hlev2 ih
  have RDE := Lib.hid (rd_succ r l)
  generalize hG : rd (r + 1) l = G at RDE ⊢
  clear hG
  have q39 := byte_is (l.headD 0) 39 (by omega)
  have hlt := (l.headD 0).toNat_lt
  generalize l.headD 0 = c at *
  go_enter Try.func32, Try.ntmps32
  go_upto_region 1 with fail
  have z0 := below_new w (.cells #[.int .i64 0, .int .i64 0, .string ⟨#[]⟩, .slice none 0 0, .slice none 0 0] 24)
  have c0 := Cell.new w (.int .i64 0) (.int .i64 0) (.string ⟨#[]⟩) (.slice none 0 0) (.slice none 0 0)
  generalize hW : World.alloc w _ = W0 at z0 c0 ⊢
  clear hW
  have R0 := Lib.hid (HR.out.next z0)
  have K0 := Lib.hid (RK.below z0 LT.out)
  have B0 := Lib.hid c0
  clear z0 c0
  obtain ⟨r0, hr0⟩ : ∃ r0 : Nat, r0 = w.heap.size := ⟨_, rfl⟩
  rw [← hr0] at B0
  rw [← hr0]
  replace hr0 := Lib.hid hr0
  go_wp2_with fail
  refine (PK.out _ R0.out).mono ?_
  rintro e W1 ⟨rfl, hb1⟩
  have R1 := Lib.hid (R0.out.next hb1)
  have K1 := Lib.hid (K0.out.trans (RK.below hb1 R0.out.lt))
  have B1 := Lib.hid (B0.out.below hb1 B0.out.blk.lt)
  clear hb1 R0 K0 B0 PK
  go_wp2_with fail
  refine (ofNumber_any c W1).mono ?_
  rintro e W1' ⟨rfl, rfl⟩
  cases hnc : numB c with
  | true =>
    have hG : G = numV' (numR l) := by rw [RDE.out, if_pos hnc]
    have HG := Lib.hid hG
    clear hG
    have NP := N1.out W1 R1.out
    unfold NumPost at NP
    have NF := parseV_fits (l.takeWhile numB)
    have HGE : Hid (numV' (numR l) = if parseE (l.takeWhile numB) = 0 then some (.mk 2 (parseV (l.takeWhile numB)) ⟨#[]⟩ [] [], l.dropWhile numB) else none) := Lib.hid (by
      unfold numR
      by_cases h : parseE (l.takeWhile numB) = 0
      · rw [if_pos h, if_pos h]; rfl
      · rw [if_neg h, if_neg h]; rfl)
    generalize parseV (l.takeWhile numB) = vn at *
    generalize hE : (parseE (l.takeWhile numB) == 0) = E at *
    have HE := Lib.hid hE
    clear hE
    have NP' := Lib.hid NP
    clear NP
    go_wp2_with fail
    refine NP'.out.mono ?_
    rintro e W2 ⟨rfl, r2, k2⟩
    have R2 := Lib.hid r2
    have K2 := Lib.hid (K1.out.trans k2)
    have B2 := Lib.hid (B1.out.kept (k2.other r0 B1.out.blk.lt (fun e => by have := LT.out; have := hr0.out; omega)))
    clear r2 k2
    go_wp2_with fail
    refine (number_any vn W2 NF.1 NF.2).mono ?_
    rintro e Wt ⟨A, c1, A', c2, rfl, rdt, _, _, hbt⟩
    have Rt := Lib.hid (R2.out.next hbt)
    have Kt := Lib.hid (K2.out.trans (RK.below hbt R2.out.lt))
    have Bt := Lib.hid (B2.out.below hbt B2.out.blk.lt)
    have RDT := Lib.hid rdt
    have LOT := Lib.hid (show r0 < W2.heap.size from B2.out.blk.lt)
    clear rdt hbt
    obtain ⟨s0, s1, s2, s3, s4, f0, f1, f2, f3, f4, hblk⟩ := Bt.out
    have HRB := Lib.hid (ret_box hblk (.int .i64 (V.mk 2 vn ⟨#[]⟩ [] []).k) (.int .i64 (V.mk 2 vn ⟨#[]⟩ [] []).n) (.string (V.mk 2 vn ⟨#[]⟩ [] []).s) (.slice A (V.mk 2 vn ⟨#[]⟩ [] []).l.length c1) (.slice A' (V.mk 2 vn ⟨#[]⟩ [] []).m.length c2))
    clear hblk
    go_wp2
    obtain ⟨F, hF, ⟨r0', r1', r2', r3', r4', _⟩, hk', hs', hbel'⟩ := HRB.out
    rw [← hF]
    clear hF
    refine bodyPost_ret (v := .tuple #[.agg #[.int .i64 (V.mk 2 vn ⟨#[]⟩ [] []).k, .int .i64 (V.mk 2 vn ⟨#[]⟩ [] []).n, .string (V.mk 2 vn ⟨#[]⟩ [] []).s, .slice A (V.mk 2 vn ⟨#[]⟩ [] []).l.length c1, .slice A' (V.mk 2 vn ⟨#[]⟩ [] []).m.length c2], .bool E]) (by simp [results, Try.results32, go_sem, r0', r1', r2', r3', r4']) rfl
      (val_end (q := ⟨.mk 2 vn ⟨#[]⟩ [] [], A, c1, A', c2⟩) (lo := W2.heap.size) LT.out (Nat.le_of_eq hr0.out.symm) hk' hs' hbel' Kt.out Rt.out (Rd.more RDT.out (Nat.le_refl _) (Nat.le_refl _) (by omega)) LOT.out ?_ ?_)
    · intro t r' ho
      rw [HG.out, HGE.out] at ho
      split at ho
      · rename_i h0
        injection ho with ho
        injection ho with h1 h2
        exact ⟨by rw [← HE.out]; simpa using h0, h1, h2⟩
      · cases ho
    · intro ho
      rw [HG.out, HGE.out] at ho
      split at ho
      · cases ho
      · rename_i h0
        rw [← HE.out]; simpa using h0
  | false =>
    by_cases h39 : c = 39
    · skip
      have hG : G = textV' (textR 1001 [] (l.drop 1)) := by rw [RDE.out, if_neg (by rw [hnc]; simp), if_pos h39]
      have HG := Lib.hid hG
      clear hG
      have p39 : ((c.toNat : Int) == 39) = true := by rw [h39]; rfl
      clear q39 h39
      have TP := N2.out W1 R1.out
      generalize textR 1001 [] (l.drop 1) = X at *
      generalize hq : X.isSome = bq
      have TP' := Lib.hid TP
      clear TP
      go_wp2_with fail
      refine TP'.out.mono ?_
      rintro e W2 ⟨bs, l', rfl, hbl, r2, k2, hx⟩
      rw [hq]
      have HQ := Lib.hid hq
      have HX := Lib.hid hx
      clear hq hx
      have R2 := Lib.hid r2
      have K2 := Lib.hid (K1.out.trans k2)
      have B2 := Lib.hid (B1.out.kept (k2.other r0 B1.out.blk.lt (fun e => by have := LT.out; have := hr0.out; omega)))
      clear r2 k2
      have hsz0 : (⟨bs.toArray⟩ : ByteArray).size = bs.length := by simp [ByteArray.size]
      have hsz : (⟨bs.toArray⟩ : ByteArray).size ≤ 140737488355328 := by omega
      clear hsz0
      obtain ⟨sb, hsb⟩ : ∃ sb : ByteArray, sb = ⟨bs.toArray⟩ := ⟨_, rfl⟩
      rw [← hsb] at hsz ⊢
      replace hsb := Lib.hid hsb
      go_wp2_with fail
      refine (word_any sb W2 hsz).mono ?_
      rintro e Wt ⟨A, c1, A', c2, rfl, rdt, _, _, hbt⟩
      have Rt := Lib.hid (R2.out.next hbt)
      have Kt := Lib.hid (K2.out.trans (RK.below hbt R2.out.lt))
      have Bt := Lib.hid (B2.out.below hbt B2.out.blk.lt)
      have RDT := Lib.hid rdt
      have LOT := Lib.hid (show r0 < W2.heap.size from B2.out.blk.lt)
      clear rdt hbt
      obtain ⟨s0, s1, s2, s3, s4, f0, f1, f2, f3, f4, hblk⟩ := Bt.out
      have HRB := Lib.hid (ret_box hblk (.int .i64 (V.mk 3 0 sb [] []).k) (.int .i64 (V.mk 3 0 sb [] []).n) (.string (V.mk 3 0 sb [] []).s) (.slice A (V.mk 3 0 sb [] []).l.length c1) (.slice A' (V.mk 3 0 sb [] []).m.length c2))
      clear hblk
      go_wp2
      obtain ⟨F, hF, ⟨r0', r1', r2', r3', r4', _⟩, hk', hs', hbel'⟩ := HRB.out
      rw [← hF]
      clear hF
      refine bodyPost_ret (v := .tuple #[.agg #[.int .i64 (V.mk 3 0 sb [] []).k, .int .i64 (V.mk 3 0 sb [] []).n, .string (V.mk 3 0 sb [] []).s, .slice A (V.mk 3 0 sb [] []).l.length c1, .slice A' (V.mk 3 0 sb [] []).m.length c2], .bool bq]) (by simp [results, Try.results32, go_sem, r0', r1', r2', r3', r4']) rfl
        (val_end (q := ⟨.mk 3 0 sb [] [], A, c1, A', c2⟩) (lo := W2.heap.size) LT.out (Nat.le_of_eq hr0.out.symm) hk' hs' hbel' Kt.out Rt.out (Rd.more RDT.out (Nat.le_refl _) (Nat.le_refl _) (by omega)) LOT.out ?_ ?_)
      · intro t r' ho
        rw [HG.out] at ho
        cases hX : X with
        | none => rw [hX] at ho; cases ho
        | some p =>
          rw [hX] at ho
          injection ho with ho
          injection ho with h1 h2
          obtain ⟨e1, e2⟩ := HX.out p.1 p.2 hX
          exact ⟨by rw [← HQ.out, hX]; rfl, by rw [← h1, hsb.out, e1], by rw [e2, h2]⟩
      · intro ho
        rw [HG.out] at ho
        cases hX : X with
        | none => rw [← HQ.out, hX]; rfl
        | some p => rw [hX] at ho; cases ho
    · skip
      have p39 : ((c.toNat : Int) == 39) = false := by rw [show (39 : Int) = ((39 : Nat) : Int) from rfl, q39]; simpa using h39
      by_cases h97 : (97 : Int) ≤ (c.toNat : Int)
      · by_cases h122 : (c.toNat : Int) ≤ 122
        · skip
          have hG : G = namedR (rd r) l := by rw [RDE.out, if_neg (by rw [hnc]; simp), if_neg h39, if_pos ⟨by omega, by omega⟩]
          clear q39 h39 RDE
          have TH := N3.out W1 R1.out
          rw [← hG] at TH
          have TH' := Lib.hid TH
          clear TH hG
          go_wp2_with fail
          refine TH'.out.mono ?_
          rintro e Wt ⟨z, b, l', rfl, rdz, rt, kt, hx, hn⟩
          have Rt := Lib.hid rt
          have Kt := Lib.hid (K1.out.trans kt)
          have Bt := Lib.hid (B1.out.kept (kt.other r0 B1.out.blk.lt (fun e => by have := LT.out; have := hr0.out; omega)))
          have HX := Lib.hid hx
          have HN := Lib.hid hn
          have RDZ := Lib.hid rdz
          have LOT := Lib.hid (show r0 < W1.heap.size from B1.out.blk.lt)
          clear rt kt hx hn rdz
          obtain ⟨s0, s1, s2, s3, s4, f0, f1, f2, f3, f4, hblk⟩ := Bt.out
          have HRB := Lib.hid (ret_box hblk (.int .i64 z.t.k) (.int .i64 z.t.n) (.string z.t.s) (.slice z.A z.t.l.length z.c) (.slice z.A' z.t.m.length z.c'))
          clear hblk
          go_wp2
          obtain ⟨F, hF, ⟨r0', r1', r2', r3', r4', _⟩, hk', hs', hbel'⟩ := HRB.out
          rw [← hF]
          clear hF
          refine bodyPost_ret (v := .tuple #[.agg #[.int .i64 z.t.k, .int .i64 z.t.n, .string z.t.s, .slice z.A z.t.l.length z.c, .slice z.A' z.t.m.length z.c'], .bool b]) (by simp [results, Try.results32, go_sem, r0', r1', r2', r3', r4']) rfl
            (val_end (q := z) (lo := W1.heap.size) LT.out (Nat.le_of_eq hr0.out.symm) hk' hs' hbel' Kt.out Rt.out RDZ.out LOT.out HX.out HN.out)
        · skip
          have HG1 : Hid (G = (match takeL [91] l with | some q => rowV' 6 (rowR [93] (rd r) q) | none => match takeL [123] l with | some q => dictV' (rowR [125] (pairR (rd r)) q) | none => none)) := Lib.hid (by rw [RDE.out, if_neg (by rw [hnc]; simp), if_neg h39, if_neg (by rintro ⟨_, h⟩; omega)])
          clear q39 h39 RDE
          generalize ht : takeL [91] l = t1
          have HT1 := Lib.hid ht
          clear ht
          have F1 := take_any W1 g s ⟨#[91]⟩ l R1.out
          unfold TakePost at F1
          rw [show (⟨#[91]⟩ : ByteArray).data.toList = [91] from rfl, HT1.out] at F1
          have F1' := Lib.hid F1
          clear F1
          go_wp2_with fail
          refine F1'.out.mono ?_
          clear F1'
          cases t1 with
          | some q =>
            rintro e W2 ⟨rfl, rr, kk⟩
            have R2 := Lib.hid (show RL W2 g s q from rr)
            have K2 := Lib.hid (K1.out.trans kk)
            have B2 := Lib.hid (B1.out.kept (kk.other r0 B1.out.blk.lt (fun e => by have := LT.out; have := hr0.out; omega)))
            clear rr kk
            have hG : G = rowV' 6 (rowR [93] (rd r) q) := by rw [HG1.out]; simp only [HT1.out]
            clear HG1
            have TH := N4.out W2 q R2.out
            rw [← hG] at TH
            have TH' := Lib.hid TH
            clear TH hG
            go_wp2_with fail
            refine TH'.out.mono ?_
            rintro e Wt ⟨z, b, l', rfl, rdz, rt, kt, hx, hn⟩
            have Rt := Lib.hid rt
            have Kt := Lib.hid (K2.out.trans kt)
            have Bt := Lib.hid (B2.out.kept (kt.other r0 B2.out.blk.lt (fun e => by have := LT.out; have := hr0.out; omega)))
            have HX := Lib.hid hx
            have HN := Lib.hid hn
            have RDZ := Lib.hid rdz
            have LOT := Lib.hid (show r0 < W2.heap.size from B2.out.blk.lt)
            clear rt kt hx hn rdz
            obtain ⟨s0, s1, s2, s3, s4, f0, f1, f2, f3, f4, hblk⟩ := Bt.out
            have HRB := Lib.hid (ret_box hblk (.int .i64 z.t.k) (.int .i64 z.t.n) (.string z.t.s) (.slice z.A z.t.l.length z.c) (.slice z.A' z.t.m.length z.c'))
            clear hblk
            go_wp2
            obtain ⟨F, hF, ⟨r0', r1', r2', r3', r4', _⟩, hk', hs', hbel'⟩ := HRB.out
            rw [← hF]
            clear hF
            refine bodyPost_ret (v := .tuple #[.agg #[.int .i64 z.t.k, .int .i64 z.t.n, .string z.t.s, .slice z.A z.t.l.length z.c, .slice z.A' z.t.m.length z.c'], .bool b]) (by simp [results, Try.results32, go_sem, r0', r1', r2', r3', r4']) rfl
              (val_end (q := z) (lo := W2.heap.size) LT.out (Nat.le_of_eq hr0.out.symm) hk' hs' hbel' Kt.out Rt.out RDZ.out LOT.out HX.out HN.out)
          | none =>
            rintro e W2 ⟨rfl, rr, kk⟩
            have R2 := Lib.hid (show RL W2 g s l from rr)
            have K2 := Lib.hid (K1.out.trans kk)
            have B2 := Lib.hid (B1.out.kept (kk.other r0 B1.out.blk.lt (fun e => by have := LT.out; have := hr0.out; omega)))
            clear rr kk
            generalize ht : takeL [123] l = t2
            have HT2 := Lib.hid ht
            clear ht
            have F2 := take_any W2 g s ⟨#[123]⟩ l R2.out
            unfold TakePost at F2
            rw [show (⟨#[123]⟩ : ByteArray).data.toList = [123] from rfl, HT2.out] at F2
            have F2' := Lib.hid F2
            clear F2
            go_wp2_with fail
            refine F2'.out.mono ?_
            clear F2'
            cases t2 with
            | some q =>
              rintro e W3 ⟨rfl, rr, kk⟩
              have R3 := Lib.hid (show RL W3 g s q from rr)
              have K3 := Lib.hid (K2.out.trans kk)
              have B3 := Lib.hid (B2.out.kept (kk.other r0 B2.out.blk.lt (fun e => by have := LT.out; have := hr0.out; omega)))
              clear rr kk
              have hG : G = dictV' (rowR [125] (pairR (rd r)) q) := by rw [HG1.out]; simp only [HT1.out, HT2.out]
              clear HG1
              have TH := N5.out W3 q R3.out
              rw [← hG] at TH
              have TH' := Lib.hid TH
              clear TH hG
              go_wp2_with fail
              refine TH'.out.mono ?_
              rintro e Wt ⟨z, b, l', rfl, rdz, rt, kt, hx, hn⟩
              have Rt := Lib.hid rt
              have Kt := Lib.hid (K3.out.trans kt)
              have Bt := Lib.hid (B3.out.kept (kt.other r0 B3.out.blk.lt (fun e => by have := LT.out; have := hr0.out; omega)))
              have HX := Lib.hid hx
              have HN := Lib.hid hn
              have RDZ := Lib.hid rdz
              have LOT := Lib.hid (show r0 < W3.heap.size from B3.out.blk.lt)
              clear rt kt hx hn rdz
              obtain ⟨s0, s1, s2, s3, s4, f0, f1, f2, f3, f4, hblk⟩ := Bt.out
              have HRB := Lib.hid (ret_box hblk (.int .i64 z.t.k) (.int .i64 z.t.n) (.string z.t.s) (.slice z.A z.t.l.length z.c) (.slice z.A' z.t.m.length z.c'))
              clear hblk
              go_wp2
              obtain ⟨F, hF, ⟨r0', r1', r2', r3', r4', _⟩, hk', hs', hbel'⟩ := HRB.out
              rw [← hF]
              clear hF
              refine bodyPost_ret (v := .tuple #[.agg #[.int .i64 z.t.k, .int .i64 z.t.n, .string z.t.s, .slice z.A z.t.l.length z.c, .slice z.A' z.t.m.length z.c'], .bool b]) (by simp [results, Try.results32, go_sem, r0', r1', r2', r3', r4']) rfl
                (val_end (q := z) (lo := W3.heap.size) LT.out (Nat.le_of_eq hr0.out.symm) hk' hs' hbel' Kt.out Rt.out RDZ.out LOT.out HX.out HN.out)
            | none =>
              rintro e W3 ⟨rfl, rr, kk⟩
              have R3 := Lib.hid (show RL W3 g s l from rr)
              have K3 := Lib.hid (K2.out.trans kk)
              have B3 := Lib.hid (B2.out.kept (kk.other r0 B2.out.blk.lt (fun e => by have := LT.out; have := hr0.out; omega)))
              clear rr kk
              have hG : G = none := by rw [HG1.out]; simp only [HT1.out, HT2.out]
              clear HG1
              subst hG
              obtain ⟨s0, s1, s2, s3, s4, f0, f1, f2, f3, f4, hblk⟩ := B3.out
              have HRB := Lib.hid (ret_box hblk (.int .i64 0) (.int .i64 0) (.string ⟨#[]⟩) (.slice none 0 0) (.slice none 0 0))
              clear hblk
              go_wp2
              obtain ⟨F, hF, ⟨r0', r1', r2', r3', r4', _⟩, hk', hs', hbel'⟩ := HRB.out
              rw [← hF]
              clear hF
              refine bodyPost_ret (v := .tuple #[.agg #[.int .i64 0, .int .i64 0, .string ⟨#[]⟩, .slice none 0 0, .slice none 0 0], .bool false]) (by simp [results, Try.results32, go_sem, r0', r1', r2', r3', r4']) rfl
                (val_end (q := zAt) (lo := (r0 + 1)) LT.out (Nat.le_of_eq hr0.out.symm) hk' hs' hbel' K3.out R3.out (rd_plain _ _ _ _ 0 0 _ (fld_mk _ _ (by decide) (by decide) (by decide) (by decide) (by decide))) (Nat.lt_succ_self _) (by simp) (fun _ => rfl))
      · skip
        have HG1 : Hid (G = (match takeL [91] l with | some q => rowV' 6 (rowR [93] (rd r) q) | none => match takeL [123] l with | some q => dictV' (rowR [125] (pairR (rd r)) q) | none => none)) := Lib.hid (by rw [RDE.out, if_neg (by rw [hnc]; simp), if_neg h39, if_neg (by rintro ⟨h, _⟩; omega)])
        clear q39 h39 RDE
        generalize ht : takeL [91] l = t1
        have HT1 := Lib.hid ht
        clear ht
        have F1 := take_any W1 g s ⟨#[91]⟩ l R1.out
        unfold TakePost at F1
        rw [show (⟨#[91]⟩ : ByteArray).data.toList = [91] from rfl, HT1.out] at F1
        have F1' := Lib.hid F1
        clear F1
        go_wp2_with fail
        refine F1'.out.mono ?_
        clear F1'
        cases t1 with
        | some q =>
          rintro e W2 ⟨rfl, rr, kk⟩
          have R2 := Lib.hid (show RL W2 g s q from rr)
          have K2 := Lib.hid (K1.out.trans kk)
          have B2 := Lib.hid (B1.out.kept (kk.other r0 B1.out.blk.lt (fun e => by have := LT.out; have := hr0.out; omega)))
          clear rr kk
          have hG : G = rowV' 6 (rowR [93] (rd r) q) := by rw [HG1.out]; simp only [HT1.out]
          clear HG1
          have TH := N4.out W2 q R2.out
          rw [← hG] at TH
          have TH' := Lib.hid TH
          clear TH hG
          go_wp2_with fail
          refine TH'.out.mono ?_
          rintro e Wt ⟨z, b, l', rfl, rdz, rt, kt, hx, hn⟩
          have Rt := Lib.hid rt
          have Kt := Lib.hid (K2.out.trans kt)
          have Bt := Lib.hid (B2.out.kept (kt.other r0 B2.out.blk.lt (fun e => by have := LT.out; have := hr0.out; omega)))
          have HX := Lib.hid hx
          have HN := Lib.hid hn
          have RDZ := Lib.hid rdz
          have LOT := Lib.hid (show r0 < W2.heap.size from B2.out.blk.lt)
          clear rt kt hx hn rdz
          obtain ⟨s0, s1, s2, s3, s4, f0, f1, f2, f3, f4, hblk⟩ := Bt.out
          have HRB := Lib.hid (ret_box hblk (.int .i64 z.t.k) (.int .i64 z.t.n) (.string z.t.s) (.slice z.A z.t.l.length z.c) (.slice z.A' z.t.m.length z.c'))
          clear hblk
          go_wp2
          obtain ⟨F, hF, ⟨r0', r1', r2', r3', r4', _⟩, hk', hs', hbel'⟩ := HRB.out
          rw [← hF]
          clear hF
          refine bodyPost_ret (v := .tuple #[.agg #[.int .i64 z.t.k, .int .i64 z.t.n, .string z.t.s, .slice z.A z.t.l.length z.c, .slice z.A' z.t.m.length z.c'], .bool b]) (by simp [results, Try.results32, go_sem, r0', r1', r2', r3', r4']) rfl
            (val_end (q := z) (lo := W2.heap.size) LT.out (Nat.le_of_eq hr0.out.symm) hk' hs' hbel' Kt.out Rt.out RDZ.out LOT.out HX.out HN.out)
        | none =>
          rintro e W2 ⟨rfl, rr, kk⟩
          have R2 := Lib.hid (show RL W2 g s l from rr)
          have K2 := Lib.hid (K1.out.trans kk)
          have B2 := Lib.hid (B1.out.kept (kk.other r0 B1.out.blk.lt (fun e => by have := LT.out; have := hr0.out; omega)))
          clear rr kk
          generalize ht : takeL [123] l = t2
          have HT2 := Lib.hid ht
          clear ht
          have F2 := take_any W2 g s ⟨#[123]⟩ l R2.out
          unfold TakePost at F2
          rw [show (⟨#[123]⟩ : ByteArray).data.toList = [123] from rfl, HT2.out] at F2
          have F2' := Lib.hid F2
          clear F2
          go_wp2_with fail
          refine F2'.out.mono ?_
          clear F2'
          cases t2 with
          | some q =>
            rintro e W3 ⟨rfl, rr, kk⟩
            have R3 := Lib.hid (show RL W3 g s q from rr)
            have K3 := Lib.hid (K2.out.trans kk)
            have B3 := Lib.hid (B2.out.kept (kk.other r0 B2.out.blk.lt (fun e => by have := LT.out; have := hr0.out; omega)))
            clear rr kk
            have hG : G = dictV' (rowR [125] (pairR (rd r)) q) := by rw [HG1.out]; simp only [HT1.out, HT2.out]
            clear HG1
            have TH := N5.out W3 q R3.out
            rw [← hG] at TH
            have TH' := Lib.hid TH
            clear TH hG
            go_wp2_with fail
            refine TH'.out.mono ?_
            rintro e Wt ⟨z, b, l', rfl, rdz, rt, kt, hx, hn⟩
            have Rt := Lib.hid rt
            have Kt := Lib.hid (K3.out.trans kt)
            have Bt := Lib.hid (B3.out.kept (kt.other r0 B3.out.blk.lt (fun e => by have := LT.out; have := hr0.out; omega)))
            have HX := Lib.hid hx
            have HN := Lib.hid hn
            have RDZ := Lib.hid rdz
            have LOT := Lib.hid (show r0 < W3.heap.size from B3.out.blk.lt)
            clear rt kt hx hn rdz
            obtain ⟨s0, s1, s2, s3, s4, f0, f1, f2, f3, f4, hblk⟩ := Bt.out
            have HRB := Lib.hid (ret_box hblk (.int .i64 z.t.k) (.int .i64 z.t.n) (.string z.t.s) (.slice z.A z.t.l.length z.c) (.slice z.A' z.t.m.length z.c'))
            clear hblk
            go_wp2
            obtain ⟨F, hF, ⟨r0', r1', r2', r3', r4', _⟩, hk', hs', hbel'⟩ := HRB.out
            rw [← hF]
            clear hF
            refine bodyPost_ret (v := .tuple #[.agg #[.int .i64 z.t.k, .int .i64 z.t.n, .string z.t.s, .slice z.A z.t.l.length z.c, .slice z.A' z.t.m.length z.c'], .bool b]) (by simp [results, Try.results32, go_sem, r0', r1', r2', r3', r4']) rfl
              (val_end (q := z) (lo := W3.heap.size) LT.out (Nat.le_of_eq hr0.out.symm) hk' hs' hbel' Kt.out Rt.out RDZ.out LOT.out HX.out HN.out)
          | none =>
            rintro e W3 ⟨rfl, rr, kk⟩
            have R3 := Lib.hid (show RL W3 g s l from rr)
            have K3 := Lib.hid (K2.out.trans kk)
            have B3 := Lib.hid (B2.out.kept (kk.other r0 B2.out.blk.lt (fun e => by have := LT.out; have := hr0.out; omega)))
            clear rr kk
            have hG : G = none := by rw [HG1.out]; simp only [HT1.out, HT2.out]
            clear HG1
            subst hG
            obtain ⟨s0, s1, s2, s3, s4, f0, f1, f2, f3, f4, hblk⟩ := B3.out
            have HRB := Lib.hid (ret_box hblk (.int .i64 0) (.int .i64 0) (.string ⟨#[]⟩) (.slice none 0 0) (.slice none 0 0))
            clear hblk
            go_wp2
            obtain ⟨F, hF, ⟨r0', r1', r2', r3', r4', _⟩, hk', hs', hbel'⟩ := HRB.out
            rw [← hF]
            clear hF
            refine bodyPost_ret (v := .tuple #[.agg #[.int .i64 0, .int .i64 0, .string ⟨#[]⟩, .slice none 0 0, .slice none 0 0], .bool false]) (by simp [results, Try.results32, go_sem, r0', r1', r2', r3', r4']) rfl
              (val_end (q := zAt) (lo := (r0 + 1)) LT.out (Nat.le_of_eq hr0.out.symm) hk' hs' hbel' K3.out R3.out (rd_plain _ _ _ _ 0 0 _ (fld_mk _ _ (by decide) (by decide) (by decide) (by decide) (by decide))) (Nat.lt_succ_self _) (by simp) (fun _ => rfl))

theorem read_any : ∀ r, ReadOk r
  | 0 => read_zero
  | r + 1 => read_succ r (read_any r)
end Go.Proofs.Ytmgjiipooffggaa
