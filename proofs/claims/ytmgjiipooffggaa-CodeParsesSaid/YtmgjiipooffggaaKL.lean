/- The reader's named and read: a value at any level. -/
import Derived.Test.YtmgjiipooffggaaKK
namespace Go.Proofs.Ytmgjiipooffggaa
set_option maxRecDepth 100000
open Go.RowKit Go.Sort

set_option maxHeartbeats 3200000 in
theorem named_read (r : Nat) (ih : ReadOk r) (hr : r ≤ 11) (w : World) (g : Nat) (s : ByteArray) (l : Bs) (lev : Int) (hlev : lev = 12 - r) (hR : RL w g s l) :
    Calls Try.prog 56 #[.pointer (some ⟨g, 0, none⟩), .int .i64 lev] w (ReadPost w g s (r + 2) (namedR (rd r) l)) := by
  have HR := Lib.hid hR
  have LT := Lib.hid hR.lt
  have IH := Lib.hid (fun W q (h : RL W g s q) => row_read r ih hr W g s q 8 lev (by omega) (by omega) hlev h)
  have hl1 : lev ≤ 12 := by omega
  have hl0 : 1 ≤ lev := by omega
  clear hR ih hlev
  generalize hG : namedR (rd r) l = G
  have HG := Lib.hid hG
  clear hG
  go_enter Try.func56, Try.ntmps56
  go_upto_region 1 with fail
  have z0 := below_new w (.cells #[.int .i64 0, .int .i64 0, .string ⟨#[]⟩, .slice none 0 0, .slice none 0 0] 24)
  have c0 := Cell.new w (.int .i64 0) (.int .i64 0) (.string ⟨#[]⟩) (.slice none 0 0) (.slice none 0 0)
  generalize hW : World.alloc w _ = W0 at z0 c0 ⊢
  clear hW
  have R0 := Lib.hid (HR.out.next z0)
  have K0 := Lib.hid (RK.below z0 LT.out)
  have B0 := Lib.hid c0
  clear z0 c0
  obtain ⟨r0, hr0⟩ : ∃ r0 : Nat, r0 = w.heap.size := ⟨_, rfl⟩
  rw [← hr0] at B0
  rw [← hr0]
  replace hr0 := Lib.hid hr0
  generalize ht : takeL [116, 114, 117, 101] l = t1
  have HT1 := Lib.hid ht
  clear ht
  have F1 := take_any W0 g s ⟨#[116, 114, 117, 101]⟩ l R0.out
  unfold TakePost at F1
  rw [show (⟨#[116, 114, 117, 101]⟩ : ByteArray).data.toList = [116, 114, 117, 101] from rfl, HT1.out] at F1
  have F1' := Lib.hid F1
  clear F1
  go_wp2_with fail
  refine F1'.out.mono ?_
  clear F1'
  cases t1 with
  | some q =>
    rintro e W1 ⟨rfl, rr, kk⟩
    have R1 := Lib.hid (show RL W1 g s q from rr)
    have K1 := Lib.hid (K0.out.trans kk)
    have B1 := Lib.hid (B0.out.kept (kk.other r0 B0.out.blk.lt (fun e => by have := LT.out; have := hr0.out; omega)))
    clear rr kk
    have hG : G = some (.mk 1 1 ⟨#[]⟩ [] [], q) := by rw [← HG.out]; simp only [namedR, HT1.out]
    subst hG
    go_wp2_with fail
    refine (truth_any true W1).mono ?_
    rintro e Wt ⟨A, c, A', c', rfl, rdt, _, _, hbt⟩
    have Rt := Lib.hid (R1.out.next hbt)
    have Kt := Lib.hid (K1.out.trans (RK.below hbt R1.out.lt))
    have Bt := Lib.hid (B1.out.below hbt B1.out.blk.lt)
    have RDT := Lib.hid rdt
    have LOT := Lib.hid (show r0 < W1.heap.size from B1.out.blk.lt)
    clear rdt hbt
    obtain ⟨s0, s1, s2, s3, s4, f0, f1, f2, f3, f4, hblk⟩ := Bt.out
    have HRB := Lib.hid (ret_box hblk (.int .i64 (V.mk 1 1 ⟨#[]⟩ [] []).k) (.int .i64 (V.mk 1 1 ⟨#[]⟩ [] []).n) (.string (V.mk 1 1 ⟨#[]⟩ [] []).s) (.slice A (V.mk 1 1 ⟨#[]⟩ [] []).l.length c) (.slice A' (V.mk 1 1 ⟨#[]⟩ [] []).m.length c'))
    clear hblk
    go_wp2
    obtain ⟨F, hF, ⟨r0', r1', r2', r3', r4', _⟩, hk', hs', hbel'⟩ := HRB.out
    rw [← hF]
    clear hF
    refine bodyPost_ret (v := .tuple #[.agg #[.int .i64 (V.mk 1 1 ⟨#[]⟩ [] []).k, .int .i64 (V.mk 1 1 ⟨#[]⟩ [] []).n, .string (V.mk 1 1 ⟨#[]⟩ [] []).s, .slice A (V.mk 1 1 ⟨#[]⟩ [] []).l.length c, .slice A' (V.mk 1 1 ⟨#[]⟩ [] []).m.length c'], .bool true]) (by simp [results, Try.results56, go_sem, r0', r1', r2', r3', r4']) rfl
      (val_end (q := ⟨.mk 1 1 ⟨#[]⟩ [] [], A, c, A', c'⟩) (lo := W1.heap.size) LT.out (Nat.le_of_eq hr0.out.symm) hk' hs' hbel' Kt.out Rt.out (Rd.more RDT.out (Nat.le_refl _) (Nat.le_refl _) (by omega)) LOT.out (by rintro t r' ⟨⟩; exact ⟨rfl, rfl, rfl⟩) (by simp))
  | none =>
    rintro e W1 ⟨rfl, rr, kk⟩
    have R1 := Lib.hid (show RL W1 g s l from rr)
    have K1 := Lib.hid (K0.out.trans kk)
    have B1 := Lib.hid (B0.out.kept (kk.other r0 B0.out.blk.lt (fun e => by have := LT.out; have := hr0.out; omega)))
    clear rr kk
    clear R0 K0 B0
    generalize ht : takeL [102, 97, 108, 115, 101] l = t2
    have HT2 := Lib.hid ht
    clear ht
    have F2 := take_any W1 g s ⟨#[102, 97, 108, 115, 101]⟩ l R1.out
    unfold TakePost at F2
    rw [show (⟨#[102, 97, 108, 115, 101]⟩ : ByteArray).data.toList = [102, 97, 108, 115, 101] from rfl, HT2.out] at F2
    have F2' := Lib.hid F2
    clear F2
    go_wp2_with fail
    refine F2'.out.mono ?_
    clear F2'
    cases t2 with
    | some q =>
      rintro e W2 ⟨rfl, rr, kk⟩
      have R2 := Lib.hid (show RL W2 g s q from rr)
      have K2 := Lib.hid (K1.out.trans kk)
      have B2 := Lib.hid (B1.out.kept (kk.other r0 B1.out.blk.lt (fun e => by have := LT.out; have := hr0.out; omega)))
      clear rr kk
      have hG : G = some (.mk 1 0 ⟨#[]⟩ [] [], q) := by rw [← HG.out]; simp only [namedR, HT1.out, HT2.out]
      subst hG
      go_wp2_with fail
      refine (truth_any false W2).mono ?_
      rintro e Wt ⟨A, c, A', c', rfl, rdt, _, _, hbt⟩
      have Rt := Lib.hid (R2.out.next hbt)
      have Kt := Lib.hid (K2.out.trans (RK.below hbt R2.out.lt))
      have Bt := Lib.hid (B2.out.below hbt B2.out.blk.lt)
      have RDT := Lib.hid rdt
      have LOT := Lib.hid (show r0 < W2.heap.size from B2.out.blk.lt)
      clear rdt hbt
      obtain ⟨s0, s1, s2, s3, s4, f0, f1, f2, f3, f4, hblk⟩ := Bt.out
      have HRB := Lib.hid (ret_box hblk (.int .i64 (V.mk 1 0 ⟨#[]⟩ [] []).k) (.int .i64 (V.mk 1 0 ⟨#[]⟩ [] []).n) (.string (V.mk 1 0 ⟨#[]⟩ [] []).s) (.slice A (V.mk 1 0 ⟨#[]⟩ [] []).l.length c) (.slice A' (V.mk 1 0 ⟨#[]⟩ [] []).m.length c'))
      clear hblk
      go_wp2
      obtain ⟨F, hF, ⟨r0', r1', r2', r3', r4', _⟩, hk', hs', hbel'⟩ := HRB.out
      rw [← hF]
      clear hF
      refine bodyPost_ret (v := .tuple #[.agg #[.int .i64 (V.mk 1 0 ⟨#[]⟩ [] []).k, .int .i64 (V.mk 1 0 ⟨#[]⟩ [] []).n, .string (V.mk 1 0 ⟨#[]⟩ [] []).s, .slice A (V.mk 1 0 ⟨#[]⟩ [] []).l.length c, .slice A' (V.mk 1 0 ⟨#[]⟩ [] []).m.length c'], .bool true]) (by simp [results, Try.results56, go_sem, r0', r1', r2', r3', r4']) rfl
        (val_end (q := ⟨.mk 1 0 ⟨#[]⟩ [] [], A, c, A', c'⟩) (lo := W2.heap.size) LT.out (Nat.le_of_eq hr0.out.symm) hk' hs' hbel' Kt.out Rt.out (Rd.more RDT.out (Nat.le_refl _) (Nat.le_refl _) (by omega)) LOT.out (by rintro t r' ⟨⟩; exact ⟨rfl, rfl, rfl⟩) (by simp))
    | none =>
      rintro e W2 ⟨rfl, rr, kk⟩
      have R2 := Lib.hid (show RL W2 g s l from rr)
      have K2 := Lib.hid (K1.out.trans kk)
      have B2 := Lib.hid (B1.out.kept (kk.other r0 B1.out.blk.lt (fun e => by have := LT.out; have := hr0.out; omega)))
      clear rr kk
      clear R1 K1 B1
      generalize ht : takeL [118, 91] l = t3
      have HT3 := Lib.hid ht
      clear ht
      have F3 := take_any W2 g s ⟨#[118, 91]⟩ l R2.out
      unfold TakePost at F3
      rw [show (⟨#[118, 91]⟩ : ByteArray).data.toList = [118, 91] from rfl, HT3.out] at F3
      have F3' := Lib.hid F3
      clear F3
      go_wp2_with fail
      refine F3'.out.mono ?_
      clear F3'
      cases t3 with
      | some q =>
        rintro e W3 ⟨rfl, rr, kk⟩
        have R3 := Lib.hid (show RL W3 g s q from rr)
        have K3 := Lib.hid (K2.out.trans kk)
        have B3 := Lib.hid (B2.out.kept (kk.other r0 B2.out.blk.lt (fun e => by have := LT.out; have := hr0.out; omega)))
        clear rr kk
        have hG : G = thingR 4 q := by rw [← HG.out]; simp only [namedR, HT1.out, HT2.out, HT3.out]
        clear HG
        have TH := thing_any W3 g s 4 q R3.out
        rw [← hG] at TH
        have TH' := Lib.hid TH
        clear TH hG
        go_wp2_with fail
        refine TH'.out.mono ?_
        rintro e Wt ⟨n, b, l', rfl, hn0, hn1, rt, kt, hx, hn⟩
        have Rt := Lib.hid rt
        have Kt := Lib.hid (K3.out.trans kt)
        have Bt := Lib.hid (B3.out.kept (kt.other r0 B3.out.blk.lt (fun e => by have := LT.out; have := hr0.out; omega)))
        have HX := Lib.hid hx
        have HN := Lib.hid hn
        clear rt kt hx hn
        obtain ⟨s0, s1, s2, s3, s4, f0, f1, f2, f3, f4, hblk⟩ := Bt.out
        have HRB := Lib.hid (ret_box hblk (.int .i64 4) (.int .i64 n) (.string ⟨#[]⟩) (.slice none 0 0) (.slice none 0 0))
        clear hblk
        go_wp2
        obtain ⟨F, hF, ⟨r0', r1', r2', r3', r4', _⟩, hk', hs', hbel'⟩ := HRB.out
        rw [← hF]
        clear hF
        refine bodyPost_ret (v := .tuple #[.agg #[.int .i64 4, .int .i64 n, .string ⟨#[]⟩, .slice none 0 0, .slice none 0 0], .bool b]) (by simp [results, Try.results56, go_sem, r0', r1', r2', r3', r4']) rfl
          (val_end (q := ⟨.mk 4 n ⟨#[]⟩ [] [], none, 0, none, 0⟩) (lo := (r0 + 1)) LT.out (Nat.le_of_eq hr0.out.symm) hk' hs' hbel' Kt.out Rt.out (rd_plain _ _ _ _ _ _ _ (fld_mk _ _ (by decide) (by decide) hn0 hn1 (by decide))) (Nat.lt_succ_self _) (fun t r' ho => by obtain ⟨e1, e2, e3⟩ := HX.out t r' ho; exact ⟨e1, e2.symm, e3⟩) HN.out)
      | none =>
        rintro e W3 ⟨rfl, rr, kk⟩
        have R3 := Lib.hid (show RL W3 g s l from rr)
        have K3 := Lib.hid (K2.out.trans kk)
        have B3 := Lib.hid (B2.out.kept (kk.other r0 B2.out.blk.lt (fun e => by have := LT.out; have := hr0.out; omega)))
        clear rr kk
        clear R2 K2 B2
        generalize ht : takeL [101, 91] l = t4
        have HT4 := Lib.hid ht
        clear ht
        have F4 := take_any W3 g s ⟨#[101, 91]⟩ l R3.out
        unfold TakePost at F4
        rw [show (⟨#[101, 91]⟩ : ByteArray).data.toList = [101, 91] from rfl, HT4.out] at F4
        have F4' := Lib.hid F4
        clear F4
        go_wp2_with fail
        refine F4'.out.mono ?_
        clear F4'
        cases t4 with
        | some q =>
          rintro e W4 ⟨rfl, rr, kk⟩
          have R4 := Lib.hid (show RL W4 g s q from rr)
          have K4 := Lib.hid (K3.out.trans kk)
          have B4 := Lib.hid (B3.out.kept (kk.other r0 B3.out.blk.lt (fun e => by have := LT.out; have := hr0.out; omega)))
          clear rr kk
          have hG : G = thingR 5 q := by rw [← HG.out]; simp only [namedR, HT1.out, HT2.out, HT3.out, HT4.out]
          clear HG
          have TH := thing_any W4 g s 5 q R4.out
          rw [← hG] at TH
          have TH' := Lib.hid TH
          clear TH hG
          go_wp2_with fail
          refine TH'.out.mono ?_
          rintro e Wt ⟨n, b, l', rfl, hn0, hn1, rt, kt, hx, hn⟩
          have Rt := Lib.hid rt
          have Kt := Lib.hid (K4.out.trans kt)
          have Bt := Lib.hid (B4.out.kept (kt.other r0 B4.out.blk.lt (fun e => by have := LT.out; have := hr0.out; omega)))
          have HX := Lib.hid hx
          have HN := Lib.hid hn
          clear rt kt hx hn
          obtain ⟨s0, s1, s2, s3, s4, f0, f1, f2, f3, f4, hblk⟩ := Bt.out
          have HRB := Lib.hid (ret_box hblk (.int .i64 5) (.int .i64 n) (.string ⟨#[]⟩) (.slice none 0 0) (.slice none 0 0))
          clear hblk
          go_wp2
          obtain ⟨F, hF, ⟨r0', r1', r2', r3', r4', _⟩, hk', hs', hbel'⟩ := HRB.out
          rw [← hF]
          clear hF
          refine bodyPost_ret (v := .tuple #[.agg #[.int .i64 5, .int .i64 n, .string ⟨#[]⟩, .slice none 0 0, .slice none 0 0], .bool b]) (by simp [results, Try.results56, go_sem, r0', r1', r2', r3', r4']) rfl
            (val_end (q := ⟨.mk 5 n ⟨#[]⟩ [] [], none, 0, none, 0⟩) (lo := (r0 + 1)) LT.out (Nat.le_of_eq hr0.out.symm) hk' hs' hbel' Kt.out Rt.out (rd_plain _ _ _ _ _ _ _ (fld_mk _ _ (by decide) (by decide) hn0 hn1 (by decide))) (Nat.lt_succ_self _) (fun t r' ho => by obtain ⟨e1, e2, e3⟩ := HX.out t r' ho; exact ⟨e1, e2.symm, e3⟩) HN.out)
        | none =>
          rintro e W4 ⟨rfl, rr, kk⟩
          have R4 := Lib.hid (show RL W4 g s l from rr)
          have K4 := Lib.hid (K3.out.trans kk)
          have B4 := Lib.hid (B3.out.kept (kk.other r0 B3.out.blk.lt (fun e => by have := LT.out; have := hr0.out; omega)))
          clear rr kk
          clear R3 K3 B3
          generalize ht : takeL [112, 97, 116, 104, 91] l = t5
          have HT5 := Lib.hid ht
          clear ht
          have F5 := take_any W4 g s ⟨#[112, 97, 116, 104, 91]⟩ l R4.out
          unfold TakePost at F5
          rw [show (⟨#[112, 97, 116, 104, 91]⟩ : ByteArray).data.toList = [112, 97, 116, 104, 91] from rfl, HT5.out] at F5
          have F5' := Lib.hid F5
          clear F5
          go_wp2_with fail
          refine F5'.out.mono ?_
          clear F5'
          cases t5 with
          | some q =>
            rintro e W5 ⟨rfl, rr, kk⟩
            have R5 := Lib.hid (show RL W5 g s q from rr)
            have K5 := Lib.hid (K4.out.trans kk)
            have B5 := Lib.hid (B4.out.kept (kk.other r0 B4.out.blk.lt (fun e => by have := LT.out; have := hr0.out; omega)))
            clear rr kk
            have hG : G = rowV' 8 (rowR [93] (rd r) q) := by rw [← HG.out]; simp only [namedR, HT1.out, HT2.out, HT3.out, HT4.out, HT5.out]
            clear HG
            have TH := IH.out W5 q R5.out
            rw [← hG] at TH
            have TH' := Lib.hid TH
            clear TH hG
            go_wp2_with fail
            refine TH'.out.mono ?_
            rintro e Wt ⟨z, b, l', rfl, rdz, rt, kt, hx, hn⟩
            have Rt := Lib.hid rt
            have Kt := Lib.hid (K5.out.trans kt)
            have Bt := Lib.hid (B5.out.kept (kt.other r0 B5.out.blk.lt (fun e => by have := LT.out; have := hr0.out; omega)))
            have HX := Lib.hid hx
            have HN := Lib.hid hn
            have RDZ := Lib.hid rdz
            have LOT := Lib.hid (show r0 < W5.heap.size from B5.out.blk.lt)
            clear rt kt hx hn rdz
            obtain ⟨s0, s1, s2, s3, s4, f0, f1, f2, f3, f4, hblk⟩ := Bt.out
            have HRB := Lib.hid (ret_box hblk (.int .i64 z.t.k) (.int .i64 z.t.n) (.string z.t.s) (.slice z.A z.t.l.length z.c) (.slice z.A' z.t.m.length z.c'))
            clear hblk
            go_wp2
            obtain ⟨F, hF, ⟨r0', r1', r2', r3', r4', _⟩, hk', hs', hbel'⟩ := HRB.out
            rw [← hF]
            clear hF
            refine bodyPost_ret (v := .tuple #[.agg #[.int .i64 z.t.k, .int .i64 z.t.n, .string z.t.s, .slice z.A z.t.l.length z.c, .slice z.A' z.t.m.length z.c'], .bool b]) (by simp [results, Try.results56, go_sem, r0', r1', r2', r3', r4']) rfl
              (val_end (q := z) (lo := W5.heap.size) LT.out (Nat.le_of_eq hr0.out.symm) hk' hs' hbel' Kt.out Rt.out RDZ.out LOT.out HX.out HN.out)
          | none =>
            rintro e W5 ⟨rfl, rr, kk⟩
            have R5 := Lib.hid (show RL W5 g s l from rr)
            have K5 := Lib.hid (K4.out.trans kk)
            have B5 := Lib.hid (B4.out.kept (kk.other r0 B4.out.blk.lt (fun e => by have := LT.out; have := hr0.out; omega)))
            clear rr kk
            clear R4 K4 B4
            have hG : G = none := by rw [← HG.out]; simp only [namedR, HT1.out, HT2.out, HT3.out, HT4.out, HT5.out]
            subst hG
            obtain ⟨s0, s1, s2, s3, s4, f0, f1, f2, f3, f4, hblk⟩ := B5.out
            have HRB := Lib.hid (ret_box hblk (.int .i64 0) (.int .i64 0) (.string ⟨#[]⟩) (.slice none 0 0) (.slice none 0 0))
            clear hblk
            go_wp2
            obtain ⟨F, hF, ⟨r0', r1', r2', r3', r4', _⟩, hk', hs', hbel'⟩ := HRB.out
            rw [← hF]
            clear hF
            refine bodyPost_ret (v := .tuple #[.agg #[.int .i64 0, .int .i64 0, .string ⟨#[]⟩, .slice none 0 0, .slice none 0 0], .bool false]) (by simp [results, Try.results56, go_sem, r0', r1', r2', r3', r4']) rfl
              (val_end (q := zAt) (lo := (r0 + 1)) LT.out (Nat.le_of_eq hr0.out.symm) hk' hs' hbel' K5.out R5.out (rd_plain _ _ _ _ 0 0 _ (fld_mk _ _ (by decide) (by decide) (by decide) (by decide) (by decide))) (Nat.lt_succ_self _) (by simp) (fun _ => rfl))

end Go.Proofs.Ytmgjiipooffggaa
