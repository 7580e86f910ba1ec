/- The document's Parse; the law of CodeParses. -/
import Derived.Test.YtmgjiipooffggaaSg
import Derived.Test.YtmgjiipooffggaaRp
import Derived.Test.YtmgjiipooffggaaKX
import Derived.Test.YtmgjiipooffggaaKY
namespace Go.Proofs.Ytmgjiipooffggaa
set_option maxRecDepth 100000
open Go.RowKit Go.Sort

theorem prs_back {s S : ByteArray} {t : V} (ho : okV 12 t = true) (hi : intsOk 12 t) (hS : S.toList = txt 12 t) (h : S.toList = s.toList) : prs s.toList = some t := by
  rw [← h, hS, prs_txt t ho hi]
theorem prs_not {s S : ByteArray} {t : V} (_ho : okV 12 t = true) (hS : S.toList = txt 12 t) (hne : ¬ S.toList = s.toList) (hR : ∀ u q, rd 12 s.toList = some (u, q) → t = u) : prs s.toList = none := by
  cases h : prs s.toList with
  | none => rfl
  | some u =>
    obtain ⟨h1, h2⟩ := prs_sound h
    have : ∃ q, rd 12 s.toList = some (u, q) := by
      unfold prs at h
      cases hr : rd 12 s.toList with
      | none => rw [hr] at h; cases h
      | some p =>
        obtain ⟨v, r⟩ := p
        rw [hr] at h
        have h' : (if r.isEmpty && okV 12 v then some v else none) = some u := h
        split at h'
        · injection h' with h'; exact ⟨r, by rw [h']⟩
        · cases h'
    obtain ⟨q, hq⟩ := this
    have e := hR u q hq
    subst e
    exact absurd (hS.trans h1.symm) hne
theorem prs_bad {s : ByteArray} {t : V} (ho : okV 12 t = false) (hR : ∀ u q, rd 12 s.toList = some (u, q) → t = u) : prs s.toList = none := by
  unfold prs
  cases hr : rd 12 s.toList with
  | none => rfl
  | some p =>
    obtain ⟨v, r⟩ := p
    have e := hR v r hr
    subst e
    show (if r.isEmpty && okV 12 t then some t else none) = none
    rw [ho, Bool.and_false]; rfl
theorem prs_far {s : ByteArray} {t : V} {n : Int} (hn : ¬ n = (s.size : Int)) (hk : n = -1 ∨ ∃ k : Nat, n = (k : Int) ∧ k ≤ s.size) (hR : ∀ u q, rd 12 s.toList = some (u, q) → t = u ∧ ∃ k : Nat, n = (k : Int) ∧ s.toList.drop k = q) : prs s.toList = none := by
  unfold prs
  cases hr : rd 12 s.toList with
  | none => rfl
  | some p =>
    obtain ⟨v, r⟩ := p
    obtain ⟨_, k, h1, h2⟩ := hR v r hr
    show (if r.isEmpty && okV 12 v then some v else none) = none
    have : r.isEmpty = false := by
      cases r with
      | cons _ _ => rfl
      | nil =>
        exfalso
        have hl := congrArg List.length h2
        rw [List.length_drop, toList_size] at hl
        simp at hl
        rcases hk with h | ⟨j, h, hj⟩
        · omega
        · omega
    rw [this, Bool.false_and]; rfl

set_option maxHeartbeats 3200000 in
theorem refParse_code (w : World) (s : ByteArray) (hs : s.size ≤ 2000) : Calls Try.prog 19 #[.string s] w (ParsePost w (prs s.toList)) := by
  go_enter Try.func19, Try.ntmps19
  go_upto_region 1 with fail
  have z0 := below_new w (.cells #[.int .i64 0, .int .i64 0, .string ⟨#[]⟩, .slice none 0 0, .slice none 0 0] 24)
  have c0 := Cell.new w (.int .i64 0) (.int .i64 0) (.string ⟨#[]⟩) (.slice none 0 0) (.slice none 0 0)
  generalize hW : World.alloc w (.cells #[.int .i64 0, .int .i64 0, .string ⟨#[]⟩, .slice none 0 0, .slice none 0 0] 24) = W0 at z0 c0 ⊢
  clear hW
  have B0 := Lib.hid z0
  have C0 := Lib.hid c0
  clear z0 c0
  obtain ⟨r0, hr0⟩ : ∃ r0 : Nat, r0 = w.heap.size := ⟨_, rfl⟩
  rw [← hr0] at C0
  rw [← hr0]
  have HR0 := Lib.hid hr0
  clear hr0
  have PA : Calls Try.prog 34 #[.string s, .int .i64 0, .int .i64 1] W0 (PPost s 0 (rd 12 s.toList) 12 W0) := by
    have h := refp_any 12 (by omega) W0 s 0 1 (by omega) (by omega) (by omega) (by omega)
    rw [List.drop_zero] at h
    exact h
  unfold PPost at PA
  replace PA := Lib.hid PA
  go_wp2_with fail
  refine PA.out.mono ?_
  rintro e w2 ⟨y, n, rfl, ry, hb, hn, hR⟩
  have RY := Lib.hid ry
  have HN := Lib.hid hn
  have HRR := Lib.hid hR
  have CC := Lib.hid (C0.out.below hb C0.out.blk.lt)
  have BB := Lib.hid (bnext B0.out hb)
  have LO := Lib.hid (show r0 < W0.heap.size from C0.out.blk.lt)
  clear ry hn hR hb C0 B0 PA
  go_upto_region 2 with fail
  have bn := below_new w2 (.cells #[.int .i64 y.t.k, .int .i64 y.t.n, .string y.t.s, .slice y.A y.t.l.length y.c, .slice y.A' y.t.m.length y.c'] 24)
  have hbx := Bx.new w2 y
  generalize hW3 : World.alloc w2 _ = W3 at bn hbx ⊢
  clear hW3
  have C3 := Lib.hid (CC.out.below bn CC.out.blk.lt)
  have B3 := Lib.hid (bnext BB.out bn)
  have RY3 := Lib.hid (Rd.imp (Kept.of_below bn (Nat.le_refl _)) (Nat.le_refl _) bn.size (Nat.le_refl _) RY.out)
  have HBX := Lib.hid hbx
  clear bn hbx CC BB RY
  have CC := C3
  have BB := B3
  clear C3 B3
  obtain ⟨gv, hgv⟩ : ∃ g : Nat, g = w2.heap.size := ⟨_, rfl⟩
  rw [← hgv] at HBX ⊢
  clear hgv
  have hlen0 : (0 : Int) ≤ (s.size : Int) := by omega
  by_cases hne : n = (s.size : Int)
  · subst hne
    have hz : ¬ (s.size : Int) < 0 := by omega
    have CNT : Hid (cntV 12 y.t ≤ 2000) := Lib.hid (by
      rcases HN.out with h | ⟨k, h1, h2, h3, h4⟩
      · omega
      · omega)
    have YI := Lib.hid (show y.In W3 14 from Rd.more RY3.out (Nat.zero_le _) (Nat.le_refl _) (by omega))
    have PR := Lib.hid (refPrint_any W3 14 y YI.out (fun ho => by
      have h1 := txt_len 12 y.t ho (ints_of_rd _ _ _ _ _ _ _ RY3.out)
      have h2 := CNT.out
      omega))
    unfold PrtPost At.v at PR
    obtain ⟨q0, q1, q2, q3, q4, _⟩ := HBX.out
    go_wp2_with fail
    refine PR.out.mono ?_
    rintro e w4 ⟨S, rfl, hS, hb⟩
    have C4 := Lib.hid (CC.out.below hb CC.out.blk.lt)
    have B4 := Lib.hid (bnext BB.out hb)
    have RY4 := Lib.hid (Rd.imp (Kept.of_below hb (Nat.le_refl _)) (Nat.le_refl _) hb.size (Nat.le_refl _) RY3.out)
    have HBX4 := Lib.hid (HBX.out.next hb)
    have HS := Lib.hid hS
    clear hb hS CC BB RY3 HBX PR YI q0 q1 q2 q3 q4
    have CC := C4
    have BB := B4
    clear C4 B4
    cases hok : okV 12 y.t with
    | false =>
      have NO : Hid (prs s.toList = none) := Lib.hid (prs_bad hok (fun u q h => (HRR.out u q h).1))
      have PE : prtE y.t = 2 := by simp [prtE, hok]
      rw [PE]
      clear PE hok
      obtain ⟨s0, s1, s2, s3, s4, p0, p1, p2, p3, p4, hblk⟩ := CC.out
      have HRB := Lib.hid (ret_box hblk (.int .i64 0) (.int .i64 0) (.string ⟨#[]⟩) (.slice none 0 0) (.slice none 0 0))
      clear hblk
      go_wp2
      obtain ⟨F, hF, ⟨r0', r1', r2', r3', r4', _⟩, hk', hs', hbel'⟩ := HRB.out
      rw [← hF]
      clear hF
      exact bodyPost_ret (v := .tuple #[.agg #[.int .i64 0, .int .i64 0, .string ⟨#[]⟩, .slice none 0 0, .slice none 0 0], .int .i64 30]) (by simp [results, Try.results19, go_sem, r0', r1', r2', r3', r4']) rfl (code_end (q := zAt) (lo := r0 + 1) (d := 1) (by rw [NO.out]; rfl) (Nat.le_of_eq HR0.out.symm) hk' hs' hbel' BB.out (rd_plain _ _ _ _ 0 0 _ (fld_mk _ _ (by decide) (by decide) (by decide) (by decide) (by decide))) (Nat.lt_succ_self _) (by omega) (fun t h => by rw [NO.out] at h; cases h) (fun _ => rfl))
    | true =>
      have PE : prtE y.t = 0 := by simp [prtE, hok]
      have PS : S.toList = txt 12 y.t := by rw [HS.out]; simp [prtS, hok]
      rw [PE]
      clear PE
      by_cases hq : S.toList = s.toList
      · have YE : Hid (prs s.toList = some y.t) := Lib.hid (prs_back hok (ints_of_rd _ _ _ _ _ _ _ RY4.out) PS hq)
        have qb : (S.toList == s.toList) = true := by rw [hq]; exact beq_self_eq_true _
        replace hq := Lib.hid hq
        clear PS hok
        obtain ⟨q0, q1, q2, q3, q4, _⟩ := HBX4.out
        obtain ⟨s0, s1, s2, s3, s4, p0, p1, p2, p3, p4, hblk⟩ := CC.out
        have HRB := Lib.hid (ret_box hblk (.int .i64 y.t.k) (.int .i64 y.t.n) (.string y.t.s) (.slice y.A y.t.l.length y.c) (.slice y.A' y.t.m.length y.c'))
        clear hblk
        go_wp2
        obtain ⟨F, hF, ⟨r0', r1', r2', r3', r4', _⟩, hk', hs', hbel'⟩ := HRB.out
        rw [← hF]
        clear hF
        exact bodyPost_ret (v := .tuple #[.agg #[.int .i64 y.t.k, .int .i64 y.t.n, .string y.t.s, .slice y.A y.t.l.length y.c, .slice y.A' y.t.m.length y.c'], .int .i64 0]) (by simp [results, Try.results19, go_sem, r0', r1', r2', r3', r4']) rfl (code_end (q := y) (lo := W0.heap.size) (d := 13) (by rw [YE.out]; rfl) (Nat.le_of_eq HR0.out.symm) hk' hs' hbel' BB.out RY4.out LO.out (by omega) (fun t h => by rw [YE.out] at h; injection h) (fun h => by rw [YE.out] at h; cases h))
      · have NO : Hid (prs s.toList = none) := Lib.hid (prs_not hok PS hq (fun u q h => (HRR.out u q h).1))
        have qb : (S.toList == s.toList) = false := beq_eq_false_iff_ne.2 hq
        replace hq := Lib.hid hq
        clear PS hok
        obtain ⟨s0, s1, s2, s3, s4, p0, p1, p2, p3, p4, hblk⟩ := CC.out
        have HRB := Lib.hid (ret_box hblk (.int .i64 0) (.int .i64 0) (.string ⟨#[]⟩) (.slice none 0 0) (.slice none 0 0))
        clear hblk
        go_wp2
        obtain ⟨F, hF, ⟨r0', r1', r2', r3', r4', _⟩, hk', hs', hbel'⟩ := HRB.out
        rw [← hF]
        clear hF
        exact bodyPost_ret (v := .tuple #[.agg #[.int .i64 0, .int .i64 0, .string ⟨#[]⟩, .slice none 0 0, .slice none 0 0], .int .i64 30]) (by simp [results, Try.results19, go_sem, r0', r1', r2', r3', r4']) rfl (code_end (q := zAt) (lo := r0 + 1) (d := 1) (by rw [NO.out]; rfl) (Nat.le_of_eq HR0.out.symm) hk' hs' hbel' BB.out (rd_plain _ _ _ _ 0 0 _ (fld_mk _ _ (by decide) (by decide) (by decide) (by decide) (by decide))) (Nat.lt_succ_self _) (by omega) (fun t h => by rw [NO.out] at h; cases h) (fun _ => rfl))
  · have NO : Hid (prs s.toList = none) := Lib.hid (prs_far hne (by
      rcases HN.out with h | ⟨k, h1, h2, h3, h4⟩
      · exact .inl h
      · exact .inr ⟨k, h1, h3⟩) HRR.out)
    have nb : (n == (s.size : Int)) = false := beq_eq_false_iff_ne.2 hne
    replace hne := Lib.hid hne
    obtain ⟨s0, s1, s2, s3, s4, p0, p1, p2, p3, p4, hblk⟩ := CC.out
    have HRB := Lib.hid (ret_box hblk (.int .i64 0) (.int .i64 0) (.string ⟨#[]⟩) (.slice none 0 0) (.slice none 0 0))
    clear hblk
    go_wp2
    obtain ⟨F, hF, ⟨r0', r1', r2', r3', r4', _⟩, hk', hs', hbel'⟩ := HRB.out
    rw [← hF]
    clear hF
    exact bodyPost_ret (v := .tuple #[.agg #[.int .i64 0, .int .i64 0, .string ⟨#[]⟩, .slice none 0 0, .slice none 0 0], .int .i64 30]) (by simp [results, Try.results19, go_sem, r0', r1', r2', r3', r4']) rfl (code_end (q := zAt) (lo := r0 + 1) (d := 1) (by rw [NO.out]; rfl) (Nat.le_of_eq HR0.out.symm) hk' hs' hbel' BB.out (rd_plain _ _ _ _ 0 0 _ (fld_mk _ _ (by decide) (by decide) (by decide) (by decide) (by decide))) (Nat.lt_succ_self _) (by omega) (fun t h => by rw [NO.out] at h; cases h) (fun _ => rfl))

set_option maxHeartbeats 3200000 in
theorem parses_law (w : World) (s : ByteArray) (hs : s.size ≤ maxLen) : Calls Try.prog 4 #[.string s] w fun e w' => e = .returned (.bool true) ∧ Below w.heap.size w w' := by
  have hs' : (s.size : Int) ≤ 9223372036854775807 := by unfold maxLen at hs; omega
  have hs0 : (0 : Int) ≤ (s.size : Int) := by omega
  have B0 : Hid (Below w.heap.size w w) := Lib.hid (Below.refl _ _)
  clear hs
  go_enter Try.func4, Try.ntmps4
  by_cases hlen : (2000 : Int) < (s.size : Int)
  · skip
    go_wp2_with fail
    refine (known_any w).mono ?_
    rintro e wk ⟨rfl, hb⟩
    have HK := Lib.hid hb
    clear hb
    go_wp2
    go_ret
    exact ⟨rfl, HK.out⟩
  · have hlen' : (s.size : Int) ≤ 2000 := by omega
    have P1 := Lib.hid (fun W => parse_code W s (by omega))
    have P2 := Lib.hid (fun W => refParse_code W s (by omega))
    generalize hO : prs s.toList = O at P1 P2
    clear hO
    have PW := Lib.hid (P1.out w)
    go_wp2_with fail
    refine PW.out.mono ?_
    rintro e w1 ⟨x, rfl, rx, hb, hx1, hx2⟩
    have X1 := Lib.hid (show x.In w1 14 from Rd.more rx (Nat.zero_le _) (Nat.le_refl _) (Nat.le_refl _))
    have HX1 := Lib.hid hx1
    have HX2 := Lib.hid hx2
    have B1 := Lib.hid hb
    clear rx hb hx1 hx2 PW
    generalize hE : (if O.isSome = true then 0 else 30 : Int) = E
    have HE := Lib.hid hE
    clear hE
    go_upto_region 4 with fail
    have z1 := below_new w1 (.cells #[.int .i64 x.t.k, .int .i64 x.t.n, .string x.t.s, .slice x.A x.t.l.length x.c, .slice x.A' x.t.m.length x.c'] 24)
    have x1 := Bx.new w1 x
    generalize hW2 : World.alloc w1 _ = W2 at z1 x1 ⊢
    clear hW2
    have X2 := Lib.hid (X1.out.next z1)
    have BX2 := Lib.hid x1
    have B2 := Lib.hid (bnext B1.out z1)
    obtain ⟨gx, hgx⟩ : ∃ g : Nat, g = w1.heap.size := ⟨_, rfl⟩
    rw [← hgx] at BX2 ⊢
    clear hgx z1 x1 X1 B1
    have PW := Lib.hid (P2.out W2)
    go_wp2_with fail
    refine PW.out.mono ?_
    rintro e w3 ⟨y, rfl, ry, hb, hy1, hy2⟩
    have Y3 := Lib.hid (show y.In w3 14 from Rd.more ry (Nat.zero_le _) (Nat.le_refl _) (Nat.le_refl _))
    have X3 := Lib.hid (X2.out.next hb)
    have BX3 := Lib.hid (BX2.out.next hb)
    have B3 := Lib.hid (bnext B2.out hb)
    have EQ : Hid (x.t = y.t) := Lib.hid (by
      cases hO : O with
      | none => rw [HX2.out hO, hy2 hO]
      | some t => rw [HX1.out t hO, hy1 t hO])
    clear ry hb hy1 hy2 PW X2 BX2 B2 HX1 HX2
    rw [HE.out]
    go_upto_region 5 with fail
    have z1 := below_new w3 (.cells #[.int .i64 y.t.k, .int .i64 y.t.n, .string y.t.s, .slice y.A y.t.l.length y.c, .slice y.A' y.t.m.length y.c'] 24)
    have x1 := Bx.new w3 y
    generalize hW4 : World.alloc w3 _ = W4 at z1 x1 ⊢
    clear hW4
    have X4 := Lib.hid (X3.out.next z1)
    have Y4 := Lib.hid (Y3.out.next z1)
    have BX4 := Lib.hid (BX3.out.next z1)
    have BY4 := Lib.hid x1
    have B4 := Lib.hid (bnext B3.out z1)
    obtain ⟨gy, hgy⟩ : ∃ g : Nat, g = w3.heap.size := ⟨_, rfl⟩
    rw [← hgy] at BY4 ⊢
    clear hgy z1 x1 X3 Y3 BX3 B3
    have SM := Lib.hid (same_at W4 14 14 x y X4.out Y4.out)
    rw [EQ.out, (ord_cmpV 12).refl] at SM
    obtain ⟨q0, q1, q2, q3, q4, _⟩ := BX4.out
    obtain ⟨p0, p1, p2, p3, p4, _⟩ := BY4.out
    go_wp2_with fail
    refine SM.out.mono ?_
    rintro e w5 ⟨rfl, hb⟩
    have B5 := Lib.hid (bnext B4.out hb)
    clear hb SM q0 q1 q2 q3 q4 p0 p1 p2 p3 p4
    go_wp2_with fail
    refine (known_any w5).mono ?_
    rintro e wk ⟨rfl, hb⟩
    have HK := Lib.hid (bnext B5.out hb)
    clear hb
    go_wp2
    go_ret
    exact ⟨rfl, HK.out⟩
end Go.Proofs.Ytmgjiipooffggaa
