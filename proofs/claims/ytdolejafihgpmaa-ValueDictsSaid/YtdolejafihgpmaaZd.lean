/- Contract of the document's Find. -/
import Derived.Test.YtdolejafihgpmaaYc
import Derived.Test.YtdolejafihgpmaaZa
namespace Go.Proofs.Ytdolejafihgpmaa
open Go.RowKit Go.Sort
attribute [local go_sem ↓] Go.wp_at_zero Go.wp_at_succ

theorem find_none {w F : World} {a b : At} (h : findV a.t b.t = none) (hb : Below w.heap.size w F) : FindAt w (findV a.t b.t) (.returned (.tuple #[vl zeroV none 0 none 0, .bool false])) F := by
  rw [h]
  exact ⟨⟨zeroV, none, 0, none, 0⟩, rfl, rfl, rd_zero _ _ _ _, hb⟩
set_option maxHeartbeats 3200000 in
theorem refFind_any (w : World) (d : Nat) (a b : At) (ra : a.In w d) (rb : b.In w d) : Calls Try.prog 25 #[a.v, b.v] w (FindAt w (findV a.t b.t)) := by
  have RA := Lib.hid ra
  have RB := Lib.hid rb
  obtain ⟨d', rfl⟩ := ra.pos
  have hbig := ra.2.1.big
  have hbig2 := ra.2.2.big
  have IR := Lib.hid (idxP_range (fun k => cmpV 12 k b.t == 0) a.t.l 0)
  clear ra rb
  go_enter Try.func25, Try.ntmps25
  go_upto_region 1 with fail
  generalize hW : World.alloc (World.alloc (World.alloc _ _) _) _ = W
  obtain ⟨k1, k2, k3, hz, hb⟩ := cells3 _ _ _ _ _ _ _ _ _ _ _ _ _ _ _ _ _ hW
  have K1 := Lib.hid k1
  have K2 := Lib.hid k2
  have K3 := Lib.hid k3
  have HB := Lib.hid hb
  have hzz : w.heap.size + 1 + 1 < W.heap.size := by rw [hz]; omega
  clear hz hb hW k1 k2 k3
  go_wp2_with fail
  go_loopw [6] (fun vi wr => ∃ k : Nat, k ≤ a.t.l.length ∧ vi = .int .i64 k ∧ Hid (Below W.heap.size W wr) ∧ Hid (idxP (fun k => cmpV 12 k b.t == 0) (a.t.l.drop k) k = idxP (fun k => cmpV 12 k b.t == 0) a.t.l 0)) (fun vi _ => a.t.l.length - (intOf vi).toNat)
  case atStart => exact ⟨0, by omega, rfl, Lib.hid (Below.refl _ _), Lib.hid (by simp)⟩
  case round =>
    obtain ⟨k, hk, rfl, hB, hI⟩ := hrel
    have B1 := Lib.hid (bnext HB.out hB.out)
    obtain ⟨a0, a1, a2, a3, a4, _⟩ := K1.out.next hB.out
    obtain ⟨r0, r1, r2, r3, r4, f0, f1, f2, f3, f4, hblk⟩ := K3.out.next hB.out
    have HBK := Lib.hid hblk
    clear hblk
    have HR := Lib.hid (ret_box HBK.out (.int .i64 0) (.int .i64 0) (.string ⟨#[]⟩) (.slice none 0 0) (.slice none 0 0))
    cases h7 : (a.t.k == 7)
    · have FIN := Lib.hid (findV_no a.t b.t (by simpa using h7))
      by_cases hlt : k < a.t.l.length
      all_goals
        go_wp2
        obtain ⟨F, hF, ⟨r0, r1, r2, r3, r4, _⟩, hk, hs, hbel⟩ := HR.out
        rw [← hF]
        clear hF
        exact bodyPost_ret (v := .tuple #[vl zeroV none 0 none 0, .bool false]) (by simp [results, Try.results25, go_sem, r0, r1, r2, r3, r4]; exact ⟨rfl, rfl, rfl, rfl, rfl⟩) rfl (find_none FIN.out (hbel _ _ (by omega) B1.out))
    · have H7 := Lib.hid (show (a.t.k != 7) = false by simpa using h7)
      by_cases hlt : k < a.t.l.length
      · obtain ⟨g, off, x, hA, ex⟩ := el_of (RA.out.next B1.out).2.1 hlt
        have EX := Lib.hid ex
        have HA := Lib.hid hA
        have hk0 : (0 : Int) ≤ (k : Int) := by omega
        have hk1 : (k : Int) < (a.t.l.length : Int) := by omega
        obtain ⟨b0, b1, b2, b3, b4, _⟩ := K2.out.next hB.out
        have cQ := Lib.hid (refSame_regrown ex.in_ (RB.out.next B1.out))
        obtain ⟨q0, q1, q2, q3, q4⟩ := ex.cells
        rw [hA] at a3
        clear ex hA HR r0 r1 r2 r3 r4 f0 f1 f2 f3 f4
        go_upto_region 4 with fail
        replace a3 := cell_regrown a3
        replace q0 := cell_regrown q0
        replace b0 := cell_regrown b0
        replace q1 := cell_regrown q1
        replace b1 := cell_regrown b1
        replace q2 := cell_regrown q2
        replace b2 := cell_regrown b2
        replace q3 := cell_regrown q3
        replace b3 := cell_regrown b3
        replace q4 := cell_regrown q4
        replace b4 := cell_regrown b4
        go_wp2_with fail
        refine wp_region_quiet_below (by kernel_rfl) (by kernel_rfl) ?_
        repeat (first | go_big_quiet_step (exact cQ.out _ _) | quiet_step (exact cQ.out _ _))
        refine wpQuiet_nil ?_
        intro _ hw'
        obtain ⟨⟨dq, osq⟩, hw''⟩ := hw'
        subst hw''
        have HNX := Lib.hid (below_regrown wr dq osq)
        generalize grow (redrawn wr dq) osq = wq at HNX
        have HB2 := Lib.hid (bnext hB.out HNX.out)
        have B2 := Lib.hid (bnext HB.out HB2.out)
        clear a0 a1 a2 a3 a4 b0 b1 b2 b3 b4 q0 q1 q2 q3 q4 cQ
        cases hs : (cmpV 12 x.t b.t == 0)
        · have NX := Lib.hid (idxP_no (fun k => cmpV 12 k b.t == 0) a.t.l k EX.out.get hs)
          clear hs
          go_wp2
          go_roundw
          case rel => exact ⟨k + 1, by omega, by go_num, HB2, Lib.hid (by rw [← hI.out, NX.out])⟩
          case measure => simp [intOf]; omega
        · have YES := Lib.hid (show idxP (fun k => cmpV 12 k b.t == 0) a.t.l 0 = k by rw [← hI.out]; exact idxP_yes (fun k => cmpV 12 k b.t == 0) a.t.l k EX.out.get hs)
          clear hs
          obtain ⟨a0, a1, a2, a3, a4, _⟩ := K1.out.next HB2.out
          obtain ⟨r0, r1, r2, r3, r4, f0, f1, f2, f3, f4, hblk⟩ := K3.out.next HB2.out
          have HBK := Lib.hid hblk
          clear hblk
          by_cases hj : k < a.t.m.length
          · have hjz : (k : Int) < (a.t.m.length : Int) := by omega
            obtain ⟨g2, off2, y, hA2, ey⟩ := el_of (RA.out.next B2.out).2.2 hj
            have EY := Lib.hid ey
            have FIN := Lib.hid (findV_at a.t b.t k H7.out YES.out ey.get)
            rw [hA2] at a4
            obtain ⟨q0, q1, q2, q3, q4⟩ := ey.cells
            clear ey hA2
            go_wp2_with fail
            refine (refCopy_full wq d' y EY.out.in_).mono ?_
            rintro e w2 ⟨q, hqt, rfl, rq, hb2⟩
            have hz1 : w.heap.size + 1 + 1 < wq.heap.size := Nat.lt_of_lt_of_le hzz HB2.out.size
            obtain ⟨s0, s1, s2, s3, s4, p0, p1, p2, p3, p4, hblk2⟩ := (K3.out.next HB2.out).next hb2
            have HR := Lib.hid (ret_box hblk2 (.int .i64 q.t.k) (.int .i64 q.t.n) (.string q.t.s) (.slice q.A q.t.l.length q.c) (.slice q.A' q.t.m.length q.c'))
            have RQ := Lib.hid rq
            have HQT := Lib.hid hqt
            have B3 := Lib.hid (bnext B2.out hb2)
            have S1 := Lib.hid (show w.heap.size ≤ wq.heap.size from B2.out.size)
            clear rq hqt hb2 hblk2 q0 q1 q2 q3 q4 r0 r1 r2 r3 r4 f0 f1 f2 f3 f4 a0 a1 a2 a3 a4
            go_wp2
            obtain ⟨F, hF, ⟨r0, r1, r2, r3, r4, _⟩, hk, hs, hbel⟩ := HR.out
            rw [← hF]
            clear hF
            exact bodyPost_ret (v := .tuple #[q.v, .bool true]) (by simp [results, Try.results25, go_sem, r0, r1, r2, r3, r4]) rfl (by rw [FIN.out]; exact ⟨q, rfl, HQT.out, by unfold At.In; rw [hs]; exact Rd.imp (hk _ _ hz1) (Nat.zero_le _) (Nat.le_refl _) (Nat.le_refl _) RQ.out, hbel _ _ (by omega) B3.out⟩)
          · have hjz : ¬ (k : Int) < (a.t.m.length : Int) := by omega
            have FIN := Lib.hid (findV_out a.t b.t k H7.out YES.out (by omega))
            have HR := Lib.hid (ret_box HBK.out (.int .i64 0) (.int .i64 0) (.string ⟨#[]⟩) (.slice none 0 0) (.slice none 0 0))
            go_wp2
            obtain ⟨F, hF, ⟨r0, r1, r2, r3, r4, _⟩, hk, hs, hbel⟩ := HR.out
            rw [← hF]
            clear hF
            exact bodyPost_ret (v := .tuple #[vl zeroV none 0 none 0, .bool false]) (by simp [results, Try.results25, go_sem, r0, r1, r2, r3, r4]; exact ⟨rfl, rfl, rfl, rfl, rfl⟩) rfl (find_none FIN.out (hbel _ _ (by omega) B2.out))
      · obtain rfl : k = a.t.l.length := by omega
        have FIN := Lib.hid (findV_neg a.t b.t H7.out (by rw [← hI.out, idxP_out _ _ _ _ (Nat.le_refl _)]; omega))
        go_wp2
        obtain ⟨F, hF, ⟨r0, r1, r2, r3, r4, _⟩, hk, hs, hbel⟩ := HR.out
        rw [← hF]
        clear hF
        exact bodyPost_ret (v := .tuple #[vl zeroV none 0 none 0, .bool false]) (by simp [results, Try.results25, go_sem, r0, r1, r2, r3, r4]; exact ⟨rfl, rfl, rfl, rfl, rfl⟩) rfl (find_none FIN.out (hbel _ _ (by omega) B1.out))
end Go.Proofs.Ytdolejafihgpmaa
/- The law on maps and what is found in them, as far as the document's Dict answers with the document's map. -/
namespace Go.Proofs.Ytdolejafihgpmaa
open Go.RowKit Go.Sort
attribute [local go_sem ↓] Go.wp_at_zero Go.wp_at_succ

/-- The map of a row of keys and values, or why there is none. -/
def mapR (l : List V) : V × Int := if l.length % 2 = 0 ∧ okV 12 (refMap l) = true then (refMap l, 0) else (zeroV, 2)
def DictM (w : World) (l : List V) (e : Ending) (w' : World) : Prop :=
  ∃ q : At, e = .returned (.tuple #[q.v, .int .i64 (mapR l).2]) ∧ q.t = (mapR l).1 ∧ q.In w' 14 ∧ Below w.heap.size w w'
/-- What the document's Dict owes. -/
def RefDictOk : Prop := ∀ (w : World) (d : Nat) (A : Option Addr) (c : Nat) (l : List V), Rw w 0 w.heap.size d A c l → l.length ≤ 100 → Calls Try.prog 23 #[.slice A l.length c] w (DictM w l)
theorem dictM_at (w : World) (d : Nat) (A : Option Addr) (c : Nat) (l : List V) (h : Rw w 0 w.heap.size d A c l) (hn : l.length ≤ 200000) : Calls Try.prog 22 #[.slice A l.length c] w (DictM w l) := by
  by_cases he : l.length % 2 = 0
  · refine (dict_even w d A c l h he (stable_any _ (by omega)) hn).mono ?_
    rintro e w' ⟨ps, ps', hk, hs, hf, B, b, B', b', rfl, rd, hb⟩
    obtain ⟨e1, e2⟩ := refMap_dict hk hs hf
    cases ho : okV 12 (dictOf ps') with
    | false =>
      have hm : mapR l = (zeroV, 2) := by unfold mapR; rw [if_neg (by rw [e1, ho]; simp)]
      have hc : okCopy (dictOf ps') = zeroV := by unfold okCopy; rw [ho]; rfl
      rw [hc] at rd ⊢
      exact ⟨⟨zeroV, B, b, B', b'⟩, by rw [hm]; rfl, by rw [hm], Rd.more rd (Nat.zero_le _) (Nat.le_refl _) (by omega), hb⟩
    | true =>
      have hm : mapR l = (dictOf ps', 0) := by unfold mapR; rw [if_pos ⟨he, by rw [e1, ho]⟩, e2 ho]
      have hc : okCopy (dictOf ps') = dictOf ps' := by unfold okCopy; rw [if_pos ho]; exact ok_same_copy 12 12 _ ho (Nat.le_refl _)
      rw [hc] at rd ⊢
      exact ⟨⟨dictOf ps', B, b, B', b'⟩, by rw [hm]; rfl, by rw [hm], Rd.more rd (Nat.zero_le _) (Nat.le_refl _) (by omega), hb⟩
  · refine (dict_odd w A c l h.big (by omega)).mono ?_
    rintro e w' ⟨B, b, B', b', rfl, rd, hb⟩
    have hm : mapR l = (zeroV, 2) := by unfold mapR; rw [if_neg (fun h => he h.1)]
    exact ⟨⟨zeroV, B, b, B', b'⟩, by rw [hm], by rw [hm], Rd.more rd (Nat.zero_le _) (Nat.le_refl _) (by omega), hb⟩
theorem refSame_two (w : World) (d d' : Nat) (x y : At) (hx : x.In w d) (hy : y.In w d') : Calls Try.prog 20 #[x.v, y.v] w fun e w' => e = .returned (.bool (cmpV 12 x.t y.t == 0)) ∧ Below w.heap.size w w' :=
  refSame_any w d d' x.t y.t _ _ _ _ _ _ _ _ hx hy

set_option maxHeartbeats 8000000 in
set_option maxRecDepth 100000 in
theorem dicts_law (hR : RefDictOk) (w : World) (d : Nat) (A : Option Addr) (c : Nat) (l : List V) (m key : At) (h : Rw w 0 w.heap.size d A c l) (hm : m.In w d) (hkey : key.In w d) : Calls Try.prog 5 #[.slice A l.length c, m.v, key.v] w fun e w' => e = .returned (.bool true) ∧ Below w.heap.size w w' := by
  have HD := Lib.hid hR
  have H := Lib.hid h
  have HM := Lib.hid hm
  have HX := Lib.hid hkey
  have hbig := h.big
  clear h hm hkey hR
  go_enter Try.func5, Try.ntmps5
  go_upto_region 1 with fail
  generalize hW : World.alloc (World.alloc _ _) _ = W
  have H0 := Lib.hid ((B2.new w (d + 14) m key (HM.out.up (by omega)) (HX.out.up (by omega)) W hW).bxs)
  clear hW
  generalize w.heap.size + 1 = g2 at H0
  generalize hg : w.heap.size = g1 at H0
  clear hg
  obtain ⟨a0, a1, a2, a3, a4, _⟩ := H0.out.box g1 m (by simp)
  obtain ⟨b0, b1, b2, b3, b4, _⟩ := H0.out.box g2 key (by simp)
  go_wp2_with fail
  refine (lots_any W d A c l (H.out.next H0.out.bel)).mono ?_
  rintro e w1 ⟨bb, rfl, hb1⟩
  have H1 := Lib.hid (H0.out.next hb1)
  clear hb1 H0 a0 a1 a2 a3 a4 b0 b1 b2 b3 b4
  cases bb
  · obtain ⟨a0, a1, a2, a3, a4, _⟩ := H1.out.box g1 m (by simp)
    obtain ⟨b0, b1, b2, b3, b4, _⟩ := H1.out.box g2 key (by simp)
    go_wp2_with fail
    refine (lots2 w1 (d + 14) m key (H1.out.in_ g1 m (by simp)) (H1.out.in_ g2 key (by simp))).mono ?_
    rintro e w2 ⟨bb, rfl, hb2⟩
    have H2 := Lib.hid ((H1.out.next (below_new _ _)).next hb2)
    clear hb2 H1 a0 a1 a2 a3 a4 b0 b1 b2 b3 b4
    cases bb
    · by_cases hlen : l.length ≤ 100
      · have hlz : (l.length : Int) ≤ 100 := by omega
        go_wp2_with fail
        refine (dictM_at w2 d A c l (H.out.next H2.out.bel) (by omega)).mono ?_
        rintro e w3 ⟨D, rfl, hD, iD, hb3⟩
        have HDT := Lib.hid hD
        have H3 := Lib.hid ((H2.out.next hb3).push (x := D) (iD.up (by omega)))
        clear hD iD hb3 H2
        go_upto_region 4 with fail
        generalize World.alloc w3 _ = W3 at H3
        generalize w3.heap.size = g7 at H3
        go_wp2_with fail
        refine (HD.out W3 d A c l (H.out.next H3.out.bel) hlen).mono ?_
        rintro e w4 ⟨D2, rfl, hD, iD, hb4⟩
        have HDT2 := Lib.hid hD
        have H4 := Lib.hid ((H3.out.next hb4).push (x := D2) (iD.up (by omega)))
        clear hD iD hb4 H3
        go_upto_region 5 with fail
        generalize World.alloc w4 _ = W4 at H4
        generalize w4.heap.size = g9 at H4
        obtain ⟨a0, a1, a2, a3, a4, _⟩ := H4.out.box g1 m (by simp)
        obtain ⟨b0, b1, b2, b3, b4, _⟩ := H4.out.box g2 key (by simp)
        go_wp2_with fail
        refine (find_at W4 (d + 14) m key (H4.out.in_ g1 m (by simp)) (H4.out.in_ g2 key (by simp))).mono ?_
        rintro e w5 ⟨v, rfl, hv, iv, hb5⟩
        have HV := Lib.hid hv
        have H5 := Lib.hid ((H4.out.next hb5).push (x := v) (iv.up (by omega)))
        clear hv iv hb5 H4 a0 a1 a2 a3 a4 b0 b1 b2 b3 b4
        go_upto_region 6 with fail
        generalize World.alloc w5 _ = W5 at H5
        generalize w5.heap.size = g11 at H5
        obtain ⟨a0, a1, a2, a3, a4, _⟩ := H5.out.box g1 m (by simp)
        obtain ⟨b0, b1, b2, b3, b4, _⟩ := H5.out.box g2 key (by simp)
        go_wp2_with fail
        refine (refFind_any W5 (d + 14) m key (H5.out.in_ g1 m (by simp)) (H5.out.in_ g2 key (by simp))).mono ?_
        rintro e w6 ⟨u, rfl, hu, iu, hb6⟩
        have HU := Lib.hid hu
        have H6 := Lib.hid ((H5.out.next hb6).push (x := u) (iu.up (by omega)))
        clear hu iu hb6 H5 a0 a1 a2 a3 a4 b0 b1 b2 b3 b4
        go_upto_region 7 with fail
        generalize World.alloc w6 _ = W6 at H6
        generalize w6.heap.size = g13 at H6
        obtain ⟨a0, a1, a2, a3, a4, _⟩ := H6.out.box g7 D (by simp)
        obtain ⟨b0, b1, b2, b3, b4, _⟩ := H6.out.box g9 D2 (by simp)
        have S1 : (cmpV 12 D.t D2.t == 0) = true := by rw [HDT.out, HDT2.out, (ord_cmpV 12).refl]; rfl
        have S2 : (cmpV 12 v.t u.t == 0) = true := by rw [HV.out, HU.out, (ord_cmpV 12).refl]; rfl
        have HS2 := Lib.hid S2
        generalize (findV m.t key.t).isSome = fb
        generalize (mapR l).2 = er
        go_wp2_with fail
        refine (refSame_two W6 (d + 14) (d + 14) D D2 (H6.out.in_ g7 D (by simp)) (H6.out.in_ g9 D2 (by simp))).mono ?_
        rintro e w7 ⟨rfl, hb7⟩
        rw [S1]
        have H7 := Lib.hid (H6.out.next hb7)
        clear hb7 H6 a0 a1 a2 a3 a4 b0 b1 b2 b3 b4 S1 S2
        obtain ⟨a0, a1, a2, a3, a4, _⟩ := H7.out.box g11 v (by simp)
        obtain ⟨b0, b1, b2, b3, b4, _⟩ := H7.out.box g13 u (by simp)
        go_wp2_with fail
        refine (refSame_two w7 (d + 14) (d + 14) v u (H7.out.in_ g11 v (by simp)) (H7.out.in_ g13 u (by simp))).mono ?_
        rintro e w8 ⟨rfl, hb8⟩
        rw [HS2.out]
        have H8 := Lib.hid (H7.out.next hb8)
        clear hb8 H7 a0 a1 a2 a3 a4 b0 b1 b2 b3 b4
        go_wp2_with fail
        refine (known_any _).mono ?_
        rintro e w9 ⟨rfl, hb9⟩
        go_wp2
        go_ret
        exact ⟨rfl, bnext H8.out.bel hb9⟩
      · have hlz : ¬ (l.length : Int) ≤ 100 := by omega
        go_wp2_with fail
        refine (known_any _).mono ?_
        rintro e w3 ⟨rfl, hb3⟩
        go_wp2
        go_ret
        exact ⟨rfl, bnext H2.out.bel hb3⟩
    · go_wp2_with fail
      refine (known_any _).mono ?_
      rintro e w3 ⟨rfl, hb3⟩
      go_wp2
      go_ret
      exact ⟨rfl, bnext H2.out.bel hb3⟩
  · go_wp2_with fail
    refine (known_any _).mono ?_
    rintro e w2 ⟨rfl, hb2⟩
    go_wp2
    go_ret
    exact ⟨rfl, bnext H1.out.bel hb2⟩
end Go.Proofs.Ytdolejafihgpmaa
/- The map in its box reads as its keys and values, whatever becomes of the result's box. -/
namespace Go.Proofs.Ytdolejafihgpmaa
open Go.RowKit Go.Sort

def zz (Zl Zm : List At) : List (V × V) := List.zipWith (fun a b => (a.t, b.t)) Zl Zm
theorem zz_fst : ∀ (Zl Zm : List At), Zl.length = Zm.length → (zz Zl Zm).map (·.1) = Zl.map (·.t)
  | [], [], _ => rfl
  | [], _ :: _, h => by simp at h
  | _ :: _, [], h => by simp at h
  | a :: Zl, b :: Zm, h => by
    have := zz_fst Zl Zm (by simpa using h)
    unfold zz at *
    rw [List.zipWith_cons_cons, List.map_cons, List.map_cons, this]
theorem zz_snd : ∀ (Zl Zm : List At), Zl.length = Zm.length → (zz Zl Zm).map (·.2) = Zm.map (·.t)
  | [], [], _ => rfl
  | [], _ :: _, h => by simp at h
  | _ :: _, [], h => by simp at h
  | a :: Zl, b :: Zm, h => by
    have := zz_snd Zl Zm (by simpa using h)
    unfold zz at *
    rw [List.zipWith_cons_cons, List.map_cons, List.map_cons, this]
theorem St.map_rd {w0 wr F : World} {r0 g4 base : Nat} {own : List Nat} {vals : List At} {AL : Option Addr} {cL : Nat} {AM : Option Addr} {cM : Nat} {Zl Zm : List At} {AK : Option Addr} {cK : Nat} {AV : Option Addr} {cV : Nat} {ks vs : List At}
    (h : St w0 wr r0 g4 base own vals AL cL AM cM Zl Zm AK cK AV cV ks vs) (hl : Zl.length = Zm.length) (hb : Zl.length ≤ 1000000) (hs : F.heap.size = wr.heap.size) (far : ∀ k, k ≠ r0 → F.heap[k]? = wr.heap[k]?) :
    Rd F 0 F.heap.size 14 (mapV (zz Zl Zm)) AL cL AM cM := by
  have st : ∀ q ∈ Zl ++ Zm, Rd F 0 F.heap.size 13 q.t q.A q.c q.A' q.c' := fun q hq =>
    Rd.more (h.st q (h.sub q hq) F (by omega) (fun k _ _ hn => far k (fun e => hn (by rw [e]; exact h.rin)))) (Nat.zero_le _) (Nat.le_refl _) (Nat.le_refl _)
  have vl := h.vl.keep (w' := F) (fun b e _ _ => far b (h.ol b e).2.2.1)
  have vm := h.vm.keep (w' := F) (fun b e _ _ => far b (h.om b e).2.2.1)
  have rl := grown_rd (lo := 0) vl (Nat.le_refl _) (by omega) (fun q hq => st q (List.mem_append_left _ hq))
  have rm := grown_rd (lo := 0) vm (Nat.le_refl _) (by omega) (fun q hq => st q (List.mem_append_right _ hq))
  refine ⟨fld_mk _ _ (by decide) (by decide) (by decide) (by decide) (by decide), ?_, ?_⟩
  · show Rw F 0 F.heap.size 13 AL cL ((zz Zl Zm).map (·.1))
    rw [zz_fst _ _ hl]; exact rl
  · show Rw F 0 F.heap.size 13 AM cM ((zz Zl Zm).map (·.2))
    rw [zz_snd _ _ hl]; exact rm
theorem St.map_bx {w0 wr : World} {r0 g4 base : Nat} {own : List Nat} {vals : List At} {AL : Option Addr} {cL : Nat} {AM : Option Addr} {cM : Nat} {Zl Zm : List At} {AK : Option Addr} {cK : Nat} {AV : Option Addr} {cV : Nat} {ks vs : List At}
    (h : St w0 wr r0 g4 base own vals AL cL AM cM Zl Zm AK cK AV cV ks vs) (hl : Zl.length = Zm.length) : Bx wr g4 ⟨mapV (zz Zl Zm), AL, cL, AM, cM⟩ := by
  have e1 : (mapV (zz Zl Zm)).l.length = Zl.length := by
    show ((zz Zl Zm).map (·.1)).length = _
    rw [zz_fst _ _ hl, List.length_map]
  have e2 : (mapV (zz Zl Zm)).m.length = Zm.length := by
    show ((zz Zl Zm).map (·.2)).length = _
    rw [zz_snd _ _ hl, List.length_map]
  unfold Bx
  simp only [e1, e2]
  exact h.box
theorem box_far {w1 F : World} {g : Nat} (hk : ∀ lo B, g < lo → Kept lo B w1 F) (hbel : ∀ B w, B ≤ g → Below B w w1 → Below B w F) : ∀ k, k ≠ g → F.heap[k]? = w1.heap[k]? := fun k hk0 => by
  rcases Nat.lt_or_ge k g with h | h
  · exact (hbel g w1 (Nat.le_refl _) (Below.refl _ _)).block k h
  · exact hk (g + 1) (k + 1) (by omega) k (by omega) (by omega)
end Go.Proofs.Ytdolejafihgpmaa
/- Where the document's Dict lays a pair in, said of the two rows. Plain facts. -/
namespace Go.Proofs.Ytdolejafihgpmaa
open Go.RowKit Go.Sort

theorem zz_len {Zl Zm : List At} (h : Zl.length = Zm.length) : (zz Zl Zm).length = Zl.length := by
  unfold zz; rw [List.length_zipWith]; omega
theorem zz_app {A A' B B' : List At} (h : A.length = A'.length) : zz (A ++ B) (A' ++ B') = zz A A' ++ zz B B' := by
  unfold zz; exact List.zipWith_append h
theorem zz_at {Zl Zm : List At} {n : Nat} {q u : At} (hq : Zl[n]? = some q) (hu : Zm[n]? = some u) : (zz Zl Zm)[n]? = some (q.t, u.t) := by
  unfold zz; rw [List.getElem?_zipWith, hq, hu]
theorem zz_take (Zl Zm : List At) (n : Nat) : (zz Zl Zm).take n = zz (Zl.take n) (Zm.take n) := by
  unfold zz; rw [List.take_zipWith]
theorem zz_drop (Zl Zm : List At) (n : Nat) : (zz Zl Zm).drop n = zz (Zl.drop n) (Zm.drop n) := by
  unfold zz; rw [List.drop_zipWith]
/-- What is laid: the rows up to a place, one more of each, and the rows from a place on. -/
def Lays (Zl Zm : List At) (x y : V) (ks vs : List At) (k : At) (n : Nat) : Prop := ∀ c : At, c.t = copyV 12 y → insC (zz Zl Zm) (x, y) = zz (ks ++ [k] ++ Zl.drop n) (vs ++ [c] ++ Zm.drop n)
theorem lays_same {Zl Zm : List At} {x y : V} {n : Nat} {q : At} (hl : Zl.length = Zm.length) (hlow : ∀ j q, j < n → (zz Zl Zm)[j]? = some q → cmpV 12 q.1 x < 0) (hq : Zl[n]? = some q) (h0 : cmpV 12 q.t x = 0) : Lays Zl Zm x y (Zl.take n) (Zm.take n) q (n + 1) := fun c hc => by
  have h1 := (List.getElem?_eq_some_iff.1 hq).1
  have hu : Zm[n]? = some Zm[n] := List.getElem?_eq_getElem (by omega)
  have hz := zz_at hq hu
  rw [insC_at _ x y n hlow, insC_head hz (show ¬ cmpV 12 q.t x < 0 by omega), if_pos (show cmpV 12 q.t x = 0 from h0), zz_take, zz_drop, zz_app (by simp; omega), zz_app (by simp; omega)]
  simp [zz, hc]
theorem lays_more {Zl Zm : List At} {x y : V} {n : Nat} {k : At} (hl : Zl.length = Zm.length) (hlow : ∀ j q, j < n → (zz Zl Zm)[j]? = some q → cmpV 12 q.1 x < 0) (hq : ∀ q, Zl[n]? = some q → ¬ cmpV 12 q.t x < 0 ∧ cmpV 12 q.t x ≠ 0) (hk : k.t = copyV 12 x) : Lays Zl Zm x y (Zl.take n) (Zm.take n) k n := fun c hc => by
  rw [insC_at _ x y n hlow, zz_take, zz_app (by simp; omega), zz_app (by simp; omega), List.append_assoc]
  congr 1
  rw [zz_drop]
  rcases Nat.lt_or_ge n Zl.length with h | h
  · have e : Zl[n]? = some Zl[n] := List.getElem?_eq_getElem h
    have eu : Zm[n]? = some Zm[n] := List.getElem?_eq_getElem (by omega)
    have hz := zz_at e eu
    rw [← zz_drop, insC_head hz (hq _ e).1, if_neg (hq _ e).2, zz_drop]
    simp [zz, hk, hc]
  · rw [List.drop_eq_nil_of_le h, List.drop_eq_nil_of_le (by omega)]
    simp [zz, insC, cpP, hk, hc]
theorem pair_next {l : List V} {i : Nat} {x y : V} (hx : l[i]? = some x) (hy : l[i + 1]? = some y) : pairUp (l.drop i) = (x, y) :: pairUp (l.drop (i + 2)) := by
  obtain ⟨h1, e1⟩ := List.getElem?_eq_some_iff.1 hx
  obtain ⟨h2, e2⟩ := List.getElem?_eq_some_iff.1 hy
  rw [List.drop_eq_getElem_cons h1, List.drop_eq_getElem_cons h2, e1, e2]; rfl
/-- The rest of a row that grew, item by item. -/
theorem vg_drop {w : World} {base g c n : Nat} {Z : List At} (h : VG w base (.slice (some ⟨g, 0, none⟩) Z.length c) Pr.kc (Z.map At.pr)) : ∀ (j : Nat) (q : At), (Z.drop n)[j]? = some q → cells5 w g (n * 5 + j * 5) q.t q.A q.c q.A' q.c' := fun j q hj => by
  rw [List.getElem?_drop] at hj
  have := vg_at h hj
  rwa [show (n + j) * 5 = n * 5 + j * 5 by omega] at this
theorem mem_drop_left {Zl Zm vals : List At} {n : Nat} (h : ∀ q ∈ Zl ++ Zm, q ∈ vals) : ∀ q ∈ Zl.drop n, q ∈ vals := fun q hq => h q (List.mem_append_left _ (List.mem_of_mem_drop hq))
theorem mem_drop_right {Zl Zm vals : List At} {n : Nat} (h : ∀ q ∈ Zl ++ Zm, q ∈ vals) : ∀ q ∈ Zm.drop n, q ∈ vals := fun q hq => h q (List.mem_append_right _ (List.mem_of_mem_drop hq))
/-- append of none, whatever its length is written as. -/
theorem append_nil {ops : Array Oper} {rest : List Oper} {o : Oper} {a : Act} {W : World} {Q : Exit → Act → World → Prop} (hgd : o.guard = none) (s x : Operand)
    (ho : o.op = .call { callee := .builtin .append, args := #[s, x], argTypes := #[22, 22] }) (base : Nat) (g c : Nat) (acc : List At)
    (hs : a.eval s = .slice (some ⟨g, 0, none⟩) acc.length c) (hV : VG W base (.slice (some ⟨g, 0, none⟩) acc.length c) Pr.kc (acc.map At.pr)) (X : Option Addr) (m cx : Nat) (hx : a.eval x = .slice X m cx) (hm : m = 0) (hX : X = none → cx = 0)
    (h : wpList Try.prog ops Q rest (a.put o.dst (.slice (some ⟨g, 0, none⟩) acc.length c)) W) : wpList Try.prog ops Q (o :: rest) a W := by
  subst hm
  exact append_empty hgd s x ho base g c acc hs hV X cx hx hX h
end Go.Proofs.Ytdolejafihgpmaa
