/- There and back: the law of CodeBack. -/
import Derived.Test.YtmgjiipooffggaaKY
namespace Go.Proofs.Ytmgjiipooffggaa
set_option maxRecDepth 100000
open Go.RowKit Go.Sort

set_option maxHeartbeats 6400000 in
theorem back_law (w : World) (d : Nat) (x : At) (s : ByteArray) (hx : x.In w d) (hs : s.size ≤ maxLen) : Calls Try.prog 5 #[x.v, .string s] w fun e w' => e = .returned (.bool true) ∧ Below w.heap.size w w' := by
  have hs' : (s.size : Int) ≤ 9223372036854775807 := by unfold maxLen at hs; omega
  have hs0 : (0 : Int) ≤ (s.size : Int) := by omega
  have b0 := below_new w (.cells #[.int .i64 x.t.k, .int .i64 x.t.n, .string x.t.s, .slice x.A x.t.l.length x.c, .slice x.A' x.t.m.length x.c'] 24)
  have hbx := Bx.new w x
  have HX := Lib.hid hx
  clear hx hs
  unfold At.v
  go_enter Try.func5, Try.ntmps5
  go_upto_region 1 with fail
  generalize hW : World.alloc w _ = W at b0 hbx ⊢
  have hgl : w.heap.size < W.heap.size := by rw [← hW]; simp
  clear hW
  have X0 := Lib.hid (HX.out.next b0)
  have B0 := Lib.hid b0
  have BX := Lib.hid hbx
  have LO := Lib.hid (lots_one W d x X0.out)
  clear b0 hbx
  obtain ⟨g2, hg2⟩ : ∃ g : Nat, g = w.heap.size := ⟨_, rfl⟩
  rw [← hg2] at BX hgl ⊢
  clear hg2
  obtain ⟨q0, q1, q2, q3, q4, _⟩ := BX.out
  go_wp2_with fail
  refine LO.out.mono ?_
  rintro e w1 ⟨b, rfl, hb, hc⟩
  have HC := Lib.hid hc
  have X1 := Lib.hid (X0.out.next hb)
  have B1 := Lib.hid (bnext B0.out hb)
  have BX1 := Lib.hid (BX.out.next hb)
  have hgl1 : g2 < w1.heap.size := Nat.lt_of_lt_of_le hgl hb.size
  clear hb hc LO X0 B0 BX q0 q1 q2 q3 q4
  cases b with
  | true =>
    go_wp2_with fail
    refine (known_any w1).mono ?_
    rintro e wk ⟨rfl, hb⟩
    have HK := Lib.hid (bnext B1.out hb)
    clear hb
    go_wp2
    go_ret
    exact ⟨rfl, HK.out⟩
  | false =>
    by_cases hlen : (2000 : Int) < (s.size : Int)
    · skip
      go_wp2_with fail
      refine (known_any w1).mono ?_
      rintro e wk ⟨rfl, hb⟩
      have HK := Lib.hid (bnext B1.out hb)
      clear hb
      go_wp2
      go_ret
      exact ⟨rfl, HK.out⟩
    · have hlen' : (s.size : Int) ≤ 2000 := by omega
      obtain ⟨q0, q1, q2, q3, q4, _⟩ := BX1.out
      have HCC := Lib.hid (show okV 12 x.t = true → (txt 12 x.t).length ≤ 30000 from HC.out rfl)
      have PR := Lib.hid (print_any w1 d x X1.out (fun h => by have := HCC.out h; omega))
      have PRS := Lib.hid (show prtS x.t = if okV 12 x.t then txt 12 x.t else [] from rfl)
      have PRE := Lib.hid (show prtE x.t = if okV 12 x.t then 0 else 2 from rfl)
      go_wp2_with fail
      refine PR.out.mono ?_
      rintro e w2 ⟨rfl, hb⟩
      have X2 := Lib.hid (X1.out.next hb)
      have B2 := Lib.hid (bnext B1.out hb)
      have BX2 := Lib.hid (BX1.out.next hb)
      have hgl2 : g2 < w2.heap.size := Nat.lt_of_lt_of_le hgl1 hb.size
      clear hb PR X1 B1 BX1 q0 q1 q2 q3 q4
      obtain ⟨q0, q1, q2, q3, q4, _⟩ := BX2.out
      have CK := Lib.hid (refCheck_at w2 d x X2.out)
      obtain ⟨PS, hPS⟩ : ∃ z : ByteArray, z = ⟨(prtS x.t).toArray⟩ := ⟨_, rfl⟩
      rw [← hPS]
      replace hPS := Lib.hid hPS
      generalize hPE : prtE x.t = PE at PRE ⊢
      clear hPE
      generalize hok : okV 12 x.t = ok at *
      have HOK := Lib.hid hok
      clear hok
      have hPE : PE = if ok then 0 else 2 := PRE.out
      -- the second half: the text that came in
      cases ok with
      | false =>
        have hPE' : PE = 2 := hPE
        subst hPE'
        clear hPE
        go_wp2_with fail
        refine CK.out.mono ?_
        rintro e w3 ⟨rfl, hb⟩
        have B3 := Lib.hid (bnext B2.out hb)
        clear hb CK q0 q1 q2 q3 q4
        have e2 : errI false = 2 := rfl
        rw [e2]
        clear e2
        have PC2 := Lib.hid (parse_code w3 s (by omega))
        generalize hpr : prs s.toList = PO at PC2
        have HPO := Lib.hid hpr
        clear hpr
        go_wp2_with fail
        refine PC2.out.mono ?_
        rintro e w6 ⟨y, rfl, ry, hb, hy1, hy2⟩
        have HY1 := Lib.hid hy1
        have HY2 := Lib.hid hy2
        have Y6 := Lib.hid (show y.In w6 14 from Rd.more ry (Nat.zero_le _) (Nat.le_refl _) (Nat.le_refl _))
        have B6 := Lib.hid (bnext B3.out hb)
        clear hb ry hy1 hy2 PC2
        go_upto_region 11 with fail
        have z6 := below_new w6 (.cells #[.int .i64 y.t.k, .int .i64 y.t.n, .string y.t.s, .slice y.A y.t.l.length y.c, .slice y.A' y.t.m.length y.c'] 24)
        have x6 := Bx.new w6 y
        generalize hW7 : World.alloc w6 _ = W7 at z6 x6 ⊢
        clear hW7
        have Y7 := Lib.hid (Y6.out.next z6)
        have BY7 := Lib.hid x6
        have B7 := Lib.hid (bnext B6.out z6)
        obtain ⟨g9, hg9⟩ : ∃ g : Nat, g = w6.heap.size := ⟨_, rfl⟩
        rw [← hg9] at BY7 ⊢
        clear hg9 z6 x6 Y6 B6
        obtain ⟨y0, y1, y2, y3, y4, _⟩ := BY7.out
        cases hPO : PO with
        | none =>
          have HT := Lib.hid (HY2.out hPO)
          rw [hPO] at *
          clear hPO
          have yk : y.t.k = 0 := by rw [HT.out]; rfl
          rw [yk] at y0
          clear yk
          go_wp2_with fail
          refine (known_any W7).mono ?_
          rintro e wk ⟨rfl, hb⟩
          have HK := Lib.hid (bnext B7.out hb)
          clear hb y0 y1 y2 y3 y4
          go_wp2
          go_ret
          exact ⟨rfl, HK.out⟩
        | some u =>
          have HT := Lib.hid (HY1.out u hPO)
          obtain ⟨hl, ho⟩ := prs_sound (HPO.out.trans hPO)
          have HOU : Hid (okV 12 y.t = true) := Lib.hid (by rw [HT.out]; exact ho)
          have HLU : Hid (s.toList = txt 12 y.t) := Lib.hid (by rw [HT.out]; exact hl)
          rw [hPO] at *
          clear hPO hl ho
          have PP := Lib.hid (print_any W7 14 y Y7.out (fun _ => by rw [← HLU.out, toList_size]; omega))
          have E1 : Hid ((⟨(prtS y.t).toArray⟩ : ByteArray) = s) := Lib.hid (by rw [show prtS y.t = txt 12 y.t by unfold prtS; rw [HOU.out]; rfl, ← HLU.out, str_eta])
          have E2 : Hid (prtE y.t = 0) := Lib.hid (by unfold prtE; rw [HOU.out]; rfl)
          rw [E1.out, E2.out] at PP
          go_wp2_with fail
          refine PP.out.mono ?_
          rintro e w8 ⟨rfl, hb⟩
          have B8 := Lib.hid (bnext B7.out hb)
          clear hb PP y0 y1 y2 y3 y4
          go_wp2_with fail
          refine (known_any w8).mono ?_
          rintro e wk ⟨rfl, hb⟩
          have HK := Lib.hid (bnext B8.out hb)
          clear hb
          go_wp2
          go_ret
          exact ⟨rfl, HK.out⟩
      | true =>
        have hPE' : PE = 0 := hPE
        subst hPE'
        clear hPE
        go_wp2_with fail
        refine CK.out.mono ?_
        rintro e w3 ⟨rfl, hb⟩
        have X3 := Lib.hid (X2.out.next hb)
        have BX3 := Lib.hid (BX2.out.next hb)
        have B3 := Lib.hid (bnext B2.out hb)
        have hgl3 : g2 < w3.heap.size := Nat.lt_of_lt_of_le hgl2 hb.size
        clear hb CK q0 q1 q2 q3 q4
        have e2 : errI true = 0 := rfl
        rw [e2]
        clear e2
        have PSL : Hid (PS.toList = txt 12 x.t) := Lib.hid (by rw [hPS.out, lit_list, PRS.out]; rfl)
        have PZ : PS.size ≤ 140737488355328 := by have := HCC.out (by trivial); rw [← toList_size, PSL.out]; omega
        have PC := Lib.hid (parse_code w3 PS PZ)
        rw [PSL.out, prs_txt x.t HOK.out (ints_of_rd _ _ _ _ _ _ _ X3.out)] at PC
        go_wp2_with fail
        refine PC.out.mono ?_
        rintro e w4 ⟨q, rfl, rq, hb, hq, _⟩
        have HQ := Lib.hid (hq x.t rfl)
        have Q4 := Lib.hid (show q.In w4 14 from Rd.more rq (Nat.zero_le _) (Nat.le_refl _) (Nat.le_refl _))
        have X4 := Lib.hid (X3.out.next hb)
        have BX4 := Lib.hid (BX3.out.next hb)
        have B4 := Lib.hid (bnext B3.out hb)
        have hgl4 : g2 < w4.heap.size := Nat.lt_of_lt_of_le hgl3 hb.size
        clear hb rq hq PC X3 BX3 B3 hgl3
        go_upto_region 8 with fail
        have z1 := below_new w4 (.cells #[.int .i64 q.t.k, .int .i64 q.t.n, .string q.t.s, .slice q.A q.t.l.length q.c, .slice q.A' q.t.m.length q.c'] 24)
        have x1 := Bx.new w4 q
        generalize hW5 : World.alloc w4 _ = W5 at z1 x1 ⊢
        clear hW5
        have X5 := Lib.hid (X4.out.next z1)
        have Q5 := Lib.hid (Q4.out.next z1)
        have BX5 := Lib.hid (BX4.out.next z1)
        have BQ5 := Lib.hid x1
        have B5 := Lib.hid (bnext B4.out z1)
        have SM := Lib.hid (same_at W5 d 14 x q X5.out Q5.out)
        rw [HQ.out, (ord_cmpV 12).refl] at SM
        obtain ⟨g7, hg7⟩ : ∃ g : Nat, g = w4.heap.size := ⟨_, rfl⟩
        rw [← hg7] at BQ5 ⊢
        clear hg7 z1 x1 X4 Q4 BX4 B4
        obtain ⟨q0, q1, q2, q3, q4, _⟩ := BX5.out
        obtain ⟨p0, p1, p2, p3, p4, _⟩ := BQ5.out
        go_wp2_with fail
        refine SM.out.mono ?_
        rintro e w3 ⟨rfl, hb⟩
        have B3 := Lib.hid (bnext B5.out hb)
        clear hb SM q0 q1 q2 q3 q4 p0 p1 p2 p3 p4
        have PC2 := Lib.hid (parse_code w3 s (by omega))
        generalize hpr : prs s.toList = PO at PC2
        have HPO := Lib.hid hpr
        clear hpr
        go_wp2_with fail
        refine PC2.out.mono ?_
        rintro e w6 ⟨y, rfl, ry, hb, hy1, hy2⟩
        have HY1 := Lib.hid hy1
        have HY2 := Lib.hid hy2
        have Y6 := Lib.hid (show y.In w6 14 from Rd.more ry (Nat.zero_le _) (Nat.le_refl _) (Nat.le_refl _))
        have B6 := Lib.hid (bnext B3.out hb)
        clear hb ry hy1 hy2 PC2
        go_upto_region 11 with fail
        have z6 := below_new w6 (.cells #[.int .i64 y.t.k, .int .i64 y.t.n, .string y.t.s, .slice y.A y.t.l.length y.c, .slice y.A' y.t.m.length y.c'] 24)
        have x6 := Bx.new w6 y
        generalize hW7 : World.alloc w6 _ = W7 at z6 x6 ⊢
        clear hW7
        have Y7 := Lib.hid (Y6.out.next z6)
        have BY7 := Lib.hid x6
        have B7 := Lib.hid (bnext B6.out z6)
        obtain ⟨g9, hg9⟩ : ∃ g : Nat, g = w6.heap.size := ⟨_, rfl⟩
        rw [← hg9] at BY7 ⊢
        clear hg9 z6 x6 Y6 B6
        obtain ⟨y0, y1, y2, y3, y4, _⟩ := BY7.out
        cases hPO : PO with
        | none =>
          have HT := Lib.hid (HY2.out hPO)
          rw [hPO] at *
          clear hPO
          have yk : y.t.k = 0 := by rw [HT.out]; rfl
          rw [yk] at y0
          clear yk
          go_wp2_with fail
          refine (known_any W7).mono ?_
          rintro e wk ⟨rfl, hb⟩
          have HK := Lib.hid (bnext B7.out hb)
          clear hb y0 y1 y2 y3 y4
          go_wp2
          go_ret
          exact ⟨rfl, HK.out⟩
        | some u =>
          have HT := Lib.hid (HY1.out u hPO)
          obtain ⟨hl, ho⟩ := prs_sound (HPO.out.trans hPO)
          have HOU : Hid (okV 12 y.t = true) := Lib.hid (by rw [HT.out]; exact ho)
          have HLU : Hid (s.toList = txt 12 y.t) := Lib.hid (by rw [HT.out]; exact hl)
          rw [hPO] at *
          clear hPO hl ho
          have PP := Lib.hid (print_any W7 14 y Y7.out (fun _ => by rw [← HLU.out, toList_size]; omega))
          have E1 : Hid ((⟨(prtS y.t).toArray⟩ : ByteArray) = s) := Lib.hid (by rw [show prtS y.t = txt 12 y.t by unfold prtS; rw [HOU.out]; rfl, ← HLU.out, str_eta])
          have E2 : Hid (prtE y.t = 0) := Lib.hid (by unfold prtE; rw [HOU.out]; rfl)
          rw [E1.out, E2.out] at PP
          go_wp2_with fail
          refine PP.out.mono ?_
          rintro e w8 ⟨rfl, hb⟩
          have B8 := Lib.hid (bnext B7.out hb)
          clear hb PP y0 y1 y2 y3 y4
          go_wp2_with fail
          refine (known_any w8).mono ?_
          rintro e wk ⟨rfl, hb⟩
          have HK := Lib.hid (bnext B8.out hb)
          clear hb
          go_wp2
          go_ret
          exact ⟨rfl, HK.out⟩
end Go.Proofs.Ytmgjiipooffggaa
