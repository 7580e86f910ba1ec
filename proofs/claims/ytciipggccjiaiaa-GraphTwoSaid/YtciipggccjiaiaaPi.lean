/- The law on two properties: the walk. -/
import Derived.Test.YtciipggccjiaiaaPh
namespace Go.Proofs.Ytciipggccjiaiaa
open Go.RowKit Go.Sort
set_option maxRecDepth 100000
attribute [local go_sem ↓] Go.wp_at_zero Go.wp_at_succ

set_option maxHeartbeats 32000000 in
theorem two_law (w : World) (d0 : Nat) (g : GA) (id : Int) (key other : ByteArray) (x u : At) (hg : g.In w d0) (hsm : g.Sm) (hx : x.In w d0) (hu : u.In w d0) : Calls Try.prog 8 #[g.v, .int .i64 id, .string key, .string other, x.v, u.v] w fun e w' => e = .returned (.bool true) ∧ Below w.heap.size w w' := by
  obtain ⟨d, hd⟩ : ∃ d, d = d0 + 13 := ⟨_, rfl⟩
  have G := Lib.hid (hg.up (d' := d) (by omega))
  have X := Lib.hid (hx.more (m := d) (by omega))
  have U := Lib.hid (hu.more (m := d) (by omega))
  have HSM := Lib.hid hsm
  have D13 : 13 ≤ d := by omega
  clear hg hx hu hd hsm
  go_enter Try.func8, Try.ntmps8
  go_upto_region 1 with fail
  generalize hA : World.alloc w _ = Wa
  obtain ⟨c4, hbA, hsA⟩ := made24 hA
  generalize hC : World.alloc Wa _ = Wb
  obtain ⟨c7, hbC, hsC⟩ := made37 x hC
  generalize hD : World.alloc Wb _ = W0
  obtain ⟨c8, hbD, hsD⟩ := made37 u hD
  rw [hsC, hsA] at c8
  rw [hsA] at c7
  have B := Lib.hid (bnext (bnext hbA hbC) hbD)
  have C2a := Lib.hid ((c4.next hbC).next hbD)
  have X10 := Lib.hid (c7.next hbD)
  have U11 := Lib.hid c8
  replace G := Lib.hid (G.out.next B.out)
  replace X := Lib.hid (X.out.next B.out)
  replace U := Lib.hid (U.out.next B.out)
  clear hA hC hD c4 c7 c8 hbA hbC hbD hsA hsC hsD
  obtain ⟨y0, y1, _⟩ := C2a.out
  go_wp2_with fail
  refine (much_any W0 d g G.out).mono ?_
  rintro e W1 ⟨mb, rfl, hb1⟩
  clear y0 y1
  replace G := Lib.hid (G.out.next hb1)
  replace X := Lib.hid (X.out.next hb1)
  replace U := Lib.hid (U.out.next hb1)
  replace C2a := Lib.hid (C2a.out.next hb1)
  replace X10 := Lib.hid (X10.out.next hb1)
  replace U11 := Lib.hid (U11.out.next hb1)
  replace B := Lib.hid (bnext B.out hb1)
  clear hb1
  cases mb
  case true =>
    go_wp2_with fail
    refine (known_any W1).mono ?_
    rintro e Wk ⟨rfl, hbk⟩
    have BK := Lib.hid (bnext B.out hbk)
    clear hbk
    go_wp2
    go_ret
    exact ⟨rfl, BK.out⟩
  by_cases hkey : 300 < key.size
  · have gkey : (300 : Int) < (key.size : Int) := by omega
    go_wp2_with fail
    refine (known_any W1).mono ?_
    rintro e Wk ⟨rfl, hbk⟩
    have BK := Lib.hid (bnext B.out hbk)
    clear hbk
    go_wp2
    go_ret
    exact ⟨rfl, BK.out⟩
  have gkey : ¬ (300 : Int) < (key.size : Int) := by omega
  clear hkey
  by_cases hother : 300 < other.size
  · have gother : (300 : Int) < (other.size : Int) := by omega
    go_wp2_with fail
    refine (known_any W1).mono ?_
    rintro e Wk ⟨rfl, hbk⟩
    have BK := Lib.hid (bnext B.out hbk)
    clear hbk
    go_wp2
    go_ret
    exact ⟨rfl, BK.out⟩
  have gother : ¬ (300 : Int) < (other.size : Int) := by omega
  clear hother
  by_cases hne : key.toList = other.toList
  · have n1 : (key.toList == other.toList) = true := by simp [hne]
    clear hne
    go_wp2_with fail
    refine (known_any W1).mono ?_
    rintro e Wk ⟨rfl, hbk⟩
    have BK := Lib.hid (bnext B.out hbk)
    clear hbk
    go_wp2
    go_ret
    exact ⟨rfl, BK.out⟩
  have NE := Lib.hid hne
  have n1 : (key.toList == other.toList) = false := by simp [hne]
  clear hne
  obtain ⟨x0, x1, x2, x3, x4, _⟩ := X10.out
  go_wp2_with fail
  refine (count_any d W1 x.t x.A x.c x.A' x.c' 500 (by decide) (by decide) X.out).mono ?_
  rintro e W2 ⟨cnx, rfl, cn0, cn1, hb1⟩
  clear x0 x1 x2 x3 x4
  replace G := Lib.hid (G.out.next hb1)
  replace X := Lib.hid (X.out.next hb1)
  replace U := Lib.hid (U.out.next hb1)
  replace C2a := Lib.hid (C2a.out.next hb1)
  replace X10 := Lib.hid (X10.out.next hb1)
  replace U11 := Lib.hid (U11.out.next hb1)
  replace B := Lib.hid (bnext B.out hb1)
  clear hb1
  by_cases h5 : 500 ≤ cnx
  · go_wp2_with fail
    refine (known_any W2).mono ?_
    rintro e Wk ⟨rfl, hbk⟩
    have BK := Lib.hid (bnext B.out hbk)
    clear hbk
    go_wp2
    go_ret
    exact ⟨rfl, BK.out⟩
  have qx : ¬ 500 ≤ cnx := h5
  clear h5 cn0 cn1
  obtain ⟨x0, x1, x2, x3, x4, _⟩ := U11.out
  go_wp2_with fail
  refine (count_any d W2 u.t u.A u.c u.A' u.c' 500 (by decide) (by decide) U.out).mono ?_
  rintro e W3 ⟨cnu, rfl, cn0, cn1, hb1⟩
  clear x0 x1 x2 x3 x4
  replace G := Lib.hid (G.out.next hb1)
  replace X := Lib.hid (X.out.next hb1)
  replace U := Lib.hid (U.out.next hb1)
  replace C2a := Lib.hid (C2a.out.next hb1)
  replace X10 := Lib.hid (X10.out.next hb1)
  replace U11 := Lib.hid (U11.out.next hb1)
  replace B := Lib.hid (bnext B.out hb1)
  clear hb1
  by_cases h5 : 500 ≤ cnu
  · go_wp2_with fail
    refine (known_any W3).mono ?_
    rintro e Wk ⟨rfl, hbk⟩
    have BK := Lib.hid (bnext B.out hbk)
    clear hbk
    go_wp2
    go_ret
    exact ⟨rfl, BK.out⟩
  have qu : ¬ 500 ≤ cnu := h5
  clear h5 cn0 cn1
  obtain ⟨y0, y1, _⟩ := C2a.out
  go_wp2_with fail
  refine (refCheck_any W3 d g G.out HSM.out).mono ?_
  rintro e W4 ⟨rfl, hb1⟩
  clear y0 y1
  replace G := Lib.hid (G.out.next hb1)
  replace X := Lib.hid (X.out.next hb1)
  replace U := Lib.hid (U.out.next hb1)
  replace C2a := Lib.hid (C2a.out.next hb1)
  replace X10 := Lib.hid (X10.out.next hb1)
  replace U11 := Lib.hid (U11.out.next hb1)
  replace B := Lib.hid (bnext B.out hb1)
  clear hb1
  rcases errG_cases g.vs g.es with ⟨hok, he⟩ | he
  rotate_left
  · rw [he]
    clear he
    go_wp2_with fail
    refine (known_any W4).mono ?_
    rintro e Wk ⟨rfl, hbk⟩
    have BK := Lib.hid (bnext B.out hbk)
    clear hbk
    go_wp2
    go_ret
    exact ⟨rfl, BK.out⟩
  rw [he]
  have OKG := Lib.hid hok
  clear he hok
  obtain ⟨y0, y1, _⟩ := C2a.out
  go_wp2_with fail
  refine (at_any W4 d g.AV g.cV g.vs G.out.v id).mono ?_
  rintro e W5 ⟨t, rfl, htv, hnew⟩
  have HTV := Lib.hid htv
  have hb1 := hnew.bel
  have T := Lib.hid ((prow_in13 hnew).up D13)
  clear htv hnew
  clear y0 y1
  replace G := Lib.hid (G.out.next hb1)
  replace X := Lib.hid (X.out.next hb1)
  replace U := Lib.hid (U.out.next hb1)
  replace C2a := Lib.hid (C2a.out.next hb1)
  replace X10 := Lib.hid (X10.out.next hb1)
  replace U11 := Lib.hid (U11.out.next hb1)
  replace B := Lib.hid (bnext B.out hb1)
  clear hb1
  go_upto_region 4 with fail
  generalize hA : World.alloc W5 _ = W6
  obtain ⟨c9, hb1, hsA⟩ := made34 hA
  have T13 := Lib.hid c9
  clear hA c9 hsA
  replace G := Lib.hid (G.out.next hb1)
  replace X := Lib.hid (X.out.next hb1)
  replace U := Lib.hid (U.out.next hb1)
  replace C2a := Lib.hid (C2a.out.next hb1)
  replace X10 := Lib.hid (X10.out.next hb1)
  replace U11 := Lib.hid (U11.out.next hb1)
  replace T := Lib.hid (T.out.next hb1)
  replace B := Lib.hid (bnext B.out hb1)
  clear hb1
  cases hat : (atV g.vs id).2
  · go_wp2_with fail
    refine (known_any W6).mono ?_
    rintro e Wk ⟨rfl, hbk⟩
    have BK := Lib.hid (bnext B.out hbk)
    clear hbk
    go_wp2
    go_ret
    exact ⟨rfl, BK.out⟩
  obtain ⟨t0, t1, t2, t3, t4, _⟩ := T13.out
  have htb := T.out.big
  by_cases h28 : 28 < t.l.length
  · have g28 : (28 : Int) < (t.l.length : Int) := by omega
    go_wp2_with fail
    refine (known_any W6).mono ?_
    rintro e Wk ⟨rfl, hbk⟩
    have BK := Lib.hid (bnext B.out hbk)
    clear hbk
    go_wp2
    go_ret
    exact ⟨rfl, BK.out⟩
  have g28 : ¬ (28 : Int) < (t.l.length : Int) := by omega
  have H28 : t.l.length ≤ 28 := by omega
  obtain ⟨s, hs, hts, htok, hto, hti⟩ := at_ok OKG.out HTV.out hat
  have HTOK := Lib.hid htok
  clear hs hts htok hto hti h28 hat
  go_upto_region 6 with fail
  clear t0 t1 t2 t3 t4
  obtain ⟨t0, t1, t2, t3, t4, _⟩ := T13.out
  obtain ⟨x0, x1, x2, x3, x4, _⟩ := X10.out
  go_wp2_with fail
  refine (gwith_any W6 d t T.out key x X.out).mono ?_
  rintro e W7 ⟨c, rfl, hnew, hcc⟩
  have hb1 := hnew.bel
  have HCC := Lib.hid hcc
  have C := Lib.hid ((prow_in13 hnew).up D13)
  clear hnew hcc
  clear t0 t1 t2 t3 t4
  clear x0 x1 x2 x3 x4
  replace G := Lib.hid (G.out.next hb1)
  replace X := Lib.hid (X.out.next hb1)
  replace U := Lib.hid (U.out.next hb1)
  replace C2a := Lib.hid (C2a.out.next hb1)
  replace X10 := Lib.hid (X10.out.next hb1)
  replace U11 := Lib.hid (U11.out.next hb1)
  replace T := Lib.hid (T.out.next hb1)
  replace T13 := Lib.hid (T13.out.next hb1)
  replace B := Lib.hid (bnext B.out hb1)
  clear hb1
  go_upto_region 7 with fail
  generalize hA : World.alloc W7 _ = W8
  obtain ⟨c9, hb1, hsA⟩ := made34 hA
  have C15 := Lib.hid c9
  clear hA c9 hsA
  replace G := Lib.hid (G.out.next hb1)
  replace X := Lib.hid (X.out.next hb1)
  replace U := Lib.hid (U.out.next hb1)
  replace C2a := Lib.hid (C2a.out.next hb1)
  replace X10 := Lib.hid (X10.out.next hb1)
  replace U11 := Lib.hid (U11.out.next hb1)
  replace T := Lib.hid (T.out.next hb1)
  replace T13 := Lib.hid (T13.out.next hb1)
  replace C := Lib.hid (C.out.next hb1)
  replace B := Lib.hid (bnext B.out hb1)
  clear hb1
  obtain ⟨t0, t1, t2, t3, t4, _⟩ := T13.out
  obtain ⟨x0, x1, x2, x3, x4, _⟩ := U11.out
  go_wp2_with fail
  refine (gwith_any W8 d t T.out other u U.out).mono ?_
  rintro e W9 ⟨e2, rfl, hnew, hcc⟩
  have hb1 := hnew.bel
  have HEE := Lib.hid hcc
  have E2 := Lib.hid ((prow_in13 hnew).up D13)
  clear hnew hcc
  clear t0 t1 t2 t3 t4
  clear x0 x1 x2 x3 x4
  replace G := Lib.hid (G.out.next hb1)
  replace X := Lib.hid (X.out.next hb1)
  replace U := Lib.hid (U.out.next hb1)
  replace C2a := Lib.hid (C2a.out.next hb1)
  replace X10 := Lib.hid (X10.out.next hb1)
  replace U11 := Lib.hid (U11.out.next hb1)
  replace T := Lib.hid (T.out.next hb1)
  replace T13 := Lib.hid (T13.out.next hb1)
  replace C := Lib.hid (C.out.next hb1)
  replace C15 := Lib.hid (C15.out.next hb1)
  replace B := Lib.hid (bnext B.out hb1)
  clear hb1
  go_upto_region 8 with fail
  generalize hA : World.alloc W9 _ = W10
  obtain ⟨c9, hb1, hsA⟩ := made34 hA
  have E17 := Lib.hid c9
  clear hA c9 hsA
  replace G := Lib.hid (G.out.next hb1)
  replace X := Lib.hid (X.out.next hb1)
  replace U := Lib.hid (U.out.next hb1)
  replace C2a := Lib.hid (C2a.out.next hb1)
  replace X10 := Lib.hid (X10.out.next hb1)
  replace U11 := Lib.hid (U11.out.next hb1)
  replace T := Lib.hid (T.out.next hb1)
  replace T13 := Lib.hid (T13.out.next hb1)
  replace C := Lib.hid (C.out.next hb1)
  replace C15 := Lib.hid (C15.out.next hb1)
  replace E2 := Lib.hid (E2.out.next hb1)
  replace B := Lib.hid (bnext B.out hb1)
  clear hb1
  by_cases he1 : withE key x.t t.l = 0
  rotate_left
  · have n2 : (withE key x.t t.l != 0) = true := by simp [he1]
    go_wp2_with fail
    refine (known_any W10).mono ?_
    rintro e Wk ⟨rfl, hbk⟩
    have BK := Lib.hid (bnext B.out hbk)
    clear hbk
    go_wp2
    go_ret
    exact ⟨rfl, BK.out⟩
  rw [he1]
  by_cases he2 : withE other u.t t.l = 0
  rotate_left
  · have n2 : (withE other u.t t.l != 0) = true := by simp [he2]
    go_wp2_with fail
    refine (known_any W10).mono ?_
    rintro e Wk ⟨rfl, hbk⟩
    have BK := Lib.hid (bnext B.out hbk)
    clear hbk
    go_wp2
    go_ret
    exact ⟨rfl, BK.out⟩
  rw [he2]
  obtain ⟨hcv, hck⟩ := with_kv HTOK.out he1 HCC.out
  obtain ⟨hev, hek⟩ := with_kv HTOK.out he2 HEE.out
  have HCV := Lib.hid hcv
  have HEV := Lib.hid hev
  have HCK := Lib.hid hck
  have HEK := Lib.hid hek
  have R1 := Lib.hid (withE_room hcv H28 he2)
  have R2 := Lib.hid (withE_room hev H28 he1)
  clear he1 he2 hcv hev hck hek HCC HEE
  go_upto_region 10 with fail
  obtain ⟨t0, t1, t2, t3, t4, _⟩ := C15.out
  obtain ⟨x0, x1, x2, x3, x4, _⟩ := U11.out
  go_wp2_with fail
  refine (gwith_any W10 d c C.out other u U.out).mono ?_
  rintro e W11 ⟨p, rfl, hnew, hcc⟩
  have hb1 := hnew.bel
  have HPP := Lib.hid hcc
  have Pp := Lib.hid ((prow_in13 hnew).up D13)
  clear hnew hcc
  clear t0 t1 t2 t3 t4
  clear x0 x1 x2 x3 x4
  replace G := Lib.hid (G.out.next hb1)
  replace X := Lib.hid (X.out.next hb1)
  replace U := Lib.hid (U.out.next hb1)
  replace C2a := Lib.hid (C2a.out.next hb1)
  replace X10 := Lib.hid (X10.out.next hb1)
  replace U11 := Lib.hid (U11.out.next hb1)
  replace T := Lib.hid (T.out.next hb1)
  replace T13 := Lib.hid (T13.out.next hb1)
  replace C := Lib.hid (C.out.next hb1)
  replace C15 := Lib.hid (C15.out.next hb1)
  replace E2 := Lib.hid (E2.out.next hb1)
  replace E17 := Lib.hid (E17.out.next hb1)
  replace B := Lib.hid (bnext B.out hb1)
  clear hb1
  go_upto_region 11 with fail
  generalize hA : World.alloc W11 _ = W12
  obtain ⟨c9, hb1, hsA⟩ := made34 hA
  have P19 := Lib.hid c9
  clear hA c9 hsA
  replace G := Lib.hid (G.out.next hb1)
  replace X := Lib.hid (X.out.next hb1)
  replace U := Lib.hid (U.out.next hb1)
  replace C2a := Lib.hid (C2a.out.next hb1)
  replace X10 := Lib.hid (X10.out.next hb1)
  replace U11 := Lib.hid (U11.out.next hb1)
  replace T := Lib.hid (T.out.next hb1)
  replace T13 := Lib.hid (T13.out.next hb1)
  replace C := Lib.hid (C.out.next hb1)
  replace C15 := Lib.hid (C15.out.next hb1)
  replace E2 := Lib.hid (E2.out.next hb1)
  replace E17 := Lib.hid (E17.out.next hb1)
  replace Pp := Lib.hid (Pp.out.next hb1)
  replace B := Lib.hid (bnext B.out hb1)
  clear hb1
  obtain ⟨t0, t1, t2, t3, t4, _⟩ := E17.out
  obtain ⟨x0, x1, x2, x3, x4, _⟩ := X10.out
  go_wp2_with fail
  refine (gwith_any W12 d e2 E2.out key x X.out).mono ?_
  rintro e W13 ⟨q, rfl, hnew, hcc⟩
  have hb1 := hnew.bel
  have HQQ := Lib.hid hcc
  have Qq := Lib.hid ((prow_in13 hnew).up D13)
  clear hnew hcc
  clear t0 t1 t2 t3 t4
  clear x0 x1 x2 x3 x4
  replace G := Lib.hid (G.out.next hb1)
  replace X := Lib.hid (X.out.next hb1)
  replace U := Lib.hid (U.out.next hb1)
  replace C2a := Lib.hid (C2a.out.next hb1)
  replace X10 := Lib.hid (X10.out.next hb1)
  replace U11 := Lib.hid (U11.out.next hb1)
  replace T := Lib.hid (T.out.next hb1)
  replace T13 := Lib.hid (T13.out.next hb1)
  replace C := Lib.hid (C.out.next hb1)
  replace C15 := Lib.hid (C15.out.next hb1)
  replace E2 := Lib.hid (E2.out.next hb1)
  replace E17 := Lib.hid (E17.out.next hb1)
  replace Pp := Lib.hid (Pp.out.next hb1)
  replace P19 := Lib.hid (P19.out.next hb1)
  replace B := Lib.hid (bnext B.out hb1)
  clear hb1
  go_upto_region 12 with fail
  generalize hA : World.alloc W13 _ = W14
  obtain ⟨c9, hb1, hsA⟩ := made34 hA
  have Q21 := Lib.hid c9
  clear hA c9 hsA
  replace G := Lib.hid (G.out.next hb1)
  replace X := Lib.hid (X.out.next hb1)
  replace U := Lib.hid (U.out.next hb1)
  replace C2a := Lib.hid (C2a.out.next hb1)
  replace X10 := Lib.hid (X10.out.next hb1)
  replace U11 := Lib.hid (U11.out.next hb1)
  replace T := Lib.hid (T.out.next hb1)
  replace T13 := Lib.hid (T13.out.next hb1)
  replace C := Lib.hid (C.out.next hb1)
  replace C15 := Lib.hid (C15.out.next hb1)
  replace E2 := Lib.hid (E2.out.next hb1)
  replace E17 := Lib.hid (E17.out.next hb1)
  replace Pp := Lib.hid (Pp.out.next hb1)
  replace P19 := Lib.hid (P19.out.next hb1)
  replace Qq := Lib.hid (Qq.out.next hb1)
  replace B := Lib.hid (bnext B.out hb1)
  clear hb1
  rw [R1.out, R2.out]
  have SM := Lib.hid (two_ways NE.out HCV.out HEV.out (with_kv HCK.out R1.out HPP.out).1 (with_kv HEK.out R2.out HQQ.out).1)
  obtain ⟨t0, t1, t2, t3, t4, _⟩ := P19.out
  obtain ⟨x0, x1, x2, x3, x4, _⟩ := Q21.out
  go_wp2_with fail
  refine (sameThing_any W14 d p q Pp.out Qq.out).mono ?_
  rintro e W15 ⟨rfl, hb1⟩
  rw [SM.out]
  clear t0 t1 t2 t3 t4
  clear x0 x1 x2 x3 x4
  replace G := Lib.hid (G.out.next hb1)
  replace X := Lib.hid (X.out.next hb1)
  replace U := Lib.hid (U.out.next hb1)
  replace C2a := Lib.hid (C2a.out.next hb1)
  replace X10 := Lib.hid (X10.out.next hb1)
  replace U11 := Lib.hid (U11.out.next hb1)
  replace T := Lib.hid (T.out.next hb1)
  replace T13 := Lib.hid (T13.out.next hb1)
  replace C := Lib.hid (C.out.next hb1)
  replace C15 := Lib.hid (C15.out.next hb1)
  replace E2 := Lib.hid (E2.out.next hb1)
  replace E17 := Lib.hid (E17.out.next hb1)
  replace Pp := Lib.hid (Pp.out.next hb1)
  replace P19 := Lib.hid (P19.out.next hb1)
  replace Qq := Lib.hid (Qq.out.next hb1)
  replace Q21 := Lib.hid (Q21.out.next hb1)
  replace B := Lib.hid (bnext B.out hb1)
  clear hb1
  go_wp2_with fail
  refine (known_any W15).mono ?_
  rintro e Wk ⟨rfl, hbk⟩
  have BK := Lib.hid (bnext B.out hbk)
  clear hbk
  go_wp2
  go_ret
  exact ⟨rfl, BK.out⟩
end Go.Proofs.Ytciipggccjiaiaa
