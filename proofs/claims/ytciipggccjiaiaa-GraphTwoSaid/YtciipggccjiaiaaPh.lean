/- The laws on properties that are set: the walks. -/
import Derived.Test.YtciipggccjiaiaaPg
namespace Go.Proofs.Ytciipggccjiaiaa
open Go.RowKit Go.Sort
set_option maxRecDepth 100000
attribute [local go_sem ↓] Go.wp_at_zero Go.wp_at_succ

theorem prow_in13 {w w' : World} {c : TA} (h : NewT w w' c) : PRow w' 0 13 c.A c.c c.l := h.row.low (Nat.zero_le _)
theorem trow1 (w : World) (d : Nat) (t : TA) (h : PRow w 0 d t.A t.c t.l) : TRow (w.alloc (.cells #[.int .i64 t.id, .string t.label, .int .i64 t.o, .int .i64 t.i, .slice t.A t.l.length t.c] 34)) d (some ⟨w.heap.size, 0, none⟩) 1 [t] :=
  ⟨by simp, by simp, fun _ => ⟨w.heap.size, 0, rfl, by simp, fun j u hj => by
    have hj1 := (List.getElem?_eq_some_iff.1 hj).1
    obtain rfl : j = 0 := by simp at hj1; omega
    simp at hj
    subst hj
    have := CellT.new w (.int .i64 t.id) (.string t.label) (.int .i64 t.o) (.int .i64 t.i) (.slice t.A t.l.length t.c)
    exact ⟨this.c0, this.c1, this.c2, this.c3, this.c4⟩⟩, fun u hu => by
    simp at hu
    subst hu
    exact h.next (below_new _ _)⟩
set_option maxHeartbeats 32000000 in
theorem sets_law (w : World) (d0 : Nat) (g : GA) (id : Int) (key other : ByteArray) (x u : At) (hg : g.In w d0) (hsm : g.Sm) (hx : x.In w d0) (hu : u.In w d0) : Calls Try.prog 6 #[g.v, .int .i64 id, .string key, .string other, x.v, u.v] w fun e w' => e = .returned (.bool true) ∧ Below w.heap.size w w' := by
  obtain ⟨d, hd⟩ : ∃ d, d = d0 + 13 := ⟨_, rfl⟩
  have G := Lib.hid (hg.up (d' := d) (by omega))
  have X := Lib.hid (hx.more (m := d) (by omega))
  have U := Lib.hid (hu.more (m := d) (by omega))
  have HSM := Lib.hid hsm
  have D13 : 13 ≤ d := by omega
  clear hg hx hu hd hsm
  go_enter Try.func6, Try.ntmps6
  go_upto_region 1 with fail
  generalize hA : World.alloc w _ = Wa
  obtain ⟨c4, hbA, hsA⟩ := made24 hA
  generalize hC : World.alloc Wa _ = Wb
  obtain ⟨c7, hbC, hsC⟩ := made37 x hC
  generalize hD : World.alloc Wb _ = W0
  obtain ⟨c8, hbD, hsD⟩ := made37 u hD
  rw [hsC, hsA] at c8
  rw [hsA] at c7
  have B := Lib.hid (bnext (bnext hbA hbC) hbD)
  have C2a := Lib.hid ((c4.next hbC).next hbD)
  have X10 := Lib.hid (c7.next hbD)
  have U11 := Lib.hid c8
  replace G := Lib.hid (G.out.next B.out)
  replace X := Lib.hid (X.out.next B.out)
  replace U := Lib.hid (U.out.next B.out)
  clear hA hC hD c4 c7 c8 hbA hbC hbD hsA hsC hsD
  obtain ⟨y0, y1, _⟩ := C2a.out
  go_wp2_with fail
  refine (much_any W0 d g G.out).mono ?_
  rintro e W1 ⟨mb, rfl, hb1⟩
  clear y0 y1
  replace G := Lib.hid (G.out.next hb1)
  replace X := Lib.hid (X.out.next hb1)
  replace U := Lib.hid (U.out.next hb1)
  replace C2a := Lib.hid (C2a.out.next hb1)
  replace X10 := Lib.hid (X10.out.next hb1)
  replace U11 := Lib.hid (U11.out.next hb1)
  replace B := Lib.hid (bnext B.out hb1)
  clear hb1
  cases mb
  case true =>
    go_wp2_with fail
    refine (known_any W1).mono ?_
    rintro e Wk ⟨rfl, hbk⟩
    have BK := Lib.hid (bnext B.out hbk)
    clear hbk
    go_wp2
    go_ret
    exact ⟨rfl, BK.out⟩
  by_cases hkey : 300 < key.size
  · have gkey : (300 : Int) < (key.size : Int) := by omega
    go_wp2_with fail
    refine (known_any W1).mono ?_
    rintro e Wk ⟨rfl, hbk⟩
    have BK := Lib.hid (bnext B.out hbk)
    clear hbk
    go_wp2
    go_ret
    exact ⟨rfl, BK.out⟩
  have gkey : ¬ (300 : Int) < (key.size : Int) := by omega
  clear hkey
  by_cases hother : 300 < other.size
  · have gother : (300 : Int) < (other.size : Int) := by omega
    go_wp2_with fail
    refine (known_any W1).mono ?_
    rintro e Wk ⟨rfl, hbk⟩
    have BK := Lib.hid (bnext B.out hbk)
    clear hbk
    go_wp2
    go_ret
    exact ⟨rfl, BK.out⟩
  have gother : ¬ (300 : Int) < (other.size : Int) := by omega
  clear hother
  obtain ⟨x0, x1, x2, x3, x4, _⟩ := X10.out
  go_wp2_with fail
  refine (count_any d W1 x.t x.A x.c x.A' x.c' 500 (by decide) (by decide) X.out).mono ?_
  rintro e W2 ⟨cnx, rfl, cn0, cn1, hb1⟩
  clear x0 x1 x2 x3 x4
  replace G := Lib.hid (G.out.next hb1)
  replace X := Lib.hid (X.out.next hb1)
  replace U := Lib.hid (U.out.next hb1)
  replace C2a := Lib.hid (C2a.out.next hb1)
  replace X10 := Lib.hid (X10.out.next hb1)
  replace U11 := Lib.hid (U11.out.next hb1)
  replace B := Lib.hid (bnext B.out hb1)
  clear hb1
  by_cases h5 : 500 ≤ cnx
  · go_wp2_with fail
    refine (known_any W2).mono ?_
    rintro e Wk ⟨rfl, hbk⟩
    have BK := Lib.hid (bnext B.out hbk)
    clear hbk
    go_wp2
    go_ret
    exact ⟨rfl, BK.out⟩
  have qx : ¬ 500 ≤ cnx := h5
  clear h5 cn0 cn1
  obtain ⟨x0, x1, x2, x3, x4, _⟩ := U11.out
  go_wp2_with fail
  refine (count_any d W2 u.t u.A u.c u.A' u.c' 500 (by decide) (by decide) U.out).mono ?_
  rintro e W3 ⟨cnu, rfl, cn0, cn1, hb1⟩
  clear x0 x1 x2 x3 x4
  replace G := Lib.hid (G.out.next hb1)
  replace X := Lib.hid (X.out.next hb1)
  replace U := Lib.hid (U.out.next hb1)
  replace C2a := Lib.hid (C2a.out.next hb1)
  replace X10 := Lib.hid (X10.out.next hb1)
  replace U11 := Lib.hid (U11.out.next hb1)
  replace B := Lib.hid (bnext B.out hb1)
  clear hb1
  by_cases h5 : 500 ≤ cnu
  · go_wp2_with fail
    refine (known_any W3).mono ?_
    rintro e Wk ⟨rfl, hbk⟩
    have BK := Lib.hid (bnext B.out hbk)
    clear hbk
    go_wp2
    go_ret
    exact ⟨rfl, BK.out⟩
  have qu : ¬ 500 ≤ cnu := h5
  clear h5 cn0 cn1
  obtain ⟨y0, y1, _⟩ := C2a.out
  go_wp2_with fail
  refine (refCheck_any W3 d g G.out HSM.out).mono ?_
  rintro e W4 ⟨rfl, hb1⟩
  clear y0 y1
  replace G := Lib.hid (G.out.next hb1)
  replace X := Lib.hid (X.out.next hb1)
  replace U := Lib.hid (U.out.next hb1)
  replace C2a := Lib.hid (C2a.out.next hb1)
  replace X10 := Lib.hid (X10.out.next hb1)
  replace U11 := Lib.hid (U11.out.next hb1)
  replace B := Lib.hid (bnext B.out hb1)
  clear hb1
  rcases errG_cases g.vs g.es with ⟨hok, he⟩ | he
  rotate_left
  · rw [he]
    clear he
    go_wp2_with fail
    refine (known_any W4).mono ?_
    rintro e Wk ⟨rfl, hbk⟩
    have BK := Lib.hid (bnext B.out hbk)
    clear hbk
    go_wp2
    go_ret
    exact ⟨rfl, BK.out⟩
  rw [he]
  have OKG := Lib.hid hok
  clear he hok
  obtain ⟨y0, y1, _⟩ := C2a.out
  go_wp2_with fail
  refine (at_any W4 d g.AV g.cV g.vs G.out.v id).mono ?_
  rintro e W5 ⟨t, rfl, htv, hnew⟩
  have HTV := Lib.hid htv
  have hb1 := hnew.bel
  have T := Lib.hid ((prow_in13 hnew).up D13)
  clear htv hnew
  clear y0 y1
  replace G := Lib.hid (G.out.next hb1)
  replace X := Lib.hid (X.out.next hb1)
  replace U := Lib.hid (U.out.next hb1)
  replace C2a := Lib.hid (C2a.out.next hb1)
  replace X10 := Lib.hid (X10.out.next hb1)
  replace U11 := Lib.hid (U11.out.next hb1)
  replace B := Lib.hid (bnext B.out hb1)
  clear hb1
  go_upto_region 4 with fail
  generalize hA : World.alloc W5 _ = W6
  obtain ⟨c9, hb1, hsA⟩ := made34 hA
  have T13 := Lib.hid c9
  clear hA c9 hsA
  replace G := Lib.hid (G.out.next hb1)
  replace X := Lib.hid (X.out.next hb1)
  replace U := Lib.hid (U.out.next hb1)
  replace C2a := Lib.hid (C2a.out.next hb1)
  replace X10 := Lib.hid (X10.out.next hb1)
  replace U11 := Lib.hid (U11.out.next hb1)
  replace T := Lib.hid (T.out.next hb1)
  replace B := Lib.hid (bnext B.out hb1)
  clear hb1
  obtain ⟨t0, t1, t2, t3, t4, _⟩ := T13.out
  obtain ⟨x0, x1, x2, x3, x4, _⟩ := X10.out
  go_wp2_with fail
  refine (gwith_any W6 d t T.out key x X.out).mono ?_
  rintro e W7 ⟨c, rfl, hnew, hcc⟩
  have hb1 := hnew.bel
  have HCC := Lib.hid hcc
  have C := Lib.hid (prow_in13 hnew)
  clear hnew hcc
  clear t0 t1 t2 t3 t4
  clear x0 x1 x2 x3 x4
  replace G := Lib.hid (G.out.next hb1)
  replace X := Lib.hid (X.out.next hb1)
  replace U := Lib.hid (U.out.next hb1)
  replace C2a := Lib.hid (C2a.out.next hb1)
  replace X10 := Lib.hid (X10.out.next hb1)
  replace U11 := Lib.hid (U11.out.next hb1)
  replace T := Lib.hid (T.out.next hb1)
  replace T13 := Lib.hid (T13.out.next hb1)
  replace B := Lib.hid (bnext B.out hb1)
  clear hb1
  go_upto_region 5 with fail
  generalize hA : World.alloc W7 _ = W8
  obtain ⟨c9, hb1, hsA⟩ := made34 hA
  have C15 := Lib.hid c9
  clear hA c9 hsA
  replace G := Lib.hid (G.out.next hb1)
  replace X := Lib.hid (X.out.next hb1)
  replace U := Lib.hid (U.out.next hb1)
  replace C2a := Lib.hid (C2a.out.next hb1)
  replace X10 := Lib.hid (X10.out.next hb1)
  replace U11 := Lib.hid (U11.out.next hb1)
  replace T := Lib.hid (T.out.next hb1)
  replace T13 := Lib.hid (T13.out.next hb1)
  replace C := Lib.hid (C.out.next hb1)
  replace B := Lib.hid (bnext B.out hb1)
  clear hb1
  cases hat : (atV g.vs id).2
  · go_wp2_with fail
    refine (known_any W8).mono ?_
    rintro e Wk ⟨rfl, hbk⟩
    have BK := Lib.hid (bnext B.out hbk)
    clear hbk
    go_wp2
    go_ret
    exact ⟨rfl, BK.out⟩
  by_cases he : withE key x.t t.l = 0
  rotate_left
  · have hne : (withE key x.t t.l != 0) = true := by simp [he]
    go_wp2_with fail
    refine (known_any W8).mono ?_
    rintro e Wk ⟨rfl, hbk⟩
    have BK := Lib.hid (bnext B.out hbk)
    clear hbk
    go_wp2
    go_ret
    exact ⟨rfl, BK.out⟩
  obtain ⟨s, hs, hts, htok, hto, hti⟩ := at_ok OKG.out HTV.out hat
  obtain ⟨hcv, hcok⟩ := with_kv htok he HCC.out
  have HCV := Lib.hid hcv
  have HCOK := Lib.hid hcok
  have HTOK := Lib.hid htok
  have HE := Lib.hid he
  have hcid : c.id = t.id := congrArg TV.id hcv
  have hclb : c.label = t.label := congrArg TV.label hcv
  have hco : c.o = t.o := congrArg TV.o hcv
  have hci : c.i = t.i := congrArg TV.i hcv
  have HCK := Lib.hid (okG_one hcok (hco.trans hto) (hci.trans hti))
  have HFLD : Hid (TFld c) := Lib.hid (by
    have hf := G.out.fv s hs
    have e1 : t.id = s.id := congrArg TV.id hts
    have e2 : t.o = s.o := congrArg TV.o hts
    have e3 : t.i = s.i := congrArg TV.i hts
    unfold TFld at hf ⊢
    rw [hcid, hco, hci, e1, e2, e3]
    exact hf)
  have I1 : (c.id != t.id) = false := by simp [hcid]
  have I2 : (c.label.toList == t.label.toList) = true := by simp [hclb]
  rw [he]
  clear he hat hs hts htok hto hti hcv hcok hcid hclb hco hci HCC
  replace C := Lib.hid (C.out.up D13)
  go_upto_region 7 with fail
  obtain ⟨t0, t1, t2, t3, t4, _⟩ := C15.out
  go_wp2_with fail
  refine (gprop_any W8 d c C.out key).mono ?_
  rintro e W9 ⟨a, is, rfl, hain, hac, hb1⟩
  obtain ⟨his, ham⟩ := prop_set HCV.out hac
  subst his
  have AM := Lib.hid ham
  have A := Lib.hid (hain.more (m := d + 1) (by omega))
  clear hain hac ham
  clear t0 t1 t2 t3 t4
  replace G := Lib.hid (G.out.next hb1)
  replace X := Lib.hid (X.out.next hb1)
  replace U := Lib.hid (U.out.next hb1)
  replace C2a := Lib.hid (C2a.out.next hb1)
  replace X10 := Lib.hid (X10.out.next hb1)
  replace U11 := Lib.hid (U11.out.next hb1)
  replace T := Lib.hid (T.out.next hb1)
  replace T13 := Lib.hid (T13.out.next hb1)
  replace C := Lib.hid (C.out.next hb1)
  replace C15 := Lib.hid (C15.out.next hb1)
  replace B := Lib.hid (bnext B.out hb1)
  clear hb1
  go_upto_region 8 with fail
  generalize hA : World.alloc W9 _ = W10
  obtain ⟨c9, hb1, hsA⟩ := made37 a hA
  have A17 := Lib.hid c9
  clear hA c9 hsA
  replace G := Lib.hid (G.out.next hb1)
  replace X := Lib.hid (X.out.next hb1)
  replace U := Lib.hid (U.out.next hb1)
  replace C2a := Lib.hid (C2a.out.next hb1)
  replace X10 := Lib.hid (X10.out.next hb1)
  replace U11 := Lib.hid (U11.out.next hb1)
  replace T := Lib.hid (T.out.next hb1)
  replace T13 := Lib.hid (T13.out.next hb1)
  replace C := Lib.hid (C.out.next hb1)
  replace C15 := Lib.hid (C15.out.next hb1)
  replace A := Lib.hid (A.out.next hb1)
  replace B := Lib.hid (bnext B.out hb1)
  clear hb1
  obtain ⟨t0, t1, t2, t3, t4, _⟩ := T13.out
  go_wp2_with fail
  refine (gprop_any W10 d t T.out other).mono ?_
  rintro e W11 ⟨b, had, rfl, hain, hac, hb1⟩
  have HBD := Lib.hid hac
  have Bb := Lib.hid (hain.more (m := d + 1) (by omega))
  clear hain hac
  clear t0 t1 t2 t3 t4
  replace G := Lib.hid (G.out.next hb1)
  replace X := Lib.hid (X.out.next hb1)
  replace U := Lib.hid (U.out.next hb1)
  replace C2a := Lib.hid (C2a.out.next hb1)
  replace X10 := Lib.hid (X10.out.next hb1)
  replace U11 := Lib.hid (U11.out.next hb1)
  replace T := Lib.hid (T.out.next hb1)
  replace T13 := Lib.hid (T13.out.next hb1)
  replace C := Lib.hid (C.out.next hb1)
  replace C15 := Lib.hid (C15.out.next hb1)
  replace A := Lib.hid (A.out.next hb1)
  replace A17 := Lib.hid (A17.out.next hb1)
  replace B := Lib.hid (bnext B.out hb1)
  clear hb1
  go_upto_region 9 with fail
  generalize hA : World.alloc W11 _ = W12
  obtain ⟨c9, hb1, hsA⟩ := made37 b hA
  have B19 := Lib.hid c9
  clear hA c9 hsA
  replace G := Lib.hid (G.out.next hb1)
  replace X := Lib.hid (X.out.next hb1)
  replace U := Lib.hid (U.out.next hb1)
  replace C2a := Lib.hid (C2a.out.next hb1)
  replace X10 := Lib.hid (X10.out.next hb1)
  replace U11 := Lib.hid (U11.out.next hb1)
  replace T := Lib.hid (T.out.next hb1)
  replace T13 := Lib.hid (T13.out.next hb1)
  replace C := Lib.hid (C.out.next hb1)
  replace C15 := Lib.hid (C15.out.next hb1)
  replace A := Lib.hid (A.out.next hb1)
  replace A17 := Lib.hid (A17.out.next hb1)
  replace Bb := Lib.hid (Bb.out.next hb1)
  replace B := Lib.hid (bnext B.out hb1)
  clear hb1
  obtain ⟨t0, t1, t2, t3, t4, _⟩ := C15.out
  go_wp2_with fail
  refine (gprop_any W12 d c C.out other).mono ?_
  rintro e W13 ⟨cc, has, rfl, hain, hac, hb1⟩
  have HCD := Lib.hid hac
  have Cc := Lib.hid (hain.more (m := d + 1) (by omega))
  clear hain hac
  clear t0 t1 t2 t3 t4
  replace G := Lib.hid (G.out.next hb1)
  replace X := Lib.hid (X.out.next hb1)
  replace U := Lib.hid (U.out.next hb1)
  replace C2a := Lib.hid (C2a.out.next hb1)
  replace X10 := Lib.hid (X10.out.next hb1)
  replace U11 := Lib.hid (U11.out.next hb1)
  replace T := Lib.hid (T.out.next hb1)
  replace T13 := Lib.hid (T13.out.next hb1)
  replace C := Lib.hid (C.out.next hb1)
  replace C15 := Lib.hid (C15.out.next hb1)
  replace A := Lib.hid (A.out.next hb1)
  replace A17 := Lib.hid (A17.out.next hb1)
  replace Bb := Lib.hid (Bb.out.next hb1)
  replace B19 := Lib.hid (B19.out.next hb1)
  replace B := Lib.hid (bnext B.out hb1)
  clear hb1
  go_upto_region 10 with fail
  generalize hA : World.alloc W13 _ = W14
  obtain ⟨c9, hb1, hsA⟩ := made37 cc hA
  have C21 := Lib.hid c9
  clear hA c9 hsA
  replace G := Lib.hid (G.out.next hb1)
  replace X := Lib.hid (X.out.next hb1)
  replace U := Lib.hid (U.out.next hb1)
  replace C2a := Lib.hid (C2a.out.next hb1)
  replace X10 := Lib.hid (X10.out.next hb1)
  replace U11 := Lib.hid (U11.out.next hb1)
  replace T := Lib.hid (T.out.next hb1)
  replace T13 := Lib.hid (T13.out.next hb1)
  replace C := Lib.hid (C.out.next hb1)
  replace C15 := Lib.hid (C15.out.next hb1)
  replace A := Lib.hid (A.out.next hb1)
  replace A17 := Lib.hid (A17.out.next hb1)
  replace Bb := Lib.hid (Bb.out.next hb1)
  replace B19 := Lib.hid (B19.out.next hb1)
  replace Cc := Lib.hid (Cc.out.next hb1)
  replace B := Lib.hid (bnext B.out hb1)
  clear hb1
  obtain ⟨t0, t1, t2, t3, t4, _⟩ := A17.out
  obtain ⟨x0, x1, x2, x3, x4, _⟩ := X10.out
  go_wp2_with fail
  refine (refSame_any W14 (d + 1) (d + 1) a.t x.t a.A a.c a.A' a.c' x.A x.c x.A' x.c' A.out (X.out.more (by omega))).mono ?_
  rintro e W15 ⟨rfl, hb1⟩
  rw [AM.out]
  clear t0 t1 t2 t3 t4
  clear x0 x1 x2 x3 x4
  replace G := Lib.hid (G.out.next hb1)
  replace X := Lib.hid (X.out.next hb1)
  replace U := Lib.hid (U.out.next hb1)
  replace C2a := Lib.hid (C2a.out.next hb1)
  replace X10 := Lib.hid (X10.out.next hb1)
  replace U11 := Lib.hid (U11.out.next hb1)
  replace T := Lib.hid (T.out.next hb1)
  replace T13 := Lib.hid (T13.out.next hb1)
  replace C := Lib.hid (C.out.next hb1)
  replace C15 := Lib.hid (C15.out.next hb1)
  replace A := Lib.hid (A.out.next hb1)
  replace A17 := Lib.hid (A17.out.next hb1)
  replace Bb := Lib.hid (Bb.out.next hb1)
  replace B19 := Lib.hid (B19.out.next hb1)
  replace Cc := Lib.hid (Cc.out.next hb1)
  replace C21 := Lib.hid (C21.out.next hb1)
  replace B := Lib.hid (bnext B.out hb1)
  clear hb1
  have FIN : ∀ W9 : World, True := fun _ => trivial
  clear FIN
  by_cases hne : other.toList = key.toList
  · have n1 : (other.toList == key.toList) = true := by simp [hne]
    obtain ⟨p0, p1, p2, p3, p4, _⟩ := C15.out
    obtain ⟨q0, q1, q2, q3, q4, _⟩ := T13.out
    clear hne
    go_upto_region 12 with fail
    clear p0 p1 p2 p3 p4 q0 q1 q2 q3 q4
    clear A A17 Bb B19 Cc C21 AM HBD HCD n1 I1 I2
    obtain ⟨t0, t1, t2, t3, t4, _⟩ := C15.out
    go_wp2_with fail
    have hb9 : Below W15.heap.size W15 _ := below_new W15 (.cells #[.int .i64 c.id, .string c.label, .int .i64 c.o, .int .i64 c.i, .slice c.A c.l.length c.c] 34)
    have HT1 := trow1 W15 d c C.out
    refine (gcheck_any _ d ⟨some ⟨W15.heap.size, 0, none⟩, 1, [c], none, 0, []⟩ ⟨HT1, trow_nil _ _, fun t ht => by rw [List.mem_singleton.1 ht]; exact HFLD.out, fun t ht => by cases ht⟩).mono ?_
    rintro e W16 ⟨rfl, hb2⟩
    have hb1 := bnext hb9 hb2
    rw [show errG _ _ = (0 : Int) from HCK.out]
    clear hb9 hb2 HT1 HCK HFLD t0 t1 t2 t3 t4
    replace G := Lib.hid (G.out.next hb1)
    replace X := Lib.hid (X.out.next hb1)
    replace U := Lib.hid (U.out.next hb1)
    replace C2a := Lib.hid (C2a.out.next hb1)
    replace X10 := Lib.hid (X10.out.next hb1)
    replace U11 := Lib.hid (U11.out.next hb1)
    replace T := Lib.hid (T.out.next hb1)
    replace T13 := Lib.hid (T13.out.next hb1)
    replace C := Lib.hid (C.out.next hb1)
    replace C15 := Lib.hid (C15.out.next hb1)
    replace B := Lib.hid (bnext B.out hb1)
    clear hb1
    go_upto_region 14 with fail
    obtain ⟨t0, t1, t2, t3, t4, _⟩ := C15.out
    obtain ⟨x0, x1, x2, x3, x4, _⟩ := U11.out
    go_wp2_with fail
    refine (gwith_any W16 d c C.out key u U.out).mono ?_
    rintro e W17 ⟨y, rfl, hnew, hyy⟩
    have hb1 := hnew.bel
    have HYY := Lib.hid hyy
    have Y := Lib.hid ((prow_in13 hnew).up D13)
    clear hnew hyy
    clear t0 t1 t2 t3 t4
    clear x0 x1 x2 x3 x4
    replace G := Lib.hid (G.out.next hb1)
    replace X := Lib.hid (X.out.next hb1)
    replace U := Lib.hid (U.out.next hb1)
    replace C2a := Lib.hid (C2a.out.next hb1)
    replace X10 := Lib.hid (X10.out.next hb1)
    replace U11 := Lib.hid (U11.out.next hb1)
    replace T := Lib.hid (T.out.next hb1)
    replace T13 := Lib.hid (T13.out.next hb1)
    replace C := Lib.hid (C.out.next hb1)
    replace C15 := Lib.hid (C15.out.next hb1)
    replace B := Lib.hid (bnext B.out hb1)
    clear hb1
    go_upto_region 15 with fail
    generalize hA : World.alloc W17 _ = W18
    obtain ⟨c9, hb1, hsA⟩ := made34 hA
    have Y23 := Lib.hid c9
    clear hA c9 hsA
    replace G := Lib.hid (G.out.next hb1)
    replace X := Lib.hid (X.out.next hb1)
    replace U := Lib.hid (U.out.next hb1)
    replace C2a := Lib.hid (C2a.out.next hb1)
    replace X10 := Lib.hid (X10.out.next hb1)
    replace U11 := Lib.hid (U11.out.next hb1)
    replace T := Lib.hid (T.out.next hb1)
    replace T13 := Lib.hid (T13.out.next hb1)
    replace C := Lib.hid (C.out.next hb1)
    replace C15 := Lib.hid (C15.out.next hb1)
    replace Y := Lib.hid (Y.out.next hb1)
    replace B := Lib.hid (bnext B.out hb1)
    clear hb1
    obtain ⟨t0, t1, t2, t3, t4, _⟩ := T13.out
    obtain ⟨x0, x1, x2, x3, x4, _⟩ := U11.out
    go_wp2_with fail
    refine (gwith_any W18 d t T.out key u U.out).mono ?_
    rintro e W19 ⟨z, rfl, hnew, hzz⟩
    have hb1 := hnew.bel
    have HZZ := Lib.hid hzz
    have Z := Lib.hid ((prow_in13 hnew).up D13)
    clear hnew hzz
    clear t0 t1 t2 t3 t4
    clear x0 x1 x2 x3 x4
    replace G := Lib.hid (G.out.next hb1)
    replace X := Lib.hid (X.out.next hb1)
    replace U := Lib.hid (U.out.next hb1)
    replace C2a := Lib.hid (C2a.out.next hb1)
    replace X10 := Lib.hid (X10.out.next hb1)
    replace U11 := Lib.hid (U11.out.next hb1)
    replace T := Lib.hid (T.out.next hb1)
    replace T13 := Lib.hid (T13.out.next hb1)
    replace C := Lib.hid (C.out.next hb1)
    replace C15 := Lib.hid (C15.out.next hb1)
    replace Y := Lib.hid (Y.out.next hb1)
    replace Y23 := Lib.hid (Y23.out.next hb1)
    replace B := Lib.hid (bnext B.out hb1)
    clear hb1
    go_upto_region 16 with fail
    generalize hA : World.alloc W19 _ = W20
    obtain ⟨c9, hb1, hsA⟩ := made34 hA
    have Z25 := Lib.hid c9
    clear hA c9 hsA
    replace G := Lib.hid (G.out.next hb1)
    replace X := Lib.hid (X.out.next hb1)
    replace U := Lib.hid (U.out.next hb1)
    replace C2a := Lib.hid (C2a.out.next hb1)
    replace X10 := Lib.hid (X10.out.next hb1)
    replace U11 := Lib.hid (U11.out.next hb1)
    replace T := Lib.hid (T.out.next hb1)
    replace T13 := Lib.hid (T13.out.next hb1)
    replace C := Lib.hid (C.out.next hb1)
    replace C15 := Lib.hid (C15.out.next hb1)
    replace Y := Lib.hid (Y.out.next hb1)
    replace Y23 := Lib.hid (Y23.out.next hb1)
    replace Z := Lib.hid (Z.out.next hb1)
    replace B := Lib.hid (bnext B.out hb1)
    clear hb1
    have HW := Lib.hid (withE_again (y := u) HE.out HCV.out)
    by_cases h0 : withE key u.t t.l = 0
    · have h1 : withE key u.t c.l = 0 := HW.out.trans h0
      rw [h0, h1]
      have hy' := HYY.out
      have hz' := HZZ.out
      have SM := Lib.hid (two_again HCV.out (with_kv HCOK.out h1 hy').1 (with_kv HTOK.out h0 hz').1)
      clear h0 h1 hy' hz' 
      obtain ⟨t0, t1, t2, t3, t4, _⟩ := Y23.out
      obtain ⟨x0, x1, x2, x3, x4, _⟩ := Z25.out
      go_wp2_with fail
      refine (sameThing_any W20 d y z Y.out Z.out).mono ?_
      rintro e W21 ⟨rfl, hb1⟩
      rw [SM.out]
      clear t0 t1 t2 t3 t4
      clear x0 x1 x2 x3 x4
      replace G := Lib.hid (G.out.next hb1)
      replace X := Lib.hid (X.out.next hb1)
      replace U := Lib.hid (U.out.next hb1)
      replace C2a := Lib.hid (C2a.out.next hb1)
      replace X10 := Lib.hid (X10.out.next hb1)
      replace U11 := Lib.hid (U11.out.next hb1)
      replace T := Lib.hid (T.out.next hb1)
      replace T13 := Lib.hid (T13.out.next hb1)
      replace C := Lib.hid (C.out.next hb1)
      replace C15 := Lib.hid (C15.out.next hb1)
      replace Y := Lib.hid (Y.out.next hb1)
      replace Y23 := Lib.hid (Y23.out.next hb1)
      replace Z := Lib.hid (Z.out.next hb1)
      replace Z25 := Lib.hid (Z25.out.next hb1)
      replace B := Lib.hid (bnext B.out hb1)
      clear hb1
      go_wp2_with fail
      refine (known_any W21).mono ?_
      rintro e Wk ⟨rfl, hbk⟩
      have BK := Lib.hid (bnext B.out hbk)
      clear hbk
      go_wp2
      go_ret
      exact ⟨rfl, BK.out⟩
    · have h1 : (withE key u.t t.l != 0) = true := by simp [h0]
      have h2 : (withE key u.t t.l == withE key u.t t.l) = true := by simp
      rw [HW.out]
      clear h0
      go_wp2_with fail
      refine (known_any W20).mono ?_
      rintro e Wk ⟨rfl, hbk⟩
      have BK := Lib.hid (bnext B.out hbk)
      clear hbk
      go_wp2
      go_ret
      exact ⟨rfl, BK.out⟩
  · have n1 : (other.toList == key.toList) = false := by simp [hne]
    obtain ⟨p0, p1, p2, p3, p4, _⟩ := C15.out
    obtain ⟨q0, q1, q2, q3, q4, _⟩ := T13.out
    obtain ⟨hhh, hcm⟩ := prop_keep hne HCV.out HBD.out HCD.out
    subst hhh
    have CM := Lib.hid hcm
    clear hcm hne
    have hhb : (had != had) = false := by simp
    obtain ⟨t0, t1, t2, t3, t4, _⟩ := B19.out
    obtain ⟨x0, x1, _⟩ := C21.out
    go_wp2_with fail
    refine (refSame_any W15 (d + 1) (d + 1) b.t cc.t b.A b.c b.A' b.c' cc.A cc.c cc.A' cc.c' Bb.out Cc.out).mono ?_
    rintro e W16 ⟨rfl, hb1⟩
    rw [CM.out]
    clear p0 p1 p2 p3 p4 q0 q1 q2 q3 q4
    clear t0 t1 t2 t3 t4
    clear x0 x1
    replace G := Lib.hid (G.out.next hb1)
    replace X := Lib.hid (X.out.next hb1)
    replace U := Lib.hid (U.out.next hb1)
    replace C2a := Lib.hid (C2a.out.next hb1)
    replace X10 := Lib.hid (X10.out.next hb1)
    replace U11 := Lib.hid (U11.out.next hb1)
    replace T := Lib.hid (T.out.next hb1)
    replace T13 := Lib.hid (T13.out.next hb1)
    replace C := Lib.hid (C.out.next hb1)
    replace C15 := Lib.hid (C15.out.next hb1)
    replace A := Lib.hid (A.out.next hb1)
    replace A17 := Lib.hid (A17.out.next hb1)
    replace Bb := Lib.hid (Bb.out.next hb1)
    replace B19 := Lib.hid (B19.out.next hb1)
    replace Cc := Lib.hid (Cc.out.next hb1)
    replace C21 := Lib.hid (C21.out.next hb1)
    replace B := Lib.hid (bnext B.out hb1)
    clear hb1
    obtain ⟨p0, p1, p2, p3, p4, _⟩ := C15.out
    obtain ⟨q0, q1, q2, q3, q4, _⟩ := T13.out
    go_upto_region 12 with fail
    clear p0 p1 p2 p3 p4 q0 q1 q2 q3 q4
    clear A A17 Bb B19 Cc C21 AM HBD HCD n1 I1 I2 CM hhb
    obtain ⟨t0, t1, t2, t3, t4, _⟩ := C15.out
    go_wp2_with fail
    have hb9 : Below W16.heap.size W16 _ := below_new W16 (.cells #[.int .i64 c.id, .string c.label, .int .i64 c.o, .int .i64 c.i, .slice c.A c.l.length c.c] 34)
    have HT1 := trow1 W16 d c C.out
    refine (gcheck_any _ d ⟨some ⟨W16.heap.size, 0, none⟩, 1, [c], none, 0, []⟩ ⟨HT1, trow_nil _ _, fun t ht => by rw [List.mem_singleton.1 ht]; exact HFLD.out, fun t ht => by cases ht⟩).mono ?_
    rintro e W17 ⟨rfl, hb2⟩
    have hb1 := bnext hb9 hb2
    rw [show errG _ _ = (0 : Int) from HCK.out]
    clear hb9 hb2 HT1 HCK HFLD t0 t1 t2 t3 t4
    replace G := Lib.hid (G.out.next hb1)
    replace X := Lib.hid (X.out.next hb1)
    replace U := Lib.hid (U.out.next hb1)
    replace C2a := Lib.hid (C2a.out.next hb1)
    replace X10 := Lib.hid (X10.out.next hb1)
    replace U11 := Lib.hid (U11.out.next hb1)
    replace T := Lib.hid (T.out.next hb1)
    replace T13 := Lib.hid (T13.out.next hb1)
    replace C := Lib.hid (C.out.next hb1)
    replace C15 := Lib.hid (C15.out.next hb1)
    replace B := Lib.hid (bnext B.out hb1)
    clear hb1
    go_upto_region 14 with fail
    obtain ⟨t0, t1, t2, t3, t4, _⟩ := C15.out
    obtain ⟨x0, x1, x2, x3, x4, _⟩ := U11.out
    go_wp2_with fail
    refine (gwith_any W17 d c C.out key u U.out).mono ?_
    rintro e W18 ⟨y, rfl, hnew, hyy⟩
    have hb1 := hnew.bel
    have HYY := Lib.hid hyy
    have Y := Lib.hid ((prow_in13 hnew).up D13)
    clear hnew hyy
    clear t0 t1 t2 t3 t4
    clear x0 x1 x2 x3 x4
    replace G := Lib.hid (G.out.next hb1)
    replace X := Lib.hid (X.out.next hb1)
    replace U := Lib.hid (U.out.next hb1)
    replace C2a := Lib.hid (C2a.out.next hb1)
    replace X10 := Lib.hid (X10.out.next hb1)
    replace U11 := Lib.hid (U11.out.next hb1)
    replace T := Lib.hid (T.out.next hb1)
    replace T13 := Lib.hid (T13.out.next hb1)
    replace C := Lib.hid (C.out.next hb1)
    replace C15 := Lib.hid (C15.out.next hb1)
    replace B := Lib.hid (bnext B.out hb1)
    clear hb1
    go_upto_region 15 with fail
    generalize hA : World.alloc W18 _ = W19
    obtain ⟨c9, hb1, hsA⟩ := made34 hA
    have Y23 := Lib.hid c9
    clear hA c9 hsA
    replace G := Lib.hid (G.out.next hb1)
    replace X := Lib.hid (X.out.next hb1)
    replace U := Lib.hid (U.out.next hb1)
    replace C2a := Lib.hid (C2a.out.next hb1)
    replace X10 := Lib.hid (X10.out.next hb1)
    replace U11 := Lib.hid (U11.out.next hb1)
    replace T := Lib.hid (T.out.next hb1)
    replace T13 := Lib.hid (T13.out.next hb1)
    replace C := Lib.hid (C.out.next hb1)
    replace C15 := Lib.hid (C15.out.next hb1)
    replace Y := Lib.hid (Y.out.next hb1)
    replace B := Lib.hid (bnext B.out hb1)
    clear hb1
    obtain ⟨t0, t1, t2, t3, t4, _⟩ := T13.out
    obtain ⟨x0, x1, x2, x3, x4, _⟩ := U11.out
    go_wp2_with fail
    refine (gwith_any W19 d t T.out key u U.out).mono ?_
    rintro e W20 ⟨z, rfl, hnew, hzz⟩
    have hb1 := hnew.bel
    have HZZ := Lib.hid hzz
    have Z := Lib.hid ((prow_in13 hnew).up D13)
    clear hnew hzz
    clear t0 t1 t2 t3 t4
    clear x0 x1 x2 x3 x4
    replace G := Lib.hid (G.out.next hb1)
    replace X := Lib.hid (X.out.next hb1)
    replace U := Lib.hid (U.out.next hb1)
    replace C2a := Lib.hid (C2a.out.next hb1)
    replace X10 := Lib.hid (X10.out.next hb1)
    replace U11 := Lib.hid (U11.out.next hb1)
    replace T := Lib.hid (T.out.next hb1)
    replace T13 := Lib.hid (T13.out.next hb1)
    replace C := Lib.hid (C.out.next hb1)
    replace C15 := Lib.hid (C15.out.next hb1)
    replace Y := Lib.hid (Y.out.next hb1)
    replace Y23 := Lib.hid (Y23.out.next hb1)
    replace B := Lib.hid (bnext B.out hb1)
    clear hb1
    go_upto_region 16 with fail
    generalize hA : World.alloc W20 _ = W21
    obtain ⟨c9, hb1, hsA⟩ := made34 hA
    have Z25 := Lib.hid c9
    clear hA c9 hsA
    replace G := Lib.hid (G.out.next hb1)
    replace X := Lib.hid (X.out.next hb1)
    replace U := Lib.hid (U.out.next hb1)
    replace C2a := Lib.hid (C2a.out.next hb1)
    replace X10 := Lib.hid (X10.out.next hb1)
    replace U11 := Lib.hid (U11.out.next hb1)
    replace T := Lib.hid (T.out.next hb1)
    replace T13 := Lib.hid (T13.out.next hb1)
    replace C := Lib.hid (C.out.next hb1)
    replace C15 := Lib.hid (C15.out.next hb1)
    replace Y := Lib.hid (Y.out.next hb1)
    replace Y23 := Lib.hid (Y23.out.next hb1)
    replace Z := Lib.hid (Z.out.next hb1)
    replace B := Lib.hid (bnext B.out hb1)
    clear hb1
    have HW := Lib.hid (withE_again (y := u) HE.out HCV.out)
    by_cases h0 : withE key u.t t.l = 0
    · have h1 : withE key u.t c.l = 0 := HW.out.trans h0
      rw [h0, h1]
      have hy' := HYY.out
      have hz' := HZZ.out
      have SM := Lib.hid (two_again HCV.out (with_kv HCOK.out h1 hy').1 (with_kv HTOK.out h0 hz').1)
      clear h0 h1 hy' hz' 
      obtain ⟨t0, t1, t2, t3, t4, _⟩ := Y23.out
      obtain ⟨x0, x1, x2, x3, x4, _⟩ := Z25.out
      go_wp2_with fail
      refine (sameThing_any W21 d y z Y.out Z.out).mono ?_
      rintro e W22 ⟨rfl, hb1⟩
      rw [SM.out]
      clear t0 t1 t2 t3 t4
      clear x0 x1 x2 x3 x4
      replace G := Lib.hid (G.out.next hb1)
      replace X := Lib.hid (X.out.next hb1)
      replace U := Lib.hid (U.out.next hb1)
      replace C2a := Lib.hid (C2a.out.next hb1)
      replace X10 := Lib.hid (X10.out.next hb1)
      replace U11 := Lib.hid (U11.out.next hb1)
      replace T := Lib.hid (T.out.next hb1)
      replace T13 := Lib.hid (T13.out.next hb1)
      replace C := Lib.hid (C.out.next hb1)
      replace C15 := Lib.hid (C15.out.next hb1)
      replace Y := Lib.hid (Y.out.next hb1)
      replace Y23 := Lib.hid (Y23.out.next hb1)
      replace Z := Lib.hid (Z.out.next hb1)
      replace Z25 := Lib.hid (Z25.out.next hb1)
      replace B := Lib.hid (bnext B.out hb1)
      clear hb1
      go_wp2_with fail
      refine (known_any W22).mono ?_
      rintro e Wk ⟨rfl, hbk⟩
      have BK := Lib.hid (bnext B.out hbk)
      clear hbk
      go_wp2
      go_ret
      exact ⟨rfl, BK.out⟩
    · have h1 : (withE key u.t t.l != 0) = true := by simp [h0]
      have h2 : (withE key u.t t.l == withE key u.t t.l) = true := by simp
      rw [HW.out]
      clear h0
      go_wp2_with fail
      refine (known_any W21).mono ?_
      rintro e Wk ⟨rfl, hbk⟩
      have BK := Lib.hid (bnext B.out hbk)
      clear hbk
      go_wp2
      go_ret
      exact ⟨rfl, BK.out⟩
end Go.Proofs.Ytciipggccjiaiaa
