/- StoreNil: the walk. -/
import Derived.Test.YtebkkjfeikpfgaaTA
namespace Go.Proofs.Ytebkkjfeikpfgaa
open Go.RowKit Go.Sort
set_option maxRecDepth 100000
attribute [local go_sem ↓] Go.wp_at_zero Go.wp_at_succ

theorem spk_way (es : List TV) {way : Int} (h1 : way ≠ 1) (h2 : way ≠ 2) (id : Int) : spk es id way = [] := by unfold spk; rw [if_neg h1, if_neg h2]
theorem spk_no {V E : List TV} (h : okGV V E = true) {id : Int} (hn : V.any (idBV id) = false) (way : Int) : spk E id way = [] := by
  obtain ⟨_, _, _, hl⟩ := okGV_parts h
  have key : ∀ t ∈ E, t.o ≠ id ∧ t.i ≠ id := fun t ht => by
    have := (List.any_eq_false.1 hl) t ht
    unfold looseV at this
    simp only [Bool.or_eq_true, Bool.not_eq_true', not_or] at this
    refine ⟨fun e => ?_, fun e => ?_⟩
    · rw [e] at this; exact this.1 hn
    · rw [e] at this; exact this.2 hn
  unfold spk
  split
  · rw [List.filter_eq_nil_iff.2]; rfl
    intro t ht; simp [(key t ht).1]
  · split
    · rw [List.filter_eq_nil_iff.2]; rfl
      intro t ht; simp [(key t ht).2]
    · rfl
theorem seen_nil_of {S : Int → Int → List SP} {id way : Int} (h : baseS S id way = []) (ls : List ByteArray) : seenS S id way ls = [] := by
  unfold seenS
  split
  · exact h
  · rw [h]; rfl
theorem base_no {V E : List TV} (h : okGV V E = true) {id : Int} (hn : V.any (idBV id) = false) (way : Int) : baseS (spk E) id way = [] := by
  unfold baseS
  split
  · rw [spk_no h hn, spk_no h hn]; rfl
  · exact spk_no h hn way
theorem base_way (E : List TV) {way : Int} (h : way < 1 ∨ 3 < way) (id : Int) : baseS (spk E) id way = [] := by
  unfold baseS
  rw [if_neg (by omega)]
  exact spk_way E (by omega) (by omega) id
theorem any_tv (l : List TA) (id : Int) : (l.map TA.tv').any (idBV id) = l.any (idB id) := by rw [List.any_map]; rfl
set_option maxHeartbeats 32000000 in
theorem nil_law (w : World) (d0 : Nat) (g : GA) (id way : Int) (hg : g.In w d0) (hsm : g.Sm) (hid : WfI id) (hway : WfI way) : Calls Try.prog 8 #[g.v, .int .i64 id, .int .i64 way] w fun e w' => e = .returned (.bool true) ∧ Below w.heap.size w w' := by
  have G0 := Lib.hid hg
  have HSM := Lib.hid hsm
  clear hg hsm
  go_enter Try.func8, Try.ntmps8
  go_upto_region 1 with fail
  obtain ⟨W0, hW0⟩ : ∃ W0, W0 = w.alloc (.cells #[.slice g.AV g.vs.length g.cV, .slice g.AE g.es.length g.cE] 24) := ⟨_, rfl⟩
  have k0 := box24 w (.slice g.AV g.vs.length g.cV) (.slice g.AE g.es.length g.cE) W0 hW0.symm
  rw [← hW0]
  clear hW0
  have B := Lib.hid k0.2.2.1
  have K := Lib.hid (show K24 W0 w.heap.size (.slice g.AV g.vs.length g.cV) (.slice g.AE g.es.length g.cE) from ⟨k0.1, k0.2.1, by have := k0.2.2.2; omega⟩)
  clear k0
  have G := Lib.hid (G0.out.next B.out)
  clear G0
  obtain ⟨y0, y1, -⟩ := K.out
  go_wp2_with fail
  refine (much_any W0 d0 g G.out).mono ?_
  rintro e W1 ⟨mb, rfl, hb1⟩
  clear y0 y1
  replace G := Lib.hid (G.out.next hb1)
  replace K := Lib.hid (K.out.next hb1)
  replace B := Lib.hid (bnext B.out hb1)
  clear hb1
  cases mb
  case true =>
    go_wp2_with fail
    refine (known_any W1).mono ?_
    rintro e wk ⟨rfl, hbk⟩
    replace B := Lib.hid (bnext B.out hbk)
    clear hbk
    go_wp2
    go_ret
    exact ⟨rfl, B.out⟩
  obtain ⟨y0, y1, -⟩ := K.out
  go_wp2_with fail
  refine (refCheck_any W1 d0 g G.out HSM.out).mono ?_
  rintro e W2 ⟨rfl, hb1⟩
  clear y0 y1
  replace G := Lib.hid (G.out.next hb1)
  replace K := Lib.hid (K.out.next hb1)
  replace B := Lib.hid (bnext B.out hb1)
  clear hb1
  rcases errG_or g.vs g.es with ⟨hok, he⟩ | he
  case inr =>
    rw [he]
    clear he
    go_wp2_with fail
    refine (known_any W2).mono ?_
    rintro e wk ⟨rfl, hbk⟩
    replace B := Lib.hid (bnext B.out hbk)
    clear hbk
    go_wp2
    go_ret
    exact ⟨rfl, B.out⟩
  rw [he]
  have HOK := Lib.hid hok
  clear he hok
  go_wp2_with fail
  refine (len_any W2 none [] [] (.inl ⟨rfl, rfl, rfl⟩)).mono ?_
  rintro e W3 ⟨rfl, hb1⟩
  replace G := Lib.hid (G.out.next hb1)
  replace K := Lib.hid (K.out.next hb1)
  replace B := Lib.hid (bnext B.out hb1)
  clear hb1
  go_wp2_with fail
  refine (vertex_any W3 none [] [] (.inl ⟨rfl, rfl, rfl⟩) 0).mono ?_
  rintro e Y3 ⟨q3, rfl, -, hn3⟩
  have hb1 := hn3.bel
  rw [show (atV [] 0).2 = false from rfl]
  clear hn3
  replace G := Lib.hid (G.out.next hb1)
  replace K := Lib.hid (K.out.next hb1)
  replace B := Lib.hid (bnext B.out hb1)
  clear hb1
  go_upto_region 6 with fail
  obtain ⟨W5, hW3⟩ : ∃ W5, W5 = Y3.alloc (.cells #[.int .i64 q3.id, .string q3.label, .int .i64 q3.o, .int .i64 q3.i, .slice q3.A q3.l.length q3.c] 42) := ⟨_, rfl⟩
  have hb1 : Below Y3.heap.size Y3 W5 := by rw [hW3]; exact below_new _ _
  rw [← hW3]
  clear hW3
  replace G := Lib.hid (G.out.next hb1)
  replace K := Lib.hid (K.out.next hb1)
  replace B := Lib.hid (bnext B.out hb1)
  clear hb1
  go_wp2_with fail
  refine (edge_any W5 none [] [] (.inl ⟨rfl, rfl, rfl⟩) 0).mono ?_
  rintro e Y5 ⟨q5, rfl, -, hn5⟩
  have hb1 := hn5.bel
  rw [show (atV [] 0).2 = false from rfl]
  clear hn5
  replace G := Lib.hid (G.out.next hb1)
  replace K := Lib.hid (K.out.next hb1)
  replace B := Lib.hid (bnext B.out hb1)
  clear hb1
  go_upto_region 7 with fail
  obtain ⟨W7, hW5⟩ : ∃ W7, W7 = Y5.alloc (.cells #[.int .i64 q5.id, .string q5.label, .int .i64 q5.o, .int .i64 q5.i, .slice q5.A q5.l.length q5.c] 42) := ⟨_, rfl⟩
  have hb1 : Below Y5.heap.size Y5 W7 := by rw [hW5]; exact below_new _ _
  rw [← hW5]
  clear hW5
  replace G := Lib.hid (G.out.next hb1)
  replace K := Lib.hid (K.out.next hb1)
  replace B := Lib.hid (bnext B.out hb1)
  clear hb1
  have C0 := Lib.hid (vertices_any W7 none [] [] (.inl ⟨rfl, rfl, rfl⟩) none 0 [] (irow_nil _ _ _))
  rw [show pickL ([] : List TA) [] = [] from rfl] at C0
  go_wp2_with fail
  refine C0.out.mono ?_
  rintro e Z0 ⟨A0, c0, rfl, -, hb1⟩
  clear C0
  replace G := Lib.hid (G.out.next hb1)
  replace K := Lib.hid (K.out.next hb1)
  replace B := Lib.hid (bnext B.out hb1)
  clear hb1
  have C1 := Lib.hid (edges_any Z0 none [] [] (.inl ⟨rfl, rfl, rfl⟩) none 0 [] (irow_nil _ _ _))
  rw [show pickL ([] : List TA) [] = [] from rfl] at C1
  go_wp2_with fail
  refine C1.out.mono ?_
  rintro e Z1 ⟨A1, c1, rfl, -, hb1⟩
  clear C1
  replace G := Lib.hid (G.out.next hb1)
  replace K := Lib.hid (K.out.next hb1)
  replace B := Lib.hid (bnext B.out hb1)
  clear hb1
  have C2 := Lib.hid (around_any Z1 none [] [] (.inl ⟨rfl, rfl, rfl⟩) 0 3 (by decide) (by decide) none 0 [] (lrow_nil _ _ _) (by simp))
  rw [show ((seenS (spk (([] : List TA).map TA.tv')) 0 3 []).map fun s => s.e) = [] from rfl] at C2
  go_wp2_with fail
  refine C2.out.mono ?_
  rintro e Z2 ⟨A2, c2, rfl, -, hb1⟩
  clear C2
  replace G := Lib.hid (G.out.next hb1)
  replace K := Lib.hid (K.out.next hb1)
  replace B := Lib.hid (bnext B.out hb1)
  clear hb1
  have C3 := Lib.hid (next_any Z2 none [] [] (.inl ⟨rfl, rfl, rfl⟩) 0 3 (by decide) (by decide) none 0 [] (lrow_nil _ _ _) (by simp))
  rw [show ((seenS (spk (([] : List TA).map TA.tv')) 0 3 []).map fun s => s.o) = [] from rfl] at C3
  go_wp2_with fail
  refine C3.out.mono ?_
  rintro e Z3 ⟨A3, c3, rfl, -, hb1⟩
  clear C3
  replace G := Lib.hid (G.out.next hb1)
  replace K := Lib.hid (K.out.next hb1)
  replace B := Lib.hid (bnext B.out hb1)
  clear hb1
  obtain ⟨y0, y1, -⟩ := K.out
  go_wp2_with fail
  refine (new_any Z3 d0 g G.out).mono ?_
  rintro e V1 ⟨hb1, ⟨he, -⟩ | ⟨-, s, vs, es, rfl, hs, -, ee⟩⟩
  case inl => exact absurd ((okG_errG HOK.out).symm.trans he) (by decide)
  have EE := Lib.hid ee
  clear ee y0 y1
  replace G := Lib.hid (G.out.next hb1)
  replace K := Lib.hid (K.out.next hb1)
  replace B := Lib.hid (bnext B.out hb1)
  clear hb1
  have S := Lib.hid hs
  clear hs
  obtain ⟨y0, y1, -⟩ := K.out
  go_wp2_with fail
  refine (refHas_any V1 d0 g.AV g.cV g.vs G.out.v id).mono ?_
  rintro e V2 ⟨rfl, hb1⟩
  clear y0 y1
  replace G := Lib.hid (G.out.next hb1)
  replace K := Lib.hid (K.out.next hb1)
  replace S := Lib.hid (S.out.next hb1)
  replace B := Lib.hid (bnext B.out hb1)
  clear hb1
  have OKV : Hid (okGV (g.vs.map TA.tv') (es.map TA.tv') = true) := Lib.hid (by rw [EE.out, ← okG_tv]; exact HOK.out)
  clear EE
  have CW := Lib.hid (fun (W : World) (hW : Sto W s vs es) (i y : Int) (hi : WfI i) (hy : WfI y) => around_any W (some ⟨s, 0, none⟩) vs es (.inr ⟨s, rfl, hW⟩) i y hi hy none 0 [] (lrow_nil _ _ _) (by simp))
  have CX := Lib.hid (fun (W : World) (hW : Sto W s vs es) (i y : Int) (hi : WfI i) (hy : WfI y) => next_any W (some ⟨s, 0, none⟩) vs es (.inr ⟨s, rfl, hW⟩) i y hi hy none 0 [] (lrow_nil _ _ _) (by simp))
  cases hh : g.vs.any (idB id)
  case true =>
    by_cases w1 : way < 1
    · by_cases h0 : 0 < g.vs.length
      · obtain ⟨b, off, t, e0, hb, ht, q5, -⟩ := G.out.v.elem h0
        have EA := Lib.hid e0
        obtain ⟨q0, q1, q2, q3, q4⟩ := q5
        have TW := Lib.hid (G.out.fv t (List.mem_of_getElem? ht)).1
        have z0 := K.out.c0
        have z1 := K.out.c1
        rw [e0] at z0
        rw [show off + 0 * 5 = off by omega] at q0
        have h0z : (0 : Int) < (g.vs.length : Int) := by omega
        have C9 := Lib.hid (CW.out V2 S.out t.id way TW.out hway)
        rw [seen_nil_of (base_way _ (by omega) _) []] at C9
        clear ht e0 EA
        go_wp2_with fail
        refine C9.out.mono ?_
        rintro e Xw1 ⟨A9, c9, rfl, -, hb1⟩
        clear C9 q0 q1 q2 q3 q4 z0 z1
        replace G := Lib.hid (G.out.next hb1)
        replace K := Lib.hid (K.out.next hb1)
        replace S := Lib.hid (S.out.next hb1)
        replace B := Lib.hid (bnext B.out hb1)
        clear hb1
        go_wp2_with fail
        refine (known_any Xw1).mono ?_
        rintro e wk ⟨rfl, hbk⟩
        replace B := Lib.hid (bnext B.out hbk)
        clear hbk
        go_wp2
        go_ret
        exact ⟨rfl, B.out⟩
      · obtain ⟨z0, z1, -⟩ := K.out
        have h0z : ¬ (0 : Int) < (g.vs.length : Int) := by omega
        go_wp2_with fail
        refine (known_any V2).mono ?_
        rintro e wk ⟨rfl, hbk⟩
        replace B := Lib.hid (bnext B.out hbk)
        clear hbk
        go_wp2
        go_ret
        exact ⟨rfl, B.out⟩
    by_cases w3 : 3 < way
    · by_cases h0 : 0 < g.vs.length
      · obtain ⟨b, off, t, e0, hb, ht, q5, -⟩ := G.out.v.elem h0
        have EA := Lib.hid e0
        obtain ⟨q0, q1, q2, q3, q4⟩ := q5
        have TW := Lib.hid (G.out.fv t (List.mem_of_getElem? ht)).1
        have z0 := K.out.c0
        have z1 := K.out.c1
        rw [e0] at z0
        rw [show off + 0 * 5 = off by omega] at q0
        have h0z : (0 : Int) < (g.vs.length : Int) := by omega
        have C9 := Lib.hid (CW.out V2 S.out t.id way TW.out hway)
        rw [seen_nil_of (base_way _ (by omega) _) []] at C9
        clear ht e0 EA
        go_wp2_with fail
        refine C9.out.mono ?_
        rintro e Xw3 ⟨A9, c9, rfl, -, hb1⟩
        clear C9 q0 q1 q2 q3 q4 z0 z1
        replace G := Lib.hid (G.out.next hb1)
        replace K := Lib.hid (K.out.next hb1)
        replace S := Lib.hid (S.out.next hb1)
        replace B := Lib.hid (bnext B.out hb1)
        clear hb1
        go_wp2_with fail
        refine (known_any Xw3).mono ?_
        rintro e wk ⟨rfl, hbk⟩
        replace B := Lib.hid (bnext B.out hbk)
        clear hbk
        go_wp2
        go_ret
        exact ⟨rfl, B.out⟩
      · obtain ⟨z0, z1, -⟩ := K.out
        have h0z : ¬ (0 : Int) < (g.vs.length : Int) := by omega
        go_wp2_with fail
        refine (known_any V2).mono ?_
        rintro e wk ⟨rfl, hbk⟩
        replace B := Lib.hid (bnext B.out hbk)
        clear hbk
        go_wp2
        go_ret
        exact ⟨rfl, B.out⟩
    go_wp2_with fail
    refine (known_any V2).mono ?_
    rintro e wk ⟨rfl, hbk⟩
    replace B := Lib.hid (bnext B.out hbk)
    clear hbk
    go_wp2
    go_ret
    exact ⟨rfl, B.out⟩
  have HN := Lib.hid hh
  clear hh
  have C5 := Lib.hid (CW.out V2 S.out id 3 hid (by decide))
  rw [seen_nil_of (base_no OKV.out (by rw [any_tv]; exact HN.out) 3) []] at C5
  go_wp2_with fail
  refine C5.out.mono ?_
  rintro e V3 ⟨A5, c5, rfl, -, hb1⟩
  clear C5
  replace G := Lib.hid (G.out.next hb1)
  replace K := Lib.hid (K.out.next hb1)
  replace S := Lib.hid (S.out.next hb1)
  replace B := Lib.hid (bnext B.out hb1)
  clear hb1
  have C6 := Lib.hid (CX.out V3 S.out id 3 hid (by decide))
  rw [seen_nil_of (base_no OKV.out (by rw [any_tv]; exact HN.out) 3) []] at C6
  go_wp2_with fail
  refine C6.out.mono ?_
  rintro e V4 ⟨A6, c6, rfl, -, hb1⟩
  clear C6
  replace G := Lib.hid (G.out.next hb1)
  replace K := Lib.hid (K.out.next hb1)
  replace S := Lib.hid (S.out.next hb1)
  replace B := Lib.hid (bnext B.out hb1)
  clear hb1
  by_cases w1 : way < 1
  · by_cases h0 : 0 < g.vs.length
    · obtain ⟨b, off, t, e0, hb, ht, q5, -⟩ := G.out.v.elem h0
      have EA := Lib.hid e0
      obtain ⟨q0, q1, q2, q3, q4⟩ := q5
      have TW := Lib.hid (G.out.fv t (List.mem_of_getElem? ht)).1
      have z0 := K.out.c0
      have z1 := K.out.c1
      rw [e0] at z0
      rw [show off + 0 * 5 = off by omega] at q0
      have h0z : (0 : Int) < (g.vs.length : Int) := by omega
      have C9 := Lib.hid (CW.out V4 S.out t.id way TW.out hway)
      rw [seen_nil_of (base_way _ (by omega) _) []] at C9
      clear ht e0 EA
      go_wp2_with fail
      refine C9.out.mono ?_
      rintro e Xw1 ⟨A9, c9, rfl, -, hb1⟩
      clear C9 q0 q1 q2 q3 q4 z0 z1
      replace G := Lib.hid (G.out.next hb1)
      replace K := Lib.hid (K.out.next hb1)
      replace S := Lib.hid (S.out.next hb1)
      replace B := Lib.hid (bnext B.out hb1)
      clear hb1
      go_wp2_with fail
      refine (known_any Xw1).mono ?_
      rintro e wk ⟨rfl, hbk⟩
      replace B := Lib.hid (bnext B.out hbk)
      clear hbk
      go_wp2
      go_ret
      exact ⟨rfl, B.out⟩
    · obtain ⟨z0, z1, -⟩ := K.out
      have h0z : ¬ (0 : Int) < (g.vs.length : Int) := by omega
      go_wp2_with fail
      refine (known_any V4).mono ?_
      rintro e wk ⟨rfl, hbk⟩
      replace B := Lib.hid (bnext B.out hbk)
      clear hbk
      go_wp2
      go_ret
      exact ⟨rfl, B.out⟩
  by_cases w3 : 3 < way
  · by_cases h0 : 0 < g.vs.length
    · obtain ⟨b, off, t, e0, hb, ht, q5, -⟩ := G.out.v.elem h0
      have EA := Lib.hid e0
      obtain ⟨q0, q1, q2, q3, q4⟩ := q5
      have TW := Lib.hid (G.out.fv t (List.mem_of_getElem? ht)).1
      have z0 := K.out.c0
      have z1 := K.out.c1
      rw [e0] at z0
      rw [show off + 0 * 5 = off by omega] at q0
      have h0z : (0 : Int) < (g.vs.length : Int) := by omega
      have C9 := Lib.hid (CW.out V4 S.out t.id way TW.out hway)
      rw [seen_nil_of (base_way _ (by omega) _) []] at C9
      clear ht e0 EA
      go_wp2_with fail
      refine C9.out.mono ?_
      rintro e Xw3 ⟨A9, c9, rfl, -, hb1⟩
      clear C9 q0 q1 q2 q3 q4 z0 z1
      replace G := Lib.hid (G.out.next hb1)
      replace K := Lib.hid (K.out.next hb1)
      replace S := Lib.hid (S.out.next hb1)
      replace B := Lib.hid (bnext B.out hb1)
      clear hb1
      go_wp2_with fail
      refine (known_any Xw3).mono ?_
      rintro e wk ⟨rfl, hbk⟩
      replace B := Lib.hid (bnext B.out hbk)
      clear hbk
      go_wp2
      go_ret
      exact ⟨rfl, B.out⟩
    · obtain ⟨z0, z1, -⟩ := K.out
      have h0z : ¬ (0 : Int) < (g.vs.length : Int) := by omega
      go_wp2_with fail
      refine (known_any V4).mono ?_
      rintro e wk ⟨rfl, hbk⟩
      replace B := Lib.hid (bnext B.out hbk)
      clear hbk
      go_wp2
      go_ret
      exact ⟨rfl, B.out⟩
  go_wp2_with fail
  refine (known_any V4).mono ?_
  rintro e wk ⟨rfl, hbk⟩
  replace B := Lib.hid (bnext B.out hbk)
  clear hbk
  go_wp2
  go_ret
  exact ⟨rfl, B.out⟩
end Go.Proofs.Ytebkkjfeikpfgaa
