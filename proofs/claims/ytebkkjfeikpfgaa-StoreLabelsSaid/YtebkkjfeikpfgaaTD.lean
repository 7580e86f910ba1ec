/- StoreTurned: the walk. -/
import Derived.Test.YtebkkjfeikpfgaaTC
namespace Go.Proofs.Ytebkkjfeikpfgaa
open Go.RowKit Go.Sort
set_option maxRecDepth 100000
attribute [local go_sem ↓] Go.wp_at_zero Go.wp_at_succ

def turnA (t : TA) : TA := ⟨t.id, t.label, t.i, t.o, t.A, t.c, t.l⟩
def turnV (t : TV) : TV := ⟨t.id, t.label, t.i, t.o, t.l⟩
theorem turn_tv (es : List TA) : (es.map turnA).map TA.tv' = (es.map TA.tv').map turnV := by rw [List.map_map, List.map_map]; rfl
theorem spk_turn (E : List TV) (v : Int) : spk (E.map turnV) v 1 = spk E v 2 ∧ spk (E.map turnV) v 2 = spk E v 1 := by
  unfold spk
  constructor
  · rw [if_pos rfl, if_neg (by decide), if_pos rfl, List.filter_map, List.map_map]; rfl
  · rw [if_neg (by decide), if_pos rfl, if_pos rfl, List.filter_map, List.map_map]; rfl
theorem ok_turn (V E : List TV) : okGV V (E.map turnV) = okGV V E := by
  unfold okGV okTVs
  rw [List.length_map, List.all_map, risG_map, List.any_map]
  have e1 : (okTV ∘ turnV) = okTV := rfl
  have e2 : (fun a b => idLtV (turnV a) (turnV b)) = idLtV := rfl
  have e3 : (looseV V ∘ turnV) = looseV V := by
    funext t
    show (!V.any (idBV t.i) || !V.any (idBV t.o)) = (!V.any (idBV t.o) || !V.any (idBV t.i))
    exact Bool.or_comm _ _
  rw [e1, e2, e3]
theorem seen_base (S : Int → Int → List SP) (id way : Int) : seenS S id way [] = baseS S id way := by unfold seenS; rw [if_pos rfl]
theorem base_3 (S : Int → Int → List SP) (id : Int) : baseS S id 3 = S id 1 ++ S id 2 := by unfold baseS; rw [if_pos rfl]
theorem base_1 (S : Int → Int → List SP) (id : Int) : baseS S id 1 = S id 1 := by unfold baseS; rw [if_neg (by decide)]
theorem base_2 (S : Int → Int → List SP) (id : Int) : baseS S id 2 = S id 2 := by unfold baseS; rw [if_neg (by decide)]
theorem HS.after {w0 : World} {gh : Nat} {v0 : Value} {X w' : World} {A : Option Addr} {c : Nat} {l : List TA} (h : HS w0 gh v0 X A c l) (hg : X.grownBy w' (Value.ownBlock (.slice A l.length c))) : w'.cell? ⟨gh, 1, none⟩ = some (.slice A l.length c) ∧ w'.frozen? ⟨gh, 1, none⟩ = false := by
  have hlt := h.box.lt
  have hb := hg.block gh hlt (fun e => by have := (World.ownsRow.lt h.own gh e.symm).1; omega)
  exact ⟨(World.cell?_of_block (a := ⟨gh, 1, none⟩) hb).trans h.box.c1, (World.frozen?_of_block (a := ⟨gh, 1, none⟩) hb).trans h.box.f1⟩
theorem turn_next {es : List TA} {k : Nat} {t : TA} (ht : es[k]? = some t) : (es.take (k + 1)).map turnA = (es.take k).map turnA ++ [turnA t] := take_map turnA es k ht
theorem take_len {es : List TA} {k : Nat} (hk : k ≤ es.length) : ((es.take k).map turnA).length = k := by rw [List.length_map, List.length_take]; omega
set_option maxHeartbeats 32000000 in
theorem turned_law (w : World) (d0 : Nat) (g : GA) (id : Int) (hg : g.In w d0) (hsm : g.Sm) (hid : WfI id) : Calls Try.prog 7 #[g.v, .int .i64 id] w fun e w' => e = .returned (.bool true) ∧ Below w.heap.size w w' := by
  have G0 := Lib.hid hg
  have HSM := Lib.hid hsm
  clear hg hsm
  go_enter Try.func7, Try.ntmps7
  go_upto_region 1 with fail
  obtain ⟨W0, hW0⟩ : ∃ W0, W0 = w.alloc (.cells #[.slice g.AV g.vs.length g.cV, .slice g.AE g.es.length g.cE] 24) := ⟨_, rfl⟩
  have k0 := box24 w (.slice g.AV g.vs.length g.cV) (.slice g.AE g.es.length g.cE) W0 hW0.symm
  rw [← hW0]
  clear hW0
  have B := Lib.hid k0.2.2.1
  have K := Lib.hid (show K24 W0 w.heap.size (.slice g.AV g.vs.length g.cV) (.slice g.AE g.es.length g.cE) from ⟨k0.1, k0.2.1, by have := k0.2.2.2; omega⟩)
  clear k0
  have G := Lib.hid (G0.out.next B.out)
  clear G0
  obtain ⟨y0, y1, -⟩ := K.out
  go_wp2_with fail
  refine (much_any W0 d0 g G.out).mono ?_
  rintro e W1 ⟨mb, rfl, hb1⟩
  clear y0 y1
  replace G := Lib.hid (G.out.next hb1)
  replace K := Lib.hid (K.out.next hb1)
  replace B := Lib.hid (bnext B.out hb1)
  clear hb1
  cases mb
  case true =>
    go_wp2_with fail
    refine (known_any W1).mono ?_
    rintro e wk ⟨rfl, hbk⟩
    replace B := Lib.hid (bnext B.out hbk)
    clear hbk
    go_wp2
    go_ret
    exact ⟨rfl, B.out⟩
  obtain ⟨y0, y1, -⟩ := K.out
  go_wp2_with fail
  refine (refCheck_any W1 d0 g G.out HSM.out).mono ?_
  rintro e W2 ⟨rfl, hb1⟩
  clear y0 y1
  replace G := Lib.hid (G.out.next hb1)
  replace K := Lib.hid (K.out.next hb1)
  replace B := Lib.hid (bnext B.out hb1)
  clear hb1
  rcases errG_or g.vs g.es with ⟨hok, he⟩ | he
  case inr =>
    rw [he]
    clear he
    go_wp2_with fail
    refine (known_any W2).mono ?_
    rintro e wk ⟨rfl, hbk⟩
    replace B := Lib.hid (bnext B.out hbk)
    clear hbk
    go_wp2
    go_ret
    exact ⟨rfl, B.out⟩
  rw [he]
  have HOK := Lib.hid hok
  clear he hok
  obtain ⟨y0, y1, -⟩ := K.out
  go_upto_region 4 with fail
  have kh := K24'.new W2 (.slice g.AV g.vs.length g.cV) (.slice none 0 0)
  have HH : Hid (HS W2 W2.heap.size (.slice g.AV g.vs.length g.cV) (W2.alloc (.cells #[.slice g.AV g.vs.length g.cV, .slice none 0 0] 24)) none 0 []) := Lib.hid ⟨Nat.le_refl _, below_new _ _, kh, town_nil _ _⟩
  have hghl : W2.heap.size < (W2.alloc (.cells #[.slice g.AV g.vs.length g.cV, .slice none 0 0] 24)).heap.size := by simp
  generalize W2.alloc (.cells #[.slice g.AV g.vs.length g.cV, .slice none 0 0] 24) = W3 at HH kh hghl ⊢
  obtain ⟨gh, hgh⟩ : ∃ gh, gh = W2.heap.size := ⟨_, rfl⟩
  rw [← hgh] at HH kh hghl ⊢
  have HGH := Lib.hid hgh
  clear hgh kh y0 y1
  obtain ⟨n, hn⟩ : ∃ n, n = g.es.length := ⟨_, rfl⟩
  have hbig : n ≤ 2199023255488 := by have := G.out.e.big; omega
  have HN := Lib.hid hn
  try rw [← hn]
  clear hn
  go_wp2_with fail
  go_loopw [6] (fun i wr => ∃ (k : Nat) (A' : Option Addr) (c' : Nat) (l : List TA), k ≤ n ∧ i = .int .i64 k ∧ Hid (l = (g.es.take k).map turnA) ∧ Hid (HS W2 gh (.slice g.AV g.vs.length g.cV) wr A' c' l)) (fun i _ => n - (intOf i).toNat)
  case atStart => exact ⟨0, none, 0, [], by omega, rfl, Lib.hid rfl, HH⟩
  case round =>
    clear HH
    obtain ⟨k, A', c', l, hk, rfl, hl, hH⟩ := hrel
    have GW := Lib.hid (G.out.next hH.out.bel)
    have KW := Lib.hid (K.out.next hH.out.bel)
    have BW := Lib.hid (bnext B.out hH.out.bel)
    obtain ⟨y0, y1, -⟩ := KW.out
    rw [← HN.out] at y1
    by_cases hlt : k < n
    · obtain ⟨b, off, t, e0, hb, ht, q5, rx⟩ := GW.out.e.elem (k := k) (by have := HN.out; omega)
      obtain ⟨q0, q1, q2, q3, q4⟩ := q5
      rw [e0] at y1
      have HT := Lib.hid ht
      have RX := Lib.hid rx
      have klt : (k : Int) < (n : Int) := by omega
      clear ht rx e0
      go_upto_region 8 with fail
      have bx := CellT.new wr (.int .i64 t.id) (.string t.label) (.int .i64 t.o) (.int .i64 t.i) (.slice t.A t.l.length t.c)
      have BN := Lib.hid (below_new wr (.cells #[.int .i64 t.id, .string t.label, .int .i64 t.o, .int .i64 t.i, .slice t.A t.l.length t.c] 42))
      have g7lt : wr.heap.size < (wr.alloc (.cells #[.int .i64 t.id, .string t.label, .int .i64 t.o, .int .i64 t.i, .slice t.A t.l.length t.c] 42)).heap.size := bx.blk.lt
      generalize World.alloc wr _ = X at bx BN g7lt ⊢
      generalize wr.heap.size = g7 at bx g7lt ⊢
      have HX := Lib.hid (hH.out.next BN.out)
      have RX2 := Lib.hid (RX.out.next BN.out)
      have HY := Lib.hid (HX.out.next (below_new X (.cells #[.int .i64 t.id, .string t.label, .int .i64 t.i, .int .i64 t.o, .slice t.A t.l.length t.c] 42)))
      have TB := Lib.hid (trow_box X d0 (turnA t) RX2.out)
      have hll : l.length ≤ 2199023255487 := by rw [hl.out, take_len (by have := HN.out; omega)]; omega
      have hghb : gh + 1 ≤ (X.alloc (.cells #[.int .i64 t.id, .string t.label, .int .i64 t.i, .int .i64 t.o, .slice t.A t.l.length t.c] 42)).heap.size := HY.out.box.lt
      have hghx : gh < X.heap.size := HX.out.box.lt
      obtain ⟨r0, r1, r2, r3, r4, -⟩ := bx
      obtain ⟨x0, x1, -⟩ := HX.out.box
      clear q0 q1 q2 q3 q4 y0 y1 GW KW BW hH RX RX2
      go_wp2_with (at_builtin; refine append_anyT rfl _ _ rfl (gh + 1) HY.out.own rfl rfl TB.out (fun e => by cases e) rfl (by omega) hghb ?_; intro A2 c2 w2 hown2 hg2; obtain ⟨a0, a1⟩ := HY.out.after hg2; have HP := Lib.hid (HY.out.push hg2 hown2); clear hown2 hg2)
      go_roundw
      case rel => exact ⟨k + 1, A2, c2, l ++ [turnA t], by omega, by go_num, Lib.hid (by rw [turn_next HT.out, hl.out]), HP⟩
      case measure => simp [intOf]; omega
    · obtain rfl : k = n := by omega
      have hL : Hid (l = g.es.map turnA) := Lib.hid (by have := hl.out; rwa [List.take_of_length_le (by have := HN.out; omega)] at this)
      clear hl y0 y1
      obtain ⟨y0, y1, -⟩ := KW.out
      have hge : ¬ (k : Int) < (g.es.length : Int) := by have := HN.out; omega
      have G := GW
      have K := KW
      have B := BW
      have HQ := hH
      clear GW KW BW hH
      go_wp2_with fail
      refine (new_any wr d0 g G.out).mono ?_
      rintro e X1 ⟨hb1, ⟨he, -⟩ | ⟨-, s1, vs1, es1, rfl, hs1, -, ee1⟩⟩
      · exact absurd ((okG_errG HOK.out).symm.trans he) (by decide)
      have EE1 := Lib.hid ee1
      clear ee1 y0 y1
      replace G := Lib.hid (G.out.next hb1)
      replace K := Lib.hid (K.out.next hb1)
      replace HQ := Lib.hid (HQ.out.next hb1)
      replace B := Lib.hid (bnext B.out hb1)
      clear hb1
      have S1 := Lib.hid hs1
      clear hs1
      have VT : Hid (∀ t ∈ l, PRow X1 0 d0 t.A t.c t.l) := Lib.hid (fun t ht => by
        rw [hL.out] at ht
        obtain ⟨u, hu, rfl⟩ := List.mem_map.1 ht
        exact G.out.e.vals u hu)
      have FT : Hid (∀ t ∈ l, TFld t) := Lib.hid (fun t ht => by
        rw [hL.out] at ht
        obtain ⟨u, hu, rfl⟩ := List.mem_map.1 ht
        obtain ⟨f1, f2, f3⟩ := G.out.fe u hu
        exact ⟨f1, f3, f2⟩)
      have hll : l.length ≤ 2199023255488 := by rw [hL.out, List.length_map]; exact G.out.e.big
      have GH : Hid (GA.In ⟨g.AV, g.cV, g.vs, A', c', l⟩ X1 d0) := Lib.hid ⟨G.out.v, HQ.out.own.row hll VT.out, G.out.fv, FT.out⟩
      have OKH : Hid (okG g.vs l = true) := Lib.hid (by rw [hL.out, okG_tv, turn_tv, ok_turn, ← okG_tv]; exact HOK.out)
      obtain ⟨x0, x1, -⟩ := HQ.out.box
      go_wp2_with fail
      refine (new_any X1 d0 ⟨g.AV, g.cV, g.vs, A', c', l⟩ GH.out).mono ?_
      rintro e X2 ⟨hb1, ⟨he, -⟩ | ⟨-, s2, vs2, es2, rfl, hs2, -, ee2⟩⟩
      · exact absurd ((okG_errG OKH.out).symm.trans he) (by decide)
      have EE2 : Hid (es2.map TA.tv' = (g.es.map TA.tv').map turnV) := Lib.hid (by rw [← turn_tv, ← hL.out]; exact ee2)
      clear ee2 x0 x1
      replace S1 := Lib.hid (S1.out.next hb1)
      replace B := Lib.hid (bnext B.out hb1)
      clear hb1
      have S2 := Lib.hid hs2
      clear hs2 GH VT FT OKH hL HQ
      have FW := Lib.hid S1.out.few
      rw [EE1.out] at FW
      have LN := Lib.hid (fun way => seen_len FW.out id way [])
      have C1 := Lib.hid (fun (W : World) (hW : Sto W s1 vs1 es1) (way : Int) (hw : WfI way) => next_any W (some ⟨s1, 0, none⟩) vs1 es1 (.inr ⟨s1, rfl, hW⟩) id way hid hw none 0 [] (lrow_nil _ _ _) (by simp))
      have A1 := Lib.hid (fun (W : World) (hW : Sto W s1 vs1 es1) (way : Int) (hw : WfI way) => around_any W (some ⟨s1, 0, none⟩) vs1 es1 (.inr ⟨s1, rfl, hW⟩) id way hid hw none 0 [] (lrow_nil _ _ _) (by simp))
      have C2 := Lib.hid (fun (W : World) (hW : Sto W s2 vs2 es2) (way : Int) (hw : WfI way) => next_any W (some ⟨s2, 0, none⟩) vs2 es2 (.inr ⟨s2, rfl, hW⟩) id way hid hw none 0 [] (lrow_nil _ _ _) (by simp))
      have A2 := Lib.hid (fun (W : World) (hW : Sto W s2 vs2 es2) (way : Int) (hw : WfI way) => around_any W (some ⟨s2, 0, none⟩) vs2 es2 (.inr ⟨s2, rfl, hW⟩) id way hid hw none 0 [] (lrow_nil _ _ _) (by simp))
      simp only [EE1.out, seen_base] at C1 A1
      simp only [EE2.out, seen_base] at C2 A2
      have D1 := Lib.hid (fun (W : World) (hW : Sto W s1 vs1 es1) => C1.out W hW 1 (by decide))
      have D3 := Lib.hid (fun (W : World) (hW : Sto W s1 vs1 es1) => C1.out W hW 3 (by decide))
      have D2 := Lib.hid (fun (W : World) (hW : Sto W s1 vs1 es1) => A1.out W hW 2 (by decide))
      have R1 := Lib.hid (fun (W : World) (hW : Sto W s2 vs2 es2) => C2.out W hW 1 (by decide))
      have R2 := Lib.hid (fun (W : World) (hW : Sto W s2 vs2 es2) => C2.out W hW 2 (by decide))
      have Q1 := Lib.hid (fun (W : World) (hW : Sto W s2 vs2 es2) => A2.out W hW 1 (by decide))
      have L1 : Hid ((spk (g.es.map TA.tv') id 1).length ≤ 1099511627776) := Lib.hid (FW.out.len id 1)
      have L2 : Hid ((spk (g.es.map TA.tv') id 2).length ≤ 1099511627776) := Lib.hid (FW.out.len id 2)
      rw [base_1] at D1
      rw [base_2] at D2
      simp only [base_3, List.map_append] at D3
      simp only [base_1, (spk_turn _ _).1] at R1 Q1
      simp only [base_2, (spk_turn _ _).2] at R2
      clear C1 A1 C2 A2 LN FW
      have M1 : Hid (((spk (g.es.map TA.tv') id 1).map fun s => s.o).length ≤ 1099511627776) := Lib.hid (by rw [List.length_map]; exact L1.out)
      have M2 : Hid (((spk (g.es.map TA.tv') id 2).map fun s => s.o).length ≤ 1099511627776) := Lib.hid (by rw [List.length_map]; exact L2.out)
      have M3 : Hid (((spk (g.es.map TA.tv') id 2).map fun s => s.e).length ≤ 1099511627776) := Lib.hid (by rw [List.length_map]; exact L2.out)
      generalize ((spk (g.es.map TA.tv') id 1).map fun s => s.o) = N1 at D1 D3 R2 M1
      generalize ((spk (g.es.map TA.tv') id 2).map fun s => s.o) = N2 at D3 R1 M2
      generalize ((spk (g.es.map TA.tv') id 2).map fun s => s.e) = P2 at D2 Q1 M3
      clear L1 L2
      go_wp2_with fail
      refine (R2.out X2 S2.out).mono ?_
      rintro e X3 ⟨E3, e3, rfl, ho3, hb1⟩
      have O3 := Lib.hid ho3
      have BX := Lib.hid hb1
      have S1s := S1
      have S2s := S2
      have Bs := B
      clear ho3
      replace S1 := Lib.hid (S1.out.next hb1)
      replace S2 := Lib.hid (S2.out.next hb1)
      replace B := Lib.hid (bnext B.out hb1)
      clear hb1
      go_wp2_with fail
      refine (R1.out X3 S2.out).mono ?_
      rintro e X4 ⟨E4, e4, rfl, ho4, hb1⟩
      have O4 := Lib.hid ho4
      replace O3 := Lib.hid (O3.out.next hb1)
      replace BX := Lib.hid (bnext BX.out hb1)
      clear ho4
      have m1 := M1.out
      have m2 := M2.out
      clear hb1 S1 S2 B
      have X2le := BX.out.size
      have O4r := Lib.hid (O4.out.row (by omega))
      obtain ⟨n1, hn1⟩ : ∃ n1, n1 = N1.length := ⟨_, rfl⟩
      obtain ⟨n2, hn2⟩ : ∃ n2, n2 = N2.length := ⟨_, rfl⟩
      rw [← hn1] at m1 O3
      rw [← hn2] at m2 O4
      have HN1 := Lib.hid hn1
      have HN2 := Lib.hid hn2
      try rw [← hn1]
      try rw [← hn2]
      clear hn1 hn2
      go_upto_region 15 with (at_builtin; refine append_anyI rfl _ _ rfl X2.heap.size O3.out rfl rfl O4r.out O4.out.nil HN2.out.symm (by omega) X2le ?_; intro E5 e5 X5 hown2 hg2; have O5 := Lib.hid hown2; have BY := Lib.hid (grown_below (Nat.le_refl _) BX.out hg2 (own_block O3.out)); clear hown2 hg2)
      have SX1 := Lib.hid (fun (W : World) (hW : Below X2.heap.size X2 W) => S1s.out.next hW)
      have SX2 := Lib.hid (fun (W : World) (hW : Below X2.heap.size X2 W) => S2s.out.next hW)
      have BX2 := Lib.hid (fun (W : World) (hW : Below X2.heap.size X2 W) => bnext Bs.out hW)
      clear O3 O4 O4r S1s S2s Bs BX
      have S1 := Lib.hid (SX1.out X5 BY.out)
      have S2 := Lib.hid (SX2.out X5 BY.out)
      have B := Lib.hid (BX2.out X5 BY.out)
      clear SX1 SX2 BX2 BY X2le
      rw [show n1 + n2 = (N1 ++ N2).length by rw [List.length_append, HN1.out, HN2.out]] at O5 ⊢
      have M5 : Hid ((N1 ++ N2).length ≤ 2199023255552) := Lib.hid (by rw [List.length_append]; have := M1.out; have := M2.out; omega)
      generalize N1 ++ N2 = NN at O5 D3 M5 ⊢
      go_wp2_with fail
      refine (D1.out X5 S1.out).mono ?_
      rintro e X6 ⟨E6, e6, rfl, ho, hb1⟩
      have O6 := Lib.hid ho
      clear ho
      replace S1 := Lib.hid (S1.out.next hb1)
      replace S2 := Lib.hid (S2.out.next hb1)
      replace O5 := Lib.hid (O5.out.next hb1)
      replace B := Lib.hid (bnext B.out hb1)
      clear hb1
      go_wp2_with fail
      refine (R2.out X6 S2.out).mono ?_
      rintro e X7 ⟨E7, e7c, rfl, ho, hb1⟩
      have O7 := Lib.hid ho
      clear ho
      replace S1 := Lib.hid (S1.out.next hb1)
      replace S2 := Lib.hid (S2.out.next hb1)
      replace O5 := Lib.hid (O5.out.next hb1)
      replace O6 := Lib.hid (O6.out.next hb1)
      replace B := Lib.hid (bnext B.out hb1)
      clear hb1
      go_wp2_with fail
      refine (sameInts_any X7 _ _ _ _ _ _ (O6.out.row (by have := M1.out; omega)) (O7.out.row (by have := M1.out; omega))).mono ?_
      rintro e X8 ⟨rfl, hb1⟩
      rw [beq_self_eq_true]
      replace S1 := Lib.hid (S1.out.next hb1)
      replace S2 := Lib.hid (S2.out.next hb1)
      replace O5 := Lib.hid (O5.out.next hb1)
      replace B := Lib.hid (bnext B.out hb1)
      clear hb1
      clear O6 O7
      go_wp2_with fail
      refine (D2.out X8 S1.out).mono ?_
      rintro e X9 ⟨E9, e9c, rfl, ho, hb1⟩
      have O9 := Lib.hid ho
      clear ho
      replace S1 := Lib.hid (S1.out.next hb1)
      replace S2 := Lib.hid (S2.out.next hb1)
      replace O5 := Lib.hid (O5.out.next hb1)
      replace B := Lib.hid (bnext B.out hb1)
      clear hb1
      go_wp2_with fail
      refine (Q1.out X9 S2.out).mono ?_
      rintro e Y1 ⟨F1, f1c, rfl, ho, hb1⟩
      have P1 := Lib.hid ho
      clear ho
      replace S1 := Lib.hid (S1.out.next hb1)
      replace S2 := Lib.hid (S2.out.next hb1)
      replace O5 := Lib.hid (O5.out.next hb1)
      replace O9 := Lib.hid (O9.out.next hb1)
      replace B := Lib.hid (bnext B.out hb1)
      clear hb1
      go_wp2_with fail
      refine (sameInts_any Y1 _ _ _ _ _ _ (O9.out.row (by have := M3.out; omega)) (P1.out.row (by have := M3.out; omega))).mono ?_
      rintro e Y2 ⟨rfl, hb1⟩
      rw [beq_self_eq_true]
      replace S1 := Lib.hid (S1.out.next hb1)
      replace S2 := Lib.hid (S2.out.next hb1)
      replace O5 := Lib.hid (O5.out.next hb1)
      replace B := Lib.hid (bnext B.out hb1)
      clear hb1
      clear O9 P1
      go_wp2_with fail
      refine (D3.out Y2 S1.out).mono ?_
      rintro e Y3 ⟨F3, f3c, rfl, ho, hb1⟩
      have P3 := Lib.hid ho
      clear ho
      replace S1 := Lib.hid (S1.out.next hb1)
      replace S2 := Lib.hid (S2.out.next hb1)
      replace O5 := Lib.hid (O5.out.next hb1)
      replace B := Lib.hid (bnext B.out hb1)
      clear hb1
      go_wp2_with fail
      refine (sameInts_any Y3 _ _ _ _ _ _ (P3.out.row (by have := M5.out; omega)) (O5.out.row (by have := M5.out; omega))).mono ?_
      rintro e Y4 ⟨rfl, hb1⟩
      rw [beq_self_eq_true]
      replace S1 := Lib.hid (S1.out.next hb1)
      replace S2 := Lib.hid (S2.out.next hb1)
      replace O5 := Lib.hid (O5.out.next hb1)
      replace B := Lib.hid (bnext B.out hb1)
      clear hb1
      go_wp2_with fail
      refine (known_any Y4).mono ?_
      rintro e wk ⟨rfl, hbk⟩
      replace B := Lib.hid (bnext B.out hbk)
      clear hbk
      go_wp2
      go_ret
      exact ⟨rfl, B.out⟩
end Go.Proofs.Ytebkkjfeikpfgaa
