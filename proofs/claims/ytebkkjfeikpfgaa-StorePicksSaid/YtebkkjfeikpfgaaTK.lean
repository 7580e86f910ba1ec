/- StorePicks: the walk. -/
import Derived.Test.YtebkkjfeikpfgaaTL
namespace Go.Proofs.Ytebkkjfeikpfgaa
open Go.RowKit Go.Sort
set_option maxRecDepth 100000
attribute [local go_sem ↓] Go.wp_at_zero Go.wp_at_succ

def p22D : Nat → Tmp := fun j => [114, 115, 116, 117, 118, 119, 120, 121, 122, 123, 124, 125, 126, 127, 128, 129, 130, 131, 132, 133, 134, 135, 136, 137, 138, 139, 22].getD j 0
def p22E : Nat → List Nat := fun j => [[], [], [0, 1], [], [3], [], [4, 5], [2, 6], [7], [8], [8], [8, 9, 10], [8], [8, 12], [8], [8, 13, 14], [8, 11, 15], [8, 16], [17], [18], [18, 19], [18], [18, 21], [18, 22], [18, 20, 23], [18, 24], [25]].getD j []

def IsN (P : List Int) : Value → World → Prop := fun x w => ∃ A c, x = .slice A P.length c ∧ IRow w A c P
theorem IsN.stays (P : List Int) : Stays (IsN P) := fun _ _ _ ⟨A, c, e, h⟩ hb => ⟨A, c, e, h.next hb⟩
theorem pick_len (l : List TA) (ids : List Int) : (pickL l ids).length ≤ l.length + ids.length := by
  unfold pickL
  split
  · rw [List.length_map]; omega
  · have := List.length_filter_le (fun id => l.any (idB id)) ids
    omega
set_option maxHeartbeats 32000000 in
theorem picks_law (w : World) (d0 : Nat) (g : GA) (B0 : Option Addr) (cb : Nat) (ids : List Int) (id : Int) (hg : g.In w d0) (hsm : g.Sm) (hnV : g.AV = none → g.cV = 0) (hnE : g.AE = none → g.cE = 0) (hI : IRow w B0 cb ids) (_hid : WfI id) : Calls Try.prog 4 #[g.v, .slice B0 ids.length cb, .int .i64 id] w fun e w' => e = .returned (.bool true) ∧ Below w.heap.size w w' := by
  have G0 := Lib.hid hg
  have HSM := Lib.hid hsm
  have NV := Lib.hid hnV
  have NE := Lib.hid hnE
  have I0 := Lib.hid hI
  clear hg hsm hnV hnE hI
  go_enter Try.func4, Try.ntmps4
  go_upto_region 1 with fail
  obtain ⟨W0, hW0⟩ : ∃ W0, W0 = w.alloc (.cells #[.slice g.AV g.vs.length g.cV, .slice g.AE g.es.length g.cE] 24) := ⟨_, rfl⟩
  have k0 := box24 w (.slice g.AV g.vs.length g.cV) (.slice g.AE g.es.length g.cE) W0 hW0.symm
  rw [← hW0]
  clear hW0
  have B := Lib.hid k0.2.2.1
  have K := Lib.hid (show K24 W0 w.heap.size (.slice g.AV g.vs.length g.cV) (.slice g.AE g.es.length g.cE) from ⟨k0.1, k0.2.1, by have := k0.2.2.2; omega⟩)
  clear k0
  have G := Lib.hid (G0.out.next B.out)
  have IR := Lib.hid (I0.out.next B.out)
  clear G0 I0
  obtain ⟨y0, y1, -⟩ := K.out
  go_wp2_with fail
  refine (much_any W0 d0 g G.out).mono ?_
  rintro e W1 ⟨mb, rfl, hb1⟩
  clear y0 y1
  replace G := Lib.hid (G.out.next hb1)
  replace K := Lib.hid (K.out.next hb1)
  replace IR := Lib.hid (IR.out.next hb1)
  replace B := Lib.hid (bnext B.out hb1)
  clear hb1
  cases mb
  case true =>
    go_wp2_with fail
    refine (known_any W1).mono ?_
    rintro e wk ⟨rfl, hbk⟩
    replace B := Lib.hid (bnext B.out hbk)
    clear hbk
    go_wp2
    go_ret
    exact ⟨rfl, B.out⟩
  obtain ⟨y0, y1, -⟩ := K.out
  by_cases hlen : 100 < ids.length
  case pos =>
    have e1 : (100 : Int) < (ids.length : Int) := by omega
    go_wp2_with fail
    refine (known_any W1).mono ?_
    rintro e wk ⟨rfl, hbk⟩
    replace B := Lib.hid (bnext B.out hbk)
    clear hbk
    go_wp2
    go_ret
    exact ⟨rfl, B.out⟩
  have e1 : ¬ (100 : Int) < (ids.length : Int) := by omega
  go_wp2_with fail
  refine (refCheck_any W1 d0 g G.out HSM.out).mono ?_
  rintro e W2 ⟨rfl, hb1⟩
  clear y0 y1
  replace G := Lib.hid (G.out.next hb1)
  replace K := Lib.hid (K.out.next hb1)
  replace IR := Lib.hid (IR.out.next hb1)
  replace B := Lib.hid (bnext B.out hb1)
  clear hb1
  rcases errG_or g.vs g.es with ⟨hok, he⟩ | he
  case inr =>
    rw [he]
    clear he
    go_wp2_with fail
    refine (known_any W2).mono ?_
    rintro e wk ⟨rfl, hbk⟩
    replace B := Lib.hid (bnext B.out hbk)
    clear hbk
    go_wp2
    go_ret
    exact ⟨rfl, B.out⟩
  rw [he]
  have HOK := Lib.hid hok
  have BGV := Lib.hid G.out.v.big
  have BGE := Lib.hid G.out.e.big
  clear he hok e1
  obtain ⟨y0, y1, -⟩ := K.out
  go_upto_region 4 with fail
  have kb := K24'.new W2 (.slice none 0 0) (.slice none 0 0)
  have BX := Lib.hid (below_new W2 (.cells #[.slice none 0 0, .slice none 0 0] 24))
  obtain ⟨gb, hgb⟩ : ∃ x, x = W2.heap.size := ⟨_, rfl⟩
  have hszX : (W2.alloc (.cells #[.slice none 0 0, .slice none 0 0] 24)).heap.size = gb + 1 := by rw [hgb]; simp
  rw [← hgb] at kb ⊢
  have HGB := Lib.hid (show W2.heap.size ≤ gb by omega)
  clear hgb
  generalize World.alloc W2 _ = X at kb BX hszX ⊢
  have y0' := (K.out.next BX.out).c0
  have y1' := (K.out.next BX.out).c1
  clear y0 y1
  obtain ⟨k0, k1, kf0, kf1, klt⟩ := kb
  have KB := Lib.hid (show K24' X gb (.slice none 0 0) (.slice none 0 0) from ⟨k0, k1, kf0, kf1, klt⟩)
  have GX := Lib.hid (G.out.next BX.out)
  go_wp2_with (first
    | (at_builtin; refine append_anyT rfl (.tmp 37) (.tmp 39) rfl (gb + 1) (town_nil _ _) rfl rfl GX.out.v NV.out rfl (by have := BGV.out; omega) (by omega) ?_; intro A1 c1 w3 hown hgr; have O1 : Hid (TOwn w3 (gb + 1) A1 g.vs.length c1 g.vs) := Lib.hid (by simpa using hown); have BG1 := Lib.hid (grown_none hgr); have K1 := Lib.hid (K24'.next KB.out BG1.out); have hs0 : (0 : Nat) + g.vs.length = g.vs.length := Nat.zero_add _; clear hown hgr; obtain ⟨z0, z1, zf0, zf1, -⟩ := K1.out; have yq0 := (K.out.next (bnext BX.out BG1.out)).c0; have yq1 := (K.out.next (bnext BX.out BG1.out)).c1; have BY := Lib.hid ((bnext BX.out BG1.out).setCell (p := ⟨gb, 0, none⟩) HGB.out (.slice A1 g.vs.length c1)); have OY := Lib.hid (O1.out.set_low (p := ⟨gb, 0, none⟩) (Nat.lt_succ_self _) (.slice A1 g.vs.length c1)); have KY := Lib.hid (K1.out.set0 (.slice A1 g.vs.length c1)); have hs3 : gb + 1 ≤ w3.heap.size := hszX ▸ BG1.out.size)
    | (at_builtin; refine append_anyT rfl (.tmp 43) (.tmp 45) rfl w3.heap.size (town_nil _ _) rfl rfl (G.out.next BY.out).e NE.out rfl (by have := BGE.out; omega) (by simp [World.setCell]) ?_; intro A2 c2 w4 hown hgr; have O2 : Hid (TOwn w4 w3.heap.size A2 g.es.length c2 g.es) := Lib.hid (by simpa using hown); have BG2 := Lib.hid (grown_none hgr); have K2 := Lib.hid (K24'.next KY.out BG2.out); have hs1 : (0 : Nat) + g.es.length = g.es.length := Nat.zero_add _; clear hown hgr; obtain ⟨u0, u1, uf0, uf1, -⟩ := K2.out; have BZ := Lib.hid ((bnext BY.out BG2.out).setCell (p := ⟨gb, 1, none⟩) HGB.out (.slice A2 g.es.length c2)); have OZ1 := Lib.hid ((OY.out.next BG2.out).set_low (p := ⟨gb, 1, none⟩) (Nat.lt_succ_self _) (.slice A2 g.es.length c2)); have OZ2 := Lib.hid (O2.out.set_low (p := ⟨gb, 1, none⟩) (Nat.lt_of_lt_of_le (Nat.lt_succ_self _) hs3) (.slice A2 g.es.length c2)); have KZ := Lib.hid (K2.out.set1 (.slice A2 g.es.length c2)); obtain ⟨q0, q1, -⟩ := KZ.out))
  generalize World.setCell w4 _ _ = F at BZ OZ1 OZ2 KZ q0 q1 ⊢
  have FI : (⟨A1, c1, g.vs, A2, c2, g.es⟩ : GA).In F d0 := ⟨OZ1.out.row BGV.out (G.out.next BZ.out).v.vals, OZ2.out.row BGE.out (G.out.next BZ.out).e.vals, G.out.fv, G.out.fe⟩
  refine (new_anyL F d0 ⟨A1, c1, g.vs, A2, c2, g.es⟩ FI).mono ?_
  rintro e w5 ⟨hb5, ⟨he, -⟩ | ⟨-, s, vs, es, rfl, hs, hv, he⟩⟩
  · have he2 : errG g.vs g.es = 50 := he
    rw [okG_errG HOK.out] at he2
    cases he2
  obtain ⟨hcv, hce⟩ := picks_ctv HOK.out hv he
  have HVV := Lib.hid hv
  have HEE := Lib.hid he
  have HCV := Lib.hid hcv
  have HCE := Lib.hid hce
  have HS := Lib.hid hs
  have P0 : Hid (PK W2 F w5 gb A1 g.vs.length c1 A2 g.es.length c2 w5) := Lib.hid ⟨bnext BZ.out hb5, Alike.refl _ _, K24'.next KZ.out hb5, fun h0 => by
      obtain ⟨x, e, q1, q2, q3⟩ := OZ1.out.blk h0
      exact ⟨x, e, q1, q2, q3.next hb5⟩, fun h0 => by
      obtain ⟨x, e, q1, q2, q3⟩ := OZ2.out.blk h0
      exact ⟨x, e, by omega, q2, q3.next hb5⟩⟩
  clear hcv hce hv he hs hb5 FI q0 q1 y0' y1' k0 k1 kf0 kf1 z0 z1 zf0 zf1 yq0 yq1 u0 u1 uf0 uf1 hs0 hs1
  have HNV : Hid (vs.length = g.vs.length) := Lib.hid (by have := congrArg List.length HVV.out; simpa using this)
  have HNE : Hid (es.length = g.es.length) := Lib.hid (by have := congrArg List.length HEE.out; simpa using this)
  go_wp2_with fail
  go_loopw [10] (fun v wr => ∃ k : Nat, v = .int .i64 k ∧ k ≤ g.vs.length ∧ Hid (PK W2 F w5 gb A1 g.vs.length c1 A2 g.es.length c2 wr)) (fun v _ => g.vs.length - (RowKit.intOf v).toNat)
  case atStart => exact ⟨0, rfl, by omega, P0⟩
  case round =>
    obtain ⟨k, rfl, hk, hP⟩ := hrel
    obtain ⟨p0, p1, pf0, pf1, plt⟩ := hP.out.box
    have hbv := BGV.out
    by_cases hlt : k < g.vs.length
    · obtain ⟨g1, rfl, hg1, hg2, hbl⟩ := hP.out.r1 (by omega)
      have hki : (k : Int) < (g.vs.length : Int) := by omega
      obtain ⟨vv, hcell⟩ := hbl.cell (i := k * 5 + 1) (by omega)
      have hfro := hbl.frozen (k * 5 + 1)
      have HN := Lib.hid (hP.out.set HGB.out hg1 hg2 (k * 5 + 1) (.string ⟨#[115, 112, 111, 105, 108, 116]⟩))
      go_wp2_with fail
      go_roundw
      case rel => exact ⟨k + 1, by go_num, by omega, HN⟩
      case measure => simp [RowKit.intOf]; omega
    · have hki : (g.vs.length : Int) ≤ (k : Int) := by omega
      clear hlt
      go_wp2_with fail
      obtain ⟨wv, hwv⟩ : ∃ x, x = wr := ⟨_, rfl⟩
      subst hwv
      go_loopw [11] (fun v wr => ∃ k : Nat, v = .int .i64 k ∧ k ≤ g.es.length ∧ Hid (PK W2 F w5 gb A1 g.vs.length c1 A2 g.es.length c2 wr)) (fun v _ => g.es.length - (RowKit.intOf v).toNat)
      case atStart => exact ⟨0, rfl, by omega, hP⟩
      case round =>
        clear p0 p1 pf0 pf1 plt
        obtain ⟨k2, rfl, hk2, hP2⟩ := hrel
        obtain ⟨p0, p1, pf0, pf1, plt⟩ := hP2.out.box
        have hbe := BGE.out
        by_cases hlt : k2 < g.es.length
        · obtain ⟨g1, rfl, hg1, hg2, hbl⟩ := hP2.out.r2 (by omega)
          have hki2 : (k2 : Int) < (g.es.length : Int) := by omega
          obtain ⟨vv, hcell⟩ := hbl.cell (i := k2 * 5 + 2) (by omega)
          have hfro := hbl.frozen (k2 * 5 + 2)
          have HN := Lib.hid (hP2.out.set HGB.out hg1 hg2 (k2 * 5 + 2) (.int .i64 (-7)))
          go_wp2_with fail
          go_roundw
          case rel => exact ⟨k2 + 1, by go_num, by omega, HN⟩
          case measure => simp [RowKit.intOf]; omega
        · have hki2 : (g.es.length : Int) ≤ (k2 : Int) := by omega
          clear hlt
          have S := Lib.hid (HS.out wr hP2.out.like)
          have hb1 := hP2.out.bel
          replace G := Lib.hid (G.out.next hb1)
          replace K := Lib.hid (K.out.next hb1)
          replace IR := Lib.hid (IR.out.next hb1)
          replace B := Lib.hid (bnext B.out hb1)
          clear hb1 OZ1 OZ2 KZ HS P0 hP hP2 BZ BX KB GX BG1 K1 BY OY KY hs3 O1 BG2 K2 O2
  
          go_wp2_with fail
          refine (vertex_any wr (some ⟨s, 0, none⟩) vs es (.inr ⟨s, rfl, S.out⟩) id).mono ?_
          rintro e w6 ⟨q1, rfl, hq1, hn1⟩
          have hb1 := hn1.bel
          have R1 := Lib.hid (hn1.row.low (Nat.zero_le _))
          have Q1 := Lib.hid hq1
          clear hn1 hq1 p0 p1 pf0 pf1 plt
          replace G := Lib.hid (G.out.next hb1)
          replace K := Lib.hid (K.out.next hb1)
          replace IR := Lib.hid (IR.out.next hb1)
          replace S := Lib.hid (S.out.next hb1)
          replace B := Lib.hid (bnext B.out hb1)
          clear hb1
          go_upto_region 18 with fail
          generalize hX6 : World.alloc _ _ = X6
          obtain ⟨t1, hb1⟩ := made42 hX6
          have T1 := Lib.hid t1
          clear hX6 t1
          replace G := Lib.hid (G.out.next hb1)
          replace K := Lib.hid (K.out.next hb1)
          replace IR := Lib.hid (IR.out.next hb1)
          replace S := Lib.hid (S.out.next hb1)
          replace R1 := Lib.hid (R1.out.next hb1)
          replace B := Lib.hid (bnext B.out hb1)
          clear hb1
          obtain ⟨y0, y1, -⟩ := K.out
          go_wp2_with fail
          refine (refAt_any X6 d0 g.AV g.cV g.vs G.out.v id).mono ?_
          rintro e w7 ⟨u1, is1, rfl, hr, hcase, hb1⟩
          have R2 := Lib.hid hr
          have Q2 := Lib.hid (at_same HCV.out Q1.out hcase)
          clear hr hcase y0 y1
          replace G := Lib.hid (G.out.next hb1)
          replace K := Lib.hid (K.out.next hb1)
          replace IR := Lib.hid (IR.out.next hb1)
          replace S := Lib.hid (S.out.next hb1)
          replace R1 := Lib.hid (R1.out.next hb1)
          replace T1 := Lib.hid (T1.out.next hb1)
          replace B := Lib.hid (bnext B.out hb1)
          clear hb1
          go_upto_region 19 with fail
          generalize hX7 : World.alloc _ _ = X7
          obtain ⟨t2, hb1⟩ := made42 hX7
          have T2 := Lib.hid t2
          clear hX7 t2
          replace G := Lib.hid (G.out.next hb1)
          replace K := Lib.hid (K.out.next hb1)
          replace IR := Lib.hid (IR.out.next hb1)
          replace S := Lib.hid (S.out.next hb1)
          replace R1 := Lib.hid (R1.out.next hb1)
          replace T1 := Lib.hid (T1.out.next hb1)
          replace R2 := Lib.hid (R2.out.next hb1)
          replace B := Lib.hid (bnext B.out hb1)
          clear hb1
          go_wp2_with fail
          refine (edge_any X7 (some ⟨s, 0, none⟩) vs es (.inr ⟨s, rfl, S.out⟩) id).mono ?_
          rintro e w8 ⟨q3, rfl, hq3, hn3⟩
          have hb1 := hn3.bel
          have R3 := Lib.hid (hn3.row.low (Nat.zero_le _))
          have Q3 := Lib.hid hq3
          clear hn3 hq3
          replace G := Lib.hid (G.out.next hb1)
          replace K := Lib.hid (K.out.next hb1)
          replace IR := Lib.hid (IR.out.next hb1)
          replace S := Lib.hid (S.out.next hb1)
          replace R1 := Lib.hid (R1.out.next hb1)
          replace T1 := Lib.hid (T1.out.next hb1)
          replace R2 := Lib.hid (R2.out.next hb1)
          replace T2 := Lib.hid (T2.out.next hb1)
          replace B := Lib.hid (bnext B.out hb1)
          clear hb1
          go_upto_region 20 with fail
          generalize hX8 : World.alloc _ _ = X8
          obtain ⟨t3, hb1⟩ := made42 hX8
          have T3 := Lib.hid t3
          clear hX8 t3
          replace G := Lib.hid (G.out.next hb1)
          replace K := Lib.hid (K.out.next hb1)
          replace IR := Lib.hid (IR.out.next hb1)
          replace S := Lib.hid (S.out.next hb1)
          replace R1 := Lib.hid (R1.out.next hb1)
          replace T1 := Lib.hid (T1.out.next hb1)
          replace R2 := Lib.hid (R2.out.next hb1)
          replace T2 := Lib.hid (T2.out.next hb1)
          replace R3 := Lib.hid (R3.out.next hb1)
          replace B := Lib.hid (bnext B.out hb1)
          clear hb1
          obtain ⟨y0, y1, -⟩ := K.out
          go_wp2_with fail
          refine (refAt_any X8 d0 g.AE g.cE g.es G.out.e id).mono ?_
          rintro e w9 ⟨u3, is3, rfl, hr, hcase, hb1⟩
          have R4 := Lib.hid hr
          have Q4 := Lib.hid (at_same HCE.out Q3.out hcase)
          clear hr hcase y0 y1
          replace G := Lib.hid (G.out.next hb1)
          replace K := Lib.hid (K.out.next hb1)
          replace IR := Lib.hid (IR.out.next hb1)
          replace S := Lib.hid (S.out.next hb1)
          replace R1 := Lib.hid (R1.out.next hb1)
          replace T1 := Lib.hid (T1.out.next hb1)
          replace R2 := Lib.hid (R2.out.next hb1)
          replace T2 := Lib.hid (T2.out.next hb1)
          replace R3 := Lib.hid (R3.out.next hb1)
          replace T3 := Lib.hid (T3.out.next hb1)
          replace B := Lib.hid (bnext B.out hb1)
          clear hb1
          go_upto_region 21 with fail
          generalize hX9 : World.alloc _ _ = X9
          obtain ⟨t4, hb1⟩ := made42 hX9
          have T4 := Lib.hid t4
          clear hX9 t4
          replace G := Lib.hid (G.out.next hb1)
          replace K := Lib.hid (K.out.next hb1)
          replace IR := Lib.hid (IR.out.next hb1)
          replace S := Lib.hid (S.out.next hb1)
          replace R1 := Lib.hid (R1.out.next hb1)
          replace T1 := Lib.hid (T1.out.next hb1)
          replace R2 := Lib.hid (R2.out.next hb1)
          replace T2 := Lib.hid (T2.out.next hb1)
          replace R3 := Lib.hid (R3.out.next hb1)
          replace T3 := Lib.hid (T3.out.next hb1)
          replace R4 := Lib.hid (R4.out.next hb1)
          replace B := Lib.hid (bnext B.out hb1)
          clear hb1
          go_wp2_with fail
          refine (len_any X9 (some ⟨s, 0, none⟩) vs es (.inr ⟨s, rfl, S.out⟩)).mono ?_
          rintro e wa ⟨rfl, hb1⟩
          replace G := Lib.hid (G.out.next hb1)
          replace K := Lib.hid (K.out.next hb1)
          replace IR := Lib.hid (IR.out.next hb1)
          replace S := Lib.hid (S.out.next hb1)
          replace R1 := Lib.hid (R1.out.next hb1)
          replace T1 := Lib.hid (T1.out.next hb1)
          replace R2 := Lib.hid (R2.out.next hb1)
          replace T2 := Lib.hid (T2.out.next hb1)
          replace R3 := Lib.hid (R3.out.next hb1)
          replace T3 := Lib.hid (T3.out.next hb1)
          replace R4 := Lib.hid (R4.out.next hb1)
          replace T4 := Lib.hid (T4.out.next hb1)
          replace B := Lib.hid (bnext B.out hb1)
          clear hb1
          rw [HNV.out, HNE.out]
          go_upto_region 22 with fail
          have KK := K
          have HPV := Lib.hid (pick_tv HVV.out ids)
          have HPE := Lib.hid (pick_tv HEE.out ids)
          have HPN := Lib.hid (pick_tv HVV.out [])
          have lV := Lib.hid (show (pickL g.vs ids).length ≤ 17592186044416 by have := pick_len g.vs ids; have := BGV.out; omega)
          have lE := Lib.hid (show (pickL g.es ids).length ≤ 17592186044416 by have := pick_len g.es ids; have := BGE.out; omega)
          have lN := Lib.hid (show (pickL g.vs []).length ≤ 17592186044416 by have h1 := pick_len g.vs []; have := BGV.out; rw [List.length_nil] at h1; omega)
          have CV := Lib.hid (fun W (hb : Below wa.heap.size wa W) => vertices_any W (some ⟨s, 0, none⟩) vs es (.inr ⟨s, rfl, S.out.next hb⟩) B0 cb ids (IR.out.next hb))
          have CE := Lib.hid (fun W (hb : Below wa.heap.size wa W) => edges_any W (some ⟨s, 0, none⟩) vs es (.inr ⟨s, rfl, S.out.next hb⟩) B0 cb ids (IR.out.next hb))
          have CN : Hid (∀ W, Below wa.heap.size wa W → Calls Try.prog 23 #[.pointer (some ⟨s, 0, none⟩), .slice none 0 0] W (NumPost W (pickL vs []))) := Lib.hid (fun W hb => vertices_any W (some ⟨s, 0, none⟩) vs es (.inr ⟨s, rfl, S.out.next hb⟩) none 0 [] (irow_nil W none 0))
          have RV := Lib.hid (fun W (hb : Below wa.heap.size wa W) => refPick_any W d0 g.AV g.cV g.vs (G.out.next hb).v B0 cb ids (IR.out.next hb))
          have RE := Lib.hid (fun W (hb : Below wa.heap.size wa W) => refPick_any W d0 g.AE g.cE g.es (G.out.next hb).e B0 cb ids (IR.out.next hb))
          have RN : Hid (∀ W, Below wa.heap.size wa W → Calls Try.prog 24 #[.slice g.AV g.vs.length g.cV, .slice none 0 0] W (NumPost W (pickL g.vs []))) := Lib.hid (fun W hb => refPick_any W d0 g.AV g.cV g.vs (G.out.next hb).v none 0 [] (irow_nil W none 0))
          rw [HPV.out] at CV
          rw [HPE.out] at CE
          rw [HPN.out] at CN
          generalize pickL g.vs ids = PV at CV RV lV
          generalize pickL g.es ids = PE at CE RE lE
          generalize pickL g.vs [] = PN at CN RN lN
          clear HPV HPE HPN
          refine region_phase_all [0, 1, 2, 3, 4, 5, 6, 7, 8, 9, 10, 11, 12, 13, 14, 15, 16, 17, 18, 19, 20, 21, 22, 23, 24, 25, 26] p22D p22E (fun w' => Below wa.heap.size wa w') (saidOf [Is (.pointer (some ⟨s, 0, none⟩)), Is (.slice B0 ids.length cb), IsN PV, Is (.pointer (some ⟨w.heap.size, 0, none⟩)), Is (.slice g.AV g.vs.length g.cV), Is (.slice B0 ids.length cb), IsN PV, Is (.bool true), Is (.bool true), Is (.pointer (some ⟨s, 0, none⟩)), Is (.slice B0 ids.length cb), IsN PE, Is (.pointer (some ⟨w.heap.size, 1, none⟩)), Is (.slice g.AE g.es.length g.cE), Is (.slice B0 ids.length cb), IsN PE, Is (.bool true), Is (.bool true), Is (.bool true), Is (.pointer (some ⟨s, 0, none⟩)), IsN PN, Is (.pointer (some ⟨w.heap.size, 0, none⟩)), Is (.slice g.AV g.vs.length g.cV), IsN PN, Is (.bool true), Is (.bool true), Is (.bool true)]) 178 rfl (by kernel_rfl) (by kernel_rfl) (by kernel_rfl) (fun _ _ h hb => bnext h hb) (stays_said _ (stays_cons (Is.stays _) (stays_cons (Is.stays _) (stays_cons (IsN.stays _) (stays_cons (Is.stays _) (stays_cons (Is.stays _) (stays_cons (Is.stays _) (stays_cons (IsN.stays _) (stays_cons (Is.stays _) (stays_cons (Is.stays _) (stays_cons (Is.stays _) (stays_cons (Is.stays _) (stays_cons (IsN.stays _) (stays_cons (Is.stays _) (stays_cons (Is.stays _) (stays_cons (Is.stays _) (stays_cons (IsN.stays _) (stays_cons (Is.stays _) (stays_cons (Is.stays _) (stays_cons (Is.stays _) (stays_cons (Is.stays _) (stays_cons (IsN.stays _) (stays_cons (Is.stays _) (stays_cons (Is.stays _) (stays_cons (IsN.stays _) (stays_cons (Is.stays _) (stays_cons (Is.stays _) (stays_cons (Is.stays _) stays_nil)))))))))))))))))))))))))))) (below_drewN _ _ 1) (by kernel_rfl) ?_ ?_
          · skip
            refine owes_cons (Owes.mk (o := ({ dst := some 114, op := .move (.tmp 8), type := 29, pos := "law.go:86", after := #[], guard := none } : Oper)) rfl (fun v wk hj hD K hK => ?_)) ?_
            · simp only [p22D, p22E, putAll, Act.put, List.getD_cons_zero, List.setIfInBounds_toArray, List.set_cons_zero, List.set_cons_succ] at hK ⊢
              go_simp
              exact hK.out _ _ (Below.refl _ _) rfl
            refine owes_cons (Owes.mk (o := ({ dst := some 115, op := .move (.tmp 1), type := 34, pos := "law.go:86", after := #[], guard := none } : Oper)) rfl (fun v wk hj hD K hK => ?_)) ?_
            · simp only [p22D, p22E, putAll, Act.put, List.getD_cons_succ, List.getD_cons_zero, List.setIfInBounds_toArray, List.set_cons_zero, List.set_cons_succ] at hK ⊢
              go_simp
              exact hK.out _ _ (Below.refl _ _) rfl
            refine owes_cons (Owes.mk (o := ({ dst := some 116, op := .call { callee := .value (.func 23), args := #[.tmp 114, .tmp 115], argTypes := #[29, 34] }, type := 34, pos := "law.go:86", after := #[{ on := 0, ground := .data }, { on := 1, ground := .data }], guard := none } : Oper)) rfl (fun v wk hj hD K hK => ?_)) ?_
            · have h0 : v 0 = (.pointer (some ⟨s, 0, none⟩)) := hD 0 (by decide)
              have h1 : v 1 = (.slice B0 ids.length cb) := hD 1 (by decide)
              simp only [p22D, p22E, putAll, Act.put, List.getD_cons_succ, List.getD_cons_zero, List.setIfInBounds_toArray, List.set_cons_zero, List.set_cons_succ, h0, h1] at hK ⊢
              go_simp
              refine (CV.out _ hj).mono ?_
              rintro e w2 ⟨A, c, rfl, ho, hb⟩
              exact hK.out _ _ hb ⟨_, _, rfl, ho.row lV.out⟩
            refine owes_cons (Owes.mk (o := ({ dst := some 117, op := .fieldAddr 24 (.tmp 3) 0, type := 0, pos := "law.go:86", after := #[], guard := none } : Oper)) rfl (fun v wk hj hD K hK => ?_)) ?_
            · simp only [p22D, p22E, putAll, Act.put, List.getD_cons_succ, List.getD_cons_zero, List.setIfInBounds_toArray, List.set_cons_zero, List.set_cons_succ] at hK ⊢
              go_simp
              exact hK.out _ _ (Below.refl _ _) rfl
            refine owes_cons (Owes.mk (o := ({ dst := some 118, op := .load 22 (.tmp 117), type := 22, pos := "law.go:86", after := #[{ on := 3, ground := .data }], guard := none } : Oper)) rfl (fun v wk hj hD K hK => ?_)) ?_
            · have h3 : v 3 = (.pointer (some ⟨w.heap.size, 0, none⟩)) := hD 3 (by decide)
              simp only [p22D, p22E, putAll, Act.put, List.getD_cons_succ, List.getD_cons_zero, List.setIfInBounds_toArray, List.set_cons_zero, List.set_cons_succ, h3] at hK ⊢
              obtain ⟨y0, y1, -⟩ := KK.out.next hj
              go_simp
              exact hK.out _ _ (Below.refl _ _) rfl
            refine owes_cons (Owes.mk (o := ({ dst := some 119, op := .move (.tmp 1), type := 34, pos := "law.go:86", after := #[], guard := none } : Oper)) rfl (fun v wk hj hD K hK => ?_)) ?_
            · simp only [p22D, p22E, putAll, Act.put, List.getD_cons_succ, List.getD_cons_zero, List.setIfInBounds_toArray, List.set_cons_zero, List.set_cons_succ] at hK ⊢
              go_simp
              exact hK.out _ _ (Below.refl _ _) rfl
            refine owes_cons (Owes.mk (o := ({ dst := some 120, op := .call { callee := .value (.func 24), args := #[.tmp 118, .tmp 119], argTypes := #[22, 34] }, type := 34, pos := "law.go:86", after := #[{ on := 4, ground := .data }, { on := 5, ground := .data }, { on := 2, ground := .chain }], guard := none } : Oper)) rfl (fun v wk hj hD K hK => ?_)) ?_
            · have h4 : v 4 = (.slice g.AV g.vs.length g.cV) := hD 4 (by decide)
              have h5 : v 5 = (.slice B0 ids.length cb) := hD 5 (by decide)
              simp only [p22D, p22E, putAll, Act.put, List.getD_cons_succ, List.getD_cons_zero, List.setIfInBounds_toArray, List.set_cons_zero, List.set_cons_succ, h4, h5] at hK ⊢
              go_simp
              refine (RV.out _ hj).mono ?_
              rintro e w2 ⟨A, c, rfl, ho, hb⟩
              exact hK.out _ _ hb ⟨_, _, rfl, ho.row lV.out⟩
            refine owes_cons (Owes.mk (o := ({ dst := some 121, op := .call { callee := .value (.func 18), args := #[.tmp 116, .tmp 120], argTypes := #[34, 34] }, type := 4, pos := "law.go:86", after := #[{ on := 2, ground := .data }, { on := 6, ground := .data }, { on := 6, ground := .chain }], guard := none } : Oper)) rfl (fun v wk hj hD K hK => ?_)) ?_
            · obtain ⟨A2, c2, h2, r2⟩ : ∃ A c, v 2 = .slice A PV.length c ∧ IRow wk A c PV := hD 2 (by decide)
              obtain ⟨A6, c6, h6, r6⟩ : ∃ A c, v 6 = .slice A PV.length c ∧ IRow wk A c PV := hD 6 (by decide)
              simp only [p22D, p22E, putAll, Act.put, List.getD_cons_succ, List.getD_cons_zero, List.setIfInBounds_toArray, List.set_cons_zero, List.set_cons_succ, h2, h6] at hK ⊢
              go_simp
              refine (sameInts_any _ _ _ _ _ _ _ r2 r6).mono ?_
              rintro e w2 ⟨rfl, hb⟩
              exact hK.out _ _ hb (by simp [saidOf, Is])
            refine owes_cons (Owes.mk (o := ({ dst := some 122, op := .move (.tmp 121), type := 4, pos := "law.go:86", after := #[{ on := 7, ground := .data }, { on := 7, ground := .chain }], guard := none } : Oper)) rfl (fun v wk hj hD K hK => ?_)) ?_
            · have h7 : v 7 = (.bool true) := hD 7 (by decide)
              simp only [p22D, p22E, putAll, Act.put, List.getD_cons_succ, List.getD_cons_zero, List.setIfInBounds_toArray, List.set_cons_zero, List.set_cons_succ, h7] at hK ⊢
              go_simp
              exact hK.out _ _ (Below.refl _ _) rfl
            refine owes_cons (Owes.mk (o := ({ dst := some 123, op := .move (.tmp 8), type := 29, pos := "law.go:86", after := #[{ on := 8, ground := .guard }], guard := some (8, true) } : Oper)) rfl (fun v wk hj hD K hK => ?_)) ?_
            · have h8 : v 8 = (.bool true) := hD 8 (by decide)
              simp only [p22D, p22E, putAll, Act.put, List.getD_cons_succ, List.getD_cons_zero, List.setIfInBounds_toArray, List.set_cons_zero, List.set_cons_succ, h8] at hK ⊢
              go_simp
              exact hK.out _ _ (Below.refl _ _) rfl
            refine owes_cons (Owes.mk (o := ({ dst := some 124, op := .move (.tmp 1), type := 34, pos := "law.go:86", after := #[{ on := 8, ground := .guard }], guard := some (8, true) } : Oper)) rfl (fun v wk hj hD K hK => ?_)) ?_
            · have h8 : v 8 = (.bool true) := hD 8 (by decide)
              simp only [p22D, p22E, putAll, Act.put, List.getD_cons_succ, List.getD_cons_zero, List.setIfInBounds_toArray, List.set_cons_zero, List.set_cons_succ, h8] at hK ⊢
              go_simp
              exact hK.out _ _ (Below.refl _ _) rfl
            refine owes_cons (Owes.mk (o := ({ dst := some 125, op := .call { callee := .value (.func 25), args := #[.tmp 123, .tmp 124], argTypes := #[29, 34] }, type := 34, pos := "law.go:86", after := #[{ on := 9, ground := .data }, { on := 10, ground := .data }, { on := 8, ground := .chain }, { on := 8, ground := .guard }], guard := some (8, true) } : Oper)) rfl (fun v wk hj hD K hK => ?_)) ?_
            · have h8 : v 8 = (.bool true) := hD 8 (by decide)
              have h9 : v 9 = (.pointer (some ⟨s, 0, none⟩)) := hD 9 (by decide)
              have h10 : v 10 = (.slice B0 ids.length cb) := hD 10 (by decide)
              simp only [p22D, p22E, putAll, Act.put, List.getD_cons_succ, List.getD_cons_zero, List.setIfInBounds_toArray, List.set_cons_zero, List.set_cons_succ, h8, h9, h10] at hK ⊢
              go_simp
              refine (CE.out _ hj).mono ?_
              rintro e w2 ⟨A, c, rfl, ho, hb⟩
              exact hK.out _ _ hb ⟨_, _, rfl, ho.row lE.out⟩
            refine owes_cons (Owes.mk (o := ({ dst := some 126, op := .fieldAddr 24 (.tmp 3) 1, type := 0, pos := "law.go:86", after := #[{ on := 8, ground := .guard }], guard := some (8, true) } : Oper)) rfl (fun v wk hj hD K hK => ?_)) ?_
            · have h8 : v 8 = (.bool true) := hD 8 (by decide)
              simp only [p22D, p22E, putAll, Act.put, List.getD_cons_succ, List.getD_cons_zero, List.setIfInBounds_toArray, List.set_cons_zero, List.set_cons_succ, h8] at hK ⊢
              go_simp
              exact hK.out _ _ (Below.refl _ _) rfl
            refine owes_cons (Owes.mk (o := ({ dst := some 127, op := .load 22 (.tmp 126), type := 22, pos := "law.go:86", after := #[{ on := 12, ground := .data }, { on := 8, ground := .guard }], guard := some (8, true) } : Oper)) rfl (fun v wk hj hD K hK => ?_)) ?_
            · have h8 : v 8 = (.bool true) := hD 8 (by decide)
              have h12 : v 12 = (.pointer (some ⟨w.heap.size, 1, none⟩)) := hD 12 (by decide)
              simp only [p22D, p22E, putAll, Act.put, List.getD_cons_succ, List.getD_cons_zero, List.setIfInBounds_toArray, List.set_cons_zero, List.set_cons_succ, h8, h12] at hK ⊢
              obtain ⟨y0, y1, -⟩ := KK.out.next hj
              go_simp
              exact hK.out _ _ (Below.refl _ _) rfl
            refine owes_cons (Owes.mk (o := ({ dst := some 128, op := .move (.tmp 1), type := 34, pos := "law.go:86", after := #[{ on := 8, ground := .guard }], guard := some (8, true) } : Oper)) rfl (fun v wk hj hD K hK => ?_)) ?_
            · have h8 : v 8 = (.bool true) := hD 8 (by decide)
              simp only [p22D, p22E, putAll, Act.put, List.getD_cons_succ, List.getD_cons_zero, List.setIfInBounds_toArray, List.set_cons_zero, List.set_cons_succ, h8] at hK ⊢
              go_simp
              exact hK.out _ _ (Below.refl _ _) rfl
            refine owes_cons (Owes.mk (o := ({ dst := some 129, op := .call { callee := .value (.func 24), args := #[.tmp 127, .tmp 128], argTypes := #[22, 34] }, type := 34, pos := "law.go:86", after := #[{ on := 13, ground := .data }, { on := 14, ground := .data }, { on := 11, ground := .chain }, { on := 8, ground := .guard }], guard := some (8, true) } : Oper)) rfl (fun v wk hj hD K hK => ?_)) ?_
            · have h8 : v 8 = (.bool true) := hD 8 (by decide)
              have h13 : v 13 = (.slice g.AE g.es.length g.cE) := hD 13 (by decide)
              have h14 : v 14 = (.slice B0 ids.length cb) := hD 14 (by decide)
              simp only [p22D, p22E, putAll, Act.put, List.getD_cons_succ, List.getD_cons_zero, List.setIfInBounds_toArray, List.set_cons_zero, List.set_cons_succ, h8, h13, h14] at hK ⊢
              go_simp
              refine (RE.out _ hj).mono ?_
              rintro e w2 ⟨A, c, rfl, ho, hb⟩
              exact hK.out _ _ hb ⟨_, _, rfl, ho.row lE.out⟩
            refine owes_cons (Owes.mk (o := ({ dst := some 130, op := .call { callee := .value (.func 18), args := #[.tmp 125, .tmp 129], argTypes := #[34, 34] }, type := 4, pos := "law.go:86", after := #[{ on := 11, ground := .data }, { on := 15, ground := .data }, { on := 15, ground := .chain }, { on := 8, ground := .guard }], guard := some (8, true) } : Oper)) rfl (fun v wk hj hD K hK => ?_)) ?_
            · have h8 : v 8 = (.bool true) := hD 8 (by decide)
              obtain ⟨A11, c11, h11, r11⟩ : ∃ A c, v 11 = .slice A PE.length c ∧ IRow wk A c PE := hD 11 (by decide)
              obtain ⟨A15, c15, h15, r15⟩ : ∃ A c, v 15 = .slice A PE.length c ∧ IRow wk A c PE := hD 15 (by decide)
              simp only [p22D, p22E, putAll, Act.put, List.getD_cons_succ, List.getD_cons_zero, List.setIfInBounds_toArray, List.set_cons_zero, List.set_cons_succ, h8, h11, h15] at hK ⊢
              go_simp
              refine (sameInts_any _ _ _ _ _ _ _ r11 r15).mono ?_
              rintro e w2 ⟨rfl, hb⟩
              exact hK.out _ _ hb (by simp [saidOf, Is])
            refine owes_cons (Owes.mk (o := ({ dst := some 131, op := .pick (.tmp 122) (.tmp 130) (.const (.bool false)), type := 4, pos := "law.go:86", after := #[{ on := 8, ground := .data }, { on := 16, ground := .data }], guard := none } : Oper)) rfl (fun v wk hj hD K hK => ?_)) ?_
            · have h8 : v 8 = (.bool true) := hD 8 (by decide)
              have h16 : v 16 = (.bool true) := hD 16 (by decide)
              simp only [p22D, p22E, putAll, Act.put, List.getD_cons_succ, List.getD_cons_zero, List.setIfInBounds_toArray, List.set_cons_zero, List.set_cons_succ, h8, h16] at hK ⊢
              go_simp
              exact hK.out _ _ (Below.refl _ _) rfl
            refine owes_cons (Owes.mk (o := ({ dst := some 132, op := .move (.tmp 131), type := 4, pos := "law.go:86", after := #[{ on := 17, ground := .data }, { on := 16, ground := .chain }], guard := none } : Oper)) rfl (fun v wk hj hD K hK => ?_)) ?_
            · have h17 : v 17 = (.bool true) := hD 17 (by decide)
              simp only [p22D, p22E, putAll, Act.put, List.getD_cons_succ, List.getD_cons_zero, List.setIfInBounds_toArray, List.set_cons_zero, List.set_cons_succ, h17] at hK ⊢
              go_simp
              exact hK.out _ _ (Below.refl _ _) rfl
            refine owes_cons (Owes.mk (o := ({ dst := some 133, op := .move (.tmp 8), type := 29, pos := "law.go:86", after := #[{ on := 18, ground := .guard }], guard := some (18, true) } : Oper)) rfl (fun v wk hj hD K hK => ?_)) ?_
            · have h18 : v 18 = (.bool true) := hD 18 (by decide)
              simp only [p22D, p22E, putAll, Act.put, List.getD_cons_succ, List.getD_cons_zero, List.setIfInBounds_toArray, List.set_cons_zero, List.set_cons_succ, h18] at hK ⊢
              go_simp
              exact hK.out _ _ (Below.refl _ _) rfl
            refine owes_cons (Owes.mk (o := ({ dst := some 134, op := .call { callee := .value (.func 23), args := #[.tmp 133, .const (.slice none 0 0)], argTypes := #[29, 34] }, type := 34, pos := "law.go:86", after := #[{ on := 19, ground := .data }, { on := 18, ground := .chain }, { on := 18, ground := .guard }], guard := some (18, true) } : Oper)) rfl (fun v wk hj hD K hK => ?_)) ?_
            · have h18 : v 18 = (.bool true) := hD 18 (by decide)
              have h19 : v 19 = (.pointer (some ⟨s, 0, none⟩)) := hD 19 (by decide)
              simp only [p22D, p22E, putAll, Act.put, List.getD_cons_succ, List.getD_cons_zero, List.setIfInBounds_toArray, List.set_cons_zero, List.set_cons_succ, h18, h19] at hK ⊢
              go_simp
              refine (CN.out _ hj).mono ?_
              rintro e w2 ⟨A, c, rfl, ho, hb⟩
              exact hK.out _ _ hb ⟨_, _, rfl, ho.row lN.out⟩
            refine owes_cons (Owes.mk (o := ({ dst := some 135, op := .fieldAddr 24 (.tmp 3) 0, type := 0, pos := "law.go:86", after := #[{ on := 18, ground := .guard }], guard := some (18, true) } : Oper)) rfl (fun v wk hj hD K hK => ?_)) ?_
            · have h18 : v 18 = (.bool true) := hD 18 (by decide)
              simp only [p22D, p22E, putAll, Act.put, List.getD_cons_succ, List.getD_cons_zero, List.setIfInBounds_toArray, List.set_cons_zero, List.set_cons_succ, h18] at hK ⊢
              go_simp
              exact hK.out _ _ (Below.refl _ _) rfl
            refine owes_cons (Owes.mk (o := ({ dst := some 136, op := .load 22 (.tmp 135), type := 22, pos := "law.go:86", after := #[{ on := 21, ground := .data }, { on := 18, ground := .guard }], guard := some (18, true) } : Oper)) rfl (fun v wk hj hD K hK => ?_)) ?_
            · have h18 : v 18 = (.bool true) := hD 18 (by decide)
              have h21 : v 21 = (.pointer (some ⟨w.heap.size, 0, none⟩)) := hD 21 (by decide)
              simp only [p22D, p22E, putAll, Act.put, List.getD_cons_succ, List.getD_cons_zero, List.setIfInBounds_toArray, List.set_cons_zero, List.set_cons_succ, h18, h21] at hK ⊢
              obtain ⟨y0, y1, -⟩ := KK.out.next hj
              go_simp
              exact hK.out _ _ (Below.refl _ _) rfl
            refine owes_cons (Owes.mk (o := ({ dst := some 137, op := .call { callee := .value (.func 24), args := #[.tmp 136, .const (.slice none 0 0)], argTypes := #[22, 34] }, type := 34, pos := "law.go:86", after := #[{ on := 22, ground := .data }, { on := 20, ground := .chain }, { on := 18, ground := .guard }], guard := some (18, true) } : Oper)) rfl (fun v wk hj hD K hK => ?_)) ?_
            · have h18 : v 18 = (.bool true) := hD 18 (by decide)
              have h22 : v 22 = (.slice g.AV g.vs.length g.cV) := hD 22 (by decide)
              simp only [p22D, p22E, putAll, Act.put, List.getD_cons_succ, List.getD_cons_zero, List.setIfInBounds_toArray, List.set_cons_zero, List.set_cons_succ, h18, h22] at hK ⊢
              go_simp
              refine (RN.out _ hj).mono ?_
              rintro e w2 ⟨A, c, rfl, ho, hb⟩
              exact hK.out _ _ hb ⟨_, _, rfl, ho.row lN.out⟩
            refine owes_cons (Owes.mk (o := ({ dst := some 138, op := .call { callee := .value (.func 18), args := #[.tmp 134, .tmp 137], argTypes := #[34, 34] }, type := 4, pos := "law.go:86", after := #[{ on := 20, ground := .data }, { on := 23, ground := .data }, { on := 23, ground := .chain }, { on := 18, ground := .guard }], guard := some (18, true) } : Oper)) rfl (fun v wk hj hD K hK => ?_)) ?_
            · have h18 : v 18 = (.bool true) := hD 18 (by decide)
              obtain ⟨A20, c20, h20, r20⟩ : ∃ A c, v 20 = .slice A PN.length c ∧ IRow wk A c PN := hD 20 (by decide)
              obtain ⟨A23, c23, h23, r23⟩ : ∃ A c, v 23 = .slice A PN.length c ∧ IRow wk A c PN := hD 23 (by decide)
              simp only [p22D, p22E, putAll, Act.put, List.getD_cons_succ, List.getD_cons_zero, List.setIfInBounds_toArray, List.set_cons_zero, List.set_cons_succ, h18, h20, h23] at hK ⊢
              go_simp
              refine (sameInts_any _ _ _ _ _ _ _ r20 r23).mono ?_
              rintro e w2 ⟨rfl, hb⟩
              exact hK.out _ _ hb (by simp [saidOf, Is])
            refine owes_cons (Owes.mk (o := ({ dst := some 139, op := .pick (.tmp 132) (.tmp 138) (.const (.bool false)), type := 4, pos := "law.go:86", after := #[{ on := 18, ground := .data }, { on := 24, ground := .data }], guard := none } : Oper)) rfl (fun v wk hj hD K hK => ?_)) ?_
            · have h18 : v 18 = (.bool true) := hD 18 (by decide)
              have h24 : v 24 = (.bool true) := hD 24 (by decide)
              simp only [p22D, p22E, putAll, Act.put, List.getD_cons_succ, List.getD_cons_zero, List.setIfInBounds_toArray, List.set_cons_zero, List.set_cons_succ, h18, h24] at hK ⊢
              go_simp
              exact hK.out _ _ (Below.refl _ _) rfl
            refine owes_cons (Owes.mk (o := ({ dst := some 22, op := .assign (.tmp 139), type := 4, pos := "law.go:86", after := #[{ on := 25, ground := .data }, { on := 24, ground := .chain }, { on := 0, ground := .phase }, { on := 1, ground := .phase }, { on := 2, ground := .phase }, { on := 3, ground := .phase }, { on := 4, ground := .phase }, { on := 5, ground := .phase }, { on := 6, ground := .phase }, { on := 7, ground := .phase }, { on := 8, ground := .phase }, { on := 9, ground := .phase }, { on := 10, ground := .phase }, { on := 11, ground := .phase }, { on := 12, ground := .phase }, { on := 13, ground := .phase }, { on := 14, ground := .phase }, { on := 15, ground := .phase }, { on := 16, ground := .phase }, { on := 17, ground := .phase }, { on := 18, ground := .phase }, { on := 19, ground := .phase }, { on := 20, ground := .phase }, { on := 21, ground := .phase }, { on := 22, ground := .phase }, { on := 23, ground := .phase }, { on := 24, ground := .phase }, { on := 25, ground := .phase }], guard := none } : Oper)) rfl (fun v wk hj hD K hK => ?_)) ?_
            · have h25 : v 25 = (.bool true) := hD 25 (by decide)
              simp only [p22D, p22E, putAll, Act.put, List.getD_cons_succ, List.getD_cons_zero, List.setIfInBounds_toArray, List.set_cons_zero, List.set_cons_succ, h25] at hK ⊢
              go_simp
              exact hK.out _ _ (Below.refl _ _) rfl
            exact owes_nil
          intro v wf hb1 hr
          have h26 : v 26 = .bool true := hr 26 (by decide)
          simp only [p22D, putAll, Act.put, List.getD_cons_succ, List.getD_cons_zero, List.setIfInBounds_toArray, List.set_cons_zero, List.set_cons_succ, h26]
          clear h26 hr CV CE CN RV RE RN lV lE lN KK
          replace G := Lib.hid (G.out.next hb1)
          replace K := Lib.hid (K.out.next hb1)
          replace IR := Lib.hid (IR.out.next hb1)
          replace S := Lib.hid (S.out.next hb1)
          replace R1 := Lib.hid (R1.out.next hb1)
          replace T1 := Lib.hid (T1.out.next hb1)
          replace R2 := Lib.hid (R2.out.next hb1)
          replace T2 := Lib.hid (T2.out.next hb1)
          replace R3 := Lib.hid (R3.out.next hb1)
          replace T3 := Lib.hid (T3.out.next hb1)
          replace R4 := Lib.hid (R4.out.next hb1)
          replace T4 := Lib.hid (T4.out.next hb1)
          replace B := Lib.hid (bnext B.out hb1)
          clear hb1
          obtain ⟨y0, y1, -⟩ := K.out
          obtain ⟨a0, a1, a2, a3, a4, -⟩ := T1.out
          obtain ⟨b0, b1, b2, b3, b4, -⟩ := T2.out
          have e1 : ((atV vs id).2 == is1) = true := by rw [Q2.out.2]; simp
          have e3 : ((atV es id).2 == is3) = true := by rw [Q4.out.2]; simp
          generalize (atV vs id).2 = ok1 at e1 ⊢
          generalize (atV es id).2 = ok3 at e3 ⊢
          go_wp2_with fail
          refine (sameThing_any wf (max d0 13) q1 u1 (R1.out.up (by omega)) (R2.out.up (by omega))).mono ?_
          rintro e wg ⟨rfl, hb1⟩
          rw [Q2.out.1]
          clear y0 y1 a0 a1 a2 a3 a4 b0 b1 b2 b3 b4
          replace G := Lib.hid (G.out.next hb1)
          replace K := Lib.hid (K.out.next hb1)
          replace IR := Lib.hid (IR.out.next hb1)
          replace S := Lib.hid (S.out.next hb1)
          replace R1 := Lib.hid (R1.out.next hb1)
          replace T1 := Lib.hid (T1.out.next hb1)
          replace R2 := Lib.hid (R2.out.next hb1)
          replace T2 := Lib.hid (T2.out.next hb1)
          replace R3 := Lib.hid (R3.out.next hb1)
          replace T3 := Lib.hid (T3.out.next hb1)
          replace R4 := Lib.hid (R4.out.next hb1)
          replace T4 := Lib.hid (T4.out.next hb1)
          replace B := Lib.hid (bnext B.out hb1)
          clear hb1
          obtain ⟨y0, y1, -⟩ := K.out
          obtain ⟨a0, a1, a2, a3, a4, -⟩ := T3.out
          obtain ⟨b0, b1, b2, b3, b4, -⟩ := T4.out
          go_wp2_with fail
          refine (sameThing_any wg (max d0 13) q3 u3 (R3.out.up (by omega)) (R4.out.up (by omega))).mono ?_
          rintro e wh ⟨rfl, hb1⟩
          rw [Q4.out.1]
          clear y0 y1 a0 a1 a2 a3 a4 b0 b1 b2 b3 b4
          replace G := Lib.hid (G.out.next hb1)
          replace K := Lib.hid (K.out.next hb1)
          replace IR := Lib.hid (IR.out.next hb1)
          replace S := Lib.hid (S.out.next hb1)
          replace R1 := Lib.hid (R1.out.next hb1)
          replace T1 := Lib.hid (T1.out.next hb1)
          replace R2 := Lib.hid (R2.out.next hb1)
          replace T2 := Lib.hid (T2.out.next hb1)
          replace R3 := Lib.hid (R3.out.next hb1)
          replace T3 := Lib.hid (T3.out.next hb1)
          replace R4 := Lib.hid (R4.out.next hb1)
          replace T4 := Lib.hid (T4.out.next hb1)
          replace B := Lib.hid (bnext B.out hb1)
          clear hb1
          obtain ⟨y0, y1, -⟩ := K.out
          go_wp2_with fail
          refine (known_any wh).mono ?_
          rintro e wk ⟨rfl, hbk⟩
          replace B := Lib.hid (bnext B.out hbk)
          clear hbk
          go_wp2
          go_ret
          exact ⟨rfl, B.out⟩
end Go.Proofs.Ytebkkjfeikpfgaa
