/- StoreBoth: the walk. -/
import Derived.Test.YtebkkjfeikpfgaaTF
import Derived.Test.YtebkkjfeikpfgaaTD
import Derived.IntWalk
namespace Go.Proofs.Ytebkkjfeikpfgaa
open Go.RowKit Go.Sort
set_option maxRecDepth 100000
attribute [local go_sem ↓] Go.wp_at_zero Go.wp_at_succ

theorem sum_next {vs : List TA} {k : Nat} {t : TA} (h : vs[k]? = some t) (f : Int → Nat) : sumN f ((vs.take (k + 1)).map fun t => t.id) = sumN f ((vs.take k).map fun t => t.id) + f t.id := by
  rw [take_map (fun t : TA => t.id) vs k h, sumN_app]; simp [sumN]
set_option maxHeartbeats 32000000 in
theorem both_law (w : World) (d0 : Nat) (g : GA) (hg : g.In w d0) (hsm : g.Sm) : Calls Try.prog 5 #[g.v] w fun e w' => e = .returned (.bool true) ∧ Below w.heap.size w w' := by
  have G0 := Lib.hid hg
  have HSM := Lib.hid hsm
  clear hg hsm
  go_enter Try.func5, Try.ntmps5
  go_upto_region 1 with fail
  obtain ⟨W0, hW0⟩ : ∃ W0, W0 = w.alloc (.cells #[.slice g.AV g.vs.length g.cV, .slice g.AE g.es.length g.cE] 24) := ⟨_, rfl⟩
  have k0 := box24 w (.slice g.AV g.vs.length g.cV) (.slice g.AE g.es.length g.cE) W0 hW0.symm
  rw [← hW0]
  clear hW0
  have B := Lib.hid k0.2.2.1
  have K := Lib.hid (show K24 W0 w.heap.size (.slice g.AV g.vs.length g.cV) (.slice g.AE g.es.length g.cE) from ⟨k0.1, k0.2.1, by have := k0.2.2.2; omega⟩)
  clear k0
  have G := Lib.hid (G0.out.next B.out)
  clear G0
  obtain ⟨y0, y1, -⟩ := K.out
  go_wp2_with fail
  refine (much_any W0 d0 g G.out).mono ?_
  rintro e W1 ⟨mb, rfl, hb1⟩
  clear y0 y1
  replace G := Lib.hid (G.out.next hb1)
  replace K := Lib.hid (K.out.next hb1)
  replace B := Lib.hid (bnext B.out hb1)
  clear hb1
  cases mb
  case true =>
    go_wp2_with fail
    refine (known_any W1).mono ?_
    rintro e wk ⟨rfl, hbk⟩
    replace B := Lib.hid (bnext B.out hbk)
    clear hbk
    go_wp2
    go_ret
    exact ⟨rfl, B.out⟩
  obtain ⟨y0, y1, -⟩ := K.out
  go_wp2_with fail
  refine (refCheck_any W1 d0 g G.out HSM.out).mono ?_
  rintro e W2 ⟨rfl, hb1⟩
  clear y0 y1
  replace G := Lib.hid (G.out.next hb1)
  replace K := Lib.hid (K.out.next hb1)
  replace B := Lib.hid (bnext B.out hb1)
  clear hb1
  rcases errG_or g.vs g.es with ⟨hok, he⟩ | he
  case inr =>
    rw [he]
    clear he
    go_wp2_with fail
    refine (known_any W2).mono ?_
    rintro e wk ⟨rfl, hbk⟩
    replace B := Lib.hid (bnext B.out hbk)
    clear hbk
    go_wp2
    go_ret
    exact ⟨rfl, B.out⟩
  rw [he]
  have HOK := Lib.hid hok
  clear he hok
  obtain ⟨y0, y1, -⟩ := K.out
  go_wp2_with fail
  refine (new_any W2 d0 g G.out).mono ?_
  rintro e W3 ⟨hb1, ⟨he, -⟩ | ⟨-, s1, vs1, es1, rfl, hs1, -, ee1⟩⟩
  · exact absurd ((okG_errG HOK.out).symm.trans he) (by decide)
  have EE1 := Lib.hid ee1
  clear ee1 y0 y1
  replace G := Lib.hid (G.out.next hb1)
  replace K := Lib.hid (K.out.next hb1)
  replace B := Lib.hid (bnext B.out hb1)
  clear hb1
  have S1 := Lib.hid hs1
  clear hs1
  have OKV : Hid (okGV (g.vs.map TA.tv') (g.es.map TA.tv') = true) := Lib.hid (by rw [← okG_tv]; exact HOK.out)
  have FW := Lib.hid S1.out.few
  rw [EE1.out] at FW
  have A1 := Lib.hid (fun (W : World) (hW : Sto W s1 vs1 es1) (v way : Int) (hv : WfI v) (hw : WfI way) => around_any W (some ⟨s1, 0, none⟩) vs1 es1 (.inr ⟨s1, rfl, hW⟩) v way hv hw none 0 [] (lrow_nil _ _ _) (by simp))
  have C1 := Lib.hid (fun (W : World) (hW : Sto W s1 vs1 es1) (v way : Int) (hv : WfI v) (hw : WfI way) => next_any W (some ⟨s1, 0, none⟩) vs1 es1 (.inr ⟨s1, rfl, hW⟩) v way hv hw none 0 [] (lrow_nil _ _ _) (by simp))
  simp only [EE1.out, seen_base] at A1 C1
  have DA := Lib.hid (deg_all OKV.out)
  rw [List.map_map, List.length_map] at DA
  have RE := Lib.hid (okTVs_parts (okGV_parts OKV.out).2.2.1).2.2
  have VL : Hid (g.vs.length ≤ 500) := Lib.hid (by have := (okTVs_parts (okGV_parts OKV.out).1).1; rwa [List.length_map] at this)
  have EL : Hid (g.es.length ≤ 2000) := Lib.hid (by have := (okTVs_parts (okGV_parts OKV.out).2.2.1).1; rwa [List.length_map] at this)
  have ME : Hid (∀ t ∈ g.es, t.tv' ∈ g.es.map TA.tv') := Lib.hid (fun t ht => List.mem_map_of_mem ht)
  clear EE1 OKV HOK
  generalize g.es.map TA.tv' = E at FW A1 C1 DA RE ME
  have D3 := Lib.hid (fun (W : World) (hW : Sto W s1 vs1 es1) (v : Int) (hv : WfI v) => A1.out W hW v 3 hv (by decide))
  have C3 := Lib.hid (fun (W : World) (hW : Sto W s1 vs1 es1) (v : Int) (hv : WfI v) => C1.out W hW v 3 hv (by decide))
  have D1 := Lib.hid (fun (W : World) (hW : Sto W s1 vs1 es1) (v : Int) (hv : WfI v) => A1.out W hW v 1 hv (by decide))
  have D2 := Lib.hid (fun (W : World) (hW : Sto W s1 vs1 es1) (v : Int) (hv : WfI v) => A1.out W hW v 2 hv (by decide))
  simp only [base_3] at D3 C3
  simp only [base_1] at D1
  simp only [base_2] at D2
  clear A1 C1
  have DL := Lib.hid (fun v : Int => show deg E v ≤ 2199023255552 by rw [← deg_e, List.length_map, List.length_append]; have := FW.out.len v 1; have := FW.out.len v 2; omega)
  obtain ⟨nv, hnv⟩ : ∃ nv, nv = g.vs.length := ⟨_, rfl⟩
  obtain ⟨ne, hne⟩ : ∃ ne, ne = g.es.length := ⟨_, rfl⟩
  have NV := Lib.hid hnv
  have NE := Lib.hid hne
  have vl : nv ≤ 500 := by have := VL.out; omega
  have el : ne ≤ 2000 := by have := EL.out; omega
  clear hnv hne
  go_wp2_with fail
  go_loopw [5, 6] (fun sm i wr => ∃ (k m : Nat), k ≤ nv ∧ i = .int .i64 k ∧ sm = .int .i64 m ∧ m ≤ k * 2199023255552 ∧ Hid (m = sumN (deg E) ((g.vs.take k).map fun t => t.id)) ∧ Hid (Below W3.heap.size W3 wr)) (fun _ i _ => nv - (intOf i).toNat)
  case atStart => exact ⟨0, 0, by omega, rfl, rfl, by omega, Lib.hid rfl, Lib.hid (Below.refl _ _)⟩
  case round =>
    obtain ⟨k, m, hk, rfl, rfl, hm, hM, hbel⟩ := hrel
    have GW := Lib.hid (G.out.next hbel.out)
    have KW := Lib.hid (K.out.next hbel.out)
    have BW := Lib.hid (bnext B.out hbel.out)
    have SW := Lib.hid (S1.out.next hbel.out)
    obtain ⟨y0, y1, -⟩ := KW.out
    rw [← NV.out] at y0
    rw [← NE.out] at y1
    by_cases hlt : k < nv
    · obtain ⟨b, off, t, ex, hb, ht, q5, -⟩ := GW.out.v.elem (k := k) (by have := NV.out; omega)
      obtain ⟨q0, -⟩ := q5
      have WT := Lib.hid (GW.out.fv t (List.mem_of_getElem? ht)).1
      have SN := Lib.hid (sum_next ht (deg E))
      have yy := y0
      rw [ex] at yy
      have EX := Lib.hid ex
      clear ht ex y0 y1
      obtain ⟨x, hx⟩ : ∃ x, x = t.id := ⟨_, rfl⟩
      rw [← hx] at q0 WT SN
      clear hx
      have klt : (k : Int) < (nv : Int) := by omega
      have k0 : (0 : Int) ≤ (k : Int) := by omega
      have hd := DL.out x
      have he := deg_e E x
      have ho := deg_o E x
      have DX := Lib.hid (fun (W : World) (hW : Sto W s1 vs1 es1) => D3.out W hW x WT.out)
      have CX := Lib.hid (fun (W : World) (hW : Sto W s1 vs1 es1) => C3.out W hW x WT.out)
      generalize deg E x = d at hd he ho SN
      generalize ((spk E x 1 ++ spk E x 2).map fun s => s.e) = NL at DX he
      generalize ((spk E x 1 ++ spk E x 2).map fun s => s.o) = PL at CX ho
      have HNL := Lib.hid he
      have HPL := Lib.hid ho
      clear he ho
      go_wp2_with fail
      refine (DX.out wr SW.out).mono ?_
      rintro e X1 ⟨E3, e3, rfl, -, hb1⟩
      rw [HNL.out]
      have Q0 := Lib.hid (cell_below hb1 q0 hb)
      replace hb := Nat.lt_of_lt_of_le hb hb1.size
      have YY := Lib.hid (cell_below hb1 yy KW.out.lt)
      replace SW := Lib.hid (SW.out.next hb1)
      have BX := Lib.hid (bnext hbel.out hb1)
      clear hb1 q0 yy
      have q0 := Q0.out
      have yy := YY.out
      go_wp2_with fail
      refine (CX.out X1 SW.out).mono ?_
      rintro e X2 ⟨E4, e4, rfl, -, hb1⟩
      rw [HPL.out]
      replace BX := Lib.hid (bnext BX.out hb1)
      clear hb1 q0 yy Q0 YY
      have hw : wrap64 ((m : Int) + (d : Int)) = ((m + d : Nat) : Int) := by unfold wrap64; omega
      have e0 : ((d : Int) != (d : Int)) = false := by simp
      go_wp2_with fail
      go_roundw
      case rel => exact ⟨k + 1, m + d, by omega, by go_num, by go_num, by omega, Lib.hid (by rw [SN.out, hM.out]), BX⟩
      case measure => simp [intOf]; omega
    · obtain rfl : k = nv := by omega
      have HMM : Hid (m = 2 * ne) := Lib.hid (by
        rw [hM.out, List.take_of_length_le (by have := NV.out; omega), NE.out, ← DA.out]
        rfl)
      have hm2 := HMM.out
      have e0 : ((m : Int) != 2 * (ne : Int)) = false := by
        rw [show (m : Int) = 2 * (ne : Int) by omega]; simp
      have hge : ¬ (k : Int) < (k : Int) := by omega
      clear HMM hm2 hM hm
      have G := GW
      have K := KW
      have S1 := SW
      have B := BW
      clear GW KW SW BW hbel DA DL VL D3 C3
      go_wp2_with fail
      go_loopw [9] (fun i wx => ∃ q : Nat, q ≤ ne ∧ i = .int .i64 q ∧ Hid (Below wr.heap.size wr wx)) (fun i _ => ne - (intOf i).toNat)
      case atStart => exact ⟨0, by omega, rfl, Lib.hid (Below.refl _ _)⟩
      case round =>
        obtain ⟨q, hq, rfl, hbel⟩ := hrel
        clear y0 y1
        have GW := Lib.hid (G.out.next hbel.out)
        have KW := Lib.hid (K.out.next hbel.out)
        have BW := Lib.hid (bnext B.out hbel.out)
        have SW := Lib.hid (S1.out.next hbel.out)
        obtain ⟨y0, y1, -⟩ := KW.out
        rw [← NE.out] at y1
        by_cases hlt : q < ne
        · obtain ⟨b, off, t, ex, hb, ht, q5, -⟩ := GW.out.e.elem (k := q) (by have := NE.out; omega)
          obtain ⟨q0, -, q2, q3, -⟩ := q5
          have hmt := List.mem_of_getElem? ht
          have WO := Lib.hid (GW.out.fe t hmt).2.1
          have WI := Lib.hid (GW.out.fe t hmt).2.2
          have OO : Hid (cntI ((spk E t.o 1).map fun s => s.e) t.id = 1) := Lib.hid (once_o RE.out (ME.out t hmt))
          have OI : Hid (cntI ((spk E t.i 2).map fun s => s.e) t.id = 1) := Lib.hid (once_i RE.out (ME.out t hmt))
          have yy := y1
          rw [ex] at yy
          have EX := Lib.hid ex
          clear ht ex y0 y1 hmt
          generalize t.id = x at q0 OO OI
          generalize t.o = vo at q2 WO OO
          generalize t.i = vi at q3 WI OI
          have CX := Lib.hid (fun (X : World) (hX : Below wr.heap.size wr X) => And.intro (cell_below hX q0 hb) (And.intro (cell_below hX q2 hb) (And.intro (cell_below hX q3 hb) (And.intro (cell_below hX yy KW.out.lt) (Nat.lt_of_lt_of_le hb hX.size)))))
          have D1x := Lib.hid (fun (W : World) (hW : Sto W s1 vs1 es1) => D1.out W hW vo WO.out)
          have D2x := Lib.hid (fun (W : World) (hW : Sto W s1 vs1 es1) => D2.out W hW vi WI.out)
          have L1 : Hid (((spk E vo 1).map fun s => s.e).length ≤ 1099511627776) := Lib.hid (by rw [List.length_map]; exact FW.out.len vo 1)
          have L2 : Hid (((spk E vi 2).map fun s => s.e).length ≤ 1099511627776) := Lib.hid (by rw [List.length_map]; exact FW.out.len vi 2)
          generalize ((spk E vo 1).map fun s => s.e) = N1 at D1x L1 OO
          generalize ((spk E vi 2).map fun s => s.e) = N2 at D2x L2 OI
          obtain ⟨n1, hn1⟩ : ∃ n1, n1 = N1.length := ⟨_, rfl⟩
          obtain ⟨n2, hn2⟩ : ∃ n2, n2 = N2.length := ⟨_, rfl⟩
          have HN1 := Lib.hid hn1
          have HN2 := Lib.hid hn2
          have l1 : n1 ≤ 1099511627776 := by have := L1.out; omega
          have l2 : n2 ≤ 1099511627776 := by have := L2.out; omega
          clear hn1 hn2 L1 L2
          have klt : (q : Int) < (ne : Int) := by omega
          have k0 : (0 : Int) ≤ (q : Int) := by omega
          go_wp2_with fail
          refine (D1x.out wr SW.out).mono ?_
          rintro e X1 ⟨E3, e3, rfl, ho, hb1⟩
          rw [← HN1.out] at ho ⊢
          have O3 := Lib.hid ho
          have BX := Lib.hid hb1
          replace SW := Lib.hid (SW.out.next hb1)
          clear hb1 ho q0 q2 q3 yy
          obtain ⟨q0, q2, q3, yy, -⟩ := CX.out X1 BX.out
          go_wp2_with fail
          refine (D2x.out X1 SW.out).mono ?_
          rintro e X2 ⟨E4, e4, rfl, ho, hb1⟩
          rw [← HN2.out] at ho ⊢
          have O4 := Lib.hid ho
          replace O3 := Lib.hid (O3.out.next hb1)
          replace BX := Lib.hid (bnext BX.out hb1)
          clear hb1 ho q0 q2 q3 yy SW
          go_wp2_with fail
          go_loopw [12, 14] (fun a j wz => ∃ (p m : Nat), p ≤ n1 ∧ j = .int .i64 p ∧ a = .int .i64 m ∧ m ≤ p ∧ Hid (m = cntI (N1.take p) x) ∧ Hid (Below X2.heap.size X2 wz)) (fun _ j _ => n1 - (intOf j).toNat)
          case atStart => exact ⟨0, 0, by omega, rfl, rfl, by omega, Lib.hid rfl, Lib.hid (Below.refl _ _)⟩
          case round =>
            obtain ⟨p, m12, hp, rfl, rfl, hm, hM, hbz⟩ := hrel
            by_cases hl : p < n1
            · obtain ⟨b1, off1, y, rfl, hbb, hy, g1⟩ := ((O3.out.next hbz.out).row (by omega)).elem (k := p) (by have := HN1.out; omega)
              have CN := Lib.hid (cnt_next hy x)
              have BZ := Lib.hid (bnext BX.out hbz.out)
              obtain ⟨q0, -, -, yy, -⟩ := CX.out wr BZ.out
              have plt : (p : Int) < (n1 : Int) := by omega
              have p0 : (0 : Int) ≤ (p : Int) := by omega
              clear hy
              go_upto_region 27 with fail
              replace yy := cell_regrown yy
              replace q0 := cell_regrown q0
              replace g1 := cell_regrown g1
              refine wp_region_quiet_below (by kernel_rfl) (by kernel_rfl) ?_
              repeat (first | go_big_quiet_step (fail) | quiet_step (fail))
              refine wpQuiet_nil ?_
              intro _ hw'
              obtain ⟨⟨dq, osq⟩, hw''⟩ := hw'
              subst hw''
              have BQ := Lib.hid (bnext hbz.out (below_regrown wr dq osq))
              clear yy q0 g1 plt p0 BZ
              by_cases hyx : y = x
              · have e0 : (y == x) = true := beq_iff_eq.2 hyx
                have CM : Hid (m12 + 1 = cntI (N1.take (p + 1)) x) := Lib.hid (by rw [CN.out, if_pos e0, hM.out])
                go_wp2_with fail
                go_roundw
                case rel => exact ⟨p + 1, m12 + 1, by omega, by go_num, by go_num, by omega, CM, BQ⟩
                case measure => simp [intOf]; omega
              · have e0 : (y == x) = false := beq_eq_false_iff_ne.2 hyx
                have CM : Hid (m12 = cntI (N1.take (p + 1)) x) := Lib.hid (by rw [CN.out, hM.out, e0]; rfl)
                go_wp2_with fail
                go_roundw
                case rel => exact ⟨p + 1, m12, by omega, by go_num, rfl, by omega, CM, BQ⟩
                case measure => simp [intOf]; omega
            · obtain rfl : p = n1 := by omega
              obtain rfl : m12 = 1 := by
                have := hM.out
                rwa [List.take_of_length_le (by have := HN1.out; omega), OO.out] at this
              have hge2 : ¬ (p : Int) < (p : Int) := by omega
              clear hM
              have BX1 := Lib.hid (bnext BX.out hbz.out)
              replace O4 := Lib.hid (O4.out.next hbz.out)
              clear BX hbz O3
              have BX := BX1
              clear BX1
              go_wp2_with fail
              go_loopw [13, 15] (fun a j wz => ∃ (p m : Nat), p ≤ n2 ∧ j = .int .i64 p ∧ a = .int .i64 m ∧ m ≤ p ∧ Hid (m = cntI (N2.take p) x) ∧ Hid (Below wr.heap.size wr wz)) (fun _ j _ => n2 - (intOf j).toNat)
              case atStart => exact ⟨0, 0, by omega, rfl, rfl, by omega, Lib.hid rfl, Lib.hid (Below.refl _ _)⟩
              case round =>
                obtain ⟨p, m13, hp, rfl, rfl, hm, hM, hbz⟩ := hrel
                by_cases hl : p < n2
                · obtain ⟨b1, off1, y, rfl, hbb, hy, g1⟩ := ((O4.out.next hbz.out).row (by omega)).elem (k := p) (by have := HN2.out; omega)
                  have CN := Lib.hid (cnt_next hy x)
                  have BZ := Lib.hid (bnext BX.out hbz.out)
                  obtain ⟨q0, -, -, yy, -⟩ := CX.out wr BZ.out
                  have plt : (p : Int) < (n2 : Int) := by omega
                  have p0 : (0 : Int) ≤ (p : Int) := by omega
                  clear hy
                  go_upto_region 32 with fail
                  replace yy := cell_regrown yy
                  replace q0 := cell_regrown q0
                  replace g1 := cell_regrown g1
                  refine wp_region_quiet_below (by kernel_rfl) (by kernel_rfl) ?_
                  repeat (first | go_big_quiet_step (fail) | quiet_step (fail))
                  refine wpQuiet_nil ?_
                  intro _ hw'
                  obtain ⟨⟨dq, osq⟩, hw''⟩ := hw'
                  subst hw''
                  have BQ := Lib.hid (bnext hbz.out (below_regrown wr dq osq))
                  clear yy q0 g1 plt p0 BZ
                  by_cases hyx : y = x
                  · have e0 : (y == x) = true := beq_iff_eq.2 hyx
                    have CM : Hid (m13 + 1 = cntI (N2.take (p + 1)) x) := Lib.hid (by rw [CN.out, if_pos e0, hM.out])
                    go_wp2_with fail
                    go_roundw
                    case rel => exact ⟨p + 1, m13 + 1, by omega, by go_num, by go_num, by omega, CM, BQ⟩
                    case measure => simp [intOf]; omega
                  · have e0 : (y == x) = false := beq_eq_false_iff_ne.2 hyx
                    have CM : Hid (m13 = cntI (N2.take (p + 1)) x) := Lib.hid (by rw [CN.out, hM.out, e0]; rfl)
                    go_wp2_with fail
                    go_roundw
                    case rel => exact ⟨p + 1, m13, by omega, by go_num, rfl, by omega, CM, BQ⟩
                    case measure => simp [intOf]; omega
                · obtain rfl : p = n2 := by omega
                  obtain rfl : m13 = 1 := by
                    have := hM.out
                    rwa [List.take_of_length_le (by have := HN2.out; omega), OI.out] at this
                  have hge2 : ¬ (p : Int) < (p : Int) := by omega
                  clear hM
                  have BX1 := Lib.hid (bnext BX.out hbz.out)
                  go_wp2_with fail
                  go_roundw
                  case rel => exact ⟨q + 1, by omega, by go_num, Lib.hid (bnext hbel.out BX1.out)⟩
                  case measure => simp [intOf]; omega
        · obtain rfl : q = ne := by omega
          have hge2 : ¬ (q : Int) < (q : Int) := by omega
          clear y0
          replace B := BW
          clear BW
          go_wp2_with fail
          refine (known_any wr).mono ?_
          rintro e wk ⟨rfl, hbk⟩
          replace B := Lib.hid (bnext B.out hbk)
          clear hbk
          go_wp2
          go_ret
          exact ⟨rfl, B.out⟩
end Go.Proofs.Ytebkkjfeikpfgaa
