/- Carried over from an earlier seat. -/
import Derived.Test.YtebkkjfeikpfgaaBPa
import Derived.Test.YtebkkjfeikpfgaaBXB
namespace Go.Proofs.Ytebkkjfeikpfgaa
set_option maxRecDepth 100000
open Go.RowKit Go.Sort
open Go.Maps (Keyed int_keyed keyOf_int_mk)
set_option maxRecDepth 100000

set_option maxHeartbeats 1600000 in
theorem areVertices_any (w : World) (d : Nat) (A : Option Addr) (c : Nat) (ts : List TA) (h : TRow w d A c ts) : Calls Try.prog 45 #[.slice A ts.length c] w fun e w' => e = .returned (.bool (okThs 500 ts && !ts.any endT)) ∧ Below w.heap.size w w' := by
  have C1 := Lib.hid (areThings_any w d A c ts h 500 (by omega))
  have C2 := Lib.hid (fun (W : World) (hb : Below w.heap.size w W) => containsT50 W d A c ts (h.next hb) endT (Lib.hid (fun W' t _ _ _ => ended_any W' t)))
  clear h
  go_enter Try.func45, Try.ntmps45
  go_wp2_with fail
  refine C1.out.mono ?_
  rintro e w1 ⟨rfl, hb1⟩
  have HB := Lib.hid hb1
  clear hb1
  cases hq : okThs 500 ts
  · go_wp2
    go_ret
    exact ⟨by rw [hq]; rfl, HB.out⟩
  · have HQ := Lib.hid hq
    clear hq
    go_wp2_with fail
    refine (C2.out w1 HB.out).mono ?_
    rintro e w2 ⟨rfl, hb2⟩
    have B2 := Lib.hid (bnext HB.out hb2)
    clear hb2 C1 C2
    cases ho : ts.any endT
    all_goals
      go_wp2
      go_ret
      exact ⟨by rw [HQ.out, ho]; rfl, B2.out⟩
/-- The map of numbers has just these. -/
def IdsAt (ts : List TA) (D : DataW Unit) : Prop := ∀ id, (Lit.int .i64 id).wf = true → Maps.has D (.int .i64 id) = ts.any (idB id)
def IdsPost2 (w : World) (ts : List TA) (e : Ending) (w' : World) : Prop := ∃ (m n : Nat) (D : DataW Unit), e = .returned (.map (some m)) ∧ w'.ownsMap Try.prog 3 (unitElem (H := Unit)) m n D ∧ IdsAt ts D ∧ Below w.heap.size w w'
theorem ids_put {ts : List TA} {k : Nat} {D : DataW Unit} {t : TA} {u : DataW Unit} (h : IdsAt (ts.take k) D) (hm : Maps.IsMap D) (ht : ts[k]? = some t) : IdsAt (ts.take (k + 1)) (D.put (.int .i64 t.id) u) := fun id hw => by
  have e1 : (ts.take (k + 1)).any (idB id) = ((ts.take k).any (idB id) || idB id t) := by
    rw [List.take_add_one, ht]; simp
  rw [e1]
  by_cases e : t.id = id
  · subst e
    rw [Maps.has_put_same hm (show WideAt.IsKeyLit (.int .i64 t.id) from trivial)]
    simp [idB]
  · rw [Maps.has_put_other (fun e' => e (by injection e' with _ e'; exact e'.symm)), h id hw]
    simp [idB, e]
set_option maxHeartbeats 1600000 in
theorem idsOf_any (w : World) (d : Nat) (A : Option Addr) (c : Nat) (ts : List TA) (h : TRow w d A c ts) (hl : ts.length ≤ 1000000) (hid : ∀ t ∈ ts, (Lit.int .i64 t.id).wf = true) : Calls Try.prog 47 #[.slice A ts.length c] w (IdsPost2 w ts) := by
  have hmm := fun W => make_map ts.length hl W
  have H := Lib.hid h
  have HID := Lib.hid hid
  clear h hid
  go_enter Try.func47, Try.ntmps47
  go_wp2_with fail
  have M0 : Hid ((w.alloc (.map #[] 0)).ownsMap Try.prog 3 (unitElem (H := Unit)) w.heap.size 0 (.map [])) := Lib.hid (World.ownsMap_made _ _ _ _)
  go_loopw [11] (fun i wr => ∃ (k : Nat) (D : DataW Unit), k ≤ ts.length ∧ i = .int .i64 k ∧ Hid (wr.ownsMap Try.prog 3 (unitElem (H := Unit)) w.heap.size k D) ∧ Hid (IdsAt (ts.take k) D) ∧ Hid (Below w.heap.size w wr)) (fun i _ => ts.length - (intOf i).toNat)
  case atStart => exact ⟨0, .map [], by omega, rfl, M0, Lib.hid (fun _ _ => rfl), Lib.hid (below_new _ _)⟩
  case round =>
    obtain ⟨k, D, hk, rfl, hown, hD, hbel⟩ := hrel
    by_cases hlt : k < ts.length
    · obtain ⟨b, off, t, rfl, hb, ht, ⟨q0, q1, q2, q3, q4⟩, _⟩ := (H.out.next hbel.out).elem hlt
      have hkey : keyOf Try.prog 3 (.int .i64 t.id) = some (.int .i64 t.id) := keyOf_int_mk Try.underlying3 (HID.out t (List.mem_of_getElem? ht))
      have HP := Lib.hid (fun u => ids_put (u := u) hD.out hown.out.isMap ht)
      have k0 : (0 : Int) ≤ (k : Int) := by omega
      have k1 : (k : Int) < (ts.length : Int) := by omega
      clear ht
      go_wp2_with (at_mapUpdate; refine wpList_mapUpdate_own _ rfl _ _ _ 90 rfl 3 109 law3 Try.underlying90 (unitElem (H := Unit)) w.heap.size k _ rfl (hown.out.alloc _) (by unfold maxLen; omega) _ _ _ rfl rfl hkey _ [] unitElem_mk ?_; intro w1 hown1 hgrow1; have OW := Lib.hid hown1; have BG := Lib.hid (below_grown (bnext hbel.out (below_new _ _)) hgrow1 (Nat.le_refl _) (Nat.le_refl _)); clear hown1 hgrow1)
      go_roundw
      case rel => exact ⟨k + 1, _, by omega, by go_num, OW, Lib.hid (HP.out _), BG⟩
      case measure => simp [intOf]; omega
    · obtain rfl : k = ts.length := by omega
      go_wp2
      go_ret
      exact ⟨w.heap.size, ts.length, D, rfl, hown.out, by have := hD.out; rwa [List.take_length] at this, hbel.out⟩
set_option maxHeartbeats 1600000 in
theorem loose_any (w : World) (g m n : Nat) (D : DataW Unit) (vs : List TA) (hD : IdsAt vs D) (hown : w.ownsMap Try.prog 3 (unitElem (H := Unit)) m n D) (hg : g < w.heap.size) (hc : w.cell? ⟨g, 0, none⟩ = some (.map (some m))) (t : TA) (hw : (Lit.int .i64 t.o).wf = true) (hw' : (Lit.int .i64 t.i).wf = true) : Calls Try.prog 61 #[t.v, .pointer (some ⟨g, 0, none⟩)] w fun e w' => e = .returned (.bool (looseB vs t)) ∧ Below w.heap.size w w' := by
  have k1 := CellT.new w (.int .i64 t.id) (.string t.label) (.int .i64 t.o) (.int .i64 t.i) (.slice t.A t.l.length t.c)
  have HC := Lib.hid hc
  have HO := Lib.hid hown
  have E1 := Lib.hid (hD t.o hw)
  have E2 := Lib.hid (hD t.i hw')
  have HL : Hid (looseB vs t = (!vs.any (idB t.o) || !vs.any (idB t.i))) := Lib.hid rfl
  clear hc hown hD
  go_enter Try.func61, Try.ntmps61
  go_upto_region 1 with fail
  generalize hW : World.alloc w _ = W at k1
  have HB : Hid (Below w.heap.size w W) := Lib.hid (by rw [← hW]; exact below_new _ _)
  clear hW
  have K1 := Lib.hid k1
  obtain ⟨c0, c1, c2, c3, c4, _⟩ := k1
  have hc1 := cell_below HB.out HC.out hg
  have OW := Lib.hid (owns_next HO.out HB.out)
  go_wp2_with fail
  refine (has_any W m n D OW.out t.o hw).mono ?_
  rintro e w1 ⟨rfl, hb1⟩
  rw [E1.out]
  have B1 := Lib.hid (bnext HB.out hb1)
  have OW1 := Lib.hid (owns_next OW.out hb1)
  have K2 := Lib.hid (K1.out.next hb1)
  clear hb1 c0 c1 c2 c3 c4 hc1
  cases h1 : vs.any (idB t.o)
  · go_wp2
    go_ret
    exact ⟨by rw [HL.out, h1]; rfl, B1.out⟩
  · have H1 := Lib.hid h1
    clear h1
    obtain ⟨c0, c1, c2, c3, c4, _⟩ := K2.out
    have hc1 := cell_below B1.out HC.out hg
    go_wp2_with fail
    refine (has_any w1 m n D OW1.out t.i hw').mono ?_
    rintro e w2 ⟨rfl, hb2⟩
    rw [E2.out]
    have B2 := Lib.hid (bnext B1.out hb2)
    clear hb2 c0 c1 c2 c3 c4 hc1 E1 E2
    generalize vs.any (idB t.i) = o at HL
    cases o
    all_goals
      go_wp2
      go_ret
      exact ⟨by rw [HL.out, H1.out]; rfl, B2.out⟩
set_option maxHeartbeats 1600000 in
theorem areEdges_any (w : World) (d : Nat) (A : Option Addr) (c : Nat) (es : List TA) (h : TRow w d A c es) (m n : Nat) (D : DataW Unit) (vs : List TA) (hD : IdsAt vs D) (hown : w.ownsMap Try.prog 3 (unitElem (H := Unit)) m n D) (hf : ∀ t ∈ es, TFld t) :
    Calls Try.prog 46 #[.slice A es.length c, .map (some m)] w fun e w' => e = .returned (.bool (okThs 2000 es && !es.any (looseB vs))) ∧ Below w.heap.size w w' := by
  have C1 := Lib.hid (fun (W : World) (hb : Below w.heap.size w W) => areThings_any W d A c es (h.next hb) 2000 (by omega))
  have HC : Hid (∀ (W : World), Below w.heap.size w W → W.cell? ⟨w.heap.size, 0, none⟩ = some (.map (some m)) → w.heap.size < W.heap.size → Calls Try.prog 60 #[.slice A es.length c, .func (.func 61) #[] #[.pointer (some ⟨w.heap.size, 0, none⟩)]] W fun e w' => e = .returned (.bool (es.any (looseB vs))) ∧ Below W.heap.size W w') := Lib.hid (fun W hbW hcW hgW =>
    containsT53 W d A c es (h.next hbW) w.heap.size (looseB vs) (Lib.hid (fun W' t hb' hm _ =>
      loose_any W' w.heap.size m n D vs hD (owns_next (owns_next hown hbW) hb') (Nat.lt_of_lt_of_le hgW hb'.size) (cell_below hb' hcW hgW) t (hf t hm).2.1 (hf t hm).2.2)))
  clear h hown hf hD
  go_enter Try.func46, Try.ntmps46
  go_wp2_with fail
  refine (C1.out _ (below_new _ _)).mono ?_
  rintro e w1 ⟨rfl, hb1⟩
  have HCL := Lib.hid (cell_below hb1 (one_box w (.map (some m)) 90) (by simp))
  have HB := Lib.hid (bnext (below_new _ _) hb1)
  have HL := Lib.hid (show w.heap.size < w1.heap.size by have := hb1.size; simp at this; omega)
  clear hb1
  cases hq : okThs 2000 es
  · go_wp2
    go_ret
    exact ⟨by rw [hq]; rfl, HB.out⟩
  · have HQ := Lib.hid hq
    clear hq
    go_wp2_with fail
    refine (HC.out w1 HB.out HCL.out HL.out).mono ?_
    rintro e w2 ⟨rfl, hb2⟩
    have B2 := Lib.hid (bnext HB.out hb2)
    clear hb2 C1 HC
    cases ho : es.any (looseB vs)
    all_goals
      go_wp2
      go_ret
      exact ⟨by rw [HQ.out, ho]; rfl, B2.out⟩
theorem okThs_le {most : Nat} {ts : List TA} (h : okThs most ts = true) : ts.length ≤ most := by
  unfold okThs at h
  simp only [Bool.and_eq_true, decide_eq_true_eq] at h
  exact h.1
/-- What Check answers. -/
def errG (vs es : List TA) : Int := if okG vs es = true then 0 else 50
theorem errG_yes {vs es : List TA} (h1 : (okThs 500 vs && !vs.any endT) = true) (h2 : (okThs 2000 es && !es.any (looseB vs)) = true) : errG vs es = 0 := by
  unfold errG okG
  simp only [Bool.and_eq_true] at h1 h2 ⊢
  rw [if_pos ⟨h1.1, h1.2, h2.1, h2.2⟩]
theorem errG_no1 {vs es : List TA} (h1 : (okThs 500 vs && !vs.any endT) = false) : errG vs es = 50 := by
  unfold errG okG
  rw [if_neg]
  intro h
  simp only [Bool.and_eq_true] at h
  rw [h.1, h.2.1] at h1
  cases h1
theorem errG_no2 {vs es : List TA} (h1 : (okThs 2000 es && !es.any (looseB vs)) = false) : errG vs es = 50 := by
  unfold errG okG
  rw [if_neg]
  intro h
  simp only [Bool.and_eq_true] at h
  rw [h.2.2.1, h.2.2.2] at h1
  cases h1
set_option maxHeartbeats 3200000 in
theorem gcheck_any (w : World) (d : Nat) (g : GA) (hg : g.In w d) : Calls Try.prog 29 #[g.v] w fun e w' => e = .returned (.int .i64 (errG g.vs g.es)) ∧ Below w.heap.size w w' := by
  have HG := Lib.hid hg
  have CV := Lib.hid (fun (W : World) (hb : Below w.heap.size w W) => areVertices_any W d g.AV g.cV g.vs (hg.v.next hb))
  have CI := Lib.hid (fun (W : World) (hb : Below w.heap.size w W) hl => idsOf_any W d g.AV g.cV g.vs (hg.v.next hb) hl (fun t ht => (hg.fv t ht).1))
  have CE := Lib.hid (fun (W : World) (hb : Below w.heap.size w W) m n D hD hown => areEdges_any W d g.AE g.cE g.es (hg.e.next hb) m n D g.vs hD hown hg.fe)
  clear hg
  go_enter Try.func29, Try.ntmps29
  go_upto_region 1 with fail
  generalize hW : World.alloc w _ = W
  obtain ⟨z0, z1, hbW, hsW⟩ := box24 w _ _ W hW
  have HB := Lib.hid hbW
  have hgW : w.heap.size < W.heap.size := by omega
  clear hW hbW hsW
  have HL : okThs 500 g.vs = true → g.vs.length ≤ 1000000 := fun h => Nat.le_trans (okThs_le h) (by omega)
  cases h1 : okThs 500 g.vs && !g.vs.any endT
  · have HV := Lib.hid (errG_no1 (es := g.es) h1)
    rw [h1] at CV
    clear h1 CI CE HL
    have cQ := Lib.hid (fun (d : Nat) (os : Array Obj) => Calls.regrown_of (CV.out (grow (redrawn W d) os) (bnext HB.out (below_regrown W d os))))
    replace z0 := cell_regrown z0
    replace z1 := cell_regrown z1
    clear CV
    refine wp_region_quiet_below (by kernel_rfl) (by kernel_rfl) ?_
    repeat (first | go_big_quiet_step (exact cQ.out _ _) | quiet_step (exact cQ.out _ _))
    refine wpQuiet_nil ?_
    intro _ hw'
    obtain ⟨⟨dq, osq⟩, hw''⟩ := hw'
    subst hw''
    have B1 := Lib.hid (bnext HB.out (below_regrown W dq osq))
    clear z0 z1 cQ
    go_wp2
    go_ret
    exact ⟨by rw [HV.out]; rfl, B1.out⟩
  · have HV1 := Lib.hid h1
    have hl : g.vs.length ≤ 1000000 := by
      simp only [Bool.and_eq_true] at h1
      exact HL h1.1
    have CI2 := Lib.hid (fun (W : World) (hb : Below w.heap.size w W) => CI.out W hb hl)
    rw [h1] at CV
    clear h1 hl CI HL
    have HV : Hid (errG g.vs g.es = if (okThs 2000 g.es && !g.es.any (looseB g.vs)) = true then 0 else 50) := Lib.hid (by
      cases h2 : okThs 2000 g.es && !g.es.any (looseB g.vs) with
      | true => rw [errG_yes HV1.out h2]; rfl
      | false => rw [errG_no2 h2]; rfl)
    generalize (okThs 2000 g.es && !g.es.any (looseB g.vs)) = b at CE HV
    go_region_with (first
      | (go_at_call 45; (with_reducible refine (CV.out _ ?_).mono ?_); (focus exact bnext HB.out (Below.refl _ _).drew); rintro e w1 ⟨rfl, hb0⟩; have hb1 : Below W.heap.size W w1 := (Below.refl _ _).drew.trans hb0; have y0 := cell_below hb1 z0 hgW; have y1 := cell_below hb1 z1 hgW; have B1 := Lib.hid hb1; clear hb0 hb1)
      | (go_at_call 47; (with_reducible refine (CI2.out _ ?_).mono ?_); (focus exact bnext HB.out B1.out); rintro e w2 ⟨m, n, D, rfl, hown, hD, hb2⟩; have hb12 := bnext B1.out hb2; have x0 := cell_below hb12 z0 hgW; have x1 := cell_below hb12 z1 hgW; have B2 := Lib.hid hb12; have OW := Lib.hid hown; have HD := Lib.hid hD; clear hown hD hb2 hb12)
      | (go_at_call 46; (with_reducible refine (CE.out _ ?_ m n D ?_ ?_).mono ?_); (focus exact bnext HB.out B2.out); (focus exact HD.out); (focus exact OW.out); rintro e w3 ⟨rfl, hb3⟩; have B3 := Lib.hid (bnext HB.out (bnext B2.out hb3)); clear hb3))
    all_goals
      cases b
      all_goals
        go_wp2
        go_ret
        exact ⟨by rw [HV.out]; rfl, B3.out⟩
end Go.Proofs.Ytebkkjfeikpfgaa

