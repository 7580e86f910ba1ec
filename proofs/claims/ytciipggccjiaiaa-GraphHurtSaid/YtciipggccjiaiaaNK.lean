/- What graph.Check answers of few things. -/
import Derived.Test.YtciipggccjiaiaaNJ
import Derived.Maps.OwnSet
namespace Go.Proofs.Ytciipggccjiaiaa
open Go.RowKit Go.Sort
open Go.Maps (Keyed int_keyed keyOf_int_mk)
set_option maxRecDepth 100000

def allFew (ts : List TA) : Prop := ts.length ≤ 1 ∧ ∀ t ∈ ts, t.l.length ≤ 1
set_option maxHeartbeats 1600000 in
theorem areThings_few (w : World) (d : Nat) (A : Option Addr) (c : Nat) (ts : List TA) (h : TRow w d A c ts) (hf : allFew ts) (most : Int) (hm : 1 ≤ most) : Calls Try.prog 51 #[.slice A ts.length c, .int .i64 most] w fun e w' => e = .returned (.bool (ts.all okT)) ∧ Below w.heap.size w w' := by
  have CT := Lib.hid (containsT67 w d A c ts h (fun t => !okT t) (Lib.hid (fun W t hb hm hx => notThing_few W d t hx (hf.2 t hm))))
  have h1 : (ts.length : Int) ≤ most := by have := hf.1; omega
  have hl := hf.1
  clear h hf
  go_enter Try.func51, Try.ntmps51
  go_wp2_with fail
  refine CT.out.mono ?_
  rintro e w1 ⟨rfl, hb1⟩
  rw [any_notG]
  have HB := Lib.hid hb1
  clear hb1
  cases hq : ts.all okT
  · go_wp2
    go_ret
    exact ⟨by rw [hq]; rfl, HB.out⟩
  · go_wp2_with fail
    refine (risesT_few w1 A c ts hl _).mono ?_
    rintro e w2 ⟨rfl, rfl⟩
    go_wp2
    go_ret
    exact ⟨by rw [hq]; rfl, HB.out⟩
set_option maxHeartbeats 1600000 in
theorem areVertices_few (w : World) (d : Nat) (A : Option Addr) (c : Nat) (ts : List TA) (h : TRow w d A c ts) (hf : allFew ts) (hk : ts.all okT = true) (he : ts.any endT = false) : Calls Try.prog 31 #[.slice A ts.length c] w fun e w' => e = .returned (.bool true) ∧ Below w.heap.size w w' := by
  have C1 := Lib.hid (areThings_few w d A c ts h hf 500 (by omega))
  have C2 := Lib.hid (fun (W : World) (hb : Below w.heap.size w W) => containsT50 W d A c ts (h.next hb) endT (Lib.hid (fun W' t _ _ _ => ended_any W' t)))
  have HK := Lib.hid hk
  have HE := Lib.hid he
  clear h hf hk he
  go_enter Try.func31, Try.ntmps31
  go_wp2_with fail
  refine C1.out.mono ?_
  rintro e w1 ⟨rfl, hb1⟩
  rw [HK.out]
  have HB := Lib.hid hb1
  clear hb1
  go_wp2_with fail
  refine (C2.out w1 HB.out).mono ?_
  rintro e w2 ⟨rfl, hb2⟩
  rw [HE.out]
  have B2 := Lib.hid (bnext HB.out hb2)
  clear hb2
  go_wp2
  go_ret
  exact ⟨rfl, B2.out⟩
theorem law3 : Keyed Try.prog 3 := int_keyed Try.underlying3
theorem zero81 (w : World) : (zeroValue 81).run Try.prog w = .ok (.agg #[]) w := by kernel_rfl
/-- A map of numbers, in its block. -/
def IdsPost (w : World) (ts : List TA) (e : Ending) (w' : World) : Prop := ∃ (m n : Nat) (D : DataW Unit), e = .returned (.map (some m)) ∧ w'.ownsMap Try.prog 3 (unitElem (H := Unit)) m n D ∧ (ts = [] → D = .map []) ∧ Below w.heap.size w w'
theorem make_map (n : Nat) (_hn : n ≤ 1000000) (w : World) : (Instr.makeMap 63 (some (.int .i64 (n : Int)))).run Try.prog w = .ok (.map (some w.heap.size)) (w.alloc (.map #[] 0)) := by
  simp [Instr.makeMap, run_underlying Try.underlying63, asInt, asIntOf, Result.andThen]
set_option maxHeartbeats 1600000 in
theorem idsOf_few (w : World) (d : Nat) (A : Option Addr) (c : Nat) (ts : List TA) (h : TRow w d A c ts) (hl : ts.length ≤ 1) (hid : ∀ t ∈ ts, (Lit.int .i64 t.id).wf = true) : Calls Try.prog 33 #[.slice A ts.length c] w (IdsPost w ts) := by
  have hmm := fun W => make_map ts.length (by omega) W
  have H := Lib.hid h
  have HID := Lib.hid hid
  clear h hid
  go_enter Try.func33, Try.ntmps33
  go_wp2_with fail
  have M0 : Hid ((w.alloc (.map #[] 0)).ownsMap Try.prog 3 (unitElem (H := Unit)) w.heap.size 0 (.map [])) := Lib.hid (World.ownsMap_made _ _ _ _)
  go_loopw [11] (fun i wr => ∃ (k : Nat) (D : DataW Unit), k ≤ ts.length ∧ i = .int .i64 k ∧ Hid (wr.ownsMap Try.prog 3 (unitElem (H := Unit)) w.heap.size k D) ∧ Hid (k = 0 → D = .map []) ∧ Hid (Below w.heap.size w wr)) (fun i _ => ts.length - (intOf i).toNat)
  case atStart => exact ⟨0, .map [], by omega, rfl, M0, Lib.hid (fun _ => rfl), Lib.hid (below_new _ _)⟩
  case round =>
    obtain ⟨k, D, hk, rfl, hown, hD, hbel⟩ := hrel
    by_cases hlt : k < ts.length
    · obtain ⟨b, off, t, rfl, hb, ht, ⟨q0, q1, q2, q3, q4⟩, _⟩ := (H.out.next hbel.out).elem hlt
      have hkey : keyOf Try.prog 3 (.int .i64 t.id) = some (.int .i64 t.id) := keyOf_int_mk Try.underlying3 (HID.out t (List.mem_of_getElem? ht))
      have k0 : (0 : Int) ≤ (k : Int) := by omega
      have k1 : (k : Int) < (ts.length : Int) := by omega
      clear ht
      go_wp2_with (at_mapUpdate; refine wpList_mapUpdate_own _ rfl _ _ _ 63 rfl 3 81 law3 Try.underlying63 (unitElem (H := Unit)) w.heap.size k _ rfl (hown.out.alloc _) (by unfold maxLen; omega) _ _ _ rfl rfl hkey _ [] unitElem_mk ?_; intro w1 hown1 hgrow1; have OW := Lib.hid hown1; have BG := Lib.hid (below_grown (bnext hbel.out (below_new _ _)) hgrow1 (Nat.le_refl _) (Nat.le_refl _)); clear hown1 hgrow1)
      go_roundw
      case rel => exact ⟨k + 1, _, by omega, by go_num, OW, Lib.hid (fun e => by omega), BG⟩
      case measure => simp [intOf]; omega
    · obtain rfl : k = ts.length := by omega
      go_wp2
      go_ret
      exact ⟨w.heap.size, ts.length, D, rfl, hown.out, fun e => hD.out (by rw [e]; rfl), hbel.out⟩
set_option maxHeartbeats 1600000 in
theorem has_any (w : World) (m n : Nat) (D : DataW Unit) (hown : w.ownsMap Try.prog 3 (unitElem (H := Unit)) m n D) (id : Int) (hw : (Lit.int .i64 id).wf = true) : Calls Try.prog 54 #[.map (some m), .int .i64 id] w fun e w' => e = .returned (.bool (Maps.has D (.int .i64 id))) ∧ Below w.heap.size w w' := by
  have hkey : keyOf Try.prog 3 (.int .i64 id) = some (.int .i64 id) := keyOf_int_mk Try.underlying3 hw
  have OW := Lib.hid hown
  clear hown
  go_enter Try.func54, Try.ntmps54
  go_wp2_with (at_lookup; refine wpList_lookup_own_unit _ rfl _ _ 63 rfl 3 81 law3 Try.underlying63 (zero81 _) m n D rfl OW.out _ _ rfl hkey ?_)
  go_ret
  exact ⟨rfl, below_new _ _⟩
theorem owns_next {a b : World} {m n : Nat} {D : DataW Unit} (h : a.ownsMap Try.prog 3 (unitElem (H := Unit)) m n D) (hb : Below a.heap.size a b) : b.ownsMap Try.prog 3 (unitElem (H := Unit)) m n D :=
  h.kept (row := none) ⟨hb.os, hb.tape, hb.output, hb.size, fun k hk _ => hb.block k hk⟩ (by simp)
set_option maxHeartbeats 1600000 in
theorem loose_none (w : World) (g m n : Nat) (hown : w.ownsMap Try.prog 3 (unitElem (H := Unit)) m n (.map [])) (hg : g < w.heap.size) (hc : w.cell? ⟨g, 0, none⟩ = some (.map (some m))) (t : TA) (hw : (Lit.int .i64 t.o).wf = true) : Calls Try.prog 53 #[t.v, .pointer (some ⟨g, 0, none⟩)] w fun e w' => e = .returned (.bool true) ∧ Below w.heap.size w w' := by
  have hc1 := cell_below (below_new w (.cells #[.int .i64 t.id, .string t.label, .int .i64 t.o, .int .i64 t.i, .slice t.A t.l.length t.c] 34)) hc hg
  have HA := Lib.hid (has_any _ m n (.map []) (owns_next hown (below_new w (.cells #[.int .i64 t.id, .string t.label, .int .i64 t.o, .int .i64 t.i, .slice t.A t.l.length t.c] 34))) t.o hw)
  have HF : Hid (Maps.has (H := Unit) (.map []) (.int .i64 t.o) = false) := Lib.hid rfl
  clear hc hown
  go_enter Try.func53, Try.ntmps53
  go_wp2_with fail
  refine HA.out.mono ?_
  rintro e w1 ⟨rfl, hb1⟩
  rw [HF.out]
  have HB := Lib.hid (bnext (below_new _ _) hb1)
  clear hb1
  go_wp2
  go_ret
  exact ⟨rfl, HB.out⟩
set_option maxHeartbeats 1600000 in
theorem areEdges_few (w : World) (d : Nat) (A : Option Addr) (c : Nat) (es : List TA) (h : TRow w d A c es) (hf : allFew es) (hk : es.all okT = true) (m n : Nat) (D : DataW Unit) (hown : w.ownsMap Try.prog 3 (unitElem (H := Unit)) m n D) (b : Bool) (hb : (es = [] ∧ b = true) ∨ (es.length = 1 ∧ D = .map [] ∧ b = false)) (hw : ∀ t ∈ es, (Lit.int .i64 t.o).wf = true) :
    Calls Try.prog 32 #[.slice A es.length c, .map (some m)] w fun e w' => e = .returned (.bool b) ∧ Below w.heap.size w w' := by
  have C1 := Lib.hid (fun (W : World) (hb : Below w.heap.size w W) => areThings_few W d A c es (h.next hb) hf 2000 (by omega))
  have HC : Hid (∀ (W : World), Below w.heap.size w W → W.cell? ⟨w.heap.size, 0, none⟩ = some (.map (some m)) → w.heap.size < W.heap.size → Calls Try.prog 52 #[.slice A es.length c, .func (.func 53) #[] #[.pointer (some ⟨w.heap.size, 0, none⟩)]] W fun e w' => e = .returned (.bool (!b)) ∧ Below W.heap.size W w') := Lib.hid (fun W hbW hcW hgW => by
    have := containsT53 W d A c es (h.next hbW) w.heap.size (fun _ => !b) (Lib.hid (fun W' t hb' hm _ => by
      rcases hb with ⟨rfl, _⟩ | ⟨_, rfl, rfl⟩
      · cases hm
      · exact loose_none W' w.heap.size m n (owns_next (owns_next hown hbW) hb') (Nat.lt_of_lt_of_le hgW hb'.size) (cell_below hb' hcW hgW) t (hw t hm)))
    refine this.mono ?_
    rintro e w' ⟨rfl, hbw⟩
    refine ⟨?_, hbw⟩
    rcases hb with ⟨rfl, rfl⟩ | ⟨h1, _, rfl⟩
    · rfl
    · cases es with
      | nil => cases h1
      | cons t r => simp)
  have HK := Lib.hid hk
  clear h hf hk hown hb hw
  go_enter Try.func32, Try.ntmps32
  go_wp2_with fail
  refine (C1.out _ (below_new _ _)).mono ?_
  rintro e w1 ⟨rfl, hb1⟩
  rw [HK.out]
  have HCL := Lib.hid (cell_below hb1 (one_box w (.map (some m)) 63) (by simp))
  have HB := Lib.hid (bnext (below_new _ _) hb1)
  have HL := Lib.hid (show w.heap.size < w1.heap.size by have := hb1.size; simp at this; omega)
  clear hb1
  go_wp2_with fail
  refine (HC.out w1 HB.out HCL.out HL.out).mono ?_
  rintro e w2 ⟨rfl, hb2⟩
  have B2 := Lib.hid (bnext HB.out hb2)
  clear hb2
  cases b
  all_goals
    go_wp2
    go_ret
    exact ⟨rfl, B2.out⟩
end Go.Proofs.Ytciipggccjiaiaa
/- What graph.Check answers of few things, whole. -/
namespace Go.Proofs.Ytciipggccjiaiaa
open Go.RowKit Go.Sort
set_option maxRecDepth 100000

theorem box24 (w : World) (v0 v1 : Value) (W : World) (hW : w.alloc (.cells #[v0, v1] 24) = W) : W.cell? ⟨w.heap.size, 0, none⟩ = some v0 ∧ W.cell? ⟨w.heap.size, 1, none⟩ = some v1 ∧ Below w.heap.size w W ∧ W.heap.size = w.heap.size + 1 := by
  subst hW
  refine ⟨?_, ?_, below_new _ _, by simp⟩
  all_goals (rw [World.cell?_alloc_at _ _ _ _ rfl]; rfl)
def okFew (ts : List TA) : Prop := allFew ts ∧ ts.all okT = true ∧ ∀ t ∈ ts, (Lit.int .i64 t.id).wf = true ∧ (Lit.int .i64 t.o).wf = true
set_option maxHeartbeats 3200000 in
theorem check_few (w : World) (d : Nat) (AV : Option Addr) (cV : Nat) (vs : List TA) (AE : Option Addr) (cE : Nat) (es : List TA) (hv : TRow w d AV cV vs) (he : TRow w d AE cE es) (fv : okFew vs) (fe : okFew es) (hend : vs.any endT = false) (b : Bool) (hb : (es = [] ∧ b = true) ∨ (es.length = 1 ∧ vs = [] ∧ b = false)) :
    Calls Try.prog 12 #[.agg #[.slice AV vs.length cV, .slice AE es.length cE]] w fun e w' => e = .returned (.int .i64 (if b then 0 else 50)) ∧ Below w.heap.size w w' := by
  have CV := Lib.hid (fun (W : World) (hW : Below w.heap.size w W) => areVertices_few W d AV cV vs (hv.next hW) fv.1 fv.2.1 hend)
  have CI := Lib.hid (fun (W : World) (hW : Below w.heap.size w W) => idsOf_few W d AV cV vs (hv.next hW) fv.1.1 (fun t ht => (fv.2.2 t ht).1))
  have CE := Lib.hid (fun (W : World) (hW : Below w.heap.size w W) (m n : Nat) (D : DataW Unit) (hown : W.ownsMap Try.prog 3 (unitElem (H := Unit)) m n D) (hD : vs = [] → D = .map []) => areEdges_few W d AE cE es (he.next hW) fe.1 fe.2.1 m n D hown b (by
    rcases hb with h | ⟨h1, h2, h3⟩
    · exact .inl h
    · exact .inr ⟨h1, hD h2, h3⟩) (fun t ht => (fe.2.2 t ht).2))
  clear hv he fv fe hend hb
  go_enter Try.func12, Try.ntmps12
  go_upto_region 1 with fail
  generalize hW : World.alloc w _ = W
  obtain ⟨z0, z1, hbW, hsW⟩ := box24 w _ _ W hW
  have HBW := Lib.hid hbW
  have hgW : w.heap.size < W.heap.size := by omega
  clear hW hbW hsW
  go_region_with (first
    | (go_at_call 31; (with_reducible refine (CV.out _ ?_).mono ?_); (focus exact bnext HBW.out (Below.refl _ _).drew); rintro e w1 ⟨rfl, hb0⟩; have hb1 : Below W.heap.size W w1 := (Below.refl _ _).drew.trans hb0; have y0 := cell_below hb1 z0 hgW; have y1 := cell_below hb1 z1 hgW; have B1 := Lib.hid hb1; clear hb0 hb1)
    | (go_at_call 33; (with_reducible refine (CI.out _ ?_).mono ?_); (focus exact bnext HBW.out B1.out); rintro e w2 ⟨m, n, D, rfl, hown, hD, hb2⟩; have hb12 := bnext B1.out hb2; have x0 := cell_below hb12 z0 hgW; have x1 := cell_below hb12 z1 hgW; have B2 := Lib.hid hb12; have OW := Lib.hid hown; have HD := Lib.hid hD; clear hown hD hb2 hb12)
    | (go_at_call 32; (with_reducible refine (CE.out _ ?_ m n D ?_ ?_).mono ?_); (focus exact bnext HBW.out B2.out); (focus exact OW.out); (focus exact HD.out); rintro e w3 ⟨rfl, hb3⟩; have B3 := Lib.hid (bnext HBW.out (bnext B2.out hb3)); clear hb3))
  all_goals
    cases b
    all_goals
      go_wp2
      go_ret
      exact ⟨rfl, B3.out⟩
end Go.Proofs.Ytciipggccjiaiaa
