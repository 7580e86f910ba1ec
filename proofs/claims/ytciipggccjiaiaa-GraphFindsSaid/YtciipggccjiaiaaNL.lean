/- What graph.Check answers of few things, whole. -/
import Derived.Test.YtciipggccjiaiaaNK
namespace Go.Proofs.Ytciipggccjiaiaa
open Go.RowKit Go.Sort
set_option maxRecDepth 100000

theorem box24 (w : World) (v0 v1 : Value) (W : World) (hW : w.alloc (.cells #[v0, v1] 24) = W) : W.cell? ⟨w.heap.size, 0, none⟩ = some v0 ∧ W.cell? ⟨w.heap.size, 1, none⟩ = some v1 ∧ Below w.heap.size w W ∧ W.heap.size = w.heap.size + 1 := by
  subst hW
  refine ⟨?_, ?_, below_new _ _, by simp⟩
  all_goals (rw [World.cell?_alloc_at _ _ _ _ rfl]; rfl)
def okFew (ts : List TA) : Prop := allFew ts ∧ ts.all okT = true ∧ ∀ t ∈ ts, (Lit.int .i64 t.id).wf = true ∧ (Lit.int .i64 t.o).wf = true
set_option maxHeartbeats 3200000 in
theorem check_few (w : World) (d : Nat) (AV : Option Addr) (cV : Nat) (vs : List TA) (AE : Option Addr) (cE : Nat) (es : List TA) (hv : TRow w d AV cV vs) (he : TRow w d AE cE es) (fv : okFew vs) (fe : okFew es) (hend : vs.any endT = false) (b : Bool) (hb : (es = [] ∧ b = true) ∨ (es.length = 1 ∧ vs = [] ∧ b = false)) :
    Calls Try.prog 12 #[.agg #[.slice AV vs.length cV, .slice AE es.length cE]] w fun e w' => e = .returned (.int .i64 (if b then 0 else 50)) ∧ Below w.heap.size w w' := by
  have CV := Lib.hid (fun (W : World) (hW : Below w.heap.size w W) => areVertices_few W d AV cV vs (hv.next hW) fv.1 fv.2.1 hend)
  have CI := Lib.hid (fun (W : World) (hW : Below w.heap.size w W) => idsOf_few W d AV cV vs (hv.next hW) fv.1.1 (fun t ht => (fv.2.2 t ht).1))
  have CE := Lib.hid (fun (W : World) (hW : Below w.heap.size w W) (m n : Nat) (D : DataW Unit) (hown : W.ownsMap Try.prog 3 (unitElem (H := Unit)) m n D) (hD : vs = [] → D = .map []) => areEdges_few W d AE cE es (he.next hW) fe.1 fe.2.1 m n D hown b (by
    rcases hb with h | ⟨h1, h2, h3⟩
    · exact .inl h
    · exact .inr ⟨h1, hD h2, h3⟩) (fun t ht => (fe.2.2 t ht).2))
  clear hv he fv fe hend hb
  go_enter Try.func12, Try.ntmps12
  go_upto_region 1 with fail
  generalize hW : World.alloc w _ = W
  obtain ⟨z0, z1, hbW, hsW⟩ := box24 w _ _ W hW
  have HBW := Lib.hid hbW
  have hgW : w.heap.size < W.heap.size := by omega
  clear hW hbW hsW
  go_region_with (first
    | (go_at_call 31; (with_reducible refine (CV.out _ ?_).mono ?_); (focus exact bnext HBW.out (Below.refl _ _).drew); rintro e w1 ⟨rfl, hb0⟩; have hb1 : Below W.heap.size W w1 := (Below.refl _ _).drew.trans hb0; have y0 := cell_below hb1 z0 hgW; have y1 := cell_below hb1 z1 hgW; have B1 := Lib.hid hb1; clear hb0 hb1)
    | (go_at_call 33; (with_reducible refine (CI.out _ ?_).mono ?_); (focus exact bnext HBW.out B1.out); rintro e w2 ⟨m, n, D, rfl, hown, hD, hb2⟩; have hb12 := bnext B1.out hb2; have x0 := cell_below hb12 z0 hgW; have x1 := cell_below hb12 z1 hgW; have B2 := Lib.hid hb12; have OW := Lib.hid hown; have HD := Lib.hid hD; clear hown hD hb2 hb12)
    | (go_at_call 32; (with_reducible refine (CE.out _ ?_ m n D ?_ ?_).mono ?_); (focus exact bnext HBW.out B2.out); (focus exact OW.out); (focus exact HD.out); rintro e w3 ⟨rfl, hb3⟩; have B3 := Lib.hid (bnext HBW.out (bnext B2.out hb3)); clear hb3))
  all_goals
    cases b
    all_goals
      go_wp2
      go_ret
      exact ⟨rfl, B3.out⟩
end Go.Proofs.Ytciipggccjiaiaa
