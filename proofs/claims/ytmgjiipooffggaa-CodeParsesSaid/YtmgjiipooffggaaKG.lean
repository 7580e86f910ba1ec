/- A value that the reader makes: its rows grow in memory of its own. -/
import Derived.Test.YtmgjiipooffggaaKE
import Derived.Test.YtmgjiipooffggaaVRo
namespace Go.Proofs.Ytmgjiipooffggaa
set_option maxRecDepth 100000
open Go.RowKit Go.Sort

theorem setCell_comm (w : World) (a b : Addr) (u v : Value) (h : a.block ≠ b.block) : (w.setCell a u).setCell b v = (w.setCell b v).setCell a u := by
  have key : ∀ (W w : World) (a : Addr) (u : Value), W.heap[a.block]? = w.heap[a.block]? → (W.setCell a u).heap[a.block]? = (w.setCell a u).heap[a.block]? := fun W w a u e => by
    simp only [World.setCell, Array.getElem?_modify, e]
  have hh : ((w.setCell a u).setCell b v).heap = ((w.setCell b v).setCell a u).heap := by
    apply Array.ext_getElem?
    intro i
    by_cases hb : i = b.block
    · subst hb
      rw [Below.heap_setCell (w.setCell b v) a u b.block (fun e => h e.symm)]
      exact key _ _ _ _ (Below.heap_setCell _ _ _ _ (fun e => h e.symm))
    · rw [Below.heap_setCell _ b _ _ hb]
      by_cases ha : i = a.block
      · subst ha
        exact (key _ _ _ _ (Below.heap_setCell _ _ _ _ h)).symm
      · rw [Below.heap_setCell _ a _ _ ha, Below.heap_setCell _ a _ _ ha, Below.heap_setCell _ b _ _ hb]
  show ({ ((w.setCell a u).setCell b v) with heap := ((w.setCell a u).setCell b v).heap } : World) = { ((w.setCell b v).setCell a u) with heap := ((w.setCell b v).setCell a u).heap }
  rw [hh]
  rfl

/-- The boxes' rows. -/
def OwnL (r0 gx : Nat) (vL vM : Value) (k : Nat) : Prop := k = gx ∨ k = r0 ∨ vL.ownBlock = some k ∨ vM.ownBlock = some k
structure Gr (w0 wr : World) (g d g3 g5 r0 gx : Nat) (lev k : Int) (accL accM : List At) (AL : Option Addr) (cL : Nat) (AM : Option Addr) (cM : Nat) : Prop where
  rk : RK g w0 wr
  gg : g < w0.heap.size
  l3 : w0.heap.size ≤ g3
  l5 : g3 < g5
  l2 : g5 < r0
  l0 : r0 < gx
  lx : gx < wr.heap.size
  p3 : wr.cell? ⟨g3, 0, none⟩ = some (.pointer (some ⟨g, 0, none⟩))
  p5 : wr.cell? ⟨g5, 0, none⟩ = some (.int .i64 lev)
  res : Cell wr r0 (.int .i64 0) (.int .i64 0) (.string ⟨#[]⟩) (.slice none 0 0) (.slice none 0 0)
  box : Cell wr gx (.int .i64 k) (.int .i64 0) (.string ⟨#[]⟩) (.slice AL accL.length cL) (.slice AM accM.length cM)
  vl : VG wr (gx + 1) (.slice AL accL.length cL) Pr.kc (accL.map At.pr)
  vm : VG wr (gx + 1) (.slice AM accM.length cM) Pr.kc (accM.map At.pr)
  sep : ∀ b, (Value.slice AL accL.length cL).ownBlock = some b → (Value.slice AM accM.length cM).ownBlock ≠ some b
  st : ∀ q ∈ accL ++ accM, Sturdy w0.heap.size (OwnL r0 gx (.slice AL accL.length cL) (.slice AM accM.length cM)) wr d q
section
variable {w0 wr : World} {g d g3 g5 r0 gx : Nat} {lev k : Int} {accL accM : List At} {AL : Option Addr} {cL : Nat} {AM : Option Addr} {cM : Nat}
theorem Gr.lt (h : Gr w0 wr g d g3 g5 r0 gx lev k accL accM AL cL AM cM) : g < wr.heap.size := by have := h.lx; have := h.l0; have := h.l2; have := h.l5; have := h.l3; have := h.gg; omega
theorem Gr.next {b : World} (h : Gr w0 wr g d g3 g5 r0 gx lev k accL accM AL cL AM cM) (hb : RK g wr b) : Gr w0 b g d g3 g5 r0 gx lev k accL accM AL cL AM cM := by
  have h1 := h.gg; have h2 := h.l3; have h3 := h.l5; have h4 := h.l2; have h5 := h.l0; have h6 := h.lx
  have o := hb.other
  exact ⟨h.rk.trans hb, h1, h2, h3, h4, h5, Nat.lt_of_lt_of_le h6 hb.size,
    (World.cell?_of_block (w := wr) (a := ⟨g3, 0, none⟩) (o g3 (by omega) (by omega))).trans h.p3,
    (World.cell?_of_block (w := wr) (a := ⟨g5, 0, none⟩) (o g5 (by omega) (by omega))).trans h.p5,
    h.res.kept (o r0 (by omega) (by omega)), h.box.kept (o gx (by omega) (by omega)),
    h.vl.keep (fun b _ hl hlt => o b hlt (by omega)), h.vm.keep (fun b _ hl hlt => o b hlt (by omega)), h.sep,
    fun q hq => (h.st q hq).move hb.size (fun i hi hlt _ => o i hlt (by omega)) (fun _ _ hy => hy)⟩
/-- The rows have grown. -/
theorem Gr.put {wf wZ : World} {accL' accM' : List At} {AL' : Option Addr} {cL' : Nat} {AM' : Option Addr} {cM' : Nat} (h : Gr w0 wr g d g3 g5 r0 gx lev k accL accM AL cL AM cM) (hb : RK g wr wf)
    (hz : wf.os = wZ.os ∧ wf.tape = wZ.tape ∧ wf.output = wZ.output ∧ wf.heap.size ≤ wZ.heap.size)
    (hk : ∀ i, i < wf.heap.size → (Value.slice AL accL.length cL).ownBlock ≠ some i → (Value.slice AM accM.length cM).ownBlock ≠ some i → i ≠ gx → wZ.heap[i]? = wf.heap[i]?)
    (hbox : Cell wZ gx (.int .i64 k) (.int .i64 0) (.string ⟨#[]⟩) (.slice AL' accL'.length cL') (.slice AM' accM'.length cM'))
    (hvl : VG wZ (gx + 1) (.slice AL' accL'.length cL') Pr.kc (accL'.map At.pr)) (hvm : VG wZ (gx + 1) (.slice AM' accM'.length cM') Pr.kc (accM'.map At.pr))
    (hsep : ∀ b, (Value.slice AL' accL'.length cL').ownBlock = some b → (Value.slice AM' accM'.length cM').ownBlock ≠ some b)
    (hoL : ∀ b, (Value.slice AL' accL'.length cL').ownBlock = some b → (Value.slice AL accL.length cL).ownBlock = some b ∨ wf.heap.size ≤ b)
    (hoM : ∀ b, (Value.slice AM' accM'.length cM').ownBlock = some b → (Value.slice AM accM.length cM).ownBlock = some b ∨ wf.heap.size ≤ b)
    (hst : ∀ q ∈ accL' ++ accM', q ∈ accL ++ accM ∨ Rd wf wr.heap.size wf.heap.size d q.t q.A q.c q.A' q.c') :
    Gr w0 wZ g d g3 g5 r0 gx lev k accL' accM' AL' cL' AM' cM' := by
  have hf := h.next hb
  have h1 := h.gg; have h2 := h.l3; have h3 := h.l5; have h4 := h.l2; have h5 := h.l0; have h6 := hf.lx
  have ll := hf.vl.lt
  have lm := hf.vm.lt
  have low : ∀ i, i ≤ gx → i ≠ gx → wZ.heap[i]? = wf.heap[i]? := fun i hi hn => hk i (by omega) (fun e => by have := (ll i e).1; omega) (fun e => by have := (lm i e).1; omega) hn
  refine ⟨?_, h1, h2, h3, h4, h5, by omega, (World.cell?_of_block (w := wf) (a := ⟨g3, 0, none⟩) (low g3 (by omega) (by omega))).trans hf.p3,
    (World.cell?_of_block (w := wf) (a := ⟨g5, 0, none⟩) (low g5 (by omega) (by omega))).trans hf.p5, hf.res.kept (low r0 (by omega) (by omega)), hbox, hvl, hvm, hsep, ?_⟩
  · exact ⟨hf.rk.1.trans ⟨hz.1.symm, hz.2.1.symm, hz.2.2.1.symm, hz.2.2.2, fun i hi => low i (by omega) (by omega)⟩, fun i h7 hi => (low i (by omega) (by omega)).trans (hf.rk.2 i h7 hi)⟩
  · intro q hq
    have hS : Sturdy w0.heap.size (OwnL r0 gx (.slice AL accL.length cL) (.slice AM accM.length cM)) wf d q := by
      rcases hst q hq with h' | h'
      · exact hf.st q h'
      · refine Sturdy.of_rd h' (by have := h.rk.size; omega) (fun i hy => ?_)
        have := h.lx
        rcases hy with e | e | e | e
        · omega
        · omega
        · exact (h.vl.lt i e).2
        · exact (h.vm.lt i e).2
    refine hS.move hz.2.2.2 (fun i _ hi hn => hk i hi (fun e => hn (.inr (.inr (.inl e)))) (fun e => hn (.inr (.inr (.inr e)))) (fun e => hn (.inl e))) (fun i hi hy => ?_)
    rcases hy with e | e | e | e
    · exact .inl e
    · exact .inr (.inl e)
    · rcases hoL i e with h' | h'
      · exact .inr (.inr (.inl h'))
      · omega
    · rcases hoM i e with h' | h'
      · exact .inr (.inr (.inr h'))
      · omega
end
end Go.Proofs.Ytmgjiipooffggaa
