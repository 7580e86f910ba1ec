/- Contract of value.mapOf: the pairs in their order, each key once, with its last value. -/
import Derived.Test.YtdolejafihgpmaaR
import Derived.Test.YtdolejafihgpmaaL
import Derived.Test.YtdolejafihgpmaaK
namespace Go.Proofs.Ytdolejafihgpmaa
open Go.RowKit Go.Sort
attribute [local go_sem ↓] Go.wp_at_zero Go.wp_at_succ

/-- A pair in a block of its own. -/
structure Box10 (w : World) (g : Nat) (p : Pr) : Prop where
  c0 : w.cell? ⟨g, 0, none⟩ = some (.int .i64 p.x.k)
  c1 : w.cell? ⟨g, 1, none⟩ = some (.int .i64 p.x.n)
  c2 : w.cell? ⟨g, 2, none⟩ = some (.string p.x.s)
  c3 : w.cell? ⟨g, 3, none⟩ = some (.slice p.a1 p.x.l.length p.n1)
  c4 : w.cell? ⟨g, 4, none⟩ = some (.slice p.a2 p.x.m.length p.n2)
  c5 : w.cell? ⟨g, 5, none⟩ = some (.int .i64 p.y.k)
  c6 : w.cell? ⟨g, 6, none⟩ = some (.int .i64 p.y.n)
  c7 : w.cell? ⟨g, 7, none⟩ = some (.string p.y.s)
  c8 : w.cell? ⟨g, 8, none⟩ = some (.slice p.a3 p.y.l.length p.n3)
  c9 : w.cell? ⟨g, 9, none⟩ = some (.slice p.a4 p.y.m.length p.n4)
theorem Box10.new (w : World) (p : Pr) : Box10 (w.alloc (.cells #[.int .i64 p.x.k, .int .i64 p.x.n, .string p.x.s, .slice p.a1 p.x.l.length p.n1, .slice p.a2 p.x.m.length p.n2, .int .i64 p.y.k, .int .i64 p.y.n, .string p.y.s, .slice p.a3 p.y.l.length p.n3, .slice p.a4 p.y.m.length p.n4] 69)) w.heap.size p := by
  constructor <;> (rw [World.cell?_alloc_at _ _ _ _ rfl]; rfl)
theorem Box10.kept {w w' : World} {g : Nat} {p : Pr} (h : Box10 w g p) (hk : w'.heap[g]? = w.heap[g]?) : Box10 w' g p := by
  have hc := fun (o : Nat) => World.cell?_of_block (w := w) (w' := w') (a := ⟨g, o, none⟩) hk
  exact ⟨(hc 0).trans h.c0, (hc 1).trans h.c1, (hc 2).trans h.c2, (hc 3).trans h.c3, (hc 4).trans h.c4, (hc 5).trans h.c5, (hc 6).trans h.c6, (hc 7).trans h.c7, (hc 8).trans h.c8, (hc 9).trans h.c9⟩

def MapPost (w : World) (g _B d : Nat) (ps : Array Pr) (e : Ending) (w' : World) : Prop :=
  ∃ (ps' : List Pr) (A : Option Addr) (c : Nat) (A' : Option Addr) (c' : Nat), Srt ps' ∧ FEq ps.toList ps' ∧ e = .returned (vl (mapV ((ps'.foldl gat []).map Pr.kv)) A c A' c') ∧ Rd w' 0 w'.heap.size (d + 1) (mapV ((ps'.foldl gat []).map Pr.kv)) A c A' c' ∧ Near g w w'

theorem Held.rebase {w w' : World} {g B d n : Nat} {ps : Array Pr} (h : Held w w g B d n ps) (hb : Below w.heap.size w w') (hB : B ≤ g) (hg : g < w.heap.size) : Held w' w' g B d n ps :=
  ⟨h.sz, h.row.below hb hg, Near.refl _ _, fun j hj => ⟨(h.els j hj).1.below hb (by omega), (h.els j hj).2.below hb (by omega)⟩⟩
/-- What the loop of mapOf holds. -/
structure Mid (W0 wr : World) (g B d n gm r0 : Nat) (ps' : Array Pr) (k : Nat) (acc : List Pr) (AL : Option Addr) (cL : Nat) (AM : Option Addr) (cM : Nat) : Prop where
  held : Held W0 wr g B d n ps'
  box : Cell wr gm (.int .i64 7) (.int .i64 0) (.string ⟨#[]⟩) (.slice AL acc.length cL) (.slice AM acc.length cM)
  res : Cell wr r0 (.int .i64 0) (.int .i64 0) (.string ⟨#[]⟩) (.slice none 0 0) (.slice none 0 0)
  vl : VG wr (gm + 1) (.slice AL acc.length cL) Pr.kc acc
  vm : VG wr (gm + 1) (.slice AM acc.length cM) Pr.vc acc
  sep : ∀ b, (Value.slice AL acc.length cL).ownBlock = some b → (Value.slice AM acc.length cM).ownBlock ≠ some b
  gmlt : gm < wr.heap.size
  fold : acc = (ps'.toList.take k).foldl gat []
  len : acc.length ≤ k
  els : ∀ p ∈ acc, PrIn W0 0 B d p
theorem Mid.below {W0 wr wx : World} {g B d n gm r0 : Nat} {ps' : Array Pr} {k : Nat} {acc : List Pr} {AL : Option Addr} {cL : Nat} {AM : Option Addr} {cM : Nat} (h : Mid W0 wr g B d n gm r0 ps' k acc AL cL AM cM) (hb : Below wr.heap.size wr wx) (hg : g < W0.heap.size) (hr : r0 < wr.heap.size) : Mid W0 wx g B d n gm r0 ps' k acc AL cL AM cM :=
  ⟨h.held.below hb hg, h.box.below hb h.gmlt, h.res.below hb hr, h.vl.below hb, h.vm.below hb, h.sep, Nat.lt_of_lt_of_le h.gmlt hb.size, h.fold, h.len, h.els⟩

theorem grown_below {w w' : World} {row : Option Nat} {B : Nat} (h : w.grownBy w' row) (hB : B ≤ w.heap.size) (hr : ∀ b, row = some b → B ≤ b) : Below B w w' :=
  ⟨h.os, h.tape, h.output, h.size, fun k hk => h.block k (by omega) (fun e => by have := hr k e.symm; omega)⟩
/-- Ahead of the two appends. -/
structure St9 (wq : World) (gm pb : Nat) (acc : List Pr) (AL : Option Addr) (cL : Nat) (AM : Option Addr) (cM : Nat) (p : Pr) : Prop where
  box : Cell wq gm (.int .i64 7) (.int .i64 0) (.string ⟨#[]⟩) (.slice AL acc.length cL) (.slice AM acc.length cM)
  pbx : Box10 wq pb p
  vl : VG wq (gm + 1) (.slice AL acc.length cL) Pr.kc acc
  vm : VG wq (gm + 1) (.slice AM acc.length cM) Pr.vc acc
  sep : ∀ b, (Value.slice AL acc.length cL).ownBlock = some b → (Value.slice AM acc.length cM).ownBlock ≠ some b
  gmlt : gm < wq.heap.size
  pblt : pb < wq.heap.size
  nl : ∀ b, (Value.slice AL acc.length cL).ownBlock = some b → b ≠ pb
  nm : ∀ b, (Value.slice AM acc.length cM).ownBlock = some b → b ≠ pb
theorem St9.first {wq W wA : World} {gm pb : Nat} {acc : List Pr} {AL : Option Addr} {cL : Nat} {AM : Option Addr} {cM : Nat} {p : Pr} (h : St9 wq gm pb acc AL cL AM cM p) (hb : Below wq.heap.size wq W) (hg : W.grownBy wA (Value.slice AL acc.length cL).ownBlock) :
    Cell wA gm (.int .i64 7) (.int .i64 0) (.string ⟨#[]⟩) (.slice AL acc.length cL) (.slice AM acc.length cM) ∧ Box10 wA pb p ∧ VG wA (gm + 1) (.slice AM acc.length cM) Pr.vc acc ∧ gm < wA.heap.size ∧ wq.heap.size ≤ wA.heap.size := by
  have hs := hb.size
  have hs2 := hg.size
  have h1 := h.gmlt
  have h2 := h.pblt
  refine ⟨(h.box.below hb h.gmlt).kept (hg.block gm (by omega) (fun e => ?_)), (h.pbx.kept (hb.block pb h.pblt)).kept (hg.block pb (by omega) (fun e => h.nl pb e.symm rfl)), (h.vm.below hb).keep (fun b e _ hlt => hg.block b hlt (fun e' => h.sep b e'.symm e)), by omega, by omega⟩
  have := (h.vl.lt gm e.symm).1
  omega
theorem Mid.push {W0 wq W wA WX wB : World} {g B d n gm r0 pb : Nat} {ps' : Array Pr} {k : Nat} {acc : List Pr} {AL : Option Addr} {cL : Nat} {AM : Option Addr} {cM : Nat} {p : Pr} {gL cL' gM cM' : Nat}
    (hM : Mid W0 wq g B d n gm r0 ps' k acc AL cL AM cM) (h9 : St9 wq gm pb acc AL cL AM cM p) (hgW : W0.heap.size ≤ gm) (hg : g < W0.heap.size) (hr : r0 < gm)
    (hb : Below wq.heap.size wq W) (hvA : VG wA (gm + 1) (.slice (some ⟨gL, 0, none⟩) (acc.length + 1) cL') Pr.kc (acc ++ [p])) (hgA : W.grownBy wA (Value.slice AL acc.length cL).ownBlock) (hatA : (Value.slice AL acc.length cL).ownBlock = some gL ∨ gL = W.heap.size) (hltA : gL < wA.heap.size)
    (hbX : Below wA.heap.size wA WX) (hvB : VG wB (gm + 1) (.slice (some ⟨gM, 0, none⟩) (acc.length + 1) cM') Pr.vc (acc ++ [p])) (hgB : WX.grownBy wB (Value.slice AM acc.length cM).ownBlock) (hatB : (Value.slice AM acc.length cM).ownBlock = some gM ∨ gM = WX.heap.size)
    (hfold : acc ++ [p] = (ps'.toList.take (k + 1)).foldl gat []) (hp : PrIn W0 0 B d p) :
    Mid W0 ((wB.setCell ⟨gm, 3, none⟩ (.slice (some ⟨gL, 0, none⟩) (acc.length + 1) cL')).setCell ⟨gm, 4, none⟩ (.slice (some ⟨gM, 0, none⟩) (acc.length + 1) cM')) g B d n gm r0 ps' (k + 1) (acc ++ [p]) (some ⟨gL, 0, none⟩) cL' (some ⟨gM, 0, none⟩) cM' := by
  have e : (acc ++ [p]).length = acc.length + 1 := by simp
  obtain ⟨c1, _, v1, l1, s1⟩ := h9.first hb hgA
  have hs1 := hb.size
  have hs2 := hbX.size
  have hs3 := hgB.size
  have hgm := hM.gmlt
  have c2 := c1.below hbX l1
  have ml : ∀ b, (Value.slice AM acc.length cM).ownBlock = some b → gm + 1 ≤ b ∧ b < wq.heap.size := h9.vm.lt
  have ll : ∀ b, (Value.slice AL acc.length cL).ownBlock = some b → gm + 1 ≤ b ∧ b < wq.heap.size := h9.vl.lt
  have c3 := c2.kept (hgB.block gm (by omega) (fun e => by have := (ml gm e.symm).1; omega))
  have hLM : (Value.slice AM acc.length cM).ownBlock ≠ some gL := fun e => by
    rcases hatA with h | h
    · exact h9.sep gL h e
    · have := (ml gL e).2; omega
  have vA2 := (hvA.below hbX).keep (w' := wB) (fun b e hb' hlt => hgB.block b hlt (fun e' => by
    injection e with e
    subst e
    exact hLM e'.symm))
  have hbel : Below gm wq wB := ((hb.mono (by omega)).trans (grown_below hgA (by omega) (fun b e => by have := (ll b e).1; omega))).trans ((hbX.mono (by omega)).trans (grown_below hgB (by omega) (fun b e => by have := (ml b e).1; omega)))
  have hF : Below gm wq ((wB.setCell ⟨gm, 3, none⟩ (.slice (some ⟨gL, 0, none⟩) (acc.length + 1) cL')).setCell ⟨gm, 4, none⟩ (.slice (some ⟨gM, 0, none⟩) (acc.length + 1) cM')) := (hbel.setCell (Nat.le_refl _) _).setCell (Nat.le_refl _) _
  have hk : ∀ b, b ≠ gm → ((wB.setCell ⟨gm, 3, none⟩ (.slice (some ⟨gL, 0, none⟩) (acc.length + 1) cL')).setCell ⟨gm, 4, none⟩ (.slice (some ⟨gM, 0, none⟩) (acc.length + 1) cM')).heap[b]? = wB.heap[b]? := fun b hb => by
    rw [Below.heap_setCell _ _ _ _ hb, Below.heap_setCell _ _ _ _ hb]
  refine ⟨⟨hM.held.sz, hM.held.row.below hF (by omega), ⟨hF.os.trans hM.held.near.os, hF.tape.trans hM.held.near.tape, hF.output.trans hM.held.near.output, Nat.le_trans hM.held.near.size hF.size, fun i hi hne => (hF.block i (by omega)).trans (hM.held.near.block i hi hne)⟩, hM.held.els⟩, ?_, hM.res.below hF hr, ?_, ?_, ?_, ?_, hfold, by simp; exact hM.len, ?_⟩
  · rw [e]
    have hblk := (c3.blk.set ⟨gm, 3, none⟩ (.slice (some ⟨gL, 0, none⟩) (acc.length + 1) cL') rfl).set ⟨gm, 4, none⟩ (.slice (some ⟨gM, 0, none⟩) (acc.length + 1) cM') rfl
    obtain ⟨cs, h1, h2⟩ := c3.blk
    have hh := set_heap _ gm 4 (.slice (some ⟨gM, 0, none⟩) (acc.length + 1) cM') _ (set_heap wB gm 3 (.slice (some ⟨gL, 0, none⟩) (acc.length + 1) cL') cs h1)
    have q0 := c3.c0
    have q1 := c3.c1
    have q2 := c3.c2
    rw [cell_of_row _ _ _ _ _ _ h1] at q0 q1 q2
    refine ⟨?_, ?_, ?_, ?_, ?_, hblk.frozen 0, hblk.frozen 1, hblk.frozen 2, hblk.frozen 3, hblk.frozen 4, hblk⟩
    all_goals (rw [cell_of_row _ _ _ _ _ _ hh]; simp [Array.getElem?_setIfInBounds, q0, q1, q2]; try omega)
  · rw [e]
    exact vA2.keep (fun b hb hle _ => hk b (by omega))
  · rw [e]
    exact hvB.keep (fun b hb hle _ => hk b (by omega))
  · intro b h1 h2
    injection h1 with h1
    injection h2 with h2
    have h1' : gL = b := h1
    have h2' : gM = b := h2
    rcases hatB with h | h
    · exact hLM (by rw [h, h2', h1'])
    · omega
  · have := hF.size; omega
  · intro q hq
    rcases List.mem_append.1 hq with h | h
    · exact hM.els q h
    · simp at h; subst h; exact hp

theorem newsK1 (w : World) (p : Pr) : ∀ j u, p.kc[j]? = some u → (w.alloc (.cells #[.int .i64 p.x.k, .int .i64 p.x.n, .string p.x.s, .slice p.a1 p.x.l.length p.n1, .slice p.a2 p.x.m.length p.n2] 24)).drew.cell? ((⟨w.heap.size, 0, none⟩ : Addr).add j) = some u := news1 w 24 p.kc
theorem newsK2 (w : World) (p : Pr) (o : Obj) : ∀ j u, p.kc[j]? = some u → ((w.alloc (.cells #[.int .i64 p.x.k, .int .i64 p.x.n, .string p.x.s, .slice p.a1 p.x.l.length p.n1, .slice p.a2 p.x.m.length p.n2] 24)).alloc o).drew.cell? ((⟨w.heap.size, 0, none⟩ : Addr).add j) = some u := news2 w 24 p.kc o
theorem newsK3 (w : World) (p : Pr) (o : Obj) : ∀ j u, p.kc[j]? = some u → ((w.alloc o).alloc (.cells #[.int .i64 p.x.k, .int .i64 p.x.n, .string p.x.s, .slice p.a1 p.x.l.length p.n1, .slice p.a2 p.x.m.length p.n2] 24)).drew.cell? ((⟨w.heap.size + 1, 0, none⟩ : Addr).add j) = some u := news3 w 24 p.kc o
theorem newsV1 (w : World) (p : Pr) : ∀ j u, p.vc[j]? = some u → (w.alloc (.cells #[.int .i64 p.y.k, .int .i64 p.y.n, .string p.y.s, .slice p.a3 p.y.l.length p.n3, .slice p.a4 p.y.m.length p.n4] 24)).cell? ((⟨w.heap.size, 0, none⟩ : Addr).add j) = some u := news1 w 24 p.vc
theorem newsV2 (w : World) (p : Pr) (o : Obj) : ∀ j u, p.vc[j]? = some u → ((w.alloc (.cells #[.int .i64 p.y.k, .int .i64 p.y.n, .string p.y.s, .slice p.a3 p.y.l.length p.n3, .slice p.a4 p.y.m.length p.n4] 24)).alloc o).drew.cell? ((⟨w.heap.size, 0, none⟩ : Addr).add j) = some u := news2 w 24 p.vc o
theorem newsV3 (w : World) (p : Pr) (o : Obj) : ∀ j u, p.vc[j]? = some u → ((w.alloc o).alloc (.cells #[.int .i64 p.y.k, .int .i64 p.y.n, .string p.y.s, .slice p.a3 p.y.l.length p.n3, .slice p.a4 p.y.m.length p.n4] 24)).drew.cell? ((⟨w.heap.size + 1, 0, none⟩ : Addr).add j) = some u := news3 w 24 p.vc o

theorem St9.second {wq W2 wB : World} {gm pb : Nat} {acc : List Pr} {AL : Option Addr} {cL : Nat} {AM : Option Addr} {cM : Nat} {p : Pr} {v0 v1 v2 v3 v4 : Value} (h : St9 wq gm pb acc AL cL AM cM p) (hc : Cell W2 gm v0 v1 v2 v3 v4) (hp : Box10 W2 pb p) (hlt : gm < W2.heap.size) (hs : wq.heap.size ≤ W2.heap.size) (hg : W2.grownBy wB (Value.slice AM acc.length cM).ownBlock) : Cell wB gm v0 v1 v2 v3 v4 ∧ Box10 wB pb p :=
  ⟨hc.kept (hg.block gm hlt (fun e => by have := (h.vm.lt gm e.symm).1; omega)), hp.kept (hg.block pb (Nat.lt_of_lt_of_le h.pblt hs) (fun e => h.nm pb e.symm rfl))⟩
theorem below_of {W wA wq : World} {row : Option Nat} {B : Nat} (_ : W.grownBy wA row) (h : Below B wq W) : Below B wq W := h
theorem fold_next (ps' : Array Pr) (k : Nat) (hk : k < ps'.size) {acc : List Pr} {p : Pr} (h : acc = (ps'.toList.take k).foldl gat []) (hp : ps'[k]! = p) : (ps'.toList.take (k + 1)).foldl gat [] = gat acc p := by
  rw [take_next ps'.toList k (by rw [getB _ _ hk, hp]), List.foldl_append, ← h]; rfl
theorem gat_nil (p : Pr) : gat [] p = [p] := rfl
theorem gat_no (acc : List Pr) (q p : Pr) (h : (cmpV 12 q.x p.x == 0) = false) : gat (acc ++ [q]) p = acc ++ [q] ++ [p] := by
  unfold gat; simp [h]
theorem gat_yes (acc : List Pr) (q p : Pr) (h : (cmpV 12 q.x p.x == 0) = true) : gat (acc ++ [q]) p = acc ++ [{ q with y := p.y, a3 := p.a3, n3 := p.n3, a4 := p.a4, n4 := p.n4 }] := by
  unfold gat; simp [h]

end Go.Proofs.Ytdolejafihgpmaa
