/- Carried over from an earlier seat. -/
import Derived.Test.YtebkkjfeikpfgaaBNT
namespace Go.Proofs.Ytebkkjfeikpfgaa
set_option maxRecDepth 100000
open Go.RowKit Go.Sort
set_option maxRecDepth 100000

/-- A row of things that is its owner's, all of whose memory lies from lo on. -/
structure COwn (lo : Nat) (w : World) (A : Option Addr) (c : Nat) (r : List TA) : Prop where
  cap : c = r.length
  nil : r = [] → A = none
  row : r ≠ [] → ∃ g, A = some ⟨g, 0, none⟩ ∧ lo ≤ g ∧ FillT w g r.length r
theorem BlkT.keptAt {w w' : World} {lo B g n : Nat} (h : BlkT w g n) (hk : Kept lo B w w') (h1 : lo ≤ g) (h2 : g < B) : BlkT w' g n := h.kept (hk g h1 h2)
theorem FillT.keep {w w' : World} {g n : Nat} {done : List TA} (h : FillT w g n done) (hk : Kept g w.heap.size w w') (hs : w.heap.size ≤ w'.heap.size) : FillT w' g n done :=
  ⟨h.blk.keptAt hk (Nat.le_refl _) h.blk.lt, fun j t hj => by
    obtain ⟨q, r, m⟩ := h.el j t hj
    have hg := h.blk.lt
    have hk2 : Kept (g + 1) w.heap.size w w' := fun k h1 h2 => hk k (by omega) h2
    refine ⟨⟨(hk.cell (Nat.le_refl _) hg).trans q.c0, (hk.cell (Nat.le_refl _) hg).trans q.c1, (hk.cell (Nat.le_refl _) hg).trans q.c2, (hk.cell (Nat.le_refl _) hg).trans q.c3, (hk.cell (Nat.le_refl _) hg).trans q.c4⟩, r.imp hk2 (Nat.le_refl _) hs, m.keep r hk2⟩⟩
theorem COwn.keep {lo lo' : Nat} {w w' : World} {A : Option Addr} {c : Nat} {r : List TA} (h : COwn lo w A c r) (hk : Kept lo w.heap.size w w') (hs : w.heap.size ≤ w'.heap.size) (hl : lo' ≤ lo) : COwn lo' w' A c r :=
  ⟨h.cap, h.nil, fun h0 => by
    obtain ⟨g, e, h1, hf⟩ := h.row h0
    exact ⟨g, e, Nat.le_trans hl h1, hf.keep (fun k h2 h3 => hk k (by omega) h3) hs⟩⟩
theorem CThings.own {w w' : World} {ts : List TA} {e : Ending} (h : CThings w ts e w') : ∃ A c r, e = .returned (.slice A (List.length (α := TA) r) c) ∧ COwn w.heap.size w' A c r ∧ r.map TA.tv' = ts.map TA.ctv ∧ Below w.heap.size w w' := by
  obtain ⟨A, c, r, e, h1, h2, h3, h4, h5⟩ := h
  exact ⟨A, c, r, e, ⟨h3, h2, h1⟩, h4, h5⟩
def CopyPost (w : World) (g : GA) (e : Ending) (w' : World) : Prop := ∃ q : GA, e = .returned q.v ∧ q.vs.map TA.tv' = g.vs.map TA.ctv ∧ q.es.map TA.tv' = g.es.map TA.ctv ∧ COwn w.heap.size w' q.AV q.cV q.vs ∧ COwn w.heap.size w' q.AE q.cE q.es ∧ Below w.heap.size w w'
theorem blk24 (w : World) (v0 v1 : Value) (W : World) (hW : w.alloc (.cells #[v0, v1] 24) = W) : W.frozen? ⟨w.heap.size, 0, none⟩ = false ∧ W.frozen? ⟨w.heap.size, 1, none⟩ = false := by
  subst hW
  have hb : (w.alloc (.cells #[v0, v1] 24)).heap[w.heap.size]? = some (.cells #[v0, v1] 24 (0, 0)) := heap_alloc_new w _
  constructor <;> (unfold World.frozen?; rw [hb]; simp)
theorem store2 {w : World} {g : Nat} {x0 x1 : Value} (c0 : w.cell? ⟨g, 0, none⟩ = some x0) (c1 : w.cell? ⟨g, 1, none⟩ = some x1) (u0 u1 : Value) :
    ((w.setCell ⟨g, 0, none⟩ u0).setCell ⟨g, 1, none⟩ u1).cell? ⟨g, 0, none⟩ = some u0 ∧ ((w.setCell ⟨g, 0, none⟩ u0).setCell ⟨g, 1, none⟩ u1).cell? ⟨g, 1, none⟩ = some u1 := by
  refine ⟨?_, ?_⟩ <;> simp [go_sem, c0, c1]
set_option maxHeartbeats 8000000 in
theorem gcopy_any (w : World) (d : Nat) (g : GA) (hg : g.In w d) : Calls Try.prog 30 #[g.v] w (CopyPost w g) := by
  have HG := Lib.hid hg
  clear hg
  go_enter Try.func30, Try.ntmps30
  go_upto_region 1 with fail
  generalize hW : World.alloc (World.alloc _ _) _ = W
  obtain ⟨y0, y1, z0, z1, hbW, hsW⟩ := boxes24 _ _ _ _ _ _ hW
  have f01 := blk24 (w.alloc (.cells #[.slice g.AV g.vs.length g.cV, .slice g.AE g.es.length g.cE] 24)) (.slice none 0 0) (.slice none 0 0) W hW
  rw [size_alloc] at f01
  obtain ⟨f0, f1⟩ := f01
  have HBW := Lib.hid hbW
  have h0 : w.heap.size < W.heap.size := by omega
  have h1 : w.heap.size + 1 < W.heap.size := by omega
  clear hW hbW hsW
  have CV := Lib.hid (fun (Y : World) (hY : Below W.heap.size W Y) => copyThings_any Y d g.AV g.cV g.vs ((HG.out.v.next HBW.out).next hY))
  have CE := Lib.hid (fun (Y : World) (hY : Below W.heap.size W Y) => copyThings_any Y d g.AE g.cE g.es ((HG.out.e.next HBW.out).next hY))
  go_region_with (first
    | (go_at_call 48; (with_reducible refine (CV.out _ ?_).mono ?_); (focus exact (Below.refl _ _).drew); intro e w1 hpost; obtain ⟨A1, c1, r1, rfl, ho1, hm1, hb0⟩ := CThings.own hpost; have hb1 : Below W.heap.size W w1 := (Below.refl _ _).drew.trans hb0; have x1 := cell_below hb1 y1 h0; have B1 := Lib.hid hb1; have O1 := Lib.hid ho1; have M1 := Lib.hid hm1; clear hpost hb0 hb1 ho1 hm1)
    | (go_at_call 48; (with_reducible refine (CE.out _ ?_).mono ?_); (focus exact B1.out); intro e w2 hpost; obtain ⟨A2, c2, r2, rfl, ho2, hm2, hb2⟩ := CThings.own hpost; have hb12 := bnext B1.out hb2; have v0 := cell_below hb12 z0 h1; have v1 := cell_below hb12 z1 h1; have g0 : w2.frozen? ⟨w.heap.size + 1, 0, none⟩ = false := (World.frozen?_of_block (w := W) (hb12.block _ h1)).trans f0; have g1 : w2.frozen? ⟨w.heap.size + 1, 1, none⟩ = false := (World.frozen?_of_block (w := W) (hb12.block _ h1)).trans f1; have B2 := Lib.hid hb2; have B12 := Lib.hid hb12; have O2 := Lib.hid ho2; have M2 := Lib.hid hm2; clear hpost hb2 hb12 ho2 hm2))
  all_goals
    have sc := store2 v0 v1 (.slice A1 r1.length c1) (.slice A2 r2.length c2)
    have SC := Lib.hid sc
    clear sc
    go_wp2
    obtain ⟨s0, s1⟩ := SC.out
    have sF : ((w2.setCell ⟨w.heap.size + 1, 0, none⟩ (.slice A1 r1.length c1)).setCell ⟨w.heap.size + 1, 1, none⟩ (.slice A2 r2.length c2)).heap.size = w2.heap.size := by simp [World.setCell]
    have bF : Below w.heap.size w ((w2.setCell ⟨w.heap.size + 1, 0, none⟩ (.slice A1 r1.length c1)).setCell ⟨w.heap.size + 1, 1, none⟩ (.slice A2 r2.length c2)) := ((bnext HBW.out B12.out).setCell (p := ⟨w.heap.size + 1, 0, none⟩) (by show w.heap.size ≤ w.heap.size + 1; omega) _).setCell (p := ⟨w.heap.size + 1, 1, none⟩) (by show w.heap.size ≤ w.heap.size + 1; omega) _
    have kF : ∀ lo B, w.heap.size + 1 < lo → Kept lo B w2 ((w2.setCell ⟨w.heap.size + 1, 0, none⟩ (.slice A1 r1.length c1)).setCell ⟨w.heap.size + 1, 1, none⟩ (.slice A2 r2.length c2)) := fun lo B hlo => (Kept.setCell (.inl hlo) _).trans (Kept.setCell (.inl hlo) _)
    generalize World.setCell (World.setCell w2 _ _) _ _ = F at s0 s1 sF bF kF ⊢
    have sW : W.heap.size ≤ w1.heap.size := B1.out.size
    exact bodyPost_ret (v := .agg #[.slice A1 r1.length c1, .slice A2 r2.length c2]) (by simp [results, Try.results30, go_sem, s0, s1]) rfl ⟨⟨A1, c1, r1, A2, c2, r2⟩, rfl, M1.out, M2.out, O1.out.keep ((Kept.of_below B2.out (Nat.le_refl _)).trans (fun k h2 h3 => kF W.heap.size w2.heap.size h1 k h2 (Nat.lt_of_lt_of_le h3 B2.out.size))) (by rw [sF]; exact B2.out.size) (by show w.heap.size ≤ W.heap.size; omega), O2.out.keep (kF w1.heap.size w2.heap.size (by omega)) (by rw [sF]; exact Nat.le_refl _) (by omega), bF⟩
end Go.Proofs.Ytebkkjfeikpfgaa

