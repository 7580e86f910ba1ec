/- StorePicks: a graph of one's own, and what is written over in it. -/
import Derived.Test.YtebkkjfeikpfgaaTJ
import Derived.Test.YtebkkjfeikpfgaaTC
import Derived.Test.YtebkkjfeikpfgaaTA
import Derived.Test.YtebkkjfeikpfgaaCOd
namespace Go.Proofs.Ytebkkjfeikpfgaa
open Go.RowKit Go.Sort
set_option maxRecDepth 100000

theorem PRow.up {w : World} {lo d d' c : Nat} {A : Option Addr} {l : List PA} (h : PRow w lo d A c l) (hd : d ≤ d') : PRow w lo d' A c l :=
  ⟨h.le, h.cap, h.big, h.nil, h.at_, fun p hp => Rd.more (h.vals p hp) (Nat.le_refl _) (Nat.le_refl _) hd⟩
theorem made42 {w W : World} {v0 v1 v2 v3 v4 : Value} (hW : w.alloc (.cells #[v0, v1, v2, v3, v4] 42) = W) : CellT W w.heap.size v0 v1 v2 v3 v4 ∧ Below w.heap.size w W := by
  subst hW
  exact ⟨CellT.new _ _ _ _ _ _, below_new _ _⟩
theorem grown_none {w w' : World} (h : w.grownBy w' none) : Below w.heap.size w w' := ⟨h.os, h.tape, h.output, h.size, fun k hk => h.block k hk (by simp)⟩
theorem K24'.set0 {w : World} {g : Nat} {v0 v1 : Value} (h : K24' w g v0 v1) (u : Value) : K24' (w.setCell ⟨g, 0, none⟩ u) g u v1 := by
  obtain ⟨c0, c1, f0, f1, lt⟩ := h
  exact ⟨by simp [go_sem, c0], by simp [go_sem, c1], by simp [go_sem, f0], by simp [go_sem, f1], by simpa [World.setCell] using lt⟩
theorem K24'.set1 {w : World} {g : Nat} {v0 v1 : Value} (h : K24' w g v0 v1) (u : Value) : K24' (w.setCell ⟨g, 1, none⟩ u) g v0 u := by
  obtain ⟨c0, c1, f0, f1, lt⟩ := h
  exact ⟨by simp [go_sem, c0], by simp [go_sem, c1], by simp [go_sem, f0], by simp [go_sem, f1], by simpa [World.setCell] using lt⟩
theorem K24'.other {w : World} {g : Nat} {v0 v1 : Value} (h : K24' w g v0 v1) {p : Addr} (hp : p.block ≠ g) (u : Value) : K24' (w.setCell p u) g v0 v1 := by
  have hb : (w.setCell p u).heap[g]? = w.heap[g]? := Below.heap_setCell _ _ _ _ (by omega)
  exact ⟨(World.cell?_of_block hb).trans h.c0, (World.cell?_of_block hb).trans h.c1, (World.frozen?_of_block (w := w) hb).trans h.f0, (World.frozen?_of_block (w := w) hb).trans h.f1, by simpa [World.setCell] using h.lt⟩
theorem TOwn.set_low {w : World} {base n c : Nat} {A : Option Addr} {l : List TA} (h : TOwn w base A n c l) {p : Addr} (hp : p.block < base) (u : Value) : TOwn (w.setCell p u) base A n c l := by
  refine ⟨h.1, ?_⟩
  rcases h.2 with e | ⟨g', cap, cur, e, h1, h2, h3⟩
  · exact .inl e
  · exact .inr ⟨g', cap, cur, e, h1, (Below.heap_setCell _ _ _ _ (by omega)).trans h2, h3⟩
/-- A block of things' cells. -/
def BlkA (w : World) (g n : Nat) : Prop := ∃ cs : Array Value, w.heap[g]? = some (.cells cs 42 (0, 0)) ∧ n ≤ cs.size
theorem BlkA.cell {w : World} {g n : Nat} (h : BlkA w g n) {i : Nat} (hi : i < n) : ∃ v, w.cell? ⟨g, i, none⟩ = some v := by
  obtain ⟨cs, h1, h2⟩ := h
  exact ⟨cs[i], by simp [World.cell?, h1, Array.getElem?_eq_getElem (show i < cs.size by omega)]⟩
theorem BlkA.frozen {w : World} {g n : Nat} (h : BlkA w g n) (i : Nat) : w.frozen? ⟨g, i, none⟩ = false := by
  obtain ⟨cs, h1, h2⟩ := h
  simp [World.frozen?, h1]
theorem BlkA.set {w : World} {g n : Nat} (h : BlkA w g n) (g' i : Nat) (u : Value) : BlkA (w.setCell ⟨g', i, none⟩ u) g n := by
  obtain ⟨cs, h1, h2⟩ := h
  by_cases e : g' = g
  · subst e
    exact ⟨cs.setIfInBounds i u, by simp [World.setCell, Array.getElem?_modify, h1], by simpa using h2⟩
  · exact ⟨cs, (Below.heap_setCell _ _ _ _ (by show g ≠ g'; omega)).trans h1, h2⟩
theorem BlkA.next {a b : World} {g n : Nat} (h : BlkA a g n) (hb : Below a.heap.size a b) : BlkA b g n := by
  obtain ⟨cs, h1, h2⟩ := h
  exact ⟨cs, (hb.block g (Array.getElem?_eq_some_iff.1 h1).1).trans h1, h2⟩
theorem TOwn.blk {w : World} {base n c : Nat} {A : Option Addr} {l : List TA} (h : TOwn w base A n c l) (hn : 0 < n) : ∃ g, A = some ⟨g, 0, none⟩ ∧ base ≤ g ∧ g < w.heap.size ∧ BlkA w g (n * 5) := by
  have hl := h.len
  rcases h.2 with ⟨e, e0⟩ | ⟨g, cap, cur, e, hb, hg, hnc, hcm, hcs, ht⟩
  · omega
  · injection e with e1 e2 e3
    refine ⟨g, e1, hb, (Array.getElem?_eq_some_iff.1 hg).1, cur, hg, ?_⟩
    rw [hcs]
    exact Nat.mul_le_mul_right 5 hnc
/-- What lies there while the graph of one's own is written over. -/
structure PK (W F w5 : World) (gb : Nat) (A1 : Option Addr) (n1 c1 : Nat) (A2 : Option Addr) (n2 c2 : Nat) (wr : World) : Prop where
  bel : Below W.heap.size W wr
  like : Alike F.heap.size w5 wr
  box : K24' wr gb (.slice A1 n1 c1) (.slice A2 n2 c2)
  r1 : 0 < n1 → ∃ g, A1 = some ⟨g, 0, none⟩ ∧ gb < g ∧ g < F.heap.size ∧ BlkA wr g (n1 * 5)
  r2 : 0 < n2 → ∃ g, A2 = some ⟨g, 0, none⟩ ∧ gb < g ∧ g < F.heap.size ∧ BlkA wr g (n2 * 5)
theorem PK.set {W F w5 : World} {gb : Nat} {A1 : Option Addr} {n1 c1 : Nat} {A2 : Option Addr} {n2 c2 : Nat} {wr : World} (h : PK W F w5 gb A1 n1 c1 A2 n2 c2 wr) (hW : W.heap.size ≤ gb) {g : Nat} (h1 : gb < g) (h2 : g < F.heap.size) (i : Nat) (u : Value) : PK W F w5 gb A1 n1 c1 A2 n2 c2 (wr.setCell ⟨g, i, none⟩ u) :=
  ⟨h.bel.setCell (p := ⟨g, i, none⟩) (by show W.heap.size ≤ g; omega) u, h.like.set (p := ⟨g, i, none⟩) h2 u, h.box.other (p := ⟨g, i, none⟩) (by show g ≠ gb; omega) u,
    fun h0 => by
      obtain ⟨g1, e, q1, q2, q3⟩ := h.r1 h0
      exact ⟨g1, e, q1, q2, q3.set g i u⟩,
    fun h0 => by
      obtain ⟨g1, e, q1, q2, q3⟩ := h.r2 h0
      exact ⟨g1, e, q1, q2, q3.set g i u⟩⟩
theorem ctvs_of {vs gs : List TA} {m : Nat} (h : vs.map TA.tv' = gs.map TA.tv') (hok : okTVs m (gs.map TA.tv') = true) : vs.map TA.tv' = gs.map TA.ctv := by
  rw [h, ctvs_ok (okTVs_parts hok).2.1]
theorem picks_ctv {g : GA} {vs es : List TA} (hok : okG g.vs g.es = true) (hv : vs.map TA.tv' = g.vs.map TA.tv') (he : es.map TA.tv' = g.es.map TA.tv') : vs.map TA.tv' = g.vs.map TA.ctv ∧ es.map TA.tv' = g.es.map TA.ctv := by
  rw [okG_tv] at hok
  obtain ⟨k1, _, k3, _⟩ := okGV_parts hok
  exact ⟨ctvs_of hv k1, ctvs_of he k3⟩
end Go.Proofs.Ytebkkjfeikpfgaa
