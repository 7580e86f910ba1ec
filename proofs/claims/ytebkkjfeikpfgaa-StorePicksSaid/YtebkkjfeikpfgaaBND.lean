/- Carried over from an earlier seat. -/
import Derived.Test.YtebkkjfeikpfgaaBNA
import Derived.Test.YtebkkjfeikpfgaaBNC
namespace Go.Proofs.Ytebkkjfeikpfgaa
set_option maxRecDepth 100000
open Go.RowKit Go.Sort
set_option maxRecDepth 100000

/-- A block of values that is known whole. -/
def BlkT (w : World) (g n : Nat) : Prop := ∃ cs : Array Value, w.heap[g]? = some (.cells cs 42 (0, 0)) ∧ cs.size = n * 5
theorem BlkT.lt {w : World} {g n : Nat} (h : BlkT w g n) : g < w.heap.size := by
  obtain ⟨cs, h, _⟩ := h
  exact (Array.getElem?_eq_some_iff.1 h).1
theorem BlkT.cell {w : World} {g n : Nat} (h : BlkT w g n) {i : Nat} (hi : i < n * 5) : ∃ v, w.cell? ⟨g, i, none⟩ = some v := by
  obtain ⟨cs, h, hs⟩ := h
  exact ⟨cs[i], by rw [cell_of_row w g i cs 42 (0, 0) h]; exact Array.getElem?_eq_getElem (by omega)⟩
theorem BlkT.frozen {w : World} {g n : Nat} (h : BlkT w g n) (i : Nat) : w.frozen? ⟨g, i, none⟩ = false := by
  obtain ⟨cs, h, _⟩ := h
  simp [World.frozen?, h]
theorem BlkT.kept {w w' : World} {g n : Nat} (h : BlkT w g n) (hk : w'.heap[g]? = w.heap[g]?) : BlkT w' g n := by
  obtain ⟨cs, h, hs⟩ := h
  exact ⟨cs, hk.trans h, hs⟩
theorem BlkT.below {w w' : World} {B g n : Nat} (h : BlkT w g n) (hb : Below B w w') (hg : g < B) : BlkT w' g n := h.kept (hb.block g hg)
theorem BlkT.set {w : World} {g n : Nat} (h : BlkT w g n) (p : Addr) (u : Value) (hp : p.spot = none) : BlkT (w.setCell p u) g n := by
  by_cases e : g = p.block
  · obtain ⟨cs, h, hs⟩ := h
    refine ⟨cs.setIfInBounds p.off u, ?_, by simpa using hs⟩
    subst e
    obtain ⟨b, o, s⟩ := p
    obtain rfl : s = none := hp
    simp [World.setCell, Array.getElem?_modify, h]
  · exact h.kept (Below.heap_setCell w p u g e)

theorem setT_heap (w : World) (g o : Nat) (u : Value) (cs : Array Value) (h : w.heap[g]? = some (.cells cs 42 (0, 0))) : (w.setCell ⟨g, o, none⟩ u).heap[g]? = some (.cells (cs.setIfInBounds o u) 42 (0, 0)) := by
  simp [World.setCell, Array.getElem?_modify, h]
theorem put5T_heap (w : World) (g o : Nat) (v0 v1 v2 v3 v4 : Value) (cs : Array Value) (h : w.heap[g]? = some (.cells cs 42 (0, 0))) :
    (put5 w g o v0 v1 v2 v3 v4).heap[g]? = some (.cells (((((cs.setIfInBounds o v0).setIfInBounds (o + 1) v1).setIfInBounds (o + 2) v2).setIfInBounds (o + 3) v3).setIfInBounds (o + 4) v4) 42 (0, 0)) :=
  setT_heap _ _ _ _ _ (setT_heap _ _ _ _ _ (setT_heap _ _ _ _ _ (setT_heap _ _ _ _ _ (setT_heap _ _ _ _ _ h))))
theorem put5T_blk {w : World} {g n : Nat} (h : BlkT w g n) (o : Nat) (v0 v1 v2 v3 v4 : Value) : BlkT (put5 w g o v0 v1 v2 v3 v4) g n :=
  ((((h.set _ _ rfl).set _ _ rfl).set _ _ rfl).set _ _ rfl).set _ _ rfl
theorem put5T_at {w : World} {g n : Nat} (h : BlkT w g n) (o : Nat) (ho : o + 5 ≤ n * 5) (v0 v1 v2 v3 v4 : Value) :
    (put5 w g o v0 v1 v2 v3 v4).cell? ⟨g, o, none⟩ = some v0 ∧ (put5 w g o v0 v1 v2 v3 v4).cell? ⟨g, o + 1, none⟩ = some v1 ∧ (put5 w g o v0 v1 v2 v3 v4).cell? ⟨g, o + 2, none⟩ = some v2 ∧ (put5 w g o v0 v1 v2 v3 v4).cell? ⟨g, o + 3, none⟩ = some v3 ∧ (put5 w g o v0 v1 v2 v3 v4).cell? ⟨g, o + 4, none⟩ = some v4 := by
  obtain ⟨cs, h, hs⟩ := h
  have hh := put5T_heap w g o v0 v1 v2 v3 v4 cs h
  refine ⟨?_, ?_, ?_, ?_, ?_⟩ <;> (rw [cell_of_row _ _ _ _ _ _ hh]; simp [Array.getElem?_setIfInBounds]; omega)
/-- A box of one value that is the call's own. -/
structure CellT (w : World) (g : Nat) (v0 v1 v2 v3 v4 : Value) : Prop where
  c0 : w.cell? ⟨g, 0, none⟩ = some v0
  c1 : w.cell? ⟨g, 1, none⟩ = some v1
  c2 : w.cell? ⟨g, 2, none⟩ = some v2
  c3 : w.cell? ⟨g, 3, none⟩ = some v3
  c4 : w.cell? ⟨g, 4, none⟩ = some v4
  f0 : w.frozen? ⟨g, 0, none⟩ = false
  f1 : w.frozen? ⟨g, 1, none⟩ = false
  f2 : w.frozen? ⟨g, 2, none⟩ = false
  f3 : w.frozen? ⟨g, 3, none⟩ = false
  f4 : w.frozen? ⟨g, 4, none⟩ = false
  blk : BlkT w g 1
theorem CellT.new (w : World) (v0 v1 v2 v3 v4 : Value) : CellT (w.alloc (.cells #[v0, v1, v2, v3, v4] 42)) w.heap.size v0 v1 v2 v3 v4 := by
  have hb : (w.alloc (.cells #[v0, v1, v2, v3, v4] 42)).heap[w.heap.size]? = some (.cells #[v0, v1, v2, v3, v4] 42 (0, 0)) := heap_alloc_new w _
  constructor
  all_goals first | exact ⟨_, hb, rfl⟩ | (rw [World.cell?_alloc_at _ _ _ _ rfl]; rfl) | (unfold World.frozen?; rw [hb]; simp)
theorem CellT.kept {w w' : World} {g : Nat} {v0 v1 v2 v3 v4 : Value} (h : CellT w g v0 v1 v2 v3 v4) (hk : w'.heap[g]? = w.heap[g]?) : CellT w' g v0 v1 v2 v3 v4 := by
  have hc := fun (o : Nat) => World.cell?_of_block (w := w) (w' := w') (a := ⟨g, o, none⟩) hk
  have hf := fun (o : Nat) => World.frozen?_of_block (w := w) (w' := w') (a := ⟨g, o, none⟩) hk
  exact ⟨(hc 0).trans h.c0, (hc 1).trans h.c1, (hc 2).trans h.c2, (hc 3).trans h.c3, (hc 4).trans h.c4, (hf 0).trans h.f0, (hf 1).trans h.f1, (hf 2).trans h.f2, (hf 3).trans h.f3, (hf 4).trans h.f4, h.blk.kept hk⟩
theorem CellT.below {w w' : World} {B g : Nat} {v0 v1 v2 v3 v4 : Value} (h : CellT w g v0 v1 v2 v3 v4) (hb : Below B w w') (hg : g < B) : CellT w' g v0 v1 v2 v3 v4 := h.kept (hb.block g hg)

/-- Five cells of a box written. -/
theorem fin5T {w : World} {g : Nat} (h : BlkT w g 1) (v0 v1 v2 v3 v4 : Value) : CellT (((((w.setCell ⟨g, 0, none⟩ v0).setCell ⟨g, 1, none⟩ v1).setCell ⟨g, 2, none⟩ v2).setCell ⟨g, 3, none⟩ v3).setCell ⟨g, 4, none⟩ v4) g v0 v1 v2 v3 v4 := by
  obtain ⟨a0, a1, a2, a3, a4⟩ := put5T_at h 0 (by omega) v0 v1 v2 v3 v4
  have hb := put5T_blk h 0 v0 v1 v2 v3 v4
  exact ⟨a0, a1, a2, a3, a4, hb.frozen 0, hb.frozen 1, hb.frozen 2, hb.frozen 3, hb.frozen 4, hb⟩

/-- A value of the caller's in a box that the call has made for its result. -/
theorem retT_box {w1 : World} {g : Nat} (h : BlkT w1 g 1) (v0 v1 v2 v3 v4 : Value) : ∃ F, F = ((((w1.setCell ⟨g, 0, none⟩ v0).setCell ⟨g, 1, none⟩ v1).setCell ⟨g, 2, none⟩ v2).setCell ⟨g, 3, none⟩ v3).setCell ⟨g, 4, none⟩ v4 ∧ CellT F g v0 v1 v2 v3 v4 ∧ (∀ lo B, g < lo → Kept lo B w1 F) ∧ F.heap.size = w1.heap.size ∧ (∀ B w, B ≤ g → Below B w w1 → Below B w F) := by
  refine ⟨_, rfl, fin5T h _ _ _ _ _, fun lo B hg => ?_, by simp [World.setCell], fun B w hB hb => ?_⟩
  · repeat (refine Kept.trans ?_ (Kept.setCell (.inl hg) _))
    exact Kept.refl _ _ _
  · repeat (refine Below.setCell ?_ hB _)
    exact hb

theorem CellT.next {a b : World} {g : Nat} {v0 v1 v2 v3 v4 : Value} (h : CellT a g v0 v1 v2 v3 v4) (hb : Below a.heap.size a b) : CellT b g v0 v1 v2 v3 v4 := h.below hb h.blk.lt

/-- A property, with where its value's rows lie. -/
structure PA where
  key : ByteArray
  x : At
def PA.cs (p : PA) : List Value := [.string p.key, .int .i64 p.x.t.k, .int .i64 p.x.t.n, .string p.x.t.s, .slice p.x.A p.x.t.l.length p.x.c, .slice p.x.A' p.x.t.m.length p.x.c']
abbrev PA.v (p : PA) : Value := .agg #[.string p.key, .int .i64 p.x.t.k, .int .i64 p.x.t.n, .string p.x.t.s, .slice p.x.A p.x.t.l.length p.x.c, .slice p.x.A' p.x.t.m.length p.x.c']
/-- The six cells of a property. -/
structure cells6 (w : World) (b o : Nat) (p : PA) : Prop where
  k : w.cell? ⟨b, o, none⟩ = some (.string p.key)
  c0 : w.cell? ⟨b, o + 1, none⟩ = some (.int .i64 p.x.t.k)
  c1 : w.cell? ⟨b, o + 2, none⟩ = some (.int .i64 p.x.t.n)
  c2 : w.cell? ⟨b, o + 3, none⟩ = some (.string p.x.t.s)
  c3 : w.cell? ⟨b, o + 4, none⟩ = some (.slice p.x.A p.x.t.l.length p.x.c)
  c4 : w.cell? ⟨b, o + 5, none⟩ = some (.slice p.x.A' p.x.t.m.length p.x.c')
/-- A row of properties, all of whose memory lies from lo on. -/
structure PRow (w : World) (lo d : Nat) (A : Option Addr) (c : Nat) (l : List PA) : Prop where
  le : l.length ≤ c
  cap : c ≤ maxLen
  big : l.length ≤ 1466015503658
  nil : A = none → c = 0
  at_ : 0 < l.length → ∃ b off, A = some ⟨b, off, none⟩ ∧ lo ≤ b ∧ b < w.heap.size ∧ ∀ j p, l[j]? = some p → cells6 w b (off + j * 6) p
  vals : ∀ p ∈ l, Rd w lo w.heap.size d p.x.t p.x.A p.x.c p.x.A' p.x.c'
theorem cells6.keep {a b : World} {lo B g o : Nat} {p : PA} (h : cells6 a g o p) (hk : Kept lo B a b) (h1 : lo ≤ g) (h2 : g < B) : cells6 b g o p :=
  ⟨(hk.cell h1 h2).trans h.k, (hk.cell h1 h2).trans h.c0, (hk.cell h1 h2).trans h.c1, (hk.cell h1 h2).trans h.c2, (hk.cell h1 h2).trans h.c3, (hk.cell h1 h2).trans h.c4⟩
theorem cells6.next {a b : World} {g o : Nat} {p : PA} (h : cells6 a g o p) (hb : Below a.heap.size a b) (hg : g < a.heap.size) : cells6 b g o p := h.keep (Kept.of_below hb (Nat.le_refl _)) (Nat.zero_le _) hg
theorem PRow.imp {a b : World} {lo lo' d c : Nat} {A : Option Addr} {l : List PA} (h : PRow a lo d A c l) (hk : Kept lo a.heap.size a b) (h1 : lo' ≤ lo) (h2 : a.heap.size ≤ b.heap.size) : PRow b lo' d A c l :=
  ⟨h.le, h.cap, h.big, h.nil, fun h0 => by
    obtain ⟨g, off, e, hl, hg, hc⟩ := h.at_ h0
    exact ⟨g, off, e, Nat.le_trans h1 hl, Nat.lt_of_lt_of_le hg h2, fun j p hj => (hc j p hj).keep hk hl hg⟩, fun p hp => Rd.imp hk h1 h2 (Nat.le_refl _) (h.vals p hp)⟩
theorem PRow.next {a b : World} {lo d c : Nat} {A : Option Addr} {l : List PA} (h : PRow a lo d A c l) (hb : Below a.heap.size a b) : PRow b lo d A c l := h.imp (Kept.of_below hb (Nat.le_refl _)) (Nat.le_refl _) hb.size
theorem PRow.low {a : World} {lo lo' d c : Nat} {A : Option Addr} {l : List PA} (h : PRow a lo d A c l) (h1 : lo' ≤ lo) : PRow a lo' d A c l := h.imp (Kept.refl _ _ _) h1 (Nat.le_refl _)
theorem prow_nil (w : World) (lo d : Nat) : PRow w lo d none 0 [] := ⟨by simp, by unfold maxLen; omega, by simp, fun _ => rfl, fun h => absurd h (by simp), fun p hp => by cases hp⟩
theorem PRow.elem {w : World} {lo d c : Nat} {A : Option Addr} {l : List PA} (h : PRow w lo d A c l) {k : Nat} (hk : k < l.length) : ∃ b off p, A = some ⟨b, off, none⟩ ∧ b < w.heap.size ∧ l[k]? = some p ∧ cells6 w b (off + k * 6) p ∧ p.x.In w d := by
  obtain ⟨b, off, e, hl, hb, hc⟩ := h.at_ (by omega)
  have hj : l[k]? = some l[k] := List.getElem?_eq_getElem hk
  exact ⟨b, off, l[k], e, hb, hj, hc k _ hj, Rd.more (h.vals _ (List.getElem_mem _)) (Nat.zero_le _) (Nat.le_refl _) (Nat.le_refl _)⟩

/-- Where the first is of which p holds, or -1. -/
def idxG {α : Type} (p : α → Bool) : List α → Nat → Int
  | [], _ => -1
  | x :: r, k => if p x then k else idxG p r (k + 1)
theorem idxG_yes {α : Type} (p : α → Bool) (l : List α) (k : Nat) {x : α} (hx : l[k]? = some x) (h : p x = true) : idxG p (l.drop k) k = k := by
  obtain ⟨h1, e1⟩ := List.getElem?_eq_some_iff.1 hx
  rw [List.drop_eq_getElem_cons h1, e1]; simp [idxG, h]
theorem idxG_no {α : Type} (p : α → Bool) (l : List α) (k : Nat) {x : α} (hx : l[k]? = some x) (h : p x = false) : idxG p (l.drop k) k = idxG p (l.drop (k + 1)) (k + 1) := by
  obtain ⟨h1, e1⟩ := List.getElem?_eq_some_iff.1 hx
  rw [List.drop_eq_getElem_cons h1, e1]; simp [idxG, h]
theorem idxG_out {α : Type} (p : α → Bool) (l : List α) (k j : Nat) (h : l.length ≤ k) : idxG p (l.drop k) j = -1 := by rw [List.drop_eq_nil_of_le h]; rfl
theorem idxG_range {α : Type} (p : α → Bool) : ∀ (l : List α) (k : Nat), idxG p l k = -1 ∧ l.any p = false ∨ ((k : Int) ≤ idxG p l k ∧ idxG p l k < (k : Int) + l.length ∧ l.any p = true)
  | [], _ => .inl ⟨rfl, rfl⟩
  | x :: r, k => by
    by_cases h : p x = true
    · right; simp [idxG, h]; omega
    · have h' : p x = false := by simpa using h
      rcases idxG_range p r (k + 1) with ⟨e, a⟩ | ⟨e1, e2, a⟩
      · left; simp [idxG, h', e, a]
      · right; simp only [idxG, h', List.any_cons, a, List.length_cons]; simp; omega

end Go.Proofs.Ytebkkjfeikpfgaa

