/- Pairs of keys and values as they lie in a row of the call's own; the closure that compares them by their keys. -/
import Derived.Test.YtdolejafihgpmaaI
import Derived.Shelf.SlSortCmp.KitK
namespace Go.Proofs.Ytdolejafihgpmaa
open Go.RowKit Go.Sort

/-- A pair, with where its rows lie. -/
structure Pr where
  x : V
  a1 : Option Addr
  n1 : Nat
  a2 : Option Addr
  n2 : Nat
  y : V
  a3 : Option Addr
  n3 : Nat
  a4 : Option Addr
  n4 : Nat
instance : Inhabited Pr := ⟨⟨.mk 0 0 ⟨#[]⟩ [] [], none, 0, none, 0, .mk 0 0 ⟨#[]⟩ [] [], none, 0, none, 0⟩⟩
def Pr.cs (p : Pr) : List Value :=
  [.int .i64 p.x.k, .int .i64 p.x.n, .string p.x.s, .slice p.a1 p.x.l.length p.n1, .slice p.a2 p.x.m.length p.n2, .int .i64 p.y.k, .int .i64 p.y.n, .string p.y.s, .slice p.a3 p.y.l.length p.n3, .slice p.a4 p.y.m.length p.n4]
theorem Pr.len (p : Pr) : p.cs.length = 10 := rfl
theorem Pr.one (p : Pr) : ∀ v ∈ p.cs, v.oneCell' = true := by
  intro v hv
  simp only [Pr.cs, List.mem_cons, List.not_mem_nil, or_false] at hv
  rcases hv with rfl | rfl | rfl | rfl | rfl | rfl | rfl | rfl | rfl | rfl <;> rfl
/-- Both of a pair read in a world. -/
def PrIn (w : World) (lo B d : Nat) (p : Pr) : Prop := Rd w lo B d p.x p.a1 p.n1 p.a2 p.n2 ∧ Rd w lo B d p.y p.a3 p.n3 p.a4 p.n4

def cmpP (p q : Pr) : Int := cmpV 12 p.x q.x

set_option maxHeartbeats 1600000 in
theorem closure_pair (w : World) (d : Nat) (p q : Pr) (hp : PrIn w 0 w.heap.size d p) (hq : PrIn w 0 w.heap.size d q) :
    Calls Try.prog 60 #[.agg p.cs.toArray, .agg q.cs.toArray] w fun e w' => e = .returned (.int .i64 (cmpP p q)) ∧ Below w.heap.size w w' := by
  have HP := Lib.hid hp
  have HQ := Lib.hid hq
  clear hp hq
  unfold Pr.cs
  go_enter Try.func60, Try.ntmps60
  go_wp2_with fail
  refine (cmp_any _ d d p.x q.x _ _ _ _ _ _ _ _ (HP.out.1.next (below_new2 _ _ _)) (HQ.out.1.next (below_new2 _ _ _))).mono ?_
  rintro x w1 ⟨rfl, hb1⟩
  have HB := Lib.hid (bnext (below_new2 _ _ _) hb1)
  clear hb1
  go_wp2
  go_ret
  exact ⟨by rfl, HB.out⟩

/-- The row of pairs in block g. -/
def RowP (w : World) (g : Nat) (ps : Array Pr) : Prop := HoldsK Pr.cs 10 w g 0 ps
/-- All but block g is as it was. -/
structure Near (g : Nat) (w w' : World) : Prop where
  os : w'.os = w.os
  tape : w'.tape = w.tape
  output : w'.output = w.output
  size : w.heap.size ≤ w'.heap.size
  block : ∀ k, k < w.heap.size → k ≠ g → w'.heap[k]? = w.heap[k]?
theorem Near.refl (g : Nat) (w : World) : Near g w w := ⟨rfl, rfl, rfl, Nat.le_refl _, fun _ _ _ => rfl⟩
theorem Near.trans {g : Nat} {a b c : World} (h : Near g a b) (k : Near g b c) : Near g a c :=
  ⟨k.os.trans h.os, k.tape.trans h.tape, k.output.trans h.output, Nat.le_trans h.size k.size, fun i hi hg => (k.block i (Nat.lt_of_lt_of_le hi h.size) hg).trans (h.block i hi hg)⟩
theorem Near.of_below {g : Nat} {a b : World} (h : Below a.heap.size a b) : Near g a b := ⟨h.os, h.tape, h.output, h.size, fun k hk _ => h.block k hk⟩
theorem Near.below {g B : Nat} {a b : World} (h : Near g a b) (hB : B ≤ g) (hs : B ≤ a.heap.size) : Below B a b := ⟨h.os, h.tape, h.output, h.size, fun k hk => h.block k (by omega) (by omega)⟩
theorem Near.setCells (g : Nat) (w : World) (o : Nat) (vs : List Value) : Near g w (w.setCells g o vs) := by
  induction vs generalizing w o with
  | nil => exact Near.refl _ _
  | cons v r ih => exact Near.trans (b := w.setCell ⟨g, o, none⟩ v) ⟨rfl, rfl, rfl, by simp [World.setCell], fun k _ hg => Below.heap_setCell _ _ _ _ hg⟩ (ih _ _)
theorem Near.drew {g : Nat} {a b : World} (h : Near g a b) : Near g a b.drew := ⟨h.os, h.tape, h.output, h.size, h.block⟩

theorem RowP.below {w w' : World} {g B : Nat} {ps : Array Pr} (h : RowP w g ps) (hb : Below B w w') (hg : g < B) : RowP w' g ps := fun j hj => by
  obtain ⟨h1, h2⟩ := h j hj
  exact ⟨(hb.cell (p := ⟨g, 0 + j, none⟩) hg).trans h1, (hb.frozen (p := ⟨g, 0 + j, none⟩) hg).trans h2⟩
theorem RowP.drew {w : World} {g : Nat} {ps : Array Pr} (h : RowP w g ps) : RowP w.drew g ps := h
theorem RowP.load {w : World} {g : Nat} {ps : Array Pr} (h : RowP w g ps) (i : Nat) (hi : i < ps.size) : Sem.run Try.prog (loadCellsFrom ⟨g, i * 10, none⟩ 0 10 #[]) w = .ok (ps[i]!).cs.toArray w := by
  have := run_loadCellsFrom_list Try.prog w ⟨g, 0 + i * 10, none⟩ (ps[i]!).cs 10 rfl (HoldsK.cells h Pr.len hi)
  rwa [Nat.zero_add] at this
theorem RowP.store {w : World} {g : Nat} {ps : Array Pr} (h : RowP w g ps) (i : Nat) (hi : i < ps.size) (p : Pr) : Sem.run Try.prog (storeCells ⟨g, i * 10, none⟩ p.cs 0) w = .ok () (w.setCells g (i * 10) p.cs) := by
  have := stores_of_holds Try.prog h (i * 10) p.cs (by rw [Pr.len, size_flatK]; omega) p.one
  rwa [Nat.zero_add] at this
theorem RowP.store2 {w : World} {g : Nat} {ps : Array Pr} (h : RowP w g ps) (i j : Nat) (hi : i < ps.size) (hj : j < ps.size) (p q : Pr) : Sem.run Try.prog (storeCells ⟨g, j * 10, none⟩ q.cs 0) (w.setCells g (i * 10) p.cs) = .ok () ((w.setCells g (i * 10) p.cs).setCells g (j * 10) q.cs) := by
  have h2 := holds_setCells_c h (i * 10) p.cs (by rw [Pr.len, size_flatK]; omega)
  have := stores_of_holds Try.prog h2 (j * 10) q.cs (by rw [Pr.len, size_setMany, size_flatK]; omega) q.one
  rwa [Nat.zero_add, Nat.zero_add] at this
theorem RowP.swap {w : World} {g : Nat} {ps : Array Pr} (h : RowP w g ps) (i j : Nat) (hi : i < ps.size) (hj : j < ps.size) : RowP ((w.setCells g (i * 10) (ps[j]!).cs).setCells g (j * 10) (ps[i]!).cs) g (swp ps i j) := by
  have h2 := holds_setCells_c h (i * 10) (ps[j]!).cs (by rw [Pr.len, size_flatK]; omega)
  have h3 := holds_setCells_c h2 (j * 10) (ps[i]!).cs (by rw [Pr.len, size_setMany, size_flatK]; omega)
  rw [setMany_swp Pr.cs 10 Pr.len ps i j hi hj, Nat.zero_add, Nat.zero_add] at h3
  exact h3

/-- What a row's pairs read as does not lie in the row. -/
def AllIn (w : World) (_g B d : Nat) (ps : Array Pr) : Prop := ∀ i, i < ps.size → PrIn w 0 B d (ps[i]!)
end Go.Proofs.Ytdolejafihgpmaa
