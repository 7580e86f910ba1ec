/- A property of worlds that what is made above a bound leaves alone, along a chain of calls, new blocks and stores into new blocks. Plain, no code of ours. -/
import Derived.Test.YtdolejafihgpmaaUa
namespace Go.Proofs.Ytdolejafihgpmaa
open Go.RowKit

structure Stab (lo : Nat) (P : World → Prop) : Prop where
  hlo : ∀ a, P a → lo ≤ a.heap.size
  sub : ∀ a b, P a → Below lo a b → P b
section
variable {lo : Nat} {P : World → Prop} {a b : World}
theorem Stab.next (s : Stab lo P) (h : P a) (hb : Below a.heap.size a b) : P b := s.sub a b h (hb.mono (s.hlo a h))
theorem Stab.new (s : Stab lo P) (h : P a) (o : Obj) : P (a.alloc o) := s.next h (below_new _ _)
theorem Stab.drew (s : Stab lo P) (h : P a) : P a.drew := s.next h (below_drewN _ _ 1)
theorem Stab.newD (s : Stab lo P) (h : P a.drew) (o : Obj) : P (a.alloc o).drew := s.next h (below_new a.drew o)
theorem Stab.swap (s : Stab lo P) {o o2 : Obj} (h : P (a.alloc o)) (hg : lo ≤ a.heap.size) : P (a.alloc o2) :=
  s.sub (a.alloc o) (a.alloc o2) h ⟨rfl, rfl, rfl, by simp, fun k hk => (Below.heap_alloc _ _ _ (by omega)).trans (Below.heap_alloc _ _ _ (by omega)).symm⟩
theorem Stab.put (s : Stab lo P) {g : Nat} {v0 v1 v2 v3 v4 : Value} (h : P a) (hg : lo ≤ g) : P (((((a.setCell ⟨g, 0, none⟩ v0).setCell ⟨g, 1, none⟩ v1).setCell ⟨g, 2, none⟩ v2).setCell ⟨g, 3, none⟩ v3).setCell ⟨g, 4, none⟩ v4) :=
  s.sub _ _ h (put5_below lo a g 0 v0 v1 v2 v3 v4 hg)
end
theorem lo_new {a : World} {lo : Nat} (o : Obj) (h : lo ≤ a.heap.size) : lo ≤ (a.alloc o).heap.size := Nat.le_trans h (below_new a o).size
theorem lo_newD {a : World} {lo : Nat} (o : Obj) (h : lo ≤ a.heap.size) : lo ≤ (a.alloc o).drew.heap.size := Nat.le_trans h (below_new a o).size
theorem Cell.newD (w : World) (v0 v1 v2 v3 v4 : Value) : Cell (w.alloc (.cells #[v0, v1, v2, v3, v4] 24)).drew w.heap.size v0 v1 v2 v3 v4 := Cell.new w.drew v0 v1 v2 v3 v4
theorem Cell.both {a b : World} {g : Nat} {v0 v1 v2 v3 v4 : Value} (hb : Below a.heap.size a b) (h : Cell a g v0 v1 v2 v3 v4) : Cell b g v0 v1 v2 v3 v4 ∧ g < a.heap.size := ⟨h.next hb, h.blk.lt⟩
theorem RowAt.new {a : World} {g : Nat} {l : List V} (o : Obj) (h : RowAt a g l) : RowAt (a.alloc o) g l := h.next (below_new _ _)
theorem row6_at {w : World} {g : Nat} (h : w.heap.size = g) : RowAt (w.alloc (.cells #[.int .i64 3, .int .i64 0, .string ⟨#[98]⟩, .slice none 0 0, .slice none 0 0, .int .i64 2, .int .i64 1, .string ⟨#[]⟩, .slice none 0 0, .slice none 0 0, .int .i64 3, .int .i64 0, .string ⟨#[97]⟩, .slice none 0 0, .slice none 0 0, .int .i64 2, .int .i64 2, .string ⟨#[]⟩, .slice none 0 0, .slice none 0 0, .int .i64 3, .int .i64 0, .string ⟨#[98]⟩, .slice none 0 0, .slice none 0 0, .int .i64 2, .int .i64 3, .string ⟨#[]⟩, .slice none 0 0, .slice none 0 0] 24)) g [wrdB, numV 1, wrdA, numV 2, wrdB, numV 3] := by subst h; exact row6_new w
theorem row1_at {w : World} {g : Nat} (h : w.heap.size = g) : RowAt (w.alloc (.cells #[.int .i64 2, .int .i64 1, .string ⟨#[]⟩, .slice none 0 0, .slice none 0 0] 24)) g [numV 1] := by subst h; exact row1_new w
theorem row2_at {w : World} {g : Nat} (h : w.heap.size = g) : RowAt (w.alloc (.cells #[.int .i64 2, .int .i64 1, .string ⟨#[]⟩, .slice none 0 0, .slice none 0 0, .int .i64 2, .int .i64 2, .string ⟨#[]⟩, .slice none 0 0, .slice none 0 0] 24)) g [numV 1, numV 2] := by subst h; exact row2_new w
theorem rd_put {a : World} {lo d g : Nat} {t : V} {A : Option Addr} {c : Nat} {A' : Option Addr} {c' : Nat} {v0 v1 v2 v3 v4 : Value} (h : Rd a lo a.heap.size d t A c A' c') (hg : g < lo) : Rd (put5 a g 0 v0 v1 v2 v3 v4) 0 (put5 a g 0 v0 v1 v2 v3 v4).heap.size d t A c A' c' :=
  Rd.imp (fun k h1 _ => put5_far a g 0 v0 v1 v2 v3 v4 k (by omega)) (Nat.zero_le _) (Nat.le_of_eq (put5_size a g 0 v0 v1 v2 v3 v4).symm) (Nat.le_refl _) h

/-- The two boxes of the examples' numbers. -/
structure Kn (w0 : World) (lo g1 g2 : Nat) (w : World) : Prop where
  c1 : Cell w g1 (.int .i64 2) (.int .i64 1) (.string ⟨#[]⟩) (.slice none 0 0) (.slice none 0 0)
  c2 : Cell w g2 (.int .i64 2) (.int .i64 2) (.string ⟨#[]⟩) (.slice none 0 0) (.slice none 0 0)
  h1 : g1 < lo
  h2 : g2 < lo
  hlo : lo ≤ w.heap.size
  hw : w0.heap.size ≤ lo
  bel : Below w0.heap.size w0 w
theorem Kn.to {w0 a b : World} {lo g1 g2 : Nat} (hb : Below lo a b) (h : Kn w0 lo g1 g2 a) : Kn w0 lo g1 g2 b :=
  ⟨h.c1.below hb h.h1, h.c2.below hb h.h2, h.h1, h.h2, Nat.le_trans h.hlo hb.size, h.hw, h.bel.trans (hb.mono h.hw)⟩
abbrev S3 (w0 : World) (lo g1 g2 : Nat) : World → Prop := fun w => Kn w0 lo g1 g2 w ∧ w.cell? ⟨g1, 0, none⟩ = some (.int .i64 2) ∧ w.cell? ⟨g1, 1, none⟩ = some (.int .i64 1) ∧ w.cell? ⟨g1, 2, none⟩ = some (.string ⟨#[]⟩) ∧ w.cell? ⟨g1, 3, none⟩ = some (.slice none 0 0) ∧ w.cell? ⟨g1, 4, none⟩ = some (.slice none 0 0) ∧ w.cell? ⟨g2, 0, none⟩ = some (.int .i64 2) ∧ w.cell? ⟨g2, 1, none⟩ = some (.int .i64 2) ∧ w.cell? ⟨g2, 2, none⟩ = some (.string ⟨#[]⟩) ∧ w.cell? ⟨g2, 3, none⟩ = some (.slice none 0 0) ∧ w.cell? ⟨g2, 4, none⟩ = some (.slice none 0 0)
theorem Kn.all {w0 a : World} {lo g1 g2 : Nat} (h : Kn w0 lo g1 g2 a) : S3 w0 lo g1 g2 a := ⟨h, h.c1.c0, h.c1.c1, h.c1.c2, h.c1.c3, h.c1.c4, h.c2.c0, h.c2.c1, h.c2.c2, h.c2.c3, h.c2.c4⟩
theorem stab3 (w0 : World) (lo g1 g2 : Nat) : Stab lo (S3 w0 lo g1 g2) := ⟨fun _ h => h.1.hlo, fun _ _ h hb => (h.1.to hb).all⟩
/-- And the map of the examples. -/
structure Km (w0 : World) (lo lo3 g1 g2 g3 : Nat) (A : Option Addr) (c : Nat) (A' : Option Addr) (c' : Nat) (w : World) : Prop where
  kn : Kn w0 lo g1 g2 w
  c3 : Cell w g3 (.int .i64 7) (.int .i64 0) (.string ⟨#[]⟩) (.slice A 2 c) (.slice A' 2 c')
  h3 : g3 < lo3
  l3 : lo ≤ lo3
  hlo3 : lo3 ≤ w.heap.size
  rd : Rd w 0 lo3 13 mapK A c A' c'
theorem Km.to {w0 a b : World} {lo lo3 g1 g2 g3 : Nat} {A : Option Addr} {c : Nat} {A' : Option Addr} {c' : Nat} (hb : Below lo3 a b) (h : Km w0 lo lo3 g1 g2 g3 A c A' c' a) : Km w0 lo lo3 g1 g2 g3 A c A' c' b :=
  ⟨h.kn.to (hb.mono h.l3), h.c3.below hb h.h3, h.h3, h.l3, Nat.le_trans h.hlo3 hb.size, h.rd.below hb (Nat.le_refl _)⟩
abbrev S4 (w0 : World) (lo lo3 g1 g2 g3 : Nat) (A : Option Addr) (c : Nat) (A' : Option Addr) (c' : Nat) : World → Prop := fun w => Km w0 lo lo3 g1 g2 g3 A c A' c' w ∧ w.cell? ⟨g3, 0, none⟩ = some (.int .i64 7) ∧ w.cell? ⟨g3, 1, none⟩ = some (.int .i64 0) ∧ w.cell? ⟨g3, 2, none⟩ = some (.string ⟨#[]⟩) ∧ w.cell? ⟨g3, 3, none⟩ = some (.slice A 2 c) ∧ w.cell? ⟨g3, 4, none⟩ = some (.slice A' 2 c')
theorem Km.all {w0 a : World} {lo lo3 g1 g2 g3 : Nat} {A : Option Addr} {c : Nat} {A' : Option Addr} {c' : Nat} (h : Km w0 lo lo3 g1 g2 g3 A c A' c' a) : S4 w0 lo lo3 g1 g2 g3 A c A' c' a := ⟨h, h.c3.c0, h.c3.c1, h.c3.c2, h.c3.c3, h.c3.c4⟩
theorem stab4 (w0 : World) (lo lo3 g1 g2 g3 : Nat) (A : Option Addr) (c : Nat) (A' : Option Addr) (c' : Nat) : Stab lo3 (S4 w0 lo lo3 g1 g2 g3 A c A' c') := ⟨fun _ h => h.1.hlo3, fun _ _ h hb => (h.1.to hb).all⟩
/-- And what was found. -/
structure Kf (w0 : World) (lo lo3 lo5 g1 g2 g3 g5 b off : Nat) (c : Nat) (A' : Option Addr) (c' : Nat) (w : World) : Prop where
  km : Km w0 lo lo3 g1 g2 g3 (some ⟨b, off, none⟩) c A' c' w
  c5 : w.cell? ⟨g5, 1, none⟩ = some (.int .i64 3)
  h5 : g5 < lo5
  l5 : lo3 ≤ lo5
  hlo5 : lo5 ≤ w.heap.size
theorem Kf.to {w0 a a' : World} {lo lo3 lo5 g1 g2 g3 g5 b off c : Nat} {A' : Option Addr} {c' : Nat} (hb : Below lo5 a a') (h : Kf w0 lo lo3 lo5 g1 g2 g3 g5 b off c A' c' a) : Kf w0 lo lo3 lo5 g1 g2 g3 g5 b off c A' c' a' :=
  ⟨h.km.to (hb.mono h.l5), (hb.cell (p := ⟨g5, 1, none⟩) h.h5).trans h.c5, h.h5, h.l5, Nat.le_trans h.hlo5 hb.size⟩
theorem Km.key {w0 a : World} {lo lo3 g1 g2 g3 : Nat} {A : Option Addr} {c : Nat} {A' : Option Addr} {c' : Nat} (h : Km w0 lo lo3 g1 g2 g3 A c A' c' a) : ∃ b off, A = some ⟨b, off, none⟩ := by
  obtain ⟨_, hl, _⟩ := h.rd
  obtain ⟨b, off, e, _⟩ := hl.at_ (by decide)
  exact ⟨b, off, e⟩
theorem Km.first {w0 a : World} {lo lo3 g1 g2 g3 b off : Nat} {c : Nat} {A' : Option Addr} {c' : Nat} (h : Km w0 lo lo3 g1 g2 g3 (some ⟨b, off, none⟩) c A' c' a) : a.cell? ⟨b, off + 2, none⟩ = some (.string ⟨#[97]⟩) := by
  obtain ⟨_, hl, _⟩ := h.rd
  obtain ⟨b', off', e, _, _, hc⟩ := hl.at_ (by decide)
  injection e with e
  injection e with e1 e2
  subst e1; subst e2
  obtain ⟨_, _, _, _, q, _⟩ := hc 0 wrdA rfl
  have := q.c2
  rw [Nat.zero_mul, Nat.add_zero] at this
  exact this
abbrev S6 (w0 : World) (lo lo3 lo5 g1 g2 g3 g5 b off : Nat) (c : Nat) (A' : Option Addr) (c' : Nat) : World → Prop := fun w => Kf w0 lo lo3 lo5 g1 g2 g3 g5 b off c A' c' w ∧ w.cell? ⟨g1, 0, none⟩ = some (.int .i64 2) ∧ w.cell? ⟨g1, 1, none⟩ = some (.int .i64 1) ∧ w.cell? ⟨g1, 2, none⟩ = some (.string ⟨#[]⟩) ∧ w.cell? ⟨g1, 3, none⟩ = some (.slice none 0 0) ∧ w.cell? ⟨g1, 4, none⟩ = some (.slice none 0 0) ∧ w.cell? ⟨g2, 0, none⟩ = some (.int .i64 2) ∧ w.cell? ⟨g2, 1, none⟩ = some (.int .i64 2) ∧ w.cell? ⟨g2, 2, none⟩ = some (.string ⟨#[]⟩) ∧ w.cell? ⟨g2, 3, none⟩ = some (.slice none 0 0) ∧ w.cell? ⟨g2, 4, none⟩ = some (.slice none 0 0) ∧ w.cell? ⟨g3, 3, none⟩ = some (.slice (some ⟨b, off, none⟩) 2 c) ∧ w.cell? ⟨b, off + 2, none⟩ = some (.string ⟨#[97]⟩) ∧ w.cell? ⟨g5, 1, none⟩ = some (.int .i64 3)
theorem Kf.all {w0 a : World} {lo lo3 lo5 g1 g2 g3 g5 b off c : Nat} {A' : Option Addr} {c' : Nat} (h : Kf w0 lo lo3 lo5 g1 g2 g3 g5 b off c A' c' a) : S6 w0 lo lo3 lo5 g1 g2 g3 g5 b off c A' c' a :=
  ⟨h, h.km.kn.c1.c0, h.km.kn.c1.c1, h.km.kn.c1.c2, h.km.kn.c1.c3, h.km.kn.c1.c4, h.km.kn.c2.c0, h.km.kn.c2.c1, h.km.kn.c2.c2, h.km.kn.c2.c3, h.km.kn.c2.c4, h.km.c3.c3, h.km.first, h.c5⟩
theorem stab6 (w0 : World) (lo lo3 lo5 g1 g2 g3 g5 b off c : Nat) (A' : Option Addr) (c' : Nat) : Stab lo5 (S6 w0 lo lo3 lo5 g1 g2 g3 g5 b off c A' c') := ⟨fun _ h => h.1.hlo5, fun _ _ h hb => (h.1.to hb).all⟩

def Cut3 (w0 : World) (lo g1 g2 : Nat) (s3 s4 : Value) (w : World) : Prop :=
  ∃ g3 A c A' c', s3 = .pointer (some ⟨g3, 0, none⟩) ∧ s4 = .int .i64 0 ∧ Km w0 lo w.heap.size g1 g2 g3 A c A' c' w
theorem cut3_new {w0 a : World} {lo l g1 g2 : Nat} {A : Option Addr} {c : Nat} {A' : Option Addr} {c' : Nat} (h : S3 w0 lo g1 g2 (a.alloc (.cells #[.int .i64 7, .int .i64 0, .string ⟨#[]⟩, .slice A 2 c, .slice A' 2 c'] 24))) (rd : Rd a l a.heap.size 13 mapK A c A' c') :
    Cut3 w0 lo g1 g2 (.pointer (some ⟨a.heap.size, 0, none⟩)) (.int .i64 0) (a.alloc (.cells #[.int .i64 7, .int .i64 0, .string ⟨#[]⟩, .slice A 2 c, .slice A' 2 c'] 24)) :=
  ⟨_, A, c, A', c', rfl, rfl, h.1, Cell.new _ _ _ _ _ _, by simp, h.1.hlo, Nat.le_refl _, (rd.more (Nat.zero_le _) (Nat.le_refl _) (Nat.le_refl _)).next (below_new _ _)⟩
theorem cut3_put {w0 a : World} {lo l g1 g2 g : Nat} {A : Option Addr} {c : Nat} {A' : Option Addr} {c' : Nat} (h : S3 w0 lo g1 g2 (put5 a g 0 (.int .i64 7) (.int .i64 0) (.string ⟨#[]⟩) (.slice A 2 c) (.slice A' 2 c'))) (hk : Blk a g 1) (rd : Rd a l a.heap.size 13 mapK A c A' c') (hg : g < l) :
    Cut3 w0 lo g1 g2 (.pointer (some ⟨g, 0, none⟩)) (.int .i64 0) (put5 a g 0 (.int .i64 7) (.int .i64 0) (.string ⟨#[]⟩) (.slice A 2 c) (.slice A' 2 c')) :=
  ⟨_, A, c, A', c', rfl, rfl, h.1, fin5 hk _ _ _ _ _, by rw [put5_size]; exact hk.lt, h.1.hlo, Nat.le_refl _, rd_put rd hg⟩
def Cut4 (w0 : World) (lo lo3 g1 g2 g3 : Nat) (A : Option Addr) (c : Nat) (A' : Option Addr) (c' : Nat) (s5 s6 : Value) (w : World) : Prop :=
  ∃ g5, s5 = .pointer (some ⟨g5, 0, none⟩) ∧ s6 = .bool true ∧ Km w0 lo lo3 g1 g2 g3 A c A' c' w ∧ w.cell? ⟨g5, 1, none⟩ = some (.int .i64 3) ∧ g5 < w.heap.size
theorem cut4_new {w0 a : World} {lo lo3 g1 g2 g3 : Nat} {A : Option Addr} {c : Nat} {A' : Option Addr} {c' : Nat} {v0 v2 v3 v4 : Value} (h : S4 w0 lo lo3 g1 g2 g3 A c A' c' (a.alloc (.cells #[v0, .int .i64 3, v2, v3, v4] 24))) :
    Cut4 w0 lo lo3 g1 g2 g3 A c A' c' (.pointer (some ⟨a.heap.size, 0, none⟩)) (.bool true) (a.alloc (.cells #[v0, .int .i64 3, v2, v3, v4] 24)) :=
  ⟨_, rfl, rfl, h.1, (Cell.new a v0 (.int .i64 3) v2 v3 v4).c1, by simp⟩
theorem cut4_put {w0 a : World} {lo lo3 g1 g2 g3 g : Nat} {A : Option Addr} {c : Nat} {A' : Option Addr} {c' : Nat} {v0 v2 v3 v4 : Value} (h : S4 w0 lo lo3 g1 g2 g3 A c A' c' (put5 a g 0 v0 (.int .i64 3) v2 v3 v4)) (hk : Blk a g 1) :
    Cut4 w0 lo lo3 g1 g2 g3 A c A' c' (.pointer (some ⟨g, 0, none⟩)) (.bool true) (put5 a g 0 v0 (.int .i64 3) v2 v3 v4) :=
  ⟨_, rfl, rfl, h.1, (fin5 hk _ _ _ _ _).c1, by rw [put5_size]; exact hk.lt⟩
end Go.Proofs.Ytdolejafihgpmaa
