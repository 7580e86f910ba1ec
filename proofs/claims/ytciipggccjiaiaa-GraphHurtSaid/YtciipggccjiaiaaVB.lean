/- Carried over from the seat of layer 2. -/
import Derived.Test.YtciipggccjiaiaaVA
import Derived.WalkKit
import Derived.WalkLawsBesides
import Derived.LoopTactic
import Derived.Lib.Hide
import Derived.Below
namespace Go.Proofs.Ytciipggccjiaiaa
set_option maxRecDepth 100000
open Go.RowKit

/-- A value as it is handed on: its kind, its number, its text, its two rows. -/
abbrev vl (t : V) (A : Option Addr) (c : Nat) (A' : Option Addr) (c' : Nat) : Value :=
  .agg #[.int .i64 t.k, .int .i64 t.n, .string t.s, .slice A t.l.length c, .slice A' t.m.length c']

/-- The five cells of a value. -/
structure cells5 (w : World) (b o : Nat) (t : V) (A : Option Addr) (c : Nat) (A' : Option Addr) (c' : Nat) : Prop where
  c0 : w.cell? ⟨b, o, none⟩ = some (.int .i64 t.k)
  c1 : w.cell? ⟨b, o + 1, none⟩ = some (.int .i64 t.n)
  c2 : w.cell? ⟨b, o + 2, none⟩ = some (.string t.s)
  c3 : w.cell? ⟨b, o + 3, none⟩ = some (.slice A t.l.length c)
  c4 : w.cell? ⟨b, o + 4, none⟩ = some (.slice A' t.m.length c')

/-- A row of values. -/
structure RdRow (w : World) (lo B : Nat) (R : V → Option Addr → Nat → Option Addr → Nat → Prop) (A : Option Addr) (c : Nat) (l : List V) : Prop where
  le : l.length ≤ c
  cap : c ≤ maxLen
  big : l.length ≤ 1759218604441
  nil : A = none → c = 0
  at_ : 0 < l.length → ∃ b off, A = some ⟨b, off, none⟩ ∧ lo ≤ b ∧ b < B ∧ ∀ j t, l[j]? = some t → ∃ A1 c1 A2 c2, cells5 w b (off + j * 5) t A1 c1 A2 c2 ∧ R t A1 c1 A2 c2

/-- The fields of its own are a machine's. -/
structure Fld (t : V) : Prop where
  k0 : -9223372036854775808 ≤ t.k
  k1 : t.k ≤ 9223372036854775807
  n0 : -9223372036854775808 ≤ t.n
  n1 : t.n ≤ 9223372036854775807
  s1 : t.s.size ≤ 140737488355328

/-- A value, at most so deep. -/
def Rd (w : World) (lo B : Nat) : Nat → V → Option Addr → Nat → Option Addr → Nat → Prop
  | 0, _, _, _, _, _ => False
  | d + 1, t, A, c, A', c' => Fld t ∧ RdRow w lo B (Rd w lo B d) A c t.l ∧ RdRow w lo B (Rd w lo B d) A' c' t.m
/-- A row of values, each at most so deep. -/
abbrev Rw (w : World) (lo B d : Nat) (A : Option Addr) (c : Nat) (l : List V) : Prop := RdRow w lo B (Rd w lo B d) A c l

/-- From lo on and below B the two worlds are one. -/
def Kept (lo B : Nat) (w w' : World) : Prop := ∀ k, lo ≤ k → k < B → w'.heap[k]? = w.heap[k]?
theorem Kept.refl (lo B : Nat) (w : World) : Kept lo B w w := fun _ _ _ => rfl
theorem Kept.trans {lo B : Nat} {a b c : World} (h : Kept lo B a b) (k : Kept lo B b c) : Kept lo B a c := fun i h1 h2 => (k i h1 h2).trans (h i h1 h2)
theorem Kept.of_below {lo B B' : Nat} {w w' : World} (h : Below B' w w') (hB : B ≤ B') : Kept lo B w w' := fun k _ hk => h.block k (by omega)
theorem Kept.alloc {lo B : Nat} {w : World} (h : B ≤ w.heap.size) (o : Obj) : Kept lo B w (w.alloc o) := fun k _ hk => Below.heap_alloc _ _ _ (by omega)
theorem Kept.drew {lo B : Nat} {w : World} : Kept lo B w w.drew := fun _ _ _ => rfl
theorem Kept.drewN {lo B : Nat} {w : World} (n : Nat) : Kept lo B w (w.drewN n) := fun _ _ _ => rfl
theorem Kept.setCell {lo B : Nat} {w : World} {p : Addr} (h : p.block < lo ∨ B ≤ p.block) (u : Value) : Kept lo B w (w.setCell p u) := fun k _ _ => Below.heap_setCell _ _ _ _ (by omega)
theorem Kept.cell {lo B : Nat} {w w' : World} (h : Kept lo B w w') {p : Addr} (h1 : lo ≤ p.block) (h2 : p.block < B) : w'.cell? p = w.cell? p := World.cell?_of_block (w := w) (h p.block h1 h2)
theorem Kept.frozen {lo B : Nat} {w w' : World} (h : Kept lo B w w') {p : Addr} (h1 : lo ≤ p.block) (h2 : p.block < B) : w'.frozen? p = w.frozen? p := World.frozen?_of_block (w := w) (h p.block h1 h2)

theorem cells5.keep {w w' : World} {lo B b o : Nat} {t : V} {A A' : Option Addr} {c c' : Nat} (h : cells5 w b o t A c A' c') (hk : Kept lo B w w') (h1 : lo ≤ b) (h2 : b < B) : cells5 w' b o t A c A' c' :=
  ⟨(hk.cell h1 h2).trans h.c0, (hk.cell h1 h2).trans h.c1, (hk.cell h1 h2).trans h.c2, (hk.cell h1 h2).trans h.c3, (hk.cell h1 h2).trans h.c4⟩

theorem RdRow.imp {w w' : World} {lo B lo' B' : Nat} {R R' : V → Option Addr → Nat → Option Addr → Nat → Prop} {A : Option Addr} {c : Nat} {l : List V} (h : RdRow w lo B R A c l)
    (hk : Kept lo B w w') (h1 : lo' ≤ lo) (h2 : B ≤ B') (hR : ∀ t A1 c1 A2 c2, R t A1 c1 A2 c2 → R' t A1 c1 A2 c2) : RdRow w' lo' B' R' A c l :=
  ⟨h.le, h.cap, h.big, h.nil, fun h0 => by
    obtain ⟨b, off, e, b1, b2, hc⟩ := h.at_ h0
    refine ⟨b, off, e, by omega, by omega, fun j t hj => ?_⟩
    obtain ⟨A1, c1, A2, c2, q1, q2⟩ := hc j t hj
    exact ⟨A1, c1, A2, c2, q1.keep hk b1 b2, hR _ _ _ _ _ q2⟩⟩
theorem Rd.imp {w w' : World} {lo B lo' B' : Nat} (hk : Kept lo B w w') (h1 : lo' ≤ lo) (h2 : B ≤ B') : ∀ {d d' : Nat} {t : V} {A A' : Option Addr} {c c' : Nat}, d ≤ d' → Rd w lo B d t A c A' c' → Rd w' lo' B' d' t A c A' c'
  | 0, _, _, _, _, _, _, _, h => h.elim
  | d + 1, 0, _, _, _, _, _, hd, _ => absurd hd (by omega)
  | d + 1, d' + 1, _, _, _, _, _, hd, h => ⟨h.1, h.2.1.imp hk h1 h2 (fun _ _ _ _ _ => Rd.imp hk h1 h2 (by omega)), h.2.2.imp hk h1 h2 (fun _ _ _ _ _ => Rd.imp hk h1 h2 (by omega))⟩
theorem Rd.keep {w w' : World} {lo B d : Nat} {t : V} {A A' : Option Addr} {c c' : Nat} (h : Rd w lo B d t A c A' c') (hk : Kept lo B w w') : Rd w' lo B d t A c A' c' := Rd.imp hk (Nat.le_refl _) (Nat.le_refl _) (Nat.le_refl _) h
theorem RdRow.keep {w w' : World} {lo B d : Nat} {A : Option Addr} {c : Nat} {l : List V} (h : Rw w lo B d A c l) (hk : Kept lo B w w') : Rw w' lo B d A c l := h.imp hk (Nat.le_refl _) (Nat.le_refl _) (fun _ _ _ _ _ h => h.keep hk)
theorem Rd.below {w w' : World} {lo B B' d : Nat} {t : V} {A A' : Option Addr} {c c' : Nat} (h : Rd w lo B d t A c A' c') (hb : Below B' w w') (hB : B ≤ B') : Rd w' lo B d t A c A' c' := h.keep (Kept.of_below hb hB)
theorem RdRow.below {w w' : World} {lo B B' d : Nat} {A : Option Addr} {c : Nat} {l : List V} (h : Rw w lo B d A c l) (hb : Below B' w w') (hB : B ≤ B') : Rw w' lo B d A c l := h.keep (Kept.of_below hb hB)
theorem Rd.more {w : World} {lo lo' B B' d d' : Nat} {t : V} {A A' : Option Addr} {c c' : Nat} (h : Rd w lo B d t A c A' c') (h1 : lo' ≤ lo) (h2 : B ≤ B') (h3 : d ≤ d') : Rd w lo' B' d' t A c A' c' := Rd.imp (Kept.refl _ _ _) h1 h2 h3 h
theorem RdRow.more {w : World} {lo lo' B B' d d' : Nat} {A : Option Addr} {c : Nat} {l : List V} (h : Rw w lo B d A c l) (h1 : lo' ≤ lo) (h2 : B ≤ B') (h3 : d ≤ d') : Rw w lo' B' d' A c l := h.imp (Kept.refl _ _ _) h1 h2 (fun _ _ _ _ _ h => h.more h1 h2 h3)
theorem Rd.pos {w : World} {lo B d : Nat} {t : V} {A A' : Option Addr} {c c' : Nat} (h : Rd w lo B d t A c A' c') : ∃ e, d = e + 1 := by
  cases d with
  | zero => exact h.elim
  | succ e => exact ⟨e, rfl⟩
theorem rw_nil (w : World) (lo B d : Nat) : Rw w lo B d none 0 [] := ⟨by simp, by unfold maxLen; omega, by simp, fun _ => rfl, fun h => absurd h (by simp)⟩
/-- One element of a row. -/
theorem RdRow.elem {w : World} {lo B : Nat} {R : V → Option Addr → Nat → Option Addr → Nat → Prop} {A : Option Addr} {c : Nat} {l : List V} (h : RdRow w lo B R A c l) {k : Nat} (hk : k < l.length) :
    ∃ b off t A1 c1 A2 c2, A = some ⟨b, off, none⟩ ∧ lo ≤ b ∧ b < B ∧ l[k]? = some t ∧ cells5 w b (off + k * 5) t A1 c1 A2 c2 ∧ R t A1 c1 A2 c2 := by
  obtain ⟨b, off, e, b1, b2, hc⟩ := h.at_ (by omega)
  have hj : l[k]? = some l[k] := List.getElem?_eq_getElem hk
  obtain ⟨A1, c1, A2, c2, q1, q2⟩ := hc k _ hj
  exact ⟨b, off, l[k], A1, c1, A2, c2, e, b1, b2, hj, q1, q2⟩

/-- Below, from one call's world to the next one's. -/
theorem bnext {a b c : World} (h : Below a.heap.size a b) (k : Below b.heap.size b c) : Below a.heap.size a c := h.trans (k.mono h.size)
theorem below_new (w : World) (o : Obj) : Below w.heap.size w (w.alloc o) := (Below.refl _ _).alloc (Nat.le_refl _) o
theorem below_new2 (w : World) (o p : Obj) : Below w.heap.size w ((w.alloc o).alloc p) := bnext (below_new _ _) (below_new _ _)
theorem below_new3 (w : World) (o p q : Obj) : Below w.heap.size w (((w.alloc o).alloc p).alloc q) := bnext (below_new2 _ _ _) (below_new _ _)
end Go.Proofs.Ytciipggccjiaiaa

