/- Carried over from an earlier seat. -/
import Derived.Test.YtebkkjfeikpfgaaChecked
import GoSem.Op.String
import Derived.WalkKit
import Derived.WalkLawsBesides
import Derived.LoopTactic
import Derived.Lib.Hide
import Derived.Below
import Derived.StillTailTactics
import Derived.Lib.QuietBelow
import Derived.BigQuiet
import Derived.Deep.OwnRows
import Derived.Laws.Rows
import Derived.OwnWalk
import Derived.Deep.RegionWith
import Derived.Deep.DrawnRows
import Derived.Deep.DeepCutAuto
namespace Go.Proofs.Ytebkkjfeikpfgaa
set_option maxRecDepth 100000
set_option maxRecDepth 100000

inductive V where
  | mk (k n : Int) (s : ByteArray) (l m : List V)

def V.k : V → Int | .mk k _ _ _ _ => k
def V.n : V → Int | .mk _ n _ _ _ => n
def V.s : V → ByteArray | .mk _ _ s _ _ => s
def V.l : V → List V | .mk _ _ _ l _ => l
def V.m : V → List V | .mk _ _ _ _ m => m
def orI (x y : Int) : Int := if x = 0 then y else x
def cmpI (a b : Int) : Int := if a < b then -1 else if b < a then 1 else 0
def rowC {α : Type} (f : α → α → Int) : List α → List α → Int
  | [], [] => 0
  | [], _ :: _ => -1
  | _ :: _, [] => 1
  | x :: xs, y :: ys => orI (f x y) (rowC f xs ys)
def cmpU (a b : UInt8) : Int := cmpI a.toNat b.toNat
def cmpS (a b : ByteArray) : Int := rowC cmpU a.toList b.toList
def cmpF (a b : V) : Int := orI (cmpI a.k b.k) (orI (cmpI a.n b.n) (cmpS a.s b.s))
def cmpV : Nat → V → V → Int
  | 0, a, b => cmpF a b
  | r + 1, a, b => orI (cmpF a b) (orI (rowC (cmpV r) a.l b.l) (rowC (cmpV r) a.m b.m))

/-- One order: just one of less, the same, greater; what is no greater than what is no greater is no greater. -/
structure Ord {α : Type} (f : α → α → Int) : Prop where
  anti : ∀ x y, f y x = -f x y
  tri : ∀ x y, f x y = -1 ∨ f x y = 0 ∨ f x y = 1
  trans : ∀ x y z, f x y ≤ 0 → f y z ≤ 0 → f x z ≤ 0

theorem Ord.refl {α : Type} {f : α → α → Int} (h : Ord f) (x : α) : f x x = 0 := by have := h.anti x x; omega
theorem Ord.strict {α : Type} {f : α → α → Int} (h : Ord f) (x y z : α) (a : f x y ≤ 0) (b : f y z ≤ 0) (c : f x z = 0) : f x y = 0 ∧ f y z = 0 := by
  have a1 := h.anti x z
  have a2 := h.anti y z
  have a3 := h.anti x y
  have t1 := h.trans z x y (by omega) a
  have t2 := h.trans y z x b (by omega)
  omega
/-- What is the same stands alike to a third. -/
theorem Ord.same_left {α : Type} {f : α → α → Int} (h : Ord f) (x y z : α) (e : f x y = 0) : f x z = f y z := by
  have a1 := h.anti x y
  have a2 := h.anti x z
  have a3 := h.anti y z
  have t1 := h.trans x y z (by omega)
  have t2 := h.trans y x z (by omega)
  have t3 := h.trans z x y
  have t4 := h.trans z y x
  have q1 := h.tri x z
  have q2 := h.tri y z
  omega
theorem Ord.same_right {α : Type} {f : α → α → Int} (h : Ord f) (x y z : α) (e : f y z = 0) : f x y = f x z := by
  have := h.same_left y z x e
  rw [h.anti y x, h.anti z x]; omega

theorem ord_cmpI : Ord cmpI where
  anti x y := by unfold cmpI; repeat' split <;> omega
  tri x y := by unfold cmpI; repeat' split <;> omega
  trans x y z := by unfold cmpI; repeat' split <;> omega
theorem ord_cmpU : Ord cmpU where
  anti _x _y := ord_cmpI.anti _ _
  tri _x _y := ord_cmpI.tri _ _
  trans _x _y _z := ord_cmpI.trans _ _ _
theorem ord_on {α β : Type} {f : β → β → Int} (g : α → β) (h : Ord f) : Ord (fun x y => f (g x) (g y)) where
  anti _x _y := h.anti _ _
  tri _x _y := h.tri _ _
  trans _x _y _z := h.trans _ _ _
theorem ord_or {α : Type} {f g : α → α → Int} (hf : Ord f) (hg : Ord g) : Ord (fun x y => orI (f x y) (g x y)) where
  anti x y := by
    have a := hf.anti x y
    have b := hg.anti x y
    simp only [orI]; repeat' split <;> omega
  tri x y := by
    have a := hf.tri x y
    have b := hg.tri x y
    simp only [orI]; split <;> omega
  trans x y z := by
    have t := hf.trans x y z
    have s := hf.strict x y z
    have u := hg.trans x y z
    have q := hf.tri x y
    have q2 := hf.tri y z
    have q3 := hf.tri x z
    have e1 := hf.same_left x y z
    have e2 := hf.same_right x y z
    simp only [orI]
    repeat' split
    all_goals omega
theorem ord_row {α : Type} {f : α → α → Int} (hf : Ord f) : Ord (rowC f) where
  anti := by
    intro x
    induction x with
    | nil => intro y; cases y <;> simp [rowC]
    | cons a x ih =>
      intro y
      cases y with
      | nil => simp [rowC]
      | cons b y =>
        have h1 := hf.anti a b
        have h2 := ih y
        simp only [rowC, orI]
        repeat' split <;> omega
  tri := by
    intro x
    induction x with
    | nil => intro y; cases y <;> simp [rowC]
    | cons a x ih =>
      intro y
      cases y with
      | nil => simp [rowC]
      | cons b y =>
        have h1 := hf.tri a b
        have h2 := ih y
        simp only [rowC, orI]
        split <;> omega
  trans := by
    intro x
    induction x with
    | nil => intro y z; cases y <;> cases z <;> simp [rowC]
    | cons a x ih =>
      intro y z
      cases y with
      | nil => simp [rowC]
      | cons b y =>
        cases z with
        | nil => simp [rowC]
        | cons c z =>
          have t := hf.trans a b c
          have s := hf.strict a b c
          have u := ih y z
          have q := hf.tri a b
          have q2 := hf.tri b c
          have q3 := hf.tri a c
          have e1 := hf.same_left a b c
          have e2 := hf.same_right a b c
          simp only [rowC, orI]
          repeat' split
          all_goals omega
theorem ord_cmpS : Ord cmpS := ord_on ByteArray.toList (ord_row ord_cmpU)
theorem ord_cmpF : Ord cmpF := ord_or (ord_on V.k ord_cmpI) (ord_or (ord_on V.n ord_cmpI) (ord_on V.s ord_cmpS))
theorem ord_cmpV : ∀ r, Ord (cmpV r)
  | 0 => ord_cmpF
  | r + 1 => ord_or ord_cmpF (ord_or (ord_on V.l (ord_row (ord_cmpV r))) (ord_on V.m (ord_row (ord_cmpV r))))

/-- The model's order of texts is this one. -/
theorem less_iff : ∀ (x y : List UInt8), Op.bytesLess x y = decide (rowC cmpU x y = -1)
  | [], [] => by simp [Op.bytesLess, rowC]
  | [], _ :: _ => by simp [Op.bytesLess, rowC]
  | _ :: _, [] => by simp [Op.bytesLess, rowC]
  | a :: x, b :: y => by
    have ih := less_iff x y
    simp only [Op.bytesLess, ih, rowC]
    by_cases h1 : a < b
    · have e : cmpU a b = -1 := by unfold cmpU cmpI; rw [if_pos (by have := UInt8.lt_iff_toNat_lt.1 h1; omega)]
      simp [h1, e, orI]
    · by_cases h2 : a = b
      · subst h2
        have e : cmpU a a = 0 := ord_cmpU.refl a
        simp [e, orI]
      · have e : cmpU a b = 1 := by
          unfold cmpU cmpI
          have : ¬ a.toNat < b.toNat := fun h => h1 (UInt8.lt_iff_toNat_lt.2 h)
          have : a.toNat ≠ b.toNat := fun h => h2 (UInt8.toNat_inj.1 h)
          rw [if_neg (by omega), if_pos (by omega)]
        simp [h1, h2, e, orI]
theorem same_iff : ∀ (x y : List UInt8), rowC cmpU x y = 0 ↔ x = y
  | [], [] => by simp [rowC]
  | [], _ :: _ => by simp [rowC]
  | _ :: _, [] => by simp [rowC]
  | a :: x, b :: y => by
    have ih := same_iff x y
    simp only [rowC, orI, List.cons.injEq]
    by_cases h2 : a = b
    · subst h2
      rw [if_pos (ord_cmpU.refl a), ih]; simp
    · have e : cmpU a b ≠ 0 := by
        unfold cmpU cmpI
        have : a.toNat ≠ b.toNat := fun h => h2 (UInt8.toNat_inj.1 h)
        repeat' split <;> omega
      rw [if_neg e]
      exact ⟨fun h => absurd h e, fun h => absurd h.1 h2⟩
end Go.Proofs.Ytebkkjfeikpfgaa


/- Carried over from an earlier seat. -/
namespace Go.Proofs.Ytebkkjfeikpfgaa
set_option maxRecDepth 100000
set_option maxRecDepth 100000
open Go.RowKit

/-- A value as it is handed on: its kind, its number, its text, its two rows. -/
abbrev vl (t : V) (A : Option Addr) (c : Nat) (A' : Option Addr) (c' : Nat) : Value :=
  .agg #[.int .i64 t.k, .int .i64 t.n, .string t.s, .slice A t.l.length c, .slice A' t.m.length c']

/-- The five cells of a value. -/
structure cells5 (w : World) (b o : Nat) (t : V) (A : Option Addr) (c : Nat) (A' : Option Addr) (c' : Nat) : Prop where
  c0 : w.cell? ⟨b, o, none⟩ = some (.int .i64 t.k)
  c1 : w.cell? ⟨b, o + 1, none⟩ = some (.int .i64 t.n)
  c2 : w.cell? ⟨b, o + 2, none⟩ = some (.string t.s)
  c3 : w.cell? ⟨b, o + 3, none⟩ = some (.slice A t.l.length c)
  c4 : w.cell? ⟨b, o + 4, none⟩ = some (.slice A' t.m.length c')

/-- A row of values. -/
structure RdRow (w : World) (lo B : Nat) (R : V → Option Addr → Nat → Option Addr → Nat → Prop) (A : Option Addr) (c : Nat) (l : List V) : Prop where
  le : l.length ≤ c
  cap : c ≤ maxLen
  big : l.length ≤ 1759218604441
  nil : A = none → c = 0
  at_ : 0 < l.length → ∃ b off, A = some ⟨b, off, none⟩ ∧ lo ≤ b ∧ b < B ∧ ∀ j t, l[j]? = some t → ∃ A1 c1 A2 c2, cells5 w b (off + j * 5) t A1 c1 A2 c2 ∧ R t A1 c1 A2 c2

/-- The fields of its own are a machine's. -/
structure Fld (t : V) : Prop where
  k0 : -9223372036854775808 ≤ t.k
  k1 : t.k ≤ 9223372036854775807
  n0 : -9223372036854775808 ≤ t.n
  n1 : t.n ≤ 9223372036854775807
  s1 : t.s.size ≤ 140737488355328

/-- A value, at most so deep. -/
def Rd (w : World) (lo B : Nat) : Nat → V → Option Addr → Nat → Option Addr → Nat → Prop
  | 0, _, _, _, _, _ => False
  | d + 1, t, A, c, A', c' => Fld t ∧ RdRow w lo B (Rd w lo B d) A c t.l ∧ RdRow w lo B (Rd w lo B d) A' c' t.m
/-- A row of values, each at most so deep. -/
abbrev Rw (w : World) (lo B d : Nat) (A : Option Addr) (c : Nat) (l : List V) : Prop := RdRow w lo B (Rd w lo B d) A c l

/-- From lo on and below B the two worlds are one. -/
def Kept (lo B : Nat) (w w' : World) : Prop := ∀ k, lo ≤ k → k < B → w'.heap[k]? = w.heap[k]?
theorem Kept.refl (lo B : Nat) (w : World) : Kept lo B w w := fun _ _ _ => rfl
theorem Kept.trans {lo B : Nat} {a b c : World} (h : Kept lo B a b) (k : Kept lo B b c) : Kept lo B a c := fun i h1 h2 => (k i h1 h2).trans (h i h1 h2)
theorem Kept.of_below {lo B B' : Nat} {w w' : World} (h : Below B' w w') (hB : B ≤ B') : Kept lo B w w' := fun k _ hk => h.block k (by omega)
theorem Kept.alloc {lo B : Nat} {w : World} (h : B ≤ w.heap.size) (o : Obj) : Kept lo B w (w.alloc o) := fun k _ hk => Below.heap_alloc _ _ _ (by omega)
theorem Kept.drew {lo B : Nat} {w : World} : Kept lo B w w.drew := fun _ _ _ => rfl
theorem Kept.drewN {lo B : Nat} {w : World} (n : Nat) : Kept lo B w (w.drewN n) := fun _ _ _ => rfl
theorem Kept.setCell {lo B : Nat} {w : World} {p : Addr} (h : p.block < lo ∨ B ≤ p.block) (u : Value) : Kept lo B w (w.setCell p u) := fun k _ _ => Below.heap_setCell _ _ _ _ (by omega)
theorem Kept.cell {lo B : Nat} {w w' : World} (h : Kept lo B w w') {p : Addr} (h1 : lo ≤ p.block) (h2 : p.block < B) : w'.cell? p = w.cell? p := World.cell?_of_block (w := w) (h p.block h1 h2)
theorem Kept.frozen {lo B : Nat} {w w' : World} (h : Kept lo B w w') {p : Addr} (h1 : lo ≤ p.block) (h2 : p.block < B) : w'.frozen? p = w.frozen? p := World.frozen?_of_block (w := w) (h p.block h1 h2)

theorem cells5.keep {w w' : World} {lo B b o : Nat} {t : V} {A A' : Option Addr} {c c' : Nat} (h : cells5 w b o t A c A' c') (hk : Kept lo B w w') (h1 : lo ≤ b) (h2 : b < B) : cells5 w' b o t A c A' c' :=
  ⟨(hk.cell h1 h2).trans h.c0, (hk.cell h1 h2).trans h.c1, (hk.cell h1 h2).trans h.c2, (hk.cell h1 h2).trans h.c3, (hk.cell h1 h2).trans h.c4⟩

theorem RdRow.imp {w w' : World} {lo B lo' B' : Nat} {R R' : V → Option Addr → Nat → Option Addr → Nat → Prop} {A : Option Addr} {c : Nat} {l : List V} (h : RdRow w lo B R A c l)
    (hk : Kept lo B w w') (h1 : lo' ≤ lo) (h2 : B ≤ B') (hR : ∀ t A1 c1 A2 c2, R t A1 c1 A2 c2 → R' t A1 c1 A2 c2) : RdRow w' lo' B' R' A c l :=
  ⟨h.le, h.cap, h.big, h.nil, fun h0 => by
    obtain ⟨b, off, e, b1, b2, hc⟩ := h.at_ h0
    refine ⟨b, off, e, by omega, by omega, fun j t hj => ?_⟩
    obtain ⟨A1, c1, A2, c2, q1, q2⟩ := hc j t hj
    exact ⟨A1, c1, A2, c2, q1.keep hk b1 b2, hR _ _ _ _ _ q2⟩⟩
theorem Rd.imp {w w' : World} {lo B lo' B' : Nat} (hk : Kept lo B w w') (h1 : lo' ≤ lo) (h2 : B ≤ B') : ∀ {d d' : Nat} {t : V} {A A' : Option Addr} {c c' : Nat}, d ≤ d' → Rd w lo B d t A c A' c' → Rd w' lo' B' d' t A c A' c'
  | 0, _, _, _, _, _, _, _, h => h.elim
  | d + 1, 0, _, _, _, _, _, hd, _ => absurd hd (by omega)
  | d + 1, d' + 1, _, _, _, _, _, hd, h => ⟨h.1, h.2.1.imp hk h1 h2 (fun _ _ _ _ _ => Rd.imp hk h1 h2 (by omega)), h.2.2.imp hk h1 h2 (fun _ _ _ _ _ => Rd.imp hk h1 h2 (by omega))⟩
theorem Rd.keep {w w' : World} {lo B d : Nat} {t : V} {A A' : Option Addr} {c c' : Nat} (h : Rd w lo B d t A c A' c') (hk : Kept lo B w w') : Rd w' lo B d t A c A' c' := Rd.imp hk (Nat.le_refl _) (Nat.le_refl _) (Nat.le_refl _) h
theorem RdRow.keep {w w' : World} {lo B d : Nat} {A : Option Addr} {c : Nat} {l : List V} (h : Rw w lo B d A c l) (hk : Kept lo B w w') : Rw w' lo B d A c l := h.imp hk (Nat.le_refl _) (Nat.le_refl _) (fun _ _ _ _ _ h => h.keep hk)
theorem Rd.below {w w' : World} {lo B B' d : Nat} {t : V} {A A' : Option Addr} {c c' : Nat} (h : Rd w lo B d t A c A' c') (hb : Below B' w w') (hB : B ≤ B') : Rd w' lo B d t A c A' c' := h.keep (Kept.of_below hb hB)
theorem RdRow.below {w w' : World} {lo B B' d : Nat} {A : Option Addr} {c : Nat} {l : List V} (h : Rw w lo B d A c l) (hb : Below B' w w') (hB : B ≤ B') : Rw w' lo B d A c l := h.keep (Kept.of_below hb hB)
theorem Rd.more {w : World} {lo lo' B B' d d' : Nat} {t : V} {A A' : Option Addr} {c c' : Nat} (h : Rd w lo B d t A c A' c') (h1 : lo' ≤ lo) (h2 : B ≤ B') (h3 : d ≤ d') : Rd w lo' B' d' t A c A' c' := Rd.imp (Kept.refl _ _ _) h1 h2 h3 h
theorem RdRow.more {w : World} {lo lo' B B' d d' : Nat} {A : Option Addr} {c : Nat} {l : List V} (h : Rw w lo B d A c l) (h1 : lo' ≤ lo) (h2 : B ≤ B') (h3 : d ≤ d') : Rw w lo' B' d' A c l := h.imp (Kept.refl _ _ _) h1 h2 (fun _ _ _ _ _ h => h.more h1 h2 h3)
theorem Rd.pos {w : World} {lo B d : Nat} {t : V} {A A' : Option Addr} {c c' : Nat} (h : Rd w lo B d t A c A' c') : ∃ e, d = e + 1 := by
  cases d with
  | zero => exact h.elim
  | succ e => exact ⟨e, rfl⟩
theorem rw_nil (w : World) (lo B d : Nat) : Rw w lo B d none 0 [] := ⟨by simp, by unfold maxLen; omega, by simp, fun _ => rfl, fun h => absurd h (by simp)⟩
/-- One element of a row. -/
theorem RdRow.elem {w : World} {lo B : Nat} {R : V → Option Addr → Nat → Option Addr → Nat → Prop} {A : Option Addr} {c : Nat} {l : List V} (h : RdRow w lo B R A c l) {k : Nat} (hk : k < l.length) :
    ∃ b off t A1 c1 A2 c2, A = some ⟨b, off, none⟩ ∧ lo ≤ b ∧ b < B ∧ l[k]? = some t ∧ cells5 w b (off + k * 5) t A1 c1 A2 c2 ∧ R t A1 c1 A2 c2 := by
  obtain ⟨b, off, e, b1, b2, hc⟩ := h.at_ (by omega)
  have hj : l[k]? = some l[k] := List.getElem?_eq_getElem hk
  obtain ⟨A1, c1, A2, c2, q1, q2⟩ := hc k _ hj
  exact ⟨b, off, l[k], A1, c1, A2, c2, e, b1, b2, hj, q1, q2⟩

/-- Below, from one call's world to the next one's. -/
theorem bnext {a b c : World} (h : Below a.heap.size a b) (k : Below b.heap.size b c) : Below a.heap.size a c := h.trans (k.mono h.size)
theorem below_new (w : World) (o : Obj) : Below w.heap.size w (w.alloc o) := (Below.refl _ _).alloc (Nat.le_refl _) o
theorem below_new2 (w : World) (o p : Obj) : Below w.heap.size w ((w.alloc o).alloc p) := bnext (below_new _ _) (below_new _ _)
theorem below_new3 (w : World) (o p q : Obj) : Below w.heap.size w (((w.alloc o).alloc p).alloc q) := bnext (below_new2 _ _ _) (below_new _ _)
end Go.Proofs.Ytebkkjfeikpfgaa


/- Carried over from an earlier seat. -/
namespace Go.Proofs.Ytebkkjfeikpfgaa
set_option maxRecDepth 100000
set_option maxRecDepth 100000
open Go.RowKit

set_option maxHeartbeats 400000 in
theorem nanI (a : Int) (w : World) : Calls Try.prog 80 #[.int .i64 a] w fun e w' => e = .returned (.bool false) ∧ w = w' := by
  go_enter Try.func80, Try.ntmps80
  go_wp2
  go_ret
  exact ⟨by simp, rfl⟩
set_option maxHeartbeats 400000 in
theorem nanS (a : ByteArray) (w : World) : Calls Try.prog 110 #[.string a] w fun e w' => e = .returned (.bool false) ∧ w = w' := by
  go_enter Try.func110, Try.ntmps110
  go_wp2
  go_ret
  exact ⟨by simp, rfl⟩
set_option maxHeartbeats 400000 in
theorem compareI (a b : Int) (w : World) : Calls Try.prog 68 #[.int .i64 a, .int .i64 b] w fun e w' => e = .returned (.int .i64 (cmpI a b)) ∧ w = w' := by
  have H1 := Lib.hid (show a < b → cmpI a b = -1 from fun h => by unfold cmpI; rw [if_pos h])
  have H2 := Lib.hid (show b < a → cmpI a b = 1 from fun h => by unfold cmpI; rw [if_neg (by omega), if_pos h])
  have H3 := Lib.hid (show ¬ a < b → ¬ b < a → cmpI a b = 0 from fun h h' => by unfold cmpI; rw [if_neg h, if_neg h'])
  by_cases h1 : a < b
  · go_enter Try.func68, Try.ntmps68
    go_wp2_with (go_at_call 80; refine (nanI _ _).mono ?_; rintro e w' ⟨rfl, rfl⟩)
    go_ret
    exact ⟨by rw [H1.out (by omega)]; rfl, rfl⟩
  · by_cases h2 : b < a
    · go_enter Try.func68, Try.ntmps68
      go_wp2_with (go_at_call 80; refine (nanI _ _).mono ?_; rintro e w' ⟨rfl, rfl⟩)
      go_ret
      exact ⟨by rw [H2.out (by omega)]; rfl, rfl⟩
    · go_enter Try.func68, Try.ntmps68
      go_wp2_with (go_at_call 80; refine (nanI _ _).mono ?_; rintro e w' ⟨rfl, rfl⟩)
      go_ret
      exact ⟨by rw [H3.out (by omega) (by omega)]; rfl, rfl⟩
set_option maxHeartbeats 400000 in
theorem signI (a b : Int) (w : World) : Calls Try.prog 71 #[.int .i64 a, .int .i64 b] w fun e w' => e = .returned (.int .i64 (cmpI a b)) ∧ w = w' := by
  have H1 := Lib.hid (show a < b → cmpI a b = -1 from fun h => by unfold cmpI; rw [if_pos h])
  have H2 := Lib.hid (show b < a → cmpI a b = 1 from fun h => by unfold cmpI; rw [if_neg (by omega), if_pos h])
  have H3 := Lib.hid (show ¬ a < b → ¬ b < a → cmpI a b = 0 from fun h h' => by unfold cmpI; rw [if_neg h, if_neg h'])
  by_cases h1 : a < b
  · go_enter Try.func71, Try.ntmps71
    go_wp2
    go_ret
    exact ⟨by rw [H1.out (by omega)]; rfl, rfl⟩
  · by_cases h2 : b < a
    · go_enter Try.func71, Try.ntmps71
      go_wp2
      go_ret
      exact ⟨by rw [H2.out (by omega)]; rfl, rfl⟩
    · go_enter Try.func71, Try.ntmps71
      go_wp2
      go_ret
      exact ⟨by rw [H3.out (by omega) (by omega)]; rfl, rfl⟩

theorem cmpS_cases (a b : ByteArray) : (Op.bytesLess a.toList b.toList = true ∧ cmpS a b = -1) ∨ (Op.bytesLess a.toList b.toList = false ∧ (a.toList == b.toList) = true ∧ cmpS a b = 0) ∨ (Op.bytesLess a.toList b.toList = false ∧ (a.toList == b.toList) = false ∧ cmpS a b = 1) := by
  have t := ord_cmpS.tri a b
  have e := same_iff a.toList b.toList
  rw [less_iff]
  unfold cmpS at t ⊢
  rcases t with t | t | t
  · exact .inl ⟨by simp [t], t⟩
  · exact .inr (.inl ⟨by simp [t], beq_iff_eq.2 (e.1 t), t⟩)
  · refine .inr (.inr ⟨by simp [t], beq_eq_false_iff_ne.2 (fun h => ?_), t⟩)
    have := e.2 h; omega
set_option maxHeartbeats 400000 in
theorem compareS (a b : ByteArray) (w : World) : Calls Try.prog 107 #[.string a, .string b] w fun e w' => e = .returned (.int .i64 (cmpS a b)) ∧ w = w' := by
  rcases cmpS_cases a b with ⟨h1, h⟩ | ⟨h1, h2, h⟩ | ⟨h1, h2, h⟩
  all_goals
    have H := Lib.hid h
    clear h
    go_enter Try.func107, Try.ntmps107
    go_wp2_with (go_at_call 110; refine (nanS _ _).mono ?_; rintro e w' ⟨rfl, rfl⟩)
    go_ret
    exact ⟨by rw [H.out]; rfl, rfl⟩

theorem or3 (x y z : Int) : orI x (orI y z) = if x = 0 then (if y = 0 then z else y) else x := rfl

set_option maxHeartbeats 800000 in
/-- cmp.Or of three numbers that lie in a row. -/
theorem or_any (x y z : Int) (b : Nat) (w : World) (c0 : w.cell? ⟨b, 0, none⟩ = some (.int .i64 x)) (c1 : w.cell? ⟨b, 1, none⟩ = some (.int .i64 y)) (c2 : w.cell? ⟨b, 2, none⟩ = some (.int .i64 z)) :
    Calls Try.prog 106 #[.slice (some ⟨b, 0, none⟩) 3 3] w fun e w' => e = .returned (.int .i64 (orI x (orI y z))) ∧ w = w' := by
  have E := Lib.hid (or3 x y z)
  by_cases hx : (x == 0) = true
  · have hx' : (x != 0) = false := by simp [beq_iff_eq.1 hx]
    have HX := Lib.hid (beq_iff_eq.1 hx)
    by_cases hy : (y == 0) = true
    · have hy' : (y != 0) = false := by simp [beq_iff_eq.1 hy]
      have HY := Lib.hid (beq_iff_eq.1 hy)
      by_cases hz : (z == 0) = true
      · have hz' : (z != 0) = false := by simp [beq_iff_eq.1 hz]
        have HZ := Lib.hid (beq_iff_eq.1 hz)
        go_enter Try.func106, Try.ntmps106
        go_wp2
        refine wp_loop_rounds 4 ?_
        iterate 4 (rw [rounds_succ]; go_wp2)
        go_ret
        exact ⟨by rw [E.out, if_pos HX.out, if_pos HY.out, HZ.out]; rfl, rfl⟩
      · have hz' : (z != 0) = true := by simpa using hz
        go_enter Try.func106, Try.ntmps106
        go_wp2
        refine wp_loop_rounds 4 ?_
        iterate 3 (rw [rounds_succ]; go_wp2)
        go_ret
        exact ⟨by rw [E.out, if_pos HX.out, if_pos HY.out]; rfl, rfl⟩
    · have hy' : (y != 0) = true := by simpa using hy
      have HY := Lib.hid (show ¬ y = 0 by simpa using hy)
      go_enter Try.func106, Try.ntmps106
      go_wp2
      refine wp_loop_rounds 4 ?_
      iterate 2 (rw [rounds_succ]; go_wp2)
      go_ret
      exact ⟨by rw [E.out, if_pos HX.out, if_neg HY.out]; rfl, rfl⟩
  · have hx' : (x != 0) = true := by simpa using hx
    have HX := Lib.hid (show ¬ x = 0 by simpa using hx)
    go_enter Try.func106, Try.ntmps106
    go_wp2
    refine wp_loop_rounds 4 ?_
    iterate 1 (rw [rounds_succ]; go_wp2)
    go_ret
    exact ⟨by rw [E.out, if_neg HX.out]; rfl, rfl⟩
end Go.Proofs.Ytebkkjfeikpfgaa


/- Carried over from an earlier seat. -/
namespace Go.Proofs.Ytebkkjfeikpfgaa
set_option maxRecDepth 100000
set_option maxRecDepth 100000
open Go.RowKit

theorem Rd.next {w w' : World} {d : Nat} {t : V} {A A' : Option Addr} {c c' : Nat} (h : Rd w 0 w.heap.size d t A c A' c') (hb : Below w.heap.size w w') : Rd w' 0 w'.heap.size d t A c A' c' :=
  Rd.imp (Kept.of_below hb (Nat.le_refl _)) (Nat.le_refl _) hb.size (Nat.le_refl _) h
theorem RdRow.next {w w' : World} {d : Nat} {A : Option Addr} {c : Nat} {l : List V} (h : Rw w 0 w.heap.size d A c l) (hb : Below w.heap.size w w') : Rw w' 0 w'.heap.size d A c l :=
  h.imp (Kept.of_below hb (Nat.le_refl _)) (Nat.le_refl _) hb.size (fun _ _ _ _ _ h => h.next hb)

/-- A closure that compares two values as f does, in every world in which all that lay in w lies unturned; g: what it captured. -/
def Cmps (cap : Value) (w : World) (f : V → V → Int) : Prop :=
  ∀ (W : World) (da db : Nat) (a b : V) (A : Option Addr) (c : Nat) (A' : Option Addr) (c' : Nat) (D : Option Addr) (e : Nat) (D' : Option Addr) (e' : Nat), Below w.heap.size w W →
    Rd W 0 W.heap.size da a A c A' c' → Rd W 0 W.heap.size db b D e D' e' →
    Calls Try.prog 108 #[vl a A c A' c', vl b D e D' e', cap] W fun x w' => x = .returned (.int .i64 (f a b)) ∧ Below W.heap.size W w'

theorem rowC_next {α : Type} (f : α → α → Int) (l l' : List α) (k : Nat) {x y : α} (hx : l[k]? = some x) (hy : l'[k]? = some y) : rowC f (l.drop k) (l'.drop k) = orI (f x y) (rowC f (l.drop (k + 1)) (l'.drop (k + 1))) := by
  obtain ⟨h1, e1⟩ := List.getElem?_eq_some_iff.1 hx
  obtain ⟨h2, e2⟩ := List.getElem?_eq_some_iff.1 hy
  rw [List.drop_eq_getElem_cons h1, List.drop_eq_getElem_cons h2, e1, e2]; rfl
theorem rowC_out {α : Type} (f : α → α → Int) (l l' : List α) (k : Nat) (h1 : k < l.length) (h2 : l'.length ≤ k) : rowC f (l.drop k) (l'.drop k) = 1 := by
  rw [List.drop_eq_getElem_cons h1, List.drop_eq_nil_of_le h2]; rfl
theorem rowC_less {α : Type} (f : α → α → Int) (l l' : List α) (k : Nat) (h1 : l.length ≤ k) (h2 : k < l'.length) : rowC f (l.drop k) (l'.drop k) = -1 := by
  rw [List.drop_eq_getElem_cons h2, List.drop_eq_nil_of_le h1]; rfl
theorem rowC_done {α : Type} (f : α → α → Int) (l l' : List α) (k : Nat) (h1 : l.length ≤ k) (h2 : l'.length ≤ k) : rowC f (l.drop k) (l'.drop k) = 0 := by
  rw [List.drop_eq_nil_of_le h1, List.drop_eq_nil_of_le h2]; rfl
theorem orI_ne {x y : Int} (h : (x != 0) = true) : orI x y = x := by unfold orI; rw [if_neg (by simpa using h)]
theorem orI_eq {x y : Int} (h : (x != 0) = false) : orI x y = y := by unfold orI; rw [if_pos (by simpa using h)]

set_option maxHeartbeats 1600000 in
theorem compareFunc (f : V → V → Int) (g : Nat) (w : World) (hcl : Cmps (.pointer (some ⟨g, 0, none⟩)) w f) (d d' : Nat) (A : Option Addr) (c : Nat) (l : List V) (A' : Option Addr) (c' : Nat) (l' : List V)
    (h : Rw w 0 w.heap.size d A c l) (h' : Rw w 0 w.heap.size d' A' c' l') :
    Calls Try.prog 109 #[.slice A l.length c, .slice A' l'.length c', .func (.func 108) #[] #[.pointer (some ⟨g, 0, none⟩)]] w fun e w' => e = .returned (.int .i64 (rowC f l l')) ∧ Below w.heap.size w w' := by
  have HC := Lib.hid hcl
  have H1 := Lib.hid h
  have H2 := Lib.hid h'
  have b1 := h.big
  have b2 := h'.big
  clear hcl h h'
  go_enter Try.func109, Try.ntmps109
  go_wp2
  go_loopw [13] (fun i wr => ∃ k : Nat, k ≤ l.length ∧ k ≤ l'.length ∧ i = .int .i64 k ∧ Hid (Below w.heap.size w wr) ∧ Hid (rowC f (l.drop k) (l'.drop k) = rowC f l l')) (fun i _ => l.length - (intOf i).toNat)
  case atStart => exact ⟨0, by omega, by omega, rfl, Lib.hid (Below.refl _ _), Lib.hid (by simp)⟩
  case round =>
    obtain ⟨k, hk, hk', rfl, hbel, hr⟩ := hrel
    by_cases hlt : k < l.length
    · obtain ⟨b, off, x, A1, c1, A2, c2, rfl, _, hb, hx, q, rx⟩ := (H1.out.next hbel.out).elem hlt
      obtain ⟨q0, q1, q2, q3, q4⟩ := q
      by_cases hlt' : k < l'.length
      · obtain ⟨b', off', y, D1, e1, D2, e2, rfl, _, hb', hy, p, ry⟩ := (H2.out.next hbel.out).elem hlt'
        obtain ⟨p0, p1, p2, p3, p4⟩ := p
        have NX := Lib.hid (rowC_next f l l' k hx hy)
        have RX := Lib.hid rx
        have RY := Lib.hid ry
        have HX := Lib.hid hx
        have HY := Lib.hid hy
        clear rx ry hx hy
        go_wp2_with fail
        refine (HC.out _ _ _ x y _ _ _ _ _ _ _ _ (bnext hbel.out (below_new2 _ _ _)) (RX.out.next (below_new2 _ _ _)) (RY.out.next (below_new2 _ _ _))).mono ?_
        rintro e w1 ⟨rfl, hb1⟩
        have HB := Lib.hid (bnext (bnext hbel.out (below_new2 _ _ _)) hb1)
        clear hb1
        cases hne : (f x y != 0)
        · go_wp2
          go_roundw
          case rel => exact ⟨k + 1, by omega, by omega, by go_num, HB, Lib.hid (by rw [← hr.out, NX.out, orI_eq hne])⟩
          case measure => simp [intOf]; omega
        · go_wp2
          go_ret
          exact ⟨by rw [← hr.out, NX.out, orI_ne hne]; rfl, HB.out⟩
      · have OUT := Lib.hid (rowC_out f l l' k hlt (by omega))
        clear rx hx
        go_wp2
        go_ret
        exact ⟨by rw [← hr.out, OUT.out]; rfl, bnext hbel.out (below_new _ _)⟩
    · by_cases hlt' : k < l'.length
      · have OUT := Lib.hid (rowC_less f l l' k (by omega) hlt')
        go_wp2
        go_ret
        exact ⟨by rw [← hr.out, OUT.out]; rfl, hbel.out⟩
      · have OUT := Lib.hid (rowC_done f l l' k (by omega) (by omega))
        go_wp2
        go_ret
        exact ⟨by rw [← hr.out, OUT.out]; rfl, hbel.out⟩
end Go.Proofs.Ytebkkjfeikpfgaa


/- Carried over from an earlier seat. -/
namespace Go.Proofs.Ytebkkjfeikpfgaa
set_option maxRecDepth 100000
set_option maxRecDepth 100000
open Go.RowKit

theorem compareI' (a b : Int) (w : World) : Calls Try.prog 68 #[.int .i64 a, .int .i64 b] w fun e w' => e = .returned (.int .i64 (cmpI a b)) ∧ w' = w := (compareI a b w).mono fun _ _ h => ⟨h.1, h.2.symm⟩
theorem compareS' (a b : ByteArray) (w : World) : Calls Try.prog 107 #[.string a, .string b] w fun e w' => e = .returned (.int .i64 (cmpS a b)) ∧ w' = w := (compareS a b w).mono fun _ _ h => ⟨h.1, h.2.symm⟩

/-- A value in a block of its own. -/
structure Box (w : World) (g : Nat) (t : V) (A : Option Addr) (c : Nat) (A' : Option Addr) (c' : Nat) : Prop where
  c0 : w.cell? ⟨g, 0, none⟩ = some (.int .i64 t.k)
  c1 : w.cell? ⟨g, 1, none⟩ = some (.int .i64 t.n)
  c2 : w.cell? ⟨g, 2, none⟩ = some (.string t.s)
  c3 : w.cell? ⟨g, 3, none⟩ = some (.slice A t.l.length c)
  c4 : w.cell? ⟨g, 4, none⟩ = some (.slice A' t.m.length c')
theorem Box.new (w : World) (t : V) (A : Option Addr) (c : Nat) (A' : Option Addr) (c' : Nat) : Box (w.alloc (.cells #[.int .i64 t.k, .int .i64 t.n, .string t.s, .slice A t.l.length c, .slice A' t.m.length c'] 82)) w.heap.size t A c A' c' := by
  constructor <;> (rw [World.cell?_alloc_at _ _ _ _ rfl]; rfl)
theorem Box.below {w w' : World} {B g : Nat} {t : V} {A A' : Option Addr} {c c' : Nat} (h : Box w g t A c A' c') (hb : Below B w w') (hg : g < B) : Box w' g t A c A' c' :=
  ⟨(hb.cell hg).trans h.c0, (hb.cell hg).trans h.c1, (hb.cell hg).trans h.c2, (hb.cell hg).trans h.c3, (hb.cell hg).trans h.c4⟩
theorem size_alloc (w : World) (o : Obj) : (w.alloc o).heap.size = w.heap.size + 1 := by simp
theorem cell_below {w w' : World} {B : Nat} {a : Addr} {v : Value} (hb : Below B w w') (h : w.cell? a = some v) (hB : a.block < B) : w'.cell? a = some v := (hb.cell hB).trans h

/-- value.cmpAt, r levels above the last one. -/
def CmpAt (r : Nat) : Prop :=
  ∀ (w : World) (da db : Nat) (a b : V) (A : Option Addr) (c : Nat) (A' : Option Addr) (c' : Nat) (D : Option Addr) (e : Nat) (D' : Option Addr) (e' : Nat) (lev : Int), lev = 13 - r → r ≤ 12 →
    Rd w 0 w.heap.size da a A c A' c' → Rd w 0 w.heap.size db b D e D' e' →
    Calls Try.prog 105 #[vl a A c A' c', vl b D e D' e', .int .i64 lev] w fun x w' => x = .returned (.int .i64 (cmpV r a b)) ∧ Below w.heap.size w w'

/-- What lies in memory behind the three boxes. -/
theorem boxes3 (w : World) (a b : V) (A : Option Addr) (c : Nat) (A' : Option Addr) (c' : Nat) (D : Option Addr) (e : Nat) (D' : Option Addr) (e' : Nat) (lev : Int) (W : World)
    (hW : ((w.alloc (.cells #[.int .i64 a.k, .int .i64 a.n, .string a.s, .slice A a.l.length c, .slice A' a.m.length c'] 82)).alloc (.cells #[.int .i64 b.k, .int .i64 b.n, .string b.s, .slice D b.l.length e, .slice D' b.m.length e'] 82)).alloc (.cells #[.int .i64 lev] 3) = W) :
    Box W w.heap.size a A c A' c' ∧ Box W (w.heap.size + 1) b D e D' e' ∧ W.cell? ⟨w.heap.size + 1 + 1, 0, none⟩ = some (.int .i64 lev) ∧ W.heap.size = w.heap.size + 1 + 1 + 1 ∧ Below w.heap.size w W := by
  subst hW
  refine ⟨((Box.new w a A c A' c').below (below_new2 _ _ _) (by simp)), ?_, ?_, by simp, below_new3 _ _ _ _⟩
  · have := (Box.new (w.alloc (.cells #[.int .i64 a.k, .int .i64 a.n, .string a.s, .slice A a.l.length c, .slice A' a.m.length c'] 82)) b D e D' e').below (below_new _ (.cells #[.int .i64 lev] 3)) (by simp)
    rw [size_alloc] at this
    exact this
  · rw [World.cell?_alloc_at _ _ _ _ (by simp)]; rfl

theorem or_cmp (a b : V) (g : Nat) (w : World) (c0 : w.cell? ⟨g, 0, none⟩ = some (.int .i64 (cmpI a.k b.k))) (c1 : w.cell? ⟨g, 1, none⟩ = some (.int .i64 (cmpI a.n b.n))) (c2 : w.cell? ⟨g, 2, none⟩ = some (.int .i64 (cmpS a.s b.s))) :
    Calls Try.prog 106 #[.slice (some ⟨g, 0, none⟩) 3 3] w fun e w' => e = .returned (.int .i64 (cmpF a b)) ∧ w = w' := or_any _ _ _ g w c0 c1 c2

theorem cmpV_ne (r : Nat) (a b : V) (h : (cmpF a b != 0) = true) : cmpV r a b = cmpF a b := by
  cases r with
  | zero => rfl
  | succ r => exact orI_ne h
theorem cmpV_l (r : Nat) (a b : V) (h : (cmpF a b != 0) = false) (h1 : (rowC (cmpV r) a.l b.l != 0) = true) : cmpV (r + 1) a b = rowC (cmpV r) a.l b.l := by
  show orI _ _ = _
  rw [orI_eq h, orI_ne h1]
theorem cmpV_m (r : Nat) (a b : V) (h : (cmpF a b != 0) = false) (h1 : (rowC (cmpV r) a.l b.l != 0) = false) : cmpV (r + 1) a b = rowC (cmpV r) a.m b.m := by
  show orI _ _ = _
  rw [orI_eq h, orI_eq h1]

set_option maxHeartbeats 1600000 in
theorem cmpAt_zero : CmpAt 0 := by
  intro w da db a b A c A' c' D e D' e' lev hlev _ ra rb
  have hl : 12 < lev := by omega
  clear hlev ra rb
  unfold vl
  go_enter Try.func105, Try.ntmps105
  go_wp2_with fail
  generalize hW : World.alloc (World.alloc (World.alloc _ _) _) _ = W
  obtain ⟨⟨a0, a1, a2, a3, a4⟩, ⟨b0, b1, b2, b3, b4⟩, l0, hz, hb⟩ := boxes3 _ _ _ _ _ _ _ _ _ _ _ _ _ hW
  have HZ := Lib.hid hz
  have HB := Lib.hid hb
  clear hz hb hW
  refine wp_region_still_tail 15 (by kernel_rfl) (by kernel_rfl) ?_
  simp only [List.take_succ_cons, List.take_zero, List.drop_succ_cons, List.drop_zero]
  change wpStill _ _ W.drew _ _ _
  repeat (first | still_step | still_call (compareI' _ _ _) | still_call (compareS' _ _ _))
  refine wpStill_nil ?_
  change wpList _ _ _ _ _ W.drew
  go_wp2_with fail
  refine (or_cmp a b _ _ (by simp) (by simp) (by simp)).mono ?_
  rintro x w1 ⟨rfl, rfl⟩
  have l1 : (W.alloc (Obj.cells #[.int .i64 (cmpI a.k b.k), .int .i64 (cmpI a.n b.n), .int .i64 (cmpS a.s b.s)] 3)).cell? ⟨w.heap.size + 1 + 1, 0, none⟩ = some (.int .i64 lev) := cell_below (below_new _ _) l0 (by rw [HZ.out]; simp)
  cases hne : (cmpF a b != 0)
  · go_wp2
    go_ret
    exact ⟨by rfl, bnext HB.out (below_new _ _).drew⟩
  · go_wp2
    go_ret
    exact ⟨by rfl, bnext HB.out (below_new _ _).drew⟩

set_option maxHeartbeats 1600000 in
theorem closure_cmp (r : Nat) (ih : CmpAt r) (hr : r ≤ 11) (g : Nat) (w : World) (lev : Int) (hlev : lev = 12 - r) (hg : g < w.heap.size) (hc : w.cell? ⟨g, 0, none⟩ = some (.int .i64 lev)) : Cmps (.pointer (some ⟨g, 0, none⟩)) w (cmpV r) := by
  intro W da db a b A c A' c' D e D' e' hb ra rb
  have hl0 : 0 ≤ lev := by omega
  have hl1 : lev ≤ 12 := by omega
  have HL := Lib.hid hlev
  have RA := Lib.hid (ra.next (below_new2 W (.cells #[.int .i64 a.k, .int .i64 a.n, .string a.s, .slice A a.l.length c, .slice A' a.m.length c'] 82) (.cells #[.int .i64 b.k, .int .i64 b.n, .string b.s, .slice D b.l.length e, .slice D' b.m.length e'] 82)))
  have RB := Lib.hid (rb.next (below_new2 W (.cells #[.int .i64 a.k, .int .i64 a.n, .string a.s, .slice A a.l.length c, .slice A' a.m.length c'] 82) (.cells #[.int .i64 b.k, .int .i64 b.n, .string b.s, .slice D b.l.length e, .slice D' b.m.length e'] 82)))
  have l1 := cell_below (below_new2 W (.cells #[.int .i64 a.k, .int .i64 a.n, .string a.s, .slice A a.l.length c, .slice A' a.m.length c'] 82) (.cells #[.int .i64 b.k, .int .i64 b.n, .string b.s, .slice D b.l.length e, .slice D' b.m.length e'] 82)) (cell_below hb hc hg) (Nat.lt_of_lt_of_le hg hb.size)
  have IH := Lib.hid ih
  clear ih hlev ra rb hc hb
  unfold vl
  go_enter Try.func108, Try.ntmps108
  go_wp2_with fail
  refine (IH.out _ da db a b _ _ _ _ _ _ _ _ (lev + 1) (by have := HL.out; omega) (by omega) RA.out RB.out).mono ?_
  rintro x w1 ⟨rfl, hb1⟩
  have HB := Lib.hid (bnext (below_new2 _ _ _) hb1)
  clear hb1
  go_wp2
  go_ret
  exact ⟨by rfl, HB.out⟩

set_option maxHeartbeats 3200000 in
theorem cmpAt_succ (r : Nat) (ih : CmpAt r) : CmpAt (r + 1) := by
  intro w da db a b A c A' c' D e D' e' lev hlev hr ra rb
  have hl : lev ≤ 12 := by omega
  have HL := Lib.hid (show lev = 12 - r by omega)
  obtain ⟨da', rfl⟩ := ra.pos
  obtain ⟨db', rfl⟩ := rb.pos
  have RL := Lib.hid ra.2.1
  have RM := Lib.hid ra.2.2
  have QL := Lib.hid rb.2.1
  have QM := Lib.hid rb.2.2
  have IH := Lib.hid ih
  clear hlev ra rb ih
  unfold vl
  go_enter Try.func105, Try.ntmps105
  go_wp2_with fail
  generalize hW : World.alloc (World.alloc (World.alloc _ _) _) _ = W
  obtain ⟨⟨a0, a1, a2, a3, a4⟩, ⟨b0, b1, b2, b3, b4⟩, l0, hz, hb⟩ := boxes3 _ _ _ _ _ _ _ _ _ _ _ _ _ hW
  have HZ := Lib.hid hz
  have HB := Lib.hid hb
  clear hz hb hW
  refine wp_region_still_tail 15 (by kernel_rfl) (by kernel_rfl) ?_
  simp only [List.take_succ_cons, List.take_zero, List.drop_succ_cons, List.drop_zero]
  change wpStill _ _ W.drew _ _ _
  repeat (first | still_step | still_call (compareI' _ _ _) | still_call (compareS' _ _ _))
  refine wpStill_nil ?_
  change wpList _ _ _ _ _ W.drew
  go_wp2_with fail
  refine (or_cmp a b _ _ (by simp) (by simp) (by simp)).mono ?_
  rintro x w1 ⟨rfl, rfl⟩
  generalize hX : World.drew (World.alloc W _) = X
  have hwx : Below W.heap.size W X := by rw [← hX]; exact (below_new _ _).drew
  have hzz : w.heap.size + 1 + 1 < W.heap.size := by rw [HZ.out]; omega
  have x3 := cell_below hwx a3 (by simp; omega)
  have x4 := cell_below hwx a4 (by simp; omega)
  have y3 := cell_below hwx b3 (by simp; omega)
  have y4 := cell_below hwx b4 (by simp; omega)
  have l1 := cell_below hwx l0 (by simp; omega)
  have BX := Lib.hid (bnext HB.out hwx)
  have CL := Lib.hid (closure_cmp r IH.out (by omega) (w.heap.size + 1 + 1) X lev HL.out (Nat.lt_of_lt_of_le hzz hwx.size) l1)
  have hzx : w.heap.size + 1 + 1 < X.heap.size := Nat.lt_of_lt_of_le hzz hwx.size
  clear hwx hX a0 a1 a2 a3 a4 b0 b1 b2 b3 b4 l0
  cases hne : (cmpF a b != 0)
  · go_wp2_with fail
    refine (compareFunc (cmpV r) _ X CL.out da' db' A c a.l D e b.l (RL.out.next BX.out) (QL.out.next BX.out)).mono ?_
    rintro x w2 ⟨rfl, hb2⟩
    have z4 := cell_below hb2 x4 (by simp; omega)
    have u4 := cell_below hb2 y4 (by simp; omega)
    have l2 := cell_below hb2 l1 (by simp; omega)
    have B2 := Lib.hid (bnext BX.out hb2)
    have CL2 := Lib.hid (closure_cmp r IH.out (by omega) (w.heap.size + 1 + 1) w2 lev HL.out (Nat.lt_of_lt_of_le hzx hb2.size) l2)
    clear hb2
    cases hne1 : (rowC (cmpV r) a.l b.l != 0)
    · have FIN := Lib.hid (cmpV_m r a b hne hne1)
      go_wp2_with fail
      refine (compareFunc (cmpV r) _ w2 CL2.out da' db' A' c' a.m D' e' b.m (RM.out.next B2.out) (QM.out.next B2.out)).mono ?_
      rintro x w3 ⟨rfl, hb3⟩
      have B3 := Lib.hid (bnext B2.out hb3)
      clear hb3
      go_wp2
      go_ret
      exact ⟨by rw [FIN.out]; rfl, B3.out⟩
    · have FIN := Lib.hid (cmpV_l r a b hne hne1)
      go_wp2_with fail
      go_ret
      exact ⟨by rw [FIN.out]; rfl, B2.out⟩
  · have FIN := Lib.hid (cmpV_ne (r + 1) a b hne)
    go_wp2_with fail
    go_ret
    exact ⟨by rw [FIN.out]; rfl, BX.out⟩

theorem cmpAt_any : ∀ r, CmpAt r
  | 0 => cmpAt_zero
  | r + 1 => cmpAt_succ r (cmpAt_any r)

set_option maxHeartbeats 800000 in
theorem cmp_any (w : World) (da db : Nat) (a b : V) (A : Option Addr) (c : Nat) (A' : Option Addr) (c' : Nat) (D : Option Addr) (e : Nat) (D' : Option Addr) (e' : Nat)
    (ra : Rd w 0 w.heap.size da a A c A' c') (rb : Rd w 0 w.heap.size db b D e D' e') :
    Calls Try.prog 104 #[vl a A c A' c', vl b D e D' e'] w fun x w' => x = .returned (.int .i64 (cmpV 12 a b)) ∧ Below w.heap.size w w' := by
  have RA := Lib.hid (ra.next (below_new2 w (.cells #[.int .i64 a.k, .int .i64 a.n, .string a.s, .slice A a.l.length c, .slice A' a.m.length c'] 82) (.cells #[.int .i64 b.k, .int .i64 b.n, .string b.s, .slice D b.l.length e, .slice D' b.m.length e'] 82)))
  have RB := Lib.hid (rb.next (below_new2 w (.cells #[.int .i64 a.k, .int .i64 a.n, .string a.s, .slice A a.l.length c, .slice A' a.m.length c'] 82) (.cells #[.int .i64 b.k, .int .i64 b.n, .string b.s, .slice D b.l.length e, .slice D' b.m.length e'] 82)))
  clear ra rb
  unfold vl
  go_enter Try.func104, Try.ntmps104
  go_wp2_with fail
  refine (cmpAt_any 12 _ da db a b _ _ _ _ _ _ _ _ 1 (by omega) (by omega) RA.out RB.out).mono ?_
  rintro x w1 ⟨rfl, hb1⟩
  have HB := Lib.hid (bnext (below_new2 _ _ _) hb1)
  clear hb1
  go_wp2
  go_ret
  exact ⟨by rfl, HB.out⟩

end Go.Proofs.Ytebkkjfeikpfgaa


/- Carried over from an earlier seat. -/
namespace Go.Proofs.Ytebkkjfeikpfgaa
set_option maxRecDepth 100000
set_option maxRecDepth 100000
open Go.RowKit Go.Sort

/-- Where the first is of which p holds, or -1. -/
def idxP (p : V → Bool) : List V → Nat → Int
  | [], _ => -1
  | x :: r, k => if p x then k else idxP p r (k + 1)
theorem idxP_yes (p : V → Bool) (l : List V) (k : Nat) {x : V} (hx : l[k]? = some x) (h : p x = true) : idxP p (l.drop k) k = k := by
  obtain ⟨h1, e1⟩ := List.getElem?_eq_some_iff.1 hx
  rw [List.drop_eq_getElem_cons h1, e1]; simp [idxP, h]
theorem idxP_no (p : V → Bool) (l : List V) (k : Nat) {x : V} (hx : l[k]? = some x) (h : p x = false) : idxP p (l.drop k) k = idxP p (l.drop (k + 1)) (k + 1) := by
  obtain ⟨h1, e1⟩ := List.getElem?_eq_some_iff.1 hx
  rw [List.drop_eq_getElem_cons h1, e1]; simp [idxP, h]
theorem idxP_out (p : V → Bool) (l : List V) (k j : Nat) (h : l.length ≤ k) : idxP p (l.drop k) j = -1 := by rw [List.drop_eq_nil_of_le h]; rfl
theorem idxP_range (p : V → Bool) : ∀ (l : List V) (k : Nat), idxP p l k = -1 ∧ l.any p = false ∨ ((k : Int) ≤ idxP p l k ∧ idxP p l k < (k : Int) + l.length ∧ l.any p = true)
  | [], _ => .inl ⟨rfl, rfl⟩
  | x :: r, k => by
    by_cases h : p x = true
    · right; simp [idxP, h]; omega
    · have h' : p x = false := by simpa using h
      rcases idxP_range p r (k + 1) with ⟨e, a⟩ | ⟨e1, e2, a⟩
      · left; simp [idxP, h', e, a]
      · right; simp only [idxP, h', List.any_cons, a, List.length_cons]; simp; omega

/-- A closure that asks p of a value, in every world in which all that lay in w lies unturned. -/
def Preds (F : Nat) (cap : Value) (w : World) (p : V → Bool) : Prop :=
  ∀ (W : World) (d : Nat) (a : V) (A : Option Addr) (c : Nat) (A' : Option Addr) (c' : Nat), Below w.heap.size w W → Rd W 0 W.heap.size d a A c A' c' →
    Calls Try.prog F #[vl a A c A' c', cap] W fun x w' => x = .returned (.bool (p a)) ∧ Below W.heap.size W w'

set_option maxHeartbeats 1600000 in
theorem indexFunc55 (p : V → Bool) (g : Nat) (w : World) (hcl : Preds 102 (.pointer (some ⟨g, 0, none⟩)) w p) (d : Nat) (A : Option Addr) (c : Nat) (l : List V) (h : Rw w 0 w.heap.size d A c l) :
    Calls Try.prog 100 #[.slice A l.length c, .func (.func 102) #[] #[.pointer (some ⟨g, 0, none⟩)]] w fun e w' => e = .returned (.int .i64 (idxP p l 0)) ∧ Below w.heap.size w w' := by
  have HC := Lib.hid hcl
  have H1 := Lib.hid h
  have b1 := h.big
  clear hcl h
  go_enter Try.func100, Try.ntmps100
  go_wp2
  go_loopw [8] (fun i wr => ∃ k : Nat, k ≤ l.length ∧ i = .int .i64 k ∧ Hid (Below w.heap.size w wr) ∧ Hid (idxP p (l.drop k) k = idxP p l 0)) (fun i _ => l.length - (intOf i).toNat)
  case atStart => exact ⟨0, by omega, rfl, Lib.hid (Below.refl _ _), Lib.hid (by simp)⟩
  case round =>
    obtain ⟨k, hk, rfl, hbel, hr⟩ := hrel
    by_cases hlt : k < l.length
    · obtain ⟨b, off, x, A1, c1, A2, c2, rfl, _, hb, hx, q, rx⟩ := (H1.out.next hbel.out).elem hlt
      obtain ⟨q0, q1, q2, q3, q4⟩ := q
      have RX := Lib.hid rx
      have Y := Lib.hid (idxP_yes p l k hx)
      have N := Lib.hid (idxP_no p l k hx)
      clear rx hx
      go_wp2_with fail
      refine (HC.out _ _ x _ _ _ _ hbel.out RX.out).mono ?_
      rintro e w1 ⟨rfl, hb1⟩
      have HB := Lib.hid (bnext hbel.out hb1)
      clear hb1
      cases hp : p x
      · go_wp2
        go_roundw
        case rel => exact ⟨k + 1, by omega, by go_num, HB, Lib.hid (by rw [← hr.out, N.out hp])⟩
        case measure => simp [intOf]; omega
      · go_wp2
        go_ret
        exact ⟨by rw [← hr.out, Y.out hp]; rfl, HB.out⟩
    · have OUT := Lib.hid (idxP_out p l k k (by omega))
      go_wp2
      go_ret
      exact ⟨by rw [← hr.out, OUT.out]; rfl, hbel.out⟩

set_option maxHeartbeats 800000 in
theorem containsFunc55 (p : V → Bool) (g : Nat) (w : World) (hcl : Preds 102 (.pointer (some ⟨g, 0, none⟩)) w p) (d : Nat) (A : Option Addr) (c : Nat) (l : List V) (h : Rw w 0 w.heap.size d A c l) :
    Calls Try.prog 98 #[.slice A l.length c, .func (.func 102) #[] #[.pointer (some ⟨g, 0, none⟩)]] w fun e w' => e = .returned (.bool (l.any p)) ∧ Below w.heap.size w w' := by
  have CT := Lib.hid (indexFunc55 p g w hcl d A c l h)
  have R := Lib.hid (idxP_range p l 0)
  clear hcl h
  go_enter Try.func98, Try.ntmps98
  go_wp2_with fail
  refine CT.out.mono ?_
  rintro e w1 ⟨rfl, hb1⟩
  have HB := Lib.hid hb1
  clear hb1
  go_wp2
  go_ret
  refine ⟨?_, HB.out⟩
  show Ending.returned (.bool (decide (0 ≤ idxP p l 0))) = _
  rcases R.out with ⟨e, a⟩ | ⟨e1, e2, a⟩
  · rw [a, e]; rfl
  · rw [a, decide_eq_true (by omega)]

theorem cmp_regrown {w : World} {da db : Nat} {a b : V} {A : Option Addr} {c : Nat} {A' : Option Addr} {c' : Nat} {D : Option Addr} {e : Nat} {D' : Option Addr} {e' : Nat}
    (ra : Rd w 0 w.heap.size da a A c A' c') (rb : Rd w 0 w.heap.size db b D e D' e') (d : Nat) (os : Array Obj) :
    Calls Try.prog 104 #[vl a A c A' c', vl b D e D' e'] (grow (redrawn w d) os) fun x w'' => x = .returned (.int .i64 (cmpV 12 a b)) ∧ ∃ p : Regrown, w'' = grow (redrawn w p.d) p.os :=
  Calls.regrown_of (cmp_any _ da db a b _ _ _ _ _ _ _ _ (ra.next (below_regrown w d os)) (rb.next (below_regrown w d os)))

/-- Each stands ahead of the next one. -/
def risesV : List V → Bool
  | x :: y :: r => decide (cmpV 12 x y < 0) && risesV (y :: r)
  | _ => true
theorem rises_next (l : List V) (k : Nat) {x y : V} (hx : l[k]? = some x) (hy : l[k + 1]? = some y) : risesV (l.drop k) = (decide (cmpV 12 x y < 0) && risesV (l.drop (k + 1))) := by
  obtain ⟨h1, e1⟩ := List.getElem?_eq_some_iff.1 hx
  obtain ⟨h2, e2⟩ := List.getElem?_eq_some_iff.1 hy
  rw [List.drop_eq_getElem_cons h1, e1, List.drop_eq_getElem_cons h2, e2]; rfl
theorem rises_out (l : List V) (k : Nat) (h : l.length ≤ k + 1) : risesV (l.drop k) = true := by
  have : (l.drop k).length ≤ 1 := by rw [List.length_drop]; omega
  match l.drop k, this with
  | [], _ => rfl
  | [_], _ => rfl

set_option maxHeartbeats 1600000 in
theorem rises_any (w : World) (d : Nat) (A : Option Addr) (c : Nat) (l : List V) (h : Rw w 0 w.heap.size d A c l) :
    Calls Try.prog 103 #[.slice A l.length c] w fun e w' => e = .returned (.bool (risesV l)) ∧ Below w.heap.size w w' := by
  have H1 := Lib.hid h
  have b1 := h.big
  clear h
  go_enter Try.func103, Try.ntmps103
  go_wp2
  go_loopw [3] (fun i wr => ∃ k : Nat, k ≤ l.length ∧ i = .int .i64 ((k : Int) + 1) ∧ Hid (Below w.heap.size w wr) ∧ Hid (risesV (l.drop k) = risesV l)) (fun i _ => l.length + 1 - (intOf i).toNat)
  case atStart => exact ⟨0, by omega, rfl, Lib.hid (Below.refl _ _), Lib.hid (by simp)⟩
  case round =>
    obtain ⟨k, hk, rfl, hbel, hr⟩ := hrel
    by_cases hlt : k + 1 < l.length
    · obtain ⟨b, off, x, A1, c1, A2, c2, hA, _, hb, hx, q, rx⟩ := (H1.out.next hbel.out).elem (k := k) (by omega)
      obtain ⟨b', off', y, D1, e1, D2, e2, hA', _, hb', hy, p, ry⟩ := (H1.out.next hbel.out).elem hlt
      rw [hA] at hA'
      injection hA' with hA'
      injection hA' with h1 h2
      subst h1; subst h2
      subst hA
      obtain ⟨q0, q1, q2, q3, q4⟩ := q
      obtain ⟨p0, p1, p2, p3, p4⟩ := p
      have cQ := Lib.hid (cmp_regrown rx ry)
      have NX := Lib.hid (rises_next l k hx hy)
      clear rx ry hx hy
      replace q0 := cell_regrown q0
      replace q1 := cell_regrown q1
      replace q2 := cell_regrown q2
      replace q3 := cell_regrown q3
      replace q4 := cell_regrown q4
      replace p0 := cell_regrown p0
      replace p1 := cell_regrown p1
      replace p2 := cell_regrown p2
      replace p3 := cell_regrown p3
      replace p4 := cell_regrown p4
      have i0 : (0 : Int) ≤ (k : Int) := by omega
      have i1 : (k : Int) + 1 < (l.length : Int) := by omega
      have i2 : (k : Int) < (l.length : Int) := by omega
      have i3 : IntKind.i64.wrap (k : Int) = (k : Int) := IntWalk.i64_in _ (by omega)
      have i4 : ((k : Int) + 1).toNat = k + 1 := by omega
      go_wp2_with fail
      refine wp_region_quiet_below (by kernel_rfl) (by kernel_rfl) ?_
      repeat (first | go_big_quiet_step (exact cQ.out _ _) | quiet_step (exact cQ.out _ _))
      refine wpQuiet_nil ?_
      intro _ hw'
      obtain ⟨⟨dq, osq⟩, hw''⟩ := hw'
      subst hw''
      have HB := Lib.hid (bnext hbel.out (below_regrown wr dq osq))
      clear q0 q1 q2 q3 q4 p0 p1 p2 p3 p4 i3 i4
      by_cases hlt0 : cmpV 12 x y < 0
      · have D := Lib.hid (decide_eq_true hlt0)
        go_wp2
        go_roundw
        case rel => exact ⟨k + 1, by omega, by go_num, HB, Lib.hid (by rw [← hr.out, NX.out, D.out]; rfl)⟩
        case measure => simp [intOf]; omega
      · have D := Lib.hid (decide_eq_false hlt0)
        go_wp2
        go_ret
        exact ⟨by rw [← hr.out, NX.out, D.out]; rfl, HB.out⟩
    · have OUT := Lib.hid (rises_out l k (by omega))
      go_wp2
      go_ret
      exact ⟨by rw [← hr.out, OUT.out]; rfl, hbel.out⟩
end Go.Proofs.Ytebkkjfeikpfgaa


/- Carried over from an earlier seat. -/
namespace Go.Proofs.Ytebkkjfeikpfgaa
set_option maxRecDepth 100000
set_option maxRecDepth 100000
open Go.RowKit

def noItems (t : V) : Bool := t.l.length == 0 && t.m.length == 0
def fitsV (t : V) : Bool :=
  if t.k = 1 then (t.n == 0 || t.n == 1) && t.s.toList.isEmpty && noItems t
  else if t.k = 2 then t.s.toList.isEmpty && noItems t
  else if t.k = 3 then t.n == 0 && decide (t.s.size ≤ 1000) && noItems t
  else if t.k = 4 ∨ t.k = 5 then decide (0 ≤ t.n) && t.s.toList.isEmpty && noItems t
  else if t.k = 6 ∨ t.k = 8 then t.n == 0 && t.s.toList.isEmpty && decide (t.l.length ≤ 1000) && t.m.length == 0
  else if t.k = 7 then t.n == 0 && t.s.toList.isEmpty && decide (t.l.length ≤ 1000) && t.m.length == t.l.length
  else false

def FitsPost (t : V) (w : World) (e : Ending) (w' : World) : Prop := e = .returned (.bool (fitsV t)) ∧ Below w.heap.size w w'

set_option maxHeartbeats 4000000 in
set_option maxRecDepth 100000 in
theorem fits_54_1 (w : World) (n : Int) (s : ByteArray) (l m : List V) (A : Option Addr) (c : Nat) (A' : Option Addr) (c' : Nat) :
    Calls Try.prog 101 #[.agg #[.int .i64 1, .int .i64 n, .string s, .slice A l.length c, .slice A' m.length c']] w (FitsPost (.mk 1 n s l m) w) := by
  go_enter Try.func101, Try.ntmps101
  go_wp2
  all_goals
    go_ret
    refine ⟨?_, below_new _ _⟩
    simp_all [fitsV, noItems, V.k, V.n, V.s, V.l, V.m]
    try (rw [Bool.eq_iff_iff]; simp)
    try omega
set_option maxHeartbeats 4000000 in
set_option maxRecDepth 100000 in
theorem fits_54_2 (w : World) (n : Int) (s : ByteArray) (l m : List V) (A : Option Addr) (c : Nat) (A' : Option Addr) (c' : Nat) :
    Calls Try.prog 101 #[.agg #[.int .i64 2, .int .i64 n, .string s, .slice A l.length c, .slice A' m.length c']] w (FitsPost (.mk 2 n s l m) w) := by
  go_enter Try.func101, Try.ntmps101
  go_wp2
  all_goals
    go_ret
    refine ⟨?_, below_new _ _⟩
    simp_all [fitsV, noItems, V.k, V.s, V.l, V.m]
    try (rw [Bool.eq_iff_iff]; simp)
    try omega
set_option maxHeartbeats 4000000 in
set_option maxRecDepth 100000 in
theorem fits_54_3 (w : World) (n : Int) (s : ByteArray) (l m : List V) (A : Option Addr) (c : Nat) (A' : Option Addr) (c' : Nat) :
    Calls Try.prog 101 #[.agg #[.int .i64 3, .int .i64 n, .string s, .slice A l.length c, .slice A' m.length c']] w (FitsPost (.mk 3 n s l m) w) := by
  by_cases hc : s.size ≤ 1000
  · skip
    have d1 : decide (s.size ≤ 1000) = true := decide_eq_true (by omega)
    have d2 : decide ((s.size : Int) ≤ 1000) = true := decide_eq_true (by omega)
    have d3 : ((s.size : Int) ≤ 1000) := by omega
    go_enter Try.func101, Try.ntmps101
    go_wp2
    all_goals
      go_ret
      refine ⟨?_, below_new _ _⟩
      simp_all [fitsV, noItems, V.k, V.n, V.s, V.l, V.m]
      try (rw [Bool.eq_iff_iff]; simp)
      try omega
  · have hF : fitsV (.mk 3 n s l m) = false := by simp [fitsV, V.k, V.n, V.s, hc]
    unfold FitsPost; rw [hF]; clear hF
    have d1 : decide (s.size ≤ 1000) = false := decide_eq_false (by omega)
    have d2 : decide ((s.size : Int) ≤ 1000) = false := decide_eq_false (by omega)
    have d3 : ¬ ((s.size : Int) ≤ 1000) := by omega
    go_enter Try.func101, Try.ntmps101
    go_wp2
    all_goals
      go_ret
      exact ⟨rfl, below_new _ _⟩
set_option maxHeartbeats 4000000 in
set_option maxRecDepth 100000 in
theorem fits_54_4 (w : World) (n : Int) (s : ByteArray) (l m : List V) (A : Option Addr) (c : Nat) (A' : Option Addr) (c' : Nat) :
    Calls Try.prog 101 #[.agg #[.int .i64 4, .int .i64 n, .string s, .slice A l.length c, .slice A' m.length c']] w (FitsPost (.mk 4 n s l m) w) := by
  by_cases hc : 0 ≤ n
  · skip
    have d1 : decide (0 ≤ n) = true := decide_eq_true (by omega)
    go_enter Try.func101, Try.ntmps101
    go_wp2
    all_goals
      go_ret
      refine ⟨?_, below_new _ _⟩
      simp_all [fitsV, noItems, V.k, V.n, V.s, V.l, V.m]
      try (rw [Bool.eq_iff_iff]; simp)
      try omega
  · have hF : fitsV (.mk 4 n s l m) = false := by simp [fitsV, V.k, V.n, V.s, hc]
    unfold FitsPost; rw [hF]; clear hF
    have d1 : decide (0 ≤ n) = false := decide_eq_false (by omega)
    go_enter Try.func101, Try.ntmps101
    go_wp2
    all_goals
      go_ret
      exact ⟨rfl, below_new _ _⟩
set_option maxHeartbeats 4000000 in
set_option maxRecDepth 100000 in
theorem fits_54_5 (w : World) (n : Int) (s : ByteArray) (l m : List V) (A : Option Addr) (c : Nat) (A' : Option Addr) (c' : Nat) :
    Calls Try.prog 101 #[.agg #[.int .i64 5, .int .i64 n, .string s, .slice A l.length c, .slice A' m.length c']] w (FitsPost (.mk 5 n s l m) w) := by
  by_cases hc : 0 ≤ n
  · skip
    have d1 : decide (0 ≤ n) = true := decide_eq_true (by omega)
    go_enter Try.func101, Try.ntmps101
    go_wp2
    all_goals
      go_ret
      refine ⟨?_, below_new _ _⟩
      simp_all [fitsV, noItems, V.k, V.n, V.s, V.l, V.m]
      try (rw [Bool.eq_iff_iff]; simp)
      try omega
  · have hF : fitsV (.mk 5 n s l m) = false := by simp [fitsV, V.k, V.n, V.s, hc]
    unfold FitsPost; rw [hF]; clear hF
    have d1 : decide (0 ≤ n) = false := decide_eq_false (by omega)
    go_enter Try.func101, Try.ntmps101
    go_wp2
    all_goals
      go_ret
      exact ⟨rfl, below_new _ _⟩
set_option maxHeartbeats 4000000 in
set_option maxRecDepth 100000 in
theorem fits_54_6 (w : World) (n : Int) (s : ByteArray) (l m : List V) (A : Option Addr) (c : Nat) (A' : Option Addr) (c' : Nat) :
    Calls Try.prog 101 #[.agg #[.int .i64 6, .int .i64 n, .string s, .slice A l.length c, .slice A' m.length c']] w (FitsPost (.mk 6 n s l m) w) := by
  by_cases hc : l.length ≤ 1000
  · skip
    have d1 : decide (l.length ≤ 1000) = true := decide_eq_true (by omega)
    have d2 : decide ((l.length : Int) ≤ 1000) = true := decide_eq_true (by omega)
    have d3 : ((l.length : Int) ≤ 1000) := by omega
    go_enter Try.func101, Try.ntmps101
    go_wp2
    all_goals
      go_ret
      refine ⟨?_, below_new _ _⟩
      simp_all [fitsV, V.k, V.n, V.s, V.l, V.m]
      try (rw [Bool.eq_iff_iff]; simp)
      try omega
  · have hF : fitsV (.mk 6 n s l m) = false := by simp [fitsV, V.k, V.n, V.s, V.l, V.m, hc]
    unfold FitsPost; rw [hF]; clear hF
    have d4 : ((l.length : Int) == 0) = false := beq_eq_false_iff_ne.2 (by omega)
    have d1 : decide (l.length ≤ 1000) = false := decide_eq_false (by omega)
    have d2 : decide ((l.length : Int) ≤ 1000) = false := decide_eq_false (by omega)
    have d3 : ¬ ((l.length : Int) ≤ 1000) := by omega
    go_enter Try.func101, Try.ntmps101
    go_wp2
    all_goals
      go_ret
      exact ⟨rfl, below_new _ _⟩
set_option maxHeartbeats 4000000 in
set_option maxRecDepth 100000 in
theorem fits_54_7 (w : World) (n : Int) (s : ByteArray) (l m : List V) (A : Option Addr) (c : Nat) (A' : Option Addr) (c' : Nat) :
    Calls Try.prog 101 #[.agg #[.int .i64 7, .int .i64 n, .string s, .slice A l.length c, .slice A' m.length c']] w (FitsPost (.mk 7 n s l m) w) := by
  by_cases hc : l.length ≤ 1000
  · skip
    have d1 : decide (l.length ≤ 1000) = true := decide_eq_true (by omega)
    have d2 : decide ((l.length : Int) ≤ 1000) = true := decide_eq_true (by omega)
    have d3 : ((l.length : Int) ≤ 1000) := by omega
    go_enter Try.func101, Try.ntmps101
    go_wp2
    all_goals
      go_ret
      refine ⟨?_, below_new _ _⟩
      simp_all [fitsV, V.k, V.n, V.s, V.l, V.m]
      try (rw [Bool.eq_iff_iff]; simp)
      try omega
  · have hF : fitsV (.mk 7 n s l m) = false := by simp [fitsV, V.k, V.n, V.s, V.l, V.m, hc]
    unfold FitsPost; rw [hF]; clear hF
    have d4 : ((l.length : Int) == 0) = false := beq_eq_false_iff_ne.2 (by omega)
    have d1 : decide (l.length ≤ 1000) = false := decide_eq_false (by omega)
    have d2 : decide ((l.length : Int) ≤ 1000) = false := decide_eq_false (by omega)
    have d3 : ¬ ((l.length : Int) ≤ 1000) := by omega
    go_enter Try.func101, Try.ntmps101
    go_wp2
    all_goals
      go_ret
      exact ⟨rfl, below_new _ _⟩
set_option maxHeartbeats 4000000 in
set_option maxRecDepth 100000 in
theorem fits_54_8 (w : World) (n : Int) (s : ByteArray) (l m : List V) (A : Option Addr) (c : Nat) (A' : Option Addr) (c' : Nat) :
    Calls Try.prog 101 #[.agg #[.int .i64 8, .int .i64 n, .string s, .slice A l.length c, .slice A' m.length c']] w (FitsPost (.mk 8 n s l m) w) := by
  by_cases hc : l.length ≤ 1000
  · skip
    have d1 : decide (l.length ≤ 1000) = true := decide_eq_true (by omega)
    have d2 : decide ((l.length : Int) ≤ 1000) = true := decide_eq_true (by omega)
    have d3 : ((l.length : Int) ≤ 1000) := by omega
    go_enter Try.func101, Try.ntmps101
    go_wp2
    all_goals
      go_ret
      refine ⟨?_, below_new _ _⟩
      simp_all [fitsV, V.k, V.n, V.s, V.l, V.m]
      try (rw [Bool.eq_iff_iff]; simp)
      try omega
  · have hF : fitsV (.mk 8 n s l m) = false := by simp [fitsV, V.k, V.n, V.s, V.l, V.m, hc]
    unfold FitsPost; rw [hF]; clear hF
    have d4 : ((l.length : Int) == 0) = false := beq_eq_false_iff_ne.2 (by omega)
    have d1 : decide (l.length ≤ 1000) = false := decide_eq_false (by omega)
    have d2 : decide ((l.length : Int) ≤ 1000) = false := decide_eq_false (by omega)
    have d3 : ¬ ((l.length : Int) ≤ 1000) := by omega
    go_enter Try.func101, Try.ntmps101
    go_wp2
    all_goals
      go_ret
      exact ⟨rfl, below_new _ _⟩
set_option maxHeartbeats 4000000 in
set_option maxRecDepth 100000 in
theorem fits_54_no (w : World) (k n : Int) (s : ByteArray) (l m : List V) (A : Option Addr) (c : Nat) (A' : Option Addr) (c' : Nat)
    (h1 : (k == 1) = false) (h2 : (k == 2) = false) (h3 : (k == 3) = false) (h4 : (k == 4) = false) (h5 : (k == 5) = false) (h6 : (k == 6) = false) (h7 : (k == 7) = false) (h8 : (k == 8) = false) :
    Calls Try.prog 101 #[.agg #[.int .i64 k, .int .i64 n, .string s, .slice A l.length c, .slice A' m.length c']] w (FitsPost (.mk k n s l m) w) := by
  have hF : fitsV (.mk k n s l m) = false := by simp_all [fitsV, V.k]
  unfold FitsPost; rw [hF]; clear hF
  go_enter Try.func101, Try.ntmps101
  go_wp2
  all_goals
    go_ret
    exact ⟨rfl, below_new _ _⟩
theorem fits_54 (w : World) (t : V) (A : Option Addr) (c : Nat) (A' : Option Addr) (c' : Nat) : Calls Try.prog 101 #[vl t A c A' c'] w (FitsPost t w) := by
  obtain ⟨k, n, s, l, m⟩ := t
  show Calls Try.prog 101 #[.agg #[.int .i64 k, .int .i64 n, .string s, .slice A l.length c, .slice A' m.length c']] w _
  by_cases h1 : k = 1
  · subst h1; exact fits_54_1 w n s l m A c A' c'
  by_cases h2 : k = 2
  · subst h2; exact fits_54_2 w n s l m A c A' c'
  by_cases h3 : k = 3
  · subst h3; exact fits_54_3 w n s l m A c A' c'
  by_cases h4 : k = 4
  · subst h4; exact fits_54_4 w n s l m A c A' c'
  by_cases h5 : k = 5
  · subst h5; exact fits_54_5 w n s l m A c A' c'
  by_cases h6 : k = 6
  · subst h6; exact fits_54_6 w n s l m A c A' c'
  by_cases h7 : k = 7
  · subst h7; exact fits_54_7 w n s l m A c A' c'
  by_cases h8 : k = 8
  · subst h8; exact fits_54_8 w n s l m A c A' c'
  exact fits_54_no w k n s l m A c A' c' (by simpa using h1) (by simpa using h2) (by simpa using h3) (by simpa using h4) (by simpa using h5) (by simpa using h6) (by simpa using h7) (by simpa using h8)
end Go.Proofs.Ytebkkjfeikpfgaa


/- Carried over from an earlier seat. -/
namespace Go.Proofs.Ytebkkjfeikpfgaa
set_option maxRecDepth 100000
set_option maxRecDepth 100000
open Go.RowKit

/-- The copy of a value, r levels above the last one. -/
def copyV : Nat → V → V
  | 0, t => .mk t.k t.n t.s [] []
  | r + 1, t => .mk t.k t.n t.s (t.l.map (copyV r)) (t.m.map (copyV r))

/-- A block of values that is known whole. -/
def Blk (w : World) (g n : Nat) : Prop := ∃ cs : Array Value, w.heap[g]? = some (.cells cs 82 (0, 0)) ∧ cs.size = n * 5
theorem Blk.lt {w : World} {g n : Nat} (h : Blk w g n) : g < w.heap.size := by
  obtain ⟨cs, h, _⟩ := h
  exact (Array.getElem?_eq_some_iff.1 h).1
theorem Blk.cell {w : World} {g n : Nat} (h : Blk w g n) {i : Nat} (hi : i < n * 5) : ∃ v, w.cell? ⟨g, i, none⟩ = some v := by
  obtain ⟨cs, h, hs⟩ := h
  exact ⟨cs[i], by rw [cell_of_row w g i cs 82 (0, 0) h]; exact Array.getElem?_eq_getElem (by omega)⟩
theorem Blk.frozen {w : World} {g n : Nat} (h : Blk w g n) (i : Nat) : w.frozen? ⟨g, i, none⟩ = false := by
  obtain ⟨cs, h, _⟩ := h
  simp [World.frozen?, h]
theorem Blk.kept {w w' : World} {g n : Nat} (h : Blk w g n) (hk : w'.heap[g]? = w.heap[g]?) : Blk w' g n := by
  obtain ⟨cs, h, hs⟩ := h
  exact ⟨cs, hk.trans h, hs⟩
theorem Blk.below {w w' : World} {B g n : Nat} (h : Blk w g n) (hb : Below B w w') (hg : g < B) : Blk w' g n := h.kept (hb.block g hg)
theorem Blk.set {w : World} {g n : Nat} (h : Blk w g n) (p : Addr) (u : Value) (hp : p.spot = none) : Blk (w.setCell p u) g n := by
  by_cases e : g = p.block
  · obtain ⟨cs, h, hs⟩ := h
    refine ⟨cs.setIfInBounds p.off u, ?_, by simpa using hs⟩
    subst e
    obtain ⟨b, o, s⟩ := p
    obtain rfl : s = none := hp
    simp [World.setCell, Array.getElem?_modify, h]
  · exact h.kept (Below.heap_setCell w p u g e)

/-- A row whose memory is its owner's. -/
def Mine (w : World) (A : Option Addr) (n : Nat) : Prop := 0 < n → ∃ g, A = some ⟨g, 0, none⟩ ∧ Blk w g n
theorem Mine.kept {w w' : World} {lo B : Nat} {A : Option Addr} {n : Nat} (h : Mine w A n) (hA : ∀ g, A = some ⟨g, 0, none⟩ → lo ≤ g ∧ g < B) (hk : Kept lo B w w') : Mine w' A n := fun h0 => by
  obtain ⟨g, e, hb⟩ := h h0
  exact ⟨g, e, hb.kept (hk g (hA g e).1 (hA g e).2)⟩

/-- Five cells written, one behind the other. -/
abbrev put5 (w : World) (g o : Nat) (v0 v1 v2 v3 v4 : Value) : World :=
  ((((w.setCell ⟨g, o, none⟩ v0).setCell ⟨g, o + 1, none⟩ v1).setCell ⟨g, o + 2, none⟩ v2).setCell ⟨g, o + 3, none⟩ v3).setCell ⟨g, o + 4, none⟩ v4
theorem set_heap (w : World) (g o : Nat) (u : Value) (cs : Array Value) (h : w.heap[g]? = some (.cells cs 82 (0, 0))) : (w.setCell ⟨g, o, none⟩ u).heap[g]? = some (.cells (cs.setIfInBounds o u) 82 (0, 0)) := by
  simp [World.setCell, Array.getElem?_modify, h]
theorem put5_heap (w : World) (g o : Nat) (v0 v1 v2 v3 v4 : Value) (cs : Array Value) (h : w.heap[g]? = some (.cells cs 82 (0, 0))) :
    (put5 w g o v0 v1 v2 v3 v4).heap[g]? = some (.cells (((((cs.setIfInBounds o v0).setIfInBounds (o + 1) v1).setIfInBounds (o + 2) v2).setIfInBounds (o + 3) v3).setIfInBounds (o + 4) v4) 82 (0, 0)) :=
  set_heap _ _ _ _ _ (set_heap _ _ _ _ _ (set_heap _ _ _ _ _ (set_heap _ _ _ _ _ (set_heap _ _ _ _ _ h))))
theorem put5_size (w : World) (g o : Nat) (v0 v1 v2 v3 v4 : Value) : (put5 w g o v0 v1 v2 v3 v4).heap.size = w.heap.size := by simp [put5, World.setCell]
theorem put5_far (w : World) (g o : Nat) (v0 v1 v2 v3 v4 : Value) (k : Nat) (hk : k ≠ g) : (put5 w g o v0 v1 v2 v3 v4).heap[k]? = w.heap[k]? := by
  unfold put5
  rw [Below.heap_setCell _ _ _ _ hk, Below.heap_setCell _ _ _ _ hk, Below.heap_setCell _ _ _ _ hk, Below.heap_setCell _ _ _ _ hk, Below.heap_setCell _ _ _ _ hk]
theorem put5_blk {w : World} {g n : Nat} (h : Blk w g n) (o : Nat) (v0 v1 v2 v3 v4 : Value) : Blk (put5 w g o v0 v1 v2 v3 v4) g n :=
  ((((h.set _ _ rfl).set _ _ rfl).set _ _ rfl).set _ _ rfl).set _ _ rfl
theorem put5_at {w : World} {g n : Nat} (h : Blk w g n) (o : Nat) (ho : o + 5 ≤ n * 5) (v0 v1 v2 v3 v4 : Value) :
    (put5 w g o v0 v1 v2 v3 v4).cell? ⟨g, o, none⟩ = some v0 ∧ (put5 w g o v0 v1 v2 v3 v4).cell? ⟨g, o + 1, none⟩ = some v1 ∧ (put5 w g o v0 v1 v2 v3 v4).cell? ⟨g, o + 2, none⟩ = some v2 ∧ (put5 w g o v0 v1 v2 v3 v4).cell? ⟨g, o + 3, none⟩ = some v3 ∧ (put5 w g o v0 v1 v2 v3 v4).cell? ⟨g, o + 4, none⟩ = some v4 := by
  obtain ⟨cs, h, hs⟩ := h
  have hh := put5_heap w g o v0 v1 v2 v3 v4 cs h
  refine ⟨?_, ?_, ?_, ?_, ?_⟩ <;> (rw [cell_of_row _ _ _ _ _ _ hh]; simp [Array.getElem?_setIfInBounds]; omega)
theorem put5_off {w : World} {g n : Nat} (h : Blk w g n) (o j : Nat) (hj : j < o ∨ o + 5 ≤ j) (v0 v1 v2 v3 v4 : Value) : (put5 w g o v0 v1 v2 v3 v4).cell? ⟨g, j, none⟩ = w.cell? ⟨g, j, none⟩ := by
  obtain ⟨cs, h, hs⟩ := h
  rw [cell_of_row _ _ _ _ _ _ (put5_heap w g o v0 v1 v2 v3 v4 cs h), cell_of_row _ _ _ _ _ _ h]
  have e0 : ¬ o = j := by omega
  have e1 : ¬ o + 1 = j := by omega
  have e2 : ¬ o + 2 = j := by omega
  have e3 : ¬ o + 3 = j := by omega
  have e4 : ¬ o + 4 = j := by omega
  simp [e0, e1, e2, e3, e4]

/-- What a maker hands on: a value in new memory. -/
def New (w : World) (d : Nat) (t : V) (e : Ending) (w' : World) : Prop :=
  ∃ A c A' c', e = .returned (vl t A c A' c') ∧ Rd w' w.heap.size w'.heap.size d t A c A' c' ∧ Mine w' A t.l.length ∧ Mine w' A' t.m.length ∧ Below w.heap.size w w'
def NewRow (w : World) (d : Nat) (l : List V) (e : Ending) (w' : World) : Prop :=
  ∃ A c, e = .returned (.slice A l.length c) ∧ Rw w' w.heap.size w'.heap.size d A c l ∧ Mine w' A l.length ∧ Below w.heap.size w w'

theorem info24 : (Try.prog.info? 82).map (fun i => (i.zero, i.size, i.bytes)) = some (some (.agg #[.int .i64 0, .int .i64 0, .string ⟨#[]⟩, .slice none 0 0, .slice none 0 0]), 5, 80) := by kernel_rfl
/-- A row of n values that are nothing. -/
def zrow (n : Nat) : Array Value := madeCells #[.int .i64 0, .int .i64 0, .string ⟨#[]⟩, .slice none 0 0, .slice none 0 0] (n * 5)
theorem make24 (n : Nat) (hn : n ≤ 1759218604441) (W : World) : (Instr.makeSlice 80 (.int .i64 (n : Int)) (.int .i64 (n : Int))).run Try.prog W = .ok (.slice (some ⟨W.heap.size, 0, none⟩) n n) (W.alloc (.cells (zrow n) 82)) := by
  obtain ⟨i0, hi, hz0, hz1, hz2⟩ := info_parts info24
  have := run_make (P := Try.prog) W 80 82 i0 _ Try.underlying80 hi hz0 .i64 .i64 (n : Int) (n : Int) (by omega) (Int.le_refl _) (by rw [hz2]; omega) (by omega)
  rw [this, hz1]; rfl
theorem blk_made (w : World) (n : Nat) : Blk (w.alloc (.cells (zrow n) 82)) w.heap.size n := ⟨zrow n, heap_alloc_new w _, size_madeCells _ _⟩

/-- So far as a row of copies is filled. -/
structure Fill (w : World) (g n d : Nat) (done : List V) : Prop where
  blk : Blk w g n
  el : ∀ j t, done[j]? = some t → ∃ A1 c1 A2 c2, cells5 w g (j * 5) t A1 c1 A2 c2 ∧ Rd w (g + 1) w.heap.size d t A1 c1 A2 c2

theorem Fill.next {w w' : World} {g n d : Nat} {done : List V} (h : Fill w g n d done) (hb : Below w.heap.size w w') : Fill w' g n d done :=
  ⟨h.blk.below hb h.blk.lt, fun j t hj => by
    obtain ⟨A1, c1, A2, c2, q, rd⟩ := h.el j t hj
    exact ⟨A1, c1, A2, c2, q.keep (lo := 0) (Kept.of_below hb (Nat.le_refl _)) (Nat.zero_le _) h.blk.lt, Rd.imp (Kept.of_below hb (Nat.le_refl _)) (Nat.le_refl _) hb.size (Nat.le_refl _) rd⟩⟩
theorem Fill.put {w : World} {g n d : Nat} {done : List V} (h : Fill w g n d done) (k : Nat) (hk : done.length = k) (hn : k < n) {t : V} {A : Option Addr} {c : Nat} {A' : Option Addr} {c' : Nat} (rd : Rd w (g + 1) w.heap.size d t A c A' c') :
    Fill (put5 w g (k * 5) (.int .i64 t.k) (.int .i64 t.n) (.string t.s) (.slice A t.l.length c) (.slice A' t.m.length c')) g n d (done ++ [t]) := by
  have hkept : Kept (g + 1) w.heap.size w (put5 w g (k * 5) (.int .i64 t.k) (.int .i64 t.n) (.string t.s) (.slice A t.l.length c) (.slice A' t.m.length c')) := fun i h1 _ => put5_far _ _ _ _ _ _ _ _ i (by omega)
  refine ⟨put5_blk h.blk _ _ _ _ _ _, fun j u hj => ?_⟩
  rw [put5_size]
  by_cases e : j = k
  · subst e
    rw [List.getElem?_append_right (by omega), hk, Nat.sub_self] at hj
    simp at hj
    subst hj
    obtain ⟨a0, a1, a2, a3, a4⟩ := put5_at h.blk (j * 5) (by omega) (.int .i64 t.k) (.int .i64 t.n) (.string t.s) (.slice A t.l.length c) (.slice A' t.m.length c')
    exact ⟨A, c, A', c', ⟨a0, a1, a2, a3, a4⟩, rd.keep hkept⟩
  · have hjd : j < done.length := by
      rcases Nat.lt_or_ge j (done ++ [t]).length with h1 | h1
      · simp at h1; omega
      · rw [List.getElem?_eq_none h1] at hj; cases hj
    rw [List.getElem?_append_left hjd] at hj
    obtain ⟨A1, c1, A2, c2, q, r1⟩ := h.el j u hj
    have ho := fun i (hi : i < 5) => put5_off h.blk (k * 5) (j * 5 + i) (by omega) (.int .i64 t.k) (.int .i64 t.n) (.string t.s) (.slice A t.l.length c) (.slice A' t.m.length c')
    exact ⟨A1, c1, A2, c2, ⟨(ho 0 (by omega)).trans q.c0, (ho 1 (by omega)).trans q.c1, (ho 2 (by omega)).trans q.c2, (ho 3 (by omega)).trans q.c3, (ho 4 (by omega)).trans q.c4⟩, r1.keep hkept⟩
theorem Fill.row {w : World} {g n d : Nat} {l : List V} (h : Fill w g n d l) (hl : l.length = n) (hn : n ≤ 1759218604441) (lo : Nat) (hlo : lo ≤ g) : Rw w lo w.heap.size d (some ⟨g, 0, none⟩) n l :=
  ⟨by omega, by unfold maxLen; omega, by omega, (fun e => by cases e), fun _ => ⟨g, 0, rfl, hlo, h.blk.lt, fun j t hj => by
    obtain ⟨A1, c1, A2, c2, q, rd⟩ := h.el j t hj
    exact ⟨A1, c1, A2, c2, by rw [Nat.zero_add]; exact q, rd.more (by omega) (Nat.le_refl _) (Nat.le_refl _)⟩⟩⟩
theorem take_map_next {α β : Type} (f : α → β) (l : List α) (k : Nat) {x : α} (hx : l[k]? = some x) : (l.take (k + 1)).map f = (l.take k).map f ++ [f x] := by
  obtain ⟨h1, e1⟩ := List.getElem?_eq_some_iff.1 hx
  rw [List.take_succ_eq_append_getElem h1, e1, List.map_append]; rfl

/-- value.copyAt, r levels above the last one. -/
def CopyAt (r : Nat) : Prop :=
  ∀ (w : World) (da : Nat) (a : V) (A : Option Addr) (c : Nat) (A' : Option Addr) (c' : Nat) (lev : Int), lev = 13 - r → r ≤ 12 → Rd w 0 w.heap.size da a A c A' c' →
    Calls Try.prog 91 #[vl a A c A' c', .int .i64 lev] w (New w (r + 1) (copyV r a))

set_option maxHeartbeats 1600000 in
theorem copyRow_any (r : Nat) (ih : CopyAt r) (hr : r ≤ 12) (w : World) (d : Nat) (A : Option Addr) (c : Nat) (l : List V) (lev : Int) (hlev : lev = 13 - r) (h : Rw w 0 w.heap.size d A c l) :
    Calls Try.prog 96 #[.slice A l.length c, .int .i64 lev] w (NewRow w (r + 1) (l.map (copyV r))) := by
  have IH := Lib.hid ih
  have HL := Lib.hid hlev
  have H := Lib.hid h
  have hbig := h.big
  have hmk := make24 l.length hbig
  clear ih hlev h
  by_cases h0 : l.length = 0
  · have e0 : ((l.length : Int) == 0) = true := by rw [h0]; rfl
    obtain rfl : l = [] := List.eq_nil_of_length_eq_zero h0
    clear hmk
    go_enter Try.func96, Try.ntmps96
    go_wp2
    go_ret
    exact ⟨none, 0, rfl, rw_nil _ _ _ _, fun h => absurd h (by simp), Below.refl _ _⟩
  · have e0 : ((l.length : Int) == 0) = false := beq_eq_false_iff_ne.2 (by omega)
    go_enter Try.func96, Try.ntmps96
    go_wp2
    have hb0 := blk_made w l.length
    generalize hX : World.alloc w _ = X at hb0
    have hBX : Below w.heap.size w X := by rw [← hX]; exact below_new _ _
    have hS : X.heap.size = w.heap.size + 1 := by rw [← hX]; simp
    have F0 := Lib.hid (show Fill X w.heap.size l.length (r + 1) [] from ⟨hb0, fun j t h => by simp at h⟩)
    have BX := Lib.hid hBX
    have SX := Lib.hid hS
    clear hb0 hBX hS hX
    go_loopw [16] (fun i wr => ∃ k : Nat, k ≤ l.length ∧ i = .int .i64 k ∧ Hid (Below w.heap.size w wr) ∧ Hid (w.heap.size + 1 ≤ wr.heap.size) ∧ Hid (Fill wr w.heap.size l.length (r + 1) ((l.take k).map (copyV r)))) (fun i _ => l.length - (intOf i).toNat)
    case atStart => exact ⟨0, by omega, rfl, BX, Lib.hid (by rw [SX.out]; omega), by simpa using F0⟩
    case round =>
      obtain ⟨k, hk, rfl, hbel, hsz, hF⟩ := hrel
      by_cases hlt : k < l.length
      · obtain ⟨b, off, x, A1, c1, A2, c2, rfl, _, hb, hx, q, rx⟩ := (H.out.next hbel.out).elem hlt
        obtain ⟨q0, q1, q2, q3, q4⟩ := q
        have RX := Lib.hid rx
        have HX := Lib.hid hx
        clear rx hx
        go_wp2_with fail
        refine (IH.out _ _ x _ _ _ _ lev HL.out hr (RX.out.next (below_new _ _))).mono ?_
        rintro e w1 ⟨D, e1, D', e2, rfl, rd, _, _, hb1⟩
        have hB1 : Below wr.heap.size wr w1 := bnext (below_new _ _) hb1
        have hbk := (hF.out.blk).below hB1 hF.out.blk.lt
        obtain ⟨v0, f0⟩ := hbk.cell (i := k * 5) (by omega)
        obtain ⟨v1, f1⟩ := hbk.cell (i := k * 5 + 1) (by omega)
        obtain ⟨v2, f2⟩ := hbk.cell (i := k * 5 + 2) (by omega)
        obtain ⟨v3, f3⟩ := hbk.cell (i := k * 5 + 3) (by omega)
        obtain ⟨v4, f4⟩ := hbk.cell (i := k * 5 + 4) (by omega)
        have z0 := hbk.frozen (k * 5)
        have z1 := hbk.frozen (k * 5 + 1)
        have z2 := hbk.frozen (k * 5 + 2)
        have z3 := hbk.frozen (k * 5 + 3)
        have z4 := hbk.frozen (k * 5 + 4)
        have RD := Lib.hid rd
        have HB := Lib.hid hb1
        have HB1 := Lib.hid hB1
        clear rd hb1 hB1 hbk
        go_wp2
        have hgw : w.heap.size < wr.heap.size := by have := hsz.out; omega
        have FP := Lib.hid ((hF.out.next HB1.out).put k (by simp; omega) hlt (RD.out.more (lo' := w.heap.size + 1) (by have := hsz.out; simp; omega) (Nat.le_refl _) (Nat.le_refl _)))
        rw [← take_map_next (copyV r) l k HX.out] at FP
        have BW := Lib.hid (show Below w.heap.size w w1 from hbel.out.trans (HB1.out.mono (by omega)))
        go_roundw
        case rel => exact ⟨k + 1, by omega, by go_num, Lib.hid (((((BW.out.setCell (Nat.le_refl _) _).setCell (Nat.le_refl _) _).setCell (Nat.le_refl _) _).setCell (Nat.le_refl _) _).setCell (Nat.le_refl _) _), Lib.hid (by have := BW.out.size; have := HB1.out.size; rw [put5_size]; omega), FP⟩
        case measure => simp [intOf]; omega
      · obtain rfl : k = l.length := by omega
        rw [List.take_length] at hF
        have L1 := Lib.hid (show (l.map (copyV r)).length = l.length by simp)
        go_wp2
        go_ret
        exact ⟨some ⟨w.heap.size, 0, none⟩, l.length, by rw [L1.out]; rfl, hF.out.row L1.out hbig _ (Nat.le_refl _), fun _ => ⟨_, rfl, by rw [L1.out]; exact hF.out.blk⟩, hbel.out⟩
end Go.Proofs.Ytebkkjfeikpfgaa


/- Carried over from an earlier seat. -/
namespace Go.Proofs.Ytebkkjfeikpfgaa
set_option maxRecDepth 100000
set_option maxRecDepth 100000
open Go.RowKit
attribute [local go_sem ↓] Go.wp_at_zero Go.wp_at_succ

/-- A box of one value that is the call's own. -/
structure Cell (w : World) (g : Nat) (v0 v1 v2 v3 v4 : Value) : Prop where
  c0 : w.cell? ⟨g, 0, none⟩ = some v0
  c1 : w.cell? ⟨g, 1, none⟩ = some v1
  c2 : w.cell? ⟨g, 2, none⟩ = some v2
  c3 : w.cell? ⟨g, 3, none⟩ = some v3
  c4 : w.cell? ⟨g, 4, none⟩ = some v4
  f0 : w.frozen? ⟨g, 0, none⟩ = false
  f1 : w.frozen? ⟨g, 1, none⟩ = false
  f2 : w.frozen? ⟨g, 2, none⟩ = false
  f3 : w.frozen? ⟨g, 3, none⟩ = false
  f4 : w.frozen? ⟨g, 4, none⟩ = false
  blk : Blk w g 1
theorem Cell.new (w : World) (v0 v1 v2 v3 v4 : Value) : Cell (w.alloc (.cells #[v0, v1, v2, v3, v4] 82)) w.heap.size v0 v1 v2 v3 v4 := by
  have hb : (w.alloc (.cells #[v0, v1, v2, v3, v4] 82)).heap[w.heap.size]? = some (.cells #[v0, v1, v2, v3, v4] 82 (0, 0)) := heap_alloc_new w _
  constructor
  all_goals first | exact ⟨_, hb, rfl⟩ | (rw [World.cell?_alloc_at _ _ _ _ rfl]; rfl) | (unfold World.frozen?; rw [hb]; simp)
theorem Cell.kept {w w' : World} {g : Nat} {v0 v1 v2 v3 v4 : Value} (h : Cell w g v0 v1 v2 v3 v4) (hk : w'.heap[g]? = w.heap[g]?) : Cell w' g v0 v1 v2 v3 v4 := by
  have hc := fun (o : Nat) => World.cell?_of_block (w := w) (w' := w') (a := ⟨g, o, none⟩) hk
  have hf := fun (o : Nat) => World.frozen?_of_block (w := w) (w' := w') (a := ⟨g, o, none⟩) hk
  exact ⟨(hc 0).trans h.c0, (hc 1).trans h.c1, (hc 2).trans h.c2, (hc 3).trans h.c3, (hc 4).trans h.c4, (hf 0).trans h.f0, (hf 1).trans h.f1, (hf 2).trans h.f2, (hf 3).trans h.f3, (hf 4).trans h.f4, h.blk.kept hk⟩
theorem Cell.below {w w' : World} {B g : Nat} {v0 v1 v2 v3 v4 : Value} (h : Cell w g v0 v1 v2 v3 v4) (hb : Below B w w') (hg : g < B) : Cell w' g v0 v1 v2 v3 v4 := h.kept (hb.block g hg)

/-- Five cells of a box written. -/
theorem fin5 {w : World} {g : Nat} (h : Blk w g 1) (v0 v1 v2 v3 v4 : Value) : Cell (((((w.setCell ⟨g, 0, none⟩ v0).setCell ⟨g, 1, none⟩ v1).setCell ⟨g, 2, none⟩ v2).setCell ⟨g, 3, none⟩ v3).setCell ⟨g, 4, none⟩ v4) g v0 v1 v2 v3 v4 := by
  obtain ⟨a0, a1, a2, a3, a4⟩ := put5_at h 0 (by omega) v0 v1 v2 v3 v4
  have hb := put5_blk h 0 v0 v1 v2 v3 v4
  exact ⟨a0, a1, a2, a3, a4, hb.frozen 0, hb.frozen 1, hb.frozen 2, hb.frozen 3, hb.frozen 4, hb⟩

/-- Two boxes, one behind the other. -/
theorem cells2 (w : World) (v0 v1 v2 v3 v4 u0 u1 u2 u3 u4 : Value) (W : World) (hW : (w.alloc (.cells #[v0, v1, v2, v3, v4] 82)).alloc (.cells #[u0, u1, u2, u3, u4] 82) = W) :
    Cell W w.heap.size v0 v1 v2 v3 v4 ∧ Cell W (w.heap.size + 1) u0 u1 u2 u3 u4 ∧ W.heap.size = w.heap.size + 1 + 1 ∧ Below w.heap.size w W := by
  subst hW
  refine ⟨(Cell.new w _ _ _ _ _).below (below_new _ _) (by simp), ?_, by simp, below_new2 _ _ _⟩
  have := Cell.new (w.alloc (.cells #[v0, v1, v2, v3, v4] 82)) u0 u1 u2 u3 u4
  rwa [size_alloc] at this

theorem Mine.move {w w' : World} {lo B d : Nat} {A : Option Addr} {c : Nat} {l : List V} (h : Mine w A l.length) (hr : Rw w lo B d A c l) (hk : Kept lo B w w') : Mine w' A l.length := fun h0 => by
  obtain ⟨g, e, hb⟩ := h h0
  obtain ⟨b, off, e', h1, h2, _⟩ := hr.at_ h0
  rw [e] at e'
  injection e' with e'
  injection e' with e1
  subst e1
  exact ⟨g, e, hb.kept (hk g h1 h2)⟩
theorem fld_copy {t : V} (r : Nat) (h : Fld t) : Fld (copyV r t) := by
  cases r <;> exact ⟨h.k0, h.k1, h.n0, h.n1, h.s1⟩

set_option maxHeartbeats 1600000 in
theorem copyAt_zero : CopyAt 0 := by
  intro w da a A c A' c' lev hlev _ ra
  have hl : 12 < lev := by omega
  obtain ⟨da', rfl⟩ := ra.pos
  have RF := Lib.hid ra.1
  clear hlev ra
  unfold vl
  go_enter Try.func91, Try.ntmps91
  go_wp2
  exact bodyPost_ret (v := vl (copyV 0 a) none 0 none 0) (by simp [results, Try.results91, go_sem]; exact ⟨rfl, rfl, rfl, rfl, rfl⟩) rfl ⟨none, 0, none, 0, rfl, ⟨fld_copy 0 RF.out, rw_nil _ _ _ _, rw_nil _ _ _ _⟩, fun h => absurd h (by simp [copyV, V.l]), fun h => absurd h (by simp [copyV, V.m]), below_new2 _ _ _⟩

set_option maxHeartbeats 3200000 in
theorem copyAt_succ (r : Nat) (ih : CopyAt r) : CopyAt (r + 1) := by
  intro w da a A c A' c' lev hlev hr ra
  have hl : lev ≤ 12 := by omega
  have hl0 : 1 ≤ lev := by omega
  have HL := Lib.hid (show lev + 1 = 13 - r by omega)
  obtain ⟨da', rfl⟩ := ra.pos
  have RF := Lib.hid ra.1
  have RL := Lib.hid ra.2.1
  have RM := Lib.hid ra.2.2
  have IH := Lib.hid ih
  clear hlev ra ih
  unfold vl
  go_enter Try.func91, Try.ntmps91
  go_wp2_with fail
  generalize hW : World.alloc (World.alloc _ _) _ = W
  obtain ⟨k1, k2, hz, hb⟩ := cells2 _ _ _ _ _ _ _ _ _ _ _ _ hW
  have K1 := Lib.hid k1
  have K2 := Lib.hid k2
  have HZ := Lib.hid hz
  have HB := Lib.hid hb
  have CL := Lib.hid (fun (X : World) (hX : Below W.heap.size W X) => copyRow_any r IH.out (by omega) X da' A c a.l (lev + 1) HL.out ((RL.out.next HB.out).next hX))
  have CM := Lib.hid (fun (X : World) (hX : Below W.heap.size W X) => copyRow_any r IH.out (by omega) X da' A' c' a.m (lev + 1) HL.out ((RM.out.next HB.out).next hX))
  obtain ⟨a0, a1, a2, a3, a4, f0, f1, f2, f3, f4, _⟩ := k1
  have hzz : w.heap.size + 1 < W.heap.size := by rw [hz]; omega
  clear hz hb hW k2
  have i3 : IntKind.i64.wrap (lev + 1) = lev + 1 := IntWalk.i64_in _ (by omega)
  go_region_with (go_at_call 96; first
    | ((with_reducible refine (CL.out _ ?_).mono ?_); (focus exact (Below.refl _ _).drew); rintro e w1 ⟨D, e1, rfl, rD, mD, hb1⟩; have hb1' : Below W.heap.size W w1 := (Below.refl _ _).drew.trans hb1; obtain ⟨x0, x1, x2, x3, x4, y0, y1, y2, y3, y4, _⟩ := K1.out.below hb1' (by omega); have RD := Lib.hid rD; have MD := Lib.hid mD; have B1 := Lib.hid hb1'; clear rD mD hb1 hb1')
    | ((with_reducible refine (CM.out _ ?_).mono ?_); (focus exact B1.out); rintro e w2 ⟨E, e2, rfl, rE, mE, hb2⟩; have B2 := Lib.hid (bnext B1.out hb2); obtain ⟨x0', x1', x2', x3', x4', y0', y1', y2', y3', y4', _⟩ := K1.out.below B2.out (by omega); have RE := Lib.hid rE; have ME := Lib.hid mE; have B12 := Lib.hid hb2; clear rE mE hb2))
  all_goals
    obtain ⟨s0, s1, s2, s3, s4, p0, p1, p2, p3, p4, hblk⟩ := K2.out.below B2.out hzz
    have HBK := Lib.hid hblk
    clear hblk a0 a1 a2 a3 a4 f0 f1 f2 f3 f4 x0 x1 x2 x3 x4 y0 y1 y2 y3 y4
    go_wp2
    have hsz : W.heap.size ≤ w1.heap.size := B1.out.size
    have hsz2 : w1.heap.size ≤ w2.heap.size := B12.out.size
    have hs0 : w.heap.size ≤ W.heap.size := by omega
    have BF : Below w.heap.size w w2 := HB.out.trans (B2.out.mono hs0)
    generalize hF : World.setCell (World.setCell (World.setCell (World.setCell (World.setCell (World.setCell (World.setCell w2 _ _) _ _) _ _) _ _) _ _) _ _) _ _ = F
    have hc := fin5 ((HBK.out.set ⟨w.heap.size, 3, none⟩ (.slice D a.l.length e1) rfl).set ⟨w.heap.size, 4, none⟩ (.slice E a.m.length e2) rfl) (.int .i64 a.k) (.int .i64 a.n) (.string a.s) (.slice D a.l.length e1) (.slice E a.m.length e2)
    rw [hF] at hc
    have hk : Kept W.heap.size w2.heap.size w2 F := by
      rw [← hF]
      repeat (refine Kept.trans ?_ (Kept.setCell (.inl (by simp; omega)) _))
      exact Kept.refl _ _ _
    have hbf : Below w.heap.size w F := by
      rw [← hF]
      repeat (refine Below.setCell ?_ (by simp) _)
      exact BF
    have hsf : F.heap.size = w2.heap.size := by rw [← hF]; simp [World.setCell]
    clear hF
    obtain ⟨r0, r1, r2, r3, r4, _⟩ := hc
    have hk1 : Kept W.heap.size w1.heap.size w1 F := (Kept.of_below B12.out (Nat.le_refl _)).trans (fun i h1 h2 => hk i h1 (by omega))
    have hk2 : Kept w1.heap.size w2.heap.size w2 F := fun i h1 h2 => hk i (by omega) h2
    have RD' : Rw w1 W.heap.size w1.heap.size (r + 1) D e1 (a.l.map (copyV r)) := RD.out
    have RE' : Rw w2 w1.heap.size w2.heap.size (r + 1) E e2 (a.m.map (copyV r)) := RE.out
    refine bodyPost_ret (v := vl (copyV (r + 1) a) D e1 E e2) (by simp [results, Try.results91, go_sem, r0, r1, r2, r3, r4]; exact ⟨rfl, rfl, rfl, by simp [copyV, V.l], by simp [copyV, V.m]⟩) rfl ⟨D, e1, E, e2, rfl, ⟨fld_copy (r + 1) RF.out, ?_, ?_⟩, ?_, ?_, hbf⟩
    · exact RD'.imp hk1 hs0 (by omega) (fun _ _ _ _ _ h => Rd.imp hk1 hs0 (by omega) (Nat.le_refl _) h)
    · exact RE'.imp hk2 (by omega) (by omega) (fun _ _ _ _ _ h => Rd.imp hk2 (by omega) (by omega) (Nat.le_refl _) h)
    · exact (show Mine F D (a.l.map (copyV r)).length from Mine.move MD.out RD' hk1)
    · exact (show Mine F E (a.m.map (copyV r)).length from Mine.move ME.out RE' hk2)

theorem copyAt_any : ∀ r, CopyAt r
  | 0 => copyAt_zero
  | r + 1 => copyAt_succ r (copyAt_any r)

theorem New.mono {w w0 w' : World} {d : Nat} {t : V} {e : Ending} (h : New w d t e w') (hb : Below w0.heap.size w0 w) : New w0 d t e w' := by
  obtain ⟨A, c, A', c', h1, h2, h3, h4, h5⟩ := h
  exact ⟨A, c, A', c', h1, h2.more hb.size (Nat.le_refl _) (Nat.le_refl _), h3, h4, bnext hb h5⟩

/-- A value of the caller's in a box that the call has made for its result. -/
theorem ret_box {w1 : World} {g : Nat} (h : Blk w1 g 1) (v0 v1 v2 v3 v4 : Value) : ∃ F, F = ((((w1.setCell ⟨g, 0, none⟩ v0).setCell ⟨g, 1, none⟩ v1).setCell ⟨g, 2, none⟩ v2).setCell ⟨g, 3, none⟩ v3).setCell ⟨g, 4, none⟩ v4 ∧ Cell F g v0 v1 v2 v3 v4 ∧ (∀ lo B, g < lo → Kept lo B w1 F) ∧ F.heap.size = w1.heap.size ∧ (∀ B w, B ≤ g → Below B w w1 → Below B w F) := by
  refine ⟨_, rfl, fin5 h _ _ _ _ _, fun lo B hg => ?_, by simp [World.setCell], fun B w hB hb => ?_⟩
  · repeat (refine Kept.trans ?_ (Kept.setCell (.inl hg) _))
    exact Kept.refl _ _ _
  · repeat (refine Below.setCell ?_ hB _)
    exact hb
theorem New.box {w X w1 F : World} {g d : Nat} {t : V} {A : Option Addr} {c : Nat} {A' : Option Addr} {c' : Nat} (hX : Below w.heap.size w X) (hg : w.heap.size ≤ g) (hgX : g < X.heap.size)
    (rd : Rd w1 X.heap.size w1.heap.size d t A c A' c') (m1 : Mine w1 A t.l.length) (m2 : Mine w1 A' t.m.length) (hb : Below X.heap.size X w1)
    (hk : ∀ lo B, g < lo → Kept lo B w1 F) (hs : F.heap.size = w1.heap.size) (hbel : ∀ B w, B ≤ g → Below B w w1 → Below B w F) : New w d t (.returned (vl t A c A' c')) F := by
  obtain ⟨d', rfl⟩ := rd.pos
  have k := hk X.heap.size w1.heap.size hgX
  refine ⟨A, c, A', c', rfl, ?_, Mine.move m1 rd.2.1 k, Mine.move m2 rd.2.2 k, hbel _ _ hg (bnext hX hb)⟩
  rw [hs]
  exact Rd.imp k hX.size (Nat.le_refl _) (Nat.le_refl _) rd

set_option maxHeartbeats 1600000 in
theorem copy_any (w : World) (da : Nat) (a : V) (A : Option Addr) (c : Nat) (A' : Option Addr) (c' : Nat) (ra : Rd w 0 w.heap.size da a A c A' c') :
    Calls Try.prog 83 #[vl a A c A' c'] w (New w 13 (copyV 12 a)) := by
  have RA := Lib.hid ra
  clear ra
  unfold vl
  go_enter Try.func83, Try.ntmps83
  go_wp2_with fail
  generalize hW : World.alloc (World.alloc _ _) _ = W
  obtain ⟨k1, k2, hz, hb⟩ := cells2 _ _ _ _ _ _ _ _ _ _ _ _ hW
  have K2 := Lib.hid k2
  have HZ := Lib.hid hz
  have HB := Lib.hid hb
  have hzz : w.heap.size + 1 < W.heap.size := by rw [hz]; omega
  clear hz hb hW k1 k2
  refine (copyAt_any 12 W da a _ _ _ _ 1 (by omega) (by omega) (RA.out.next HB.out)).mono ?_
  rintro e w1 ⟨D, e1, D', e2, rfl, rd, m1, m2, hb1⟩
  obtain ⟨s0, s1, s2, s3, s4, p0, p1, p2, p3, p4, hblk⟩ := K2.out.below hb1 hzz
  have HR := Lib.hid (ret_box hblk (.int .i64 (copyV 12 a).k) (.int .i64 (copyV 12 a).n) (.string (copyV 12 a).s) (.slice D (copyV 12 a).l.length e1) (.slice D' (copyV 12 a).m.length e2))
  have RD := Lib.hid rd
  have M1 := Lib.hid m1
  have M2 := Lib.hid m2
  have B1 := Lib.hid hb1
  clear rd m1 m2 hb1 hblk
  generalize copyV 12 a = t at *
  go_wp2
  obtain ⟨F, hF, ⟨r0, r1, r2, r3, r4, _⟩, hk, hs, hbel⟩ := HR.out
  rw [← hF]
  clear hF
  exact bodyPost_ret (v := vl t D e1 D' e2) (by simp [results, Try.results83, go_sem, r0, r1, r2, r3, r4]) rfl (New.box HB.out (by omega) hzz RD.out M1.out M2.out B1.out hk hs hbel)

end Go.Proofs.Ytebkkjfeikpfgaa


/- Carried over from an earlier seat. -/
namespace Go.Proofs.Ytebkkjfeikpfgaa
set_option maxRecDepth 100000
set_option maxRecDepth 100000
open Go.RowKit

/-- May it be, r levels above the first one that is too deep? -/
def okV : Nat → V → Bool
  | 0, _ => false
  | r + 1, t => fitsV t && t.l.all (okV r) && t.m.all (okV r) && (t.k != 7 || risesV t.l)

def IsVal (r : Nat) : Prop :=
  ∀ (w : World) (da : Nat) (a : V) (A : Option Addr) (c : Nat) (A' : Option Addr) (c' : Nat) (lev : Int), lev = 13 - r → r ≤ 12 → Rd w 0 w.heap.size da a A c A' c' →
    Calls Try.prog 99 #[vl a A c A' c', .int .i64 lev] w fun e w' => e = .returned (.bool (okV r a)) ∧ Below w.heap.size w w'

/-- A value's box and a number's. -/
theorem boxes2 (w : World) (v0 v1 v2 v3 v4 u : Value) (W : World) (hW : (w.alloc (.cells #[v0, v1, v2, v3, v4] 82)).alloc (.cells #[u] 3) = W) :
    Cell W w.heap.size v0 v1 v2 v3 v4 ∧ W.cell? ⟨w.heap.size + 1, 0, none⟩ = some u ∧ W.heap.size = w.heap.size + 1 + 1 ∧ Below w.heap.size w W := by
  subst hW
  refine ⟨(Cell.new w _ _ _ _ _).below (below_new _ _) (by simp), ?_, by simp, below_new2 _ _ _⟩
  rw [World.cell?_alloc_at _ _ _ _ (by simp)]; rfl

set_option maxHeartbeats 1600000 in
theorem isVal_zero : IsVal 0 := by
  intro w da a A c A' c' lev hlev _ _
  have hl : 12 < lev := by omega
  clear hlev
  unfold vl
  go_enter Try.func99, Try.ntmps99
  go_wp2
  go_ret
  exact ⟨by rfl, below_new2 _ _ _⟩

set_option maxHeartbeats 1600000 in
theorem closure_ok (r : Nat) (ih : IsVal r) (hr : r ≤ 11) (g : Nat) (w : World) (lev : Int) (hlev : lev = 12 - r) (hg : g < w.heap.size) (hc : w.cell? ⟨g, 0, none⟩ = some (.int .i64 lev)) : Preds 102 (.pointer (some ⟨g, 0, none⟩)) w (fun x => !okV r x) := by
  intro W da a A c A' c' hb ra
  have hl0 : 0 ≤ lev := by omega
  have hl1 : lev ≤ 12 := by omega
  have HL := Lib.hid hlev
  have RA := Lib.hid (ra.next (below_new W (.cells #[.int .i64 a.k, .int .i64 a.n, .string a.s, .slice A a.l.length c, .slice A' a.m.length c'] 82)))
  have l1 := cell_below (below_new W (.cells #[.int .i64 a.k, .int .i64 a.n, .string a.s, .slice A a.l.length c, .slice A' a.m.length c'] 82)) (cell_below hb hc hg) (Nat.lt_of_lt_of_le hg hb.size)
  have IH := Lib.hid ih
  clear ih hlev ra hc hb
  unfold vl
  go_enter Try.func102, Try.ntmps102
  go_wp2_with fail
  refine (IH.out _ da a _ _ _ _ (lev + 1) (by have := HL.out; omega) (by omega) RA.out).mono ?_
  rintro x w1 ⟨rfl, hb1⟩
  have HB := Lib.hid (bnext (below_new _ _) hb1)
  clear hb1
  go_wp2
  go_ret
  exact ⟨by rfl, HB.out⟩

theorem any_not (l : List V) (p : V → Bool) : l.any (fun x => !p x) = !l.all p := by rw [List.any_eq_not_all_not]; simp

theorem okV_0 (r : Nat) (t : V) (h : fitsV t = false) : okV (r + 1) t = false := by simp [okV, h]
theorem okV_1 (r : Nat) (t : V) (h : t.l.any (fun x => !okV r x) = true) : okV (r + 1) t = false := by
  rw [any_not] at h
  have : t.l.all (okV r) = false := by simpa using h
  simp [okV, this]
theorem okV_2 (r : Nat) (t : V) (h : t.m.any (fun x => !okV r x) = true) : okV (r + 1) t = false := by
  rw [any_not] at h
  have : t.m.all (okV r) = false := by simpa using h
  simp [okV, this]
theorem okV_3 (r : Nat) (t : V) (h0 : fitsV t = true) (h1 : t.l.any (fun x => !okV r x) = false) (h2 : t.m.any (fun x => !okV r x) = false) : okV (r + 1) t = (t.k != 7 || risesV t.l) := by
  rw [any_not] at h1 h2
  have a : t.l.all (okV r) = true := by simpa using h1
  have b : t.m.all (okV r) = true := by simpa using h2
  simp [okV, a, b, h0]

set_option maxHeartbeats 3200000 in
theorem isVal_succ (r : Nat) (ih : IsVal r) : IsVal (r + 1) := by
  intro w da a A c A' c' lev hlev hr ra
  have hl : lev ≤ 12 := by omega
  have HL := Lib.hid (show lev = 12 - r by omega)
  obtain ⟨da', rfl⟩ := ra.pos
  have RL := Lib.hid ra.2.1
  have RM := Lib.hid ra.2.2
  have IH := Lib.hid ih
  clear hlev ra ih
  unfold vl
  go_enter Try.func99, Try.ntmps99
  go_wp2_with fail
  generalize hW : World.alloc (World.alloc _ _) _ = W
  obtain ⟨k1, l0, hz, hb⟩ := boxes2 _ _ _ _ _ _ _ _ hW
  have K1 := Lib.hid k1
  have L0 := Lib.hid l0
  have HB := Lib.hid hb
  have hzz : w.heap.size + 1 < W.heap.size := by rw [hz]; omega
  clear hz hb hW k1 l0
  refine (fits_54 W a _ _ _ _).mono ?_
  rintro x w1 ⟨rfl, hb1⟩
  obtain ⟨a0, a1, a2, a3, a4, _, _, _, _, _, _⟩ := K1.out.below hb1 (by omega)
  have l1 := cell_below hb1 L0.out (by simp; omega)
  have B1 := Lib.hid (bnext HB.out hb1)
  have hz1 : w.heap.size + 1 < w1.heap.size := Nat.lt_of_lt_of_le hzz hb1.size
  clear hb1
  cases hf : fitsV a
  · have FIN := Lib.hid (okV_0 r a hf)
    go_wp2
    go_ret
    exact ⟨by rw [FIN.out]; rfl, B1.out⟩
  · have CL := Lib.hid (closure_ok r IH.out (by omega) (w.heap.size + 1) w1 lev HL.out hz1 l1)
    go_wp2_with fail
    refine (containsFunc55 _ _ w1 CL.out da' A c a.l (RL.out.next B1.out)).mono ?_
    rintro x w2 ⟨rfl, hb2⟩
    obtain ⟨e0, e1, e2, e3, e4⟩ : Box w2 (w.heap.size) a A c A' c' := (Box.below ⟨a0, a1, a2, a3, a4⟩ hb2 (by omega))
    have l2 := cell_below hb2 l1 (by simp; omega)
    have B2 := Lib.hid (bnext B1.out hb2)
    have hz2 : w.heap.size + 1 < w2.heap.size := Nat.lt_of_lt_of_le hz1 hb2.size
    clear hb2 a0 a1 a2 a3 a4
    cases h1 : a.l.any (fun x => !okV r x)
    · have CL2 := Lib.hid (closure_ok r IH.out (by omega) (w.heap.size + 1) w2 lev HL.out hz2 l2)
      have H1 := Lib.hid h1
      clear h1
      go_wp2_with fail
      refine (containsFunc55 _ _ w2 CL2.out da' A' c' a.m (RM.out.next B2.out)).mono ?_
      rintro x w3 ⟨rfl, hb3⟩
      obtain ⟨g0, g1, g2, g3, g4⟩ : Box w3 (w.heap.size) a A c A' c' := (Box.below ⟨e0, e1, e2, e3, e4⟩ hb3 (by omega))
      have B3 := Lib.hid (bnext B2.out hb3)
      clear hb3 e0 e1 e2 e3 e4 l1 l2
      cases h2 : a.m.any (fun x => !okV r x)
      · have FIN := Lib.hid (okV_3 r a hf H1.out h2)
        clear h2
        cases h7 : (a.k != 7)
        · go_wp2_with fail
          refine (rises_any w3 da' A c a.l (RL.out.next B3.out)).mono ?_
          rintro x w4 ⟨rfl, hb4⟩
          have B4 := Lib.hid (bnext B3.out hb4)
          clear hb4
          go_wp2
          go_ret
          exact ⟨by rw [FIN.out, h7]; rfl, B4.out⟩
        · go_wp2_with fail
          go_ret
          exact ⟨by rw [FIN.out, h7]; rfl, B3.out⟩
      · have FIN := Lib.hid (okV_2 r a h2)
        clear h2
        go_wp2_with fail
        go_ret
        exact ⟨by rw [FIN.out]; rfl, B3.out⟩
    · have FIN := Lib.hid (okV_1 r a h1)
      clear h1
      go_wp2_with fail
      go_ret
      exact ⟨by rw [FIN.out]; rfl, B2.out⟩

theorem isVal_any : ∀ r, IsVal r
  | 0 => isVal_zero
  | r + 1 => isVal_succ r (isVal_any r)

def errI (b : Bool) : Int := if b then 0 else 2
set_option maxHeartbeats 800000 in
theorem check_any (w : World) (da : Nat) (a : V) (A : Option Addr) (c : Nat) (A' : Option Addr) (c' : Nat) (ra : Rd w 0 w.heap.size da a A c A' c') :
    Calls Try.prog 94 #[vl a A c A' c'] w fun e w' => e = .returned (.int .i64 (errI (okV 12 a))) ∧ Below w.heap.size w w' := by
  have RA := Lib.hid (ra.next (below_new w (.cells #[.int .i64 a.k, .int .i64 a.n, .string a.s, .slice A a.l.length c, .slice A' a.m.length c'] 82)))
  clear ra
  unfold vl
  go_enter Try.func94, Try.ntmps94
  go_wp2_with fail
  refine (isVal_any 12 _ da a _ _ _ _ 1 (by omega) (by omega) RA.out).mono ?_
  rintro x w1 ⟨rfl, hb1⟩
  have HB := Lib.hid (bnext (below_new _ _) hb1)
  clear hb1
  cases hq : okV 12 a
  · go_wp2
    go_ret
    exact ⟨by rw [hq]; rfl, HB.out⟩
  · go_wp2
    go_ret
    exact ⟨by rw [hq]; rfl, HB.out⟩
end Go.Proofs.Ytebkkjfeikpfgaa


