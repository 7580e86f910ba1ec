/- Carried over from an earlier seat. -/
import Derived.Test.YtllkimdlmnjoiaaGreatDoorChecked
import GoSem.Op.String
import Derived.WalkKit
import Derived.WalkLawsBesides
import Derived.LoopTactic
import Derived.Lib.Hide
import Derived.Below
import Derived.StillTailTactics
namespace Go.Proofs.YtllkimdlmnjoiaaGreatDoor
set_option maxRecDepth 100000
set_option maxRecDepth 100000
set_option maxRecDepth 100000
set_option maxRecDepth 100000
set_option maxRecDepth 100000

inductive V where
  | mk (k n : Int) (s : ByteArray) (l m : List V)

def V.k : V → Int | .mk k _ _ _ _ => k
def V.n : V → Int | .mk _ n _ _ _ => n
def V.s : V → ByteArray | .mk _ _ s _ _ => s
def V.l : V → List V | .mk _ _ _ l _ => l
def V.m : V → List V | .mk _ _ _ _ m => m
theorem V.eta (t : V) : t = .mk t.k t.n t.s t.l t.m := by cases t; rfl

def orI (x y : Int) : Int := if x = 0 then y else x
def cmpI (a b : Int) : Int := if a < b then -1 else if b < a then 1 else 0
def rowC {α : Type} (f : α → α → Int) : List α → List α → Int
  | [], [] => 0
  | [], _ :: _ => -1
  | _ :: _, [] => 1
  | x :: xs, y :: ys => orI (f x y) (rowC f xs ys)
def cmpU (a b : UInt8) : Int := cmpI a.toNat b.toNat
def cmpS (a b : ByteArray) : Int := rowC cmpU a.toList b.toList
def cmpF (a b : V) : Int := orI (cmpI a.k b.k) (orI (cmpI a.n b.n) (cmpS a.s b.s))
def cmpV : Nat → V → V → Int
  | 0, a, b => cmpF a b
  | r + 1, a, b => orI (cmpF a b) (orI (rowC (cmpV r) a.l b.l) (rowC (cmpV r) a.m b.m))

/-- One order: just one of less, the same, greater; what is no greater than what is no greater is no greater. -/
structure Ord {α : Type} (f : α → α → Int) : Prop where
  anti : ∀ x y, f y x = -f x y
  tri : ∀ x y, f x y = -1 ∨ f x y = 0 ∨ f x y = 1
  trans : ∀ x y z, f x y ≤ 0 → f y z ≤ 0 → f x z ≤ 0

theorem Ord.refl {α : Type} {f : α → α → Int} (h : Ord f) (x : α) : f x x = 0 := by have := h.anti x x; omega
theorem Ord.strict {α : Type} {f : α → α → Int} (h : Ord f) (x y z : α) (a : f x y ≤ 0) (b : f y z ≤ 0) (c : f x z = 0) : f x y = 0 ∧ f y z = 0 := by
  have a1 := h.anti x z
  have a2 := h.anti y z
  have a3 := h.anti x y
  have t1 := h.trans z x y (by omega) a
  have t2 := h.trans y z x b (by omega)
  omega
/-- What is the same stands alike to a third. -/
theorem Ord.same_left {α : Type} {f : α → α → Int} (h : Ord f) (x y z : α) (e : f x y = 0) : f x z = f y z := by
  have a1 := h.anti x y
  have a2 := h.anti x z
  have a3 := h.anti y z
  have t1 := h.trans x y z (by omega)
  have t2 := h.trans y x z (by omega)
  have t3 := h.trans z x y
  have t4 := h.trans z y x
  have q1 := h.tri x z
  have q2 := h.tri y z
  omega
theorem Ord.same_right {α : Type} {f : α → α → Int} (h : Ord f) (x y z : α) (e : f y z = 0) : f x y = f x z := by
  have := h.same_left y z x e
  rw [h.anti y x, h.anti z x]; omega

theorem ord_cmpI : Ord cmpI where
  anti x y := by unfold cmpI; repeat' split <;> omega
  tri x y := by unfold cmpI; repeat' split <;> omega
  trans x y z := by unfold cmpI; repeat' split <;> omega
theorem ord_cmpU : Ord cmpU where
  anti _x _y := ord_cmpI.anti _ _
  tri _x _y := ord_cmpI.tri _ _
  trans _x _y _z := ord_cmpI.trans _ _ _
theorem ord_on {α β : Type} {f : β → β → Int} (g : α → β) (h : Ord f) : Ord (fun x y => f (g x) (g y)) where
  anti _x _y := h.anti _ _
  tri _x _y := h.tri _ _
  trans _x _y _z := h.trans _ _ _
theorem ord_or {α : Type} {f g : α → α → Int} (hf : Ord f) (hg : Ord g) : Ord (fun x y => orI (f x y) (g x y)) where
  anti x y := by
    have a := hf.anti x y
    have b := hg.anti x y
    simp only [orI]; repeat' split <;> omega
  tri x y := by
    have a := hf.tri x y
    have b := hg.tri x y
    simp only [orI]; split <;> omega
  trans x y z := by
    have t := hf.trans x y z
    have s := hf.strict x y z
    have u := hg.trans x y z
    have q := hf.tri x y
    have q2 := hf.tri y z
    have q3 := hf.tri x z
    have e1 := hf.same_left x y z
    have e2 := hf.same_right x y z
    simp only [orI]
    repeat' split
    all_goals omega
theorem ord_row {α : Type} {f : α → α → Int} (hf : Ord f) : Ord (rowC f) where
  anti := by
    intro x
    induction x with
    | nil => intro y; cases y <;> simp [rowC]
    | cons a x ih =>
      intro y
      cases y with
      | nil => simp [rowC]
      | cons b y =>
        have h1 := hf.anti a b
        have h2 := ih y
        simp only [rowC, orI]
        repeat' split <;> omega
  tri := by
    intro x
    induction x with
    | nil => intro y; cases y <;> simp [rowC]
    | cons a x ih =>
      intro y
      cases y with
      | nil => simp [rowC]
      | cons b y =>
        have h1 := hf.tri a b
        have h2 := ih y
        simp only [rowC, orI]
        split <;> omega
  trans := by
    intro x
    induction x with
    | nil => intro y z; cases y <;> cases z <;> simp [rowC]
    | cons a x ih =>
      intro y z
      cases y with
      | nil => simp [rowC]
      | cons b y =>
        cases z with
        | nil => simp [rowC]
        | cons c z =>
          have t := hf.trans a b c
          have s := hf.strict a b c
          have u := ih y z
          have q := hf.tri a b
          have q2 := hf.tri b c
          have q3 := hf.tri a c
          have e1 := hf.same_left a b c
          have e2 := hf.same_right a b c
          simp only [rowC, orI]
          repeat' split
          all_goals omega
theorem ord_cmpS : Ord cmpS := ord_on ByteArray.toList (ord_row ord_cmpU)
theorem ord_cmpF : Ord cmpF := ord_or (ord_on V.k ord_cmpI) (ord_or (ord_on V.n ord_cmpI) (ord_on V.s ord_cmpS))
theorem ord_cmpV : ∀ r, Ord (cmpV r)
  | 0 => ord_cmpF
  | r + 1 => ord_or ord_cmpF (ord_or (ord_on V.l (ord_row (ord_cmpV r))) (ord_on V.m (ord_row (ord_cmpV r))))

/-- The model's order of texts is this one. -/
theorem less_iff : ∀ (x y : List UInt8), Op.bytesLess x y = decide (rowC cmpU x y = -1)
  | [], [] => by simp [Op.bytesLess, rowC]
  | [], _ :: _ => by simp [Op.bytesLess, rowC]
  | _ :: _, [] => by simp [Op.bytesLess, rowC]
  | a :: x, b :: y => by
    have ih := less_iff x y
    simp only [Op.bytesLess, ih, rowC]
    by_cases h1 : a < b
    · have e : cmpU a b = -1 := by unfold cmpU cmpI; rw [if_pos (by have := UInt8.lt_iff_toNat_lt.1 h1; omega)]
      simp [h1, e, orI]
    · by_cases h2 : a = b
      · subst h2
        have e : cmpU a a = 0 := ord_cmpU.refl a
        simp [e, orI]
      · have e : cmpU a b = 1 := by
          unfold cmpU cmpI
          have : ¬ a.toNat < b.toNat := fun h => h1 (UInt8.lt_iff_toNat_lt.2 h)
          have : a.toNat ≠ b.toNat := fun h => h2 (UInt8.toNat_inj.1 h)
          rw [if_neg (by omega), if_pos (by omega)]
        simp [h1, h2, e, orI]
theorem same_iff : ∀ (x y : List UInt8), rowC cmpU x y = 0 ↔ x = y
  | [], [] => by simp [rowC]
  | [], _ :: _ => by simp [rowC]
  | _ :: _, [] => by simp [rowC]
  | a :: x, b :: y => by
    have ih := same_iff x y
    simp only [rowC, orI, List.cons.injEq]
    by_cases h2 : a = b
    · subst h2
      rw [if_pos (ord_cmpU.refl a), ih]; simp
    · have e : cmpU a b ≠ 0 := by
        unfold cmpU cmpI
        have : a.toNat ≠ b.toNat := fun h => h2 (UInt8.toNat_inj.1 h)
        repeat' split <;> omega
      rw [if_neg e]
      exact ⟨fun h => absurd h e, fun h => absurd h.1 h2⟩
end Go.Proofs.YtllkimdlmnjoiaaGreatDoor

namespace Go.Proofs.YtllkimdlmnjoiaaGreatDoor
set_option maxRecDepth 100000
set_option maxRecDepth 100000
set_option maxRecDepth 100000
set_option maxRecDepth 100000
set_option maxRecDepth 100000
open Go.RowKit

/-- A value as it is handed on: its kind, its number, its text, its two rows. -/
abbrev vl (t : V) (A : Option Addr) (c : Nat) (A' : Option Addr) (c' : Nat) : Value :=
  .agg #[.int .i64 t.k, .int .i64 t.n, .string t.s, .slice A t.l.length c, .slice A' t.m.length c']

/-- The five cells of a value. -/
structure cells5 (w : World) (b o : Nat) (t : V) (A : Option Addr) (c : Nat) (A' : Option Addr) (c' : Nat) : Prop where
  c0 : w.cell? ⟨b, o, none⟩ = some (.int .i64 t.k)
  c1 : w.cell? ⟨b, o + 1, none⟩ = some (.int .i64 t.n)
  c2 : w.cell? ⟨b, o + 2, none⟩ = some (.string t.s)
  c3 : w.cell? ⟨b, o + 3, none⟩ = some (.slice A t.l.length c)
  c4 : w.cell? ⟨b, o + 4, none⟩ = some (.slice A' t.m.length c')

/-- A row of values. -/
structure RdRow (w : World) (lo B : Nat) (R : V → Option Addr → Nat → Option Addr → Nat → Prop) (A : Option Addr) (c : Nat) (l : List V) : Prop where
  le : l.length ≤ c
  cap : c ≤ maxLen
  big : l.length ≤ 1759218604441
  nil : A = none → c = 0
  at_ : 0 < l.length → ∃ b off, A = some ⟨b, off, none⟩ ∧ lo ≤ b ∧ b < B ∧ ∀ j t, l[j]? = some t → ∃ A1 c1 A2 c2, cells5 w b (off + j * 5) t A1 c1 A2 c2 ∧ R t A1 c1 A2 c2

/-- The fields of its own are a machine's. -/
structure Fld (t : V) : Prop where
  k0 : -9223372036854775808 ≤ t.k
  k1 : t.k ≤ 9223372036854775807
  n0 : -9223372036854775808 ≤ t.n
  n1 : t.n ≤ 9223372036854775807
  s1 : t.s.size ≤ 140737488355328

/-- A value, at most so deep. -/
def Rd (w : World) (lo B : Nat) : Nat → V → Option Addr → Nat → Option Addr → Nat → Prop
  | 0, _, _, _, _, _ => False
  | d + 1, t, A, c, A', c' => Fld t ∧ RdRow w lo B (Rd w lo B d) A c t.l ∧ RdRow w lo B (Rd w lo B d) A' c' t.m
/-- A row of values, each at most so deep. -/
abbrev Rw (w : World) (lo B d : Nat) (A : Option Addr) (c : Nat) (l : List V) : Prop := RdRow w lo B (Rd w lo B d) A c l

/-- From lo on and below B the two worlds are one. -/
def Kept (lo B : Nat) (w w' : World) : Prop := ∀ k, lo ≤ k → k < B → w'.heap[k]? = w.heap[k]?
theorem Kept.refl (lo B : Nat) (w : World) : Kept lo B w w := fun _ _ _ => rfl
theorem Kept.of_below {lo B B' : Nat} {w w' : World} (h : Below B' w w') (hB : B ≤ B') : Kept lo B w w' := fun k _ hk => h.block k (by omega)
theorem Kept.cell {lo B : Nat} {w w' : World} (h : Kept lo B w w') {p : Addr} (h1 : lo ≤ p.block) (h2 : p.block < B) : w'.cell? p = w.cell? p := World.cell?_of_block (w := w) (h p.block h1 h2)
theorem cells5.keep {w w' : World} {lo B b o : Nat} {t : V} {A A' : Option Addr} {c c' : Nat} (h : cells5 w b o t A c A' c') (hk : Kept lo B w w') (h1 : lo ≤ b) (h2 : b < B) : cells5 w' b o t A c A' c' :=
  ⟨(hk.cell h1 h2).trans h.c0, (hk.cell h1 h2).trans h.c1, (hk.cell h1 h2).trans h.c2, (hk.cell h1 h2).trans h.c3, (hk.cell h1 h2).trans h.c4⟩

theorem RdRow.imp {w w' : World} {lo B lo' B' : Nat} {R R' : V → Option Addr → Nat → Option Addr → Nat → Prop} {A : Option Addr} {c : Nat} {l : List V} (h : RdRow w lo B R A c l)
    (hk : Kept lo B w w') (h1 : lo' ≤ lo) (h2 : B ≤ B') (hR : ∀ t A1 c1 A2 c2, R t A1 c1 A2 c2 → R' t A1 c1 A2 c2) : RdRow w' lo' B' R' A c l :=
  ⟨h.le, h.cap, h.big, h.nil, fun h0 => by
    obtain ⟨b, off, e, b1, b2, hc⟩ := h.at_ h0
    refine ⟨b, off, e, by omega, by omega, fun j t hj => ?_⟩
    obtain ⟨A1, c1, A2, c2, q1, q2⟩ := hc j t hj
    exact ⟨A1, c1, A2, c2, q1.keep hk b1 b2, hR _ _ _ _ _ q2⟩⟩
theorem Rd.imp {w w' : World} {lo B lo' B' : Nat} (hk : Kept lo B w w') (h1 : lo' ≤ lo) (h2 : B ≤ B') : ∀ {d d' : Nat} {t : V} {A A' : Option Addr} {c c' : Nat}, d ≤ d' → Rd w lo B d t A c A' c' → Rd w' lo' B' d' t A c A' c'
  | 0, _, _, _, _, _, _, _, h => h.elim
  | d + 1, 0, _, _, _, _, _, hd, _ => absurd hd (by omega)
  | d + 1, d' + 1, _, _, _, _, _, hd, h => ⟨h.1, h.2.1.imp hk h1 h2 (fun _ _ _ _ _ => Rd.imp hk h1 h2 (by omega)), h.2.2.imp hk h1 h2 (fun _ _ _ _ _ => Rd.imp hk h1 h2 (by omega))⟩
theorem Rd.keep {w w' : World} {lo B d : Nat} {t : V} {A A' : Option Addr} {c c' : Nat} (h : Rd w lo B d t A c A' c') (hk : Kept lo B w w') : Rd w' lo B d t A c A' c' := Rd.imp hk (Nat.le_refl _) (Nat.le_refl _) (Nat.le_refl _) h
theorem RdRow.keep {w w' : World} {lo B d : Nat} {A : Option Addr} {c : Nat} {l : List V} (h : Rw w lo B d A c l) (hk : Kept lo B w w') : Rw w' lo B d A c l := h.imp hk (Nat.le_refl _) (Nat.le_refl _) (fun _ _ _ _ _ h => h.keep hk)
theorem RdRow.below {w w' : World} {lo B B' d : Nat} {A : Option Addr} {c : Nat} {l : List V} (h : Rw w lo B d A c l) (hb : Below B' w w') (hB : B ≤ B') : Rw w' lo B d A c l := h.keep (Kept.of_below hb hB)
theorem Rd.more {w : World} {lo lo' B B' d d' : Nat} {t : V} {A A' : Option Addr} {c c' : Nat} (h : Rd w lo B d t A c A' c') (h1 : lo' ≤ lo) (h2 : B ≤ B') (h3 : d ≤ d') : Rd w lo' B' d' t A c A' c' := Rd.imp (Kept.refl _ _ _) h1 h2 h3 h
theorem RdRow.more {w : World} {lo lo' B B' d d' : Nat} {A : Option Addr} {c : Nat} {l : List V} (h : Rw w lo B d A c l) (h1 : lo' ≤ lo) (h2 : B ≤ B') (h3 : d ≤ d') : Rw w lo' B' d' A c l := h.imp (Kept.refl _ _ _) h1 h2 (fun _ _ _ _ _ h => h.more h1 h2 h3)
theorem Rd.pos {w : World} {lo B d : Nat} {t : V} {A A' : Option Addr} {c c' : Nat} (h : Rd w lo B d t A c A' c') : ∃ e, d = e + 1 := by
  cases d with
  | zero => exact h.elim
  | succ e => exact ⟨e, rfl⟩
theorem rw_nil (w : World) (lo B d : Nat) : Rw w lo B d none 0 [] := ⟨by simp, by unfold maxLen; omega, by simp, fun _ => rfl, fun h => absurd h (by simp)⟩
/-- One element of a row. -/
theorem RdRow.elem {w : World} {lo B : Nat} {R : V → Option Addr → Nat → Option Addr → Nat → Prop} {A : Option Addr} {c : Nat} {l : List V} (h : RdRow w lo B R A c l) {k : Nat} (hk : k < l.length) :
    ∃ b off t A1 c1 A2 c2, A = some ⟨b, off, none⟩ ∧ lo ≤ b ∧ b < B ∧ l[k]? = some t ∧ cells5 w b (off + k * 5) t A1 c1 A2 c2 ∧ R t A1 c1 A2 c2 := by
  obtain ⟨b, off, e, b1, b2, hc⟩ := h.at_ (by omega)
  have hj : l[k]? = some l[k] := List.getElem?_eq_getElem hk
  obtain ⟨A1, c1, A2, c2, q1, q2⟩ := hc k _ hj
  exact ⟨b, off, l[k], A1, c1, A2, c2, e, b1, b2, hj, q1, q2⟩

/-- Below, from one call's world to the next one's. -/
theorem bnext {a b c : World} (h : Below a.heap.size a b) (k : Below b.heap.size b c) : Below a.heap.size a c := h.trans (k.mono h.size)
theorem below_new (w : World) (o : Obj) : Below w.heap.size w (w.alloc o) := (Below.refl _ _).alloc (Nat.le_refl _) o
theorem below_new2 (w : World) (o p : Obj) : Below w.heap.size w ((w.alloc o).alloc p) := bnext (below_new _ _) (below_new _ _)
theorem below_new3 (w : World) (o p q : Obj) : Below w.heap.size w (((w.alloc o).alloc p).alloc q) := bnext (below_new2 _ _ _) (below_new _ _)
end Go.Proofs.YtllkimdlmnjoiaaGreatDoor

namespace Go.Proofs.YtllkimdlmnjoiaaGreatDoor
set_option maxRecDepth 100000
set_option maxRecDepth 100000
set_option maxRecDepth 100000
set_option maxRecDepth 100000
set_option maxRecDepth 100000
open Go.RowKit

set_option maxHeartbeats 400000 in
theorem nanI (a : Int) (w : World) : Calls Tryz.prog 170 #[.int .i64 a] w fun e w' => e = .returned (.bool false) ∧ w = w' := by
  go_enter Tryz.func170, Tryz.ntmps170
  go_wp2
  go_ret
  exact ⟨by simp, rfl⟩
set_option maxHeartbeats 400000 in
theorem nanS (a : ByteArray) (w : World) : Calls Tryz.prog 171 #[.string a] w fun e w' => e = .returned (.bool false) ∧ w = w' := by
  go_enter Tryz.func171, Tryz.ntmps171
  go_wp2
  go_ret
  exact ⟨by simp, rfl⟩
set_option maxHeartbeats 400000 in
theorem compareI (a b : Int) (w : World) : Calls Tryz.prog 166 #[.int .i64 a, .int .i64 b] w fun e w' => e = .returned (.int .i64 (cmpI a b)) ∧ w = w' := by
  have H1 := Lib.hid (show a < b → cmpI a b = -1 from fun h => by unfold cmpI; rw [if_pos h])
  have H2 := Lib.hid (show b < a → cmpI a b = 1 from fun h => by unfold cmpI; rw [if_neg (by omega), if_pos h])
  have H3 := Lib.hid (show ¬ a < b → ¬ b < a → cmpI a b = 0 from fun h h' => by unfold cmpI; rw [if_neg h, if_neg h'])
  by_cases h1 : a < b
  · go_enter Tryz.func166, Tryz.ntmps166
    go_wp2_with (go_at_call 170; refine (nanI _ _).mono ?_; rintro e w' ⟨rfl, rfl⟩)
    go_ret
    exact ⟨by rw [H1.out (by omega)]; rfl, rfl⟩
  · by_cases h2 : b < a
    · go_enter Tryz.func166, Tryz.ntmps166
      go_wp2_with (go_at_call 170; refine (nanI _ _).mono ?_; rintro e w' ⟨rfl, rfl⟩)
      go_ret
      exact ⟨by rw [H2.out (by omega)]; rfl, rfl⟩
    · go_enter Tryz.func166, Tryz.ntmps166
      go_wp2_with (go_at_call 170; refine (nanI _ _).mono ?_; rintro e w' ⟨rfl, rfl⟩)
      go_ret
      exact ⟨by rw [H3.out (by omega) (by omega)]; rfl, rfl⟩
set_option maxHeartbeats 400000 in
theorem signI (a b : Int) (w : World) : Calls Tryz.prog 98 #[.int .i64 a, .int .i64 b] w fun e w' => e = .returned (.int .i64 (cmpI a b)) ∧ w = w' := by
  have H1 := Lib.hid (show a < b → cmpI a b = -1 from fun h => by unfold cmpI; rw [if_pos h])
  have H2 := Lib.hid (show b < a → cmpI a b = 1 from fun h => by unfold cmpI; rw [if_neg (by omega), if_pos h])
  have H3 := Lib.hid (show ¬ a < b → ¬ b < a → cmpI a b = 0 from fun h h' => by unfold cmpI; rw [if_neg h, if_neg h'])
  by_cases h1 : a < b
  · go_enter Tryz.func98, Tryz.ntmps98
    go_wp2
    go_ret
    exact ⟨by rw [H1.out (by omega)]; rfl, rfl⟩
  · by_cases h2 : b < a
    · go_enter Tryz.func98, Tryz.ntmps98
      go_wp2
      go_ret
      exact ⟨by rw [H2.out (by omega)]; rfl, rfl⟩
    · go_enter Tryz.func98, Tryz.ntmps98
      go_wp2
      go_ret
      exact ⟨by rw [H3.out (by omega) (by omega)]; rfl, rfl⟩

theorem cmpS_cases (a b : ByteArray) : (Op.bytesLess a.toList b.toList = true ∧ cmpS a b = -1) ∨ (Op.bytesLess a.toList b.toList = false ∧ (a.toList == b.toList) = true ∧ cmpS a b = 0) ∨ (Op.bytesLess a.toList b.toList = false ∧ (a.toList == b.toList) = false ∧ cmpS a b = 1) := by
  have t := ord_cmpS.tri a b
  have e := same_iff a.toList b.toList
  rw [less_iff]
  unfold cmpS at t ⊢
  rcases t with t | t | t
  · exact .inl ⟨by simp [t], t⟩
  · exact .inr (.inl ⟨by simp [t], beq_iff_eq.2 (e.1 t), t⟩)
  · refine .inr (.inr ⟨by simp [t], beq_eq_false_iff_ne.2 (fun h => ?_), t⟩)
    have := e.2 h; omega
set_option maxHeartbeats 400000 in
theorem compareS (a b : ByteArray) (w : World) : Calls Tryz.prog 167 #[.string a, .string b] w fun e w' => e = .returned (.int .i64 (cmpS a b)) ∧ w = w' := by
  rcases cmpS_cases a b with ⟨h1, h⟩ | ⟨h1, h2, h⟩ | ⟨h1, h2, h⟩
  all_goals
    have H := Lib.hid h
    clear h
    go_enter Tryz.func167, Tryz.ntmps167
    go_wp2_with (go_at_call 171; refine (nanS _ _).mono ?_; rintro e w' ⟨rfl, rfl⟩)
    go_ret
    exact ⟨by rw [H.out]; rfl, rfl⟩

theorem or3 (x y z : Int) : orI x (orI y z) = if x = 0 then (if y = 0 then z else y) else x := rfl

set_option maxHeartbeats 800000 in
/-- cmp.Or of three numbers that lie in a row. -/
theorem or_any (x y z : Int) (b : Nat) (w : World) (c0 : w.cell? ⟨b, 0, none⟩ = some (.int .i64 x)) (c1 : w.cell? ⟨b, 1, none⟩ = some (.int .i64 y)) (c2 : w.cell? ⟨b, 2, none⟩ = some (.int .i64 z)) :
    Calls Tryz.prog 165 #[.slice (some ⟨b, 0, none⟩) 3 3] w fun e w' => e = .returned (.int .i64 (orI x (orI y z))) ∧ w = w' := by
  have E := Lib.hid (or3 x y z)
  by_cases hx : (x == 0) = true
  · have hx' : (x != 0) = false := by simp [beq_iff_eq.1 hx]
    have HX := Lib.hid (beq_iff_eq.1 hx)
    by_cases hy : (y == 0) = true
    · have hy' : (y != 0) = false := by simp [beq_iff_eq.1 hy]
      have HY := Lib.hid (beq_iff_eq.1 hy)
      by_cases hz : (z == 0) = true
      · have hz' : (z != 0) = false := by simp [beq_iff_eq.1 hz]
        have HZ := Lib.hid (beq_iff_eq.1 hz)
        go_enter Tryz.func165, Tryz.ntmps165
        go_wp2
        refine wp_loop_rounds 4 ?_
        iterate 4 (rw [rounds_succ]; go_wp2)
        go_ret
        exact ⟨by rw [E.out, if_pos HX.out, if_pos HY.out, HZ.out]; rfl, rfl⟩
      · have hz' : (z != 0) = true := by simpa using hz
        go_enter Tryz.func165, Tryz.ntmps165
        go_wp2
        refine wp_loop_rounds 4 ?_
        iterate 3 (rw [rounds_succ]; go_wp2)
        go_ret
        exact ⟨by rw [E.out, if_pos HX.out, if_pos HY.out]; rfl, rfl⟩
    · have hy' : (y != 0) = true := by simpa using hy
      have HY := Lib.hid (show ¬ y = 0 by simpa using hy)
      go_enter Tryz.func165, Tryz.ntmps165
      go_wp2
      refine wp_loop_rounds 4 ?_
      iterate 2 (rw [rounds_succ]; go_wp2)
      go_ret
      exact ⟨by rw [E.out, if_pos HX.out, if_neg HY.out]; rfl, rfl⟩
  · have hx' : (x != 0) = true := by simpa using hx
    have HX := Lib.hid (show ¬ x = 0 by simpa using hx)
    go_enter Tryz.func165, Tryz.ntmps165
    go_wp2
    refine wp_loop_rounds 4 ?_
    iterate 1 (rw [rounds_succ]; go_wp2)
    go_ret
    exact ⟨by rw [E.out, if_neg HX.out]; rfl, rfl⟩
end Go.Proofs.YtllkimdlmnjoiaaGreatDoor

namespace Go.Proofs.YtllkimdlmnjoiaaGreatDoor
set_option maxRecDepth 100000
set_option maxRecDepth 100000
set_option maxRecDepth 100000
set_option maxRecDepth 100000
set_option maxRecDepth 100000
open Go.RowKit

theorem Rd.next {w w' : World} {d : Nat} {t : V} {A A' : Option Addr} {c c' : Nat} (h : Rd w 0 w.heap.size d t A c A' c') (hb : Below w.heap.size w w') : Rd w' 0 w'.heap.size d t A c A' c' :=
  Rd.imp (Kept.of_below hb (Nat.le_refl _)) (Nat.le_refl _) hb.size (Nat.le_refl _) h
theorem RdRow.next {w w' : World} {d : Nat} {A : Option Addr} {c : Nat} {l : List V} (h : Rw w 0 w.heap.size d A c l) (hb : Below w.heap.size w w') : Rw w' 0 w'.heap.size d A c l :=
  h.imp (Kept.of_below hb (Nat.le_refl _)) (Nat.le_refl _) hb.size (fun _ _ _ _ _ h => h.next hb)

/-- A closure that compares two values as f does, in every world in which all that lay in w lies unturned; g: what it captured. -/
def Cmps (cap : Value) (w : World) (f : V → V → Int) : Prop :=
  ∀ (W : World) (da db : Nat) (a b : V) (A : Option Addr) (c : Nat) (A' : Option Addr) (c' : Nat) (D : Option Addr) (e : Nat) (D' : Option Addr) (e' : Nat), Below w.heap.size w W →
    Rd W 0 W.heap.size da a A c A' c' → Rd W 0 W.heap.size db b D e D' e' →
    Calls Tryz.prog 168 #[vl a A c A' c', vl b D e D' e', cap] W fun x w' => x = .returned (.int .i64 (f a b)) ∧ Below W.heap.size W w'

theorem rowC_next {α : Type} (f : α → α → Int) (l l' : List α) (k : Nat) {x y : α} (hx : l[k]? = some x) (hy : l'[k]? = some y) : rowC f (l.drop k) (l'.drop k) = orI (f x y) (rowC f (l.drop (k + 1)) (l'.drop (k + 1))) := by
  obtain ⟨h1, e1⟩ := List.getElem?_eq_some_iff.1 hx
  obtain ⟨h2, e2⟩ := List.getElem?_eq_some_iff.1 hy
  rw [List.drop_eq_getElem_cons h1, List.drop_eq_getElem_cons h2, e1, e2]; rfl
theorem rowC_out {α : Type} (f : α → α → Int) (l l' : List α) (k : Nat) (h1 : k < l.length) (h2 : l'.length ≤ k) : rowC f (l.drop k) (l'.drop k) = 1 := by
  rw [List.drop_eq_getElem_cons h1, List.drop_eq_nil_of_le h2]; rfl
theorem rowC_less {α : Type} (f : α → α → Int) (l l' : List α) (k : Nat) (h1 : l.length ≤ k) (h2 : k < l'.length) : rowC f (l.drop k) (l'.drop k) = -1 := by
  rw [List.drop_eq_getElem_cons h2, List.drop_eq_nil_of_le h1]; rfl
theorem rowC_done {α : Type} (f : α → α → Int) (l l' : List α) (k : Nat) (h1 : l.length ≤ k) (h2 : l'.length ≤ k) : rowC f (l.drop k) (l'.drop k) = 0 := by
  rw [List.drop_eq_nil_of_le h1, List.drop_eq_nil_of_le h2]; rfl
theorem orI_ne {x y : Int} (h : (x != 0) = true) : orI x y = x := by unfold orI; rw [if_neg (by simpa using h)]
theorem orI_eq {x y : Int} (h : (x != 0) = false) : orI x y = y := by unfold orI; rw [if_pos (by simpa using h)]

set_option maxHeartbeats 1600000 in
theorem compareFunc (f : V → V → Int) (g : Nat) (w : World) (hcl : Cmps (.pointer (some ⟨g, 0, none⟩)) w f) (d d' : Nat) (A : Option Addr) (c : Nat) (l : List V) (A' : Option Addr) (c' : Nat) (l' : List V)
    (h : Rw w 0 w.heap.size d A c l) (h' : Rw w 0 w.heap.size d' A' c' l') :
    Calls Tryz.prog 169 #[.slice A l.length c, .slice A' l'.length c', .func (.func 168) #[] #[.pointer (some ⟨g, 0, none⟩)]] w fun e w' => e = .returned (.int .i64 (rowC f l l')) ∧ Below w.heap.size w w' := by
  have HC := Lib.hid hcl
  have H1 := Lib.hid h
  have H2 := Lib.hid h'
  have b1 := h.big
  have b2 := h'.big
  clear hcl h h'
  go_enter Tryz.func169, Tryz.ntmps169
  go_wp2
  go_loopw [13] (fun i wr => ∃ k : Nat, k ≤ l.length ∧ k ≤ l'.length ∧ i = .int .i64 k ∧ Hid (Below w.heap.size w wr) ∧ Hid (rowC f (l.drop k) (l'.drop k) = rowC f l l')) (fun i _ => l.length - (intOf i).toNat)
  case atStart => exact ⟨0, by omega, by omega, rfl, Lib.hid (Below.refl _ _), Lib.hid (by simp)⟩
  case round =>
    obtain ⟨k, hk, hk', rfl, hbel, hr⟩ := hrel
    by_cases hlt : k < l.length
    · obtain ⟨b, off, x, A1, c1, A2, c2, rfl, _, hb, hx, q, rx⟩ := (H1.out.next hbel.out).elem hlt
      obtain ⟨q0, q1, q2, q3, q4⟩ := q
      by_cases hlt' : k < l'.length
      · obtain ⟨b', off', y, D1, e1, D2, e2, rfl, _, hb', hy, p, ry⟩ := (H2.out.next hbel.out).elem hlt'
        obtain ⟨p0, p1, p2, p3, p4⟩ := p
        have NX := Lib.hid (rowC_next f l l' k hx hy)
        have RX := Lib.hid rx
        have RY := Lib.hid ry
        have HX := Lib.hid hx
        have HY := Lib.hid hy
        clear rx ry hx hy
        go_wp2_with fail
        refine (HC.out _ _ _ x y _ _ _ _ _ _ _ _ (bnext hbel.out (below_new2 _ _ _)) (RX.out.next (below_new2 _ _ _)) (RY.out.next (below_new2 _ _ _))).mono ?_
        rintro e w1 ⟨rfl, hb1⟩
        have HB := Lib.hid (bnext (bnext hbel.out (below_new2 _ _ _)) hb1)
        clear hb1
        cases hne : (f x y != 0)
        · go_wp2
          go_roundw
          case rel => exact ⟨k + 1, by omega, by omega, by go_num, HB, Lib.hid (by rw [← hr.out, NX.out, orI_eq hne])⟩
          case measure => simp [intOf]; omega
        · go_wp2
          go_ret
          exact ⟨by rw [← hr.out, NX.out, orI_ne hne]; rfl, HB.out⟩
      · have OUT := Lib.hid (rowC_out f l l' k hlt (by omega))
        clear rx hx
        go_wp2
        go_ret
        exact ⟨by rw [← hr.out, OUT.out]; rfl, bnext hbel.out (below_new _ _)⟩
    · by_cases hlt' : k < l'.length
      · have OUT := Lib.hid (rowC_less f l l' k (by omega) hlt')
        go_wp2
        go_ret
        exact ⟨by rw [← hr.out, OUT.out]; rfl, hbel.out⟩
      · have OUT := Lib.hid (rowC_done f l l' k (by omega) (by omega))
        go_wp2
        go_ret
        exact ⟨by rw [← hr.out, OUT.out]; rfl, hbel.out⟩
end Go.Proofs.YtllkimdlmnjoiaaGreatDoor






