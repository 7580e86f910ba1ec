/- Carried over from the seat of layer 2. -/
import Derived.Test.YtciipggccjiaiaaChecked
import GoSem.Op.String
namespace Go.Proofs.Ytciipggccjiaiaa
set_option maxRecDepth 100000

inductive V where
  | mk (k n : Int) (s : ByteArray) (l m : List V)

def V.k : V → Int | .mk k _ _ _ _ => k
def V.n : V → Int | .mk _ n _ _ _ => n
def V.s : V → ByteArray | .mk _ _ s _ _ => s
def V.l : V → List V | .mk _ _ _ l _ => l
def V.m : V → List V | .mk _ _ _ _ m => m
def orI (x y : Int) : Int := if x = 0 then y else x
def cmpI (a b : Int) : Int := if a < b then -1 else if b < a then 1 else 0
def rowC {α : Type} (f : α → α → Int) : List α → List α → Int
  | [], [] => 0
  | [], _ :: _ => -1
  | _ :: _, [] => 1
  | x :: xs, y :: ys => orI (f x y) (rowC f xs ys)
def cmpU (a b : UInt8) : Int := cmpI a.toNat b.toNat
def cmpS (a b : ByteArray) : Int := rowC cmpU a.toList b.toList
def cmpF (a b : V) : Int := orI (cmpI a.k b.k) (orI (cmpI a.n b.n) (cmpS a.s b.s))
def cmpV : Nat → V → V → Int
  | 0, a, b => cmpF a b
  | r + 1, a, b => orI (cmpF a b) (orI (rowC (cmpV r) a.l b.l) (rowC (cmpV r) a.m b.m))

/-- One order: just one of less, the same, greater; what is no greater than what is no greater is no greater. -/
structure Ord {α : Type} (f : α → α → Int) : Prop where
  anti : ∀ x y, f y x = -f x y
  tri : ∀ x y, f x y = -1 ∨ f x y = 0 ∨ f x y = 1
  trans : ∀ x y z, f x y ≤ 0 → f y z ≤ 0 → f x z ≤ 0

theorem Ord.refl {α : Type} {f : α → α → Int} (h : Ord f) (x : α) : f x x = 0 := by have := h.anti x x; omega
theorem Ord.strict {α : Type} {f : α → α → Int} (h : Ord f) (x y z : α) (a : f x y ≤ 0) (b : f y z ≤ 0) (c : f x z = 0) : f x y = 0 ∧ f y z = 0 := by
  have a1 := h.anti x z
  have a2 := h.anti y z
  have a3 := h.anti x y
  have t1 := h.trans z x y (by omega) a
  have t2 := h.trans y z x b (by omega)
  omega
/-- What is the same stands alike to a third. -/
theorem Ord.same_left {α : Type} {f : α → α → Int} (h : Ord f) (x y z : α) (e : f x y = 0) : f x z = f y z := by
  have a1 := h.anti x y
  have a2 := h.anti x z
  have a3 := h.anti y z
  have t1 := h.trans x y z (by omega)
  have t2 := h.trans y x z (by omega)
  have t3 := h.trans z x y
  have t4 := h.trans z y x
  have q1 := h.tri x z
  have q2 := h.tri y z
  omega
theorem Ord.same_right {α : Type} {f : α → α → Int} (h : Ord f) (x y z : α) (e : f y z = 0) : f x y = f x z := by
  have := h.same_left y z x e
  rw [h.anti y x, h.anti z x]; omega

theorem ord_cmpI : Ord cmpI where
  anti x y := by unfold cmpI; repeat' split <;> omega
  tri x y := by unfold cmpI; repeat' split <;> omega
  trans x y z := by unfold cmpI; repeat' split <;> omega
theorem ord_cmpU : Ord cmpU where
  anti _x _y := ord_cmpI.anti _ _
  tri _x _y := ord_cmpI.tri _ _
  trans _x _y _z := ord_cmpI.trans _ _ _
theorem ord_on {α β : Type} {f : β → β → Int} (g : α → β) (h : Ord f) : Ord (fun x y => f (g x) (g y)) where
  anti _x _y := h.anti _ _
  tri _x _y := h.tri _ _
  trans _x _y _z := h.trans _ _ _
theorem ord_or {α : Type} {f g : α → α → Int} (hf : Ord f) (hg : Ord g) : Ord (fun x y => orI (f x y) (g x y)) where
  anti x y := by
    have a := hf.anti x y
    have b := hg.anti x y
    simp only [orI]; repeat' split <;> omega
  tri x y := by
    have a := hf.tri x y
    have b := hg.tri x y
    simp only [orI]; split <;> omega
  trans x y z := by
    have t := hf.trans x y z
    have s := hf.strict x y z
    have u := hg.trans x y z
    have q := hf.tri x y
    have q2 := hf.tri y z
    have q3 := hf.tri x z
    have e1 := hf.same_left x y z
    have e2 := hf.same_right x y z
    simp only [orI]
    repeat' split
    all_goals omega
theorem ord_row {α : Type} {f : α → α → Int} (hf : Ord f) : Ord (rowC f) where
  anti := by
    intro x
    induction x with
    | nil => intro y; cases y <;> simp [rowC]
    | cons a x ih =>
      intro y
      cases y with
      | nil => simp [rowC]
      | cons b y =>
        have h1 := hf.anti a b
        have h2 := ih y
        simp only [rowC, orI]
        repeat' split <;> omega
  tri := by
    intro x
    induction x with
    | nil => intro y; cases y <;> simp [rowC]
    | cons a x ih =>
      intro y
      cases y with
      | nil => simp [rowC]
      | cons b y =>
        have h1 := hf.tri a b
        have h2 := ih y
        simp only [rowC, orI]
        split <;> omega
  trans := by
    intro x
    induction x with
    | nil => intro y z; cases y <;> cases z <;> simp [rowC]
    | cons a x ih =>
      intro y z
      cases y with
      | nil => simp [rowC]
      | cons b y =>
        cases z with
        | nil => simp [rowC]
        | cons c z =>
          have t := hf.trans a b c
          have s := hf.strict a b c
          have u := ih y z
          have q := hf.tri a b
          have q2 := hf.tri b c
          have q3 := hf.tri a c
          have e1 := hf.same_left a b c
          have e2 := hf.same_right a b c
          simp only [rowC, orI]
          repeat' split
          all_goals omega
theorem ord_cmpS : Ord cmpS := ord_on ByteArray.toList (ord_row ord_cmpU)
theorem ord_cmpF : Ord cmpF := ord_or (ord_on V.k ord_cmpI) (ord_or (ord_on V.n ord_cmpI) (ord_on V.s ord_cmpS))
theorem ord_cmpV : ∀ r, Ord (cmpV r)
  | 0 => ord_cmpF
  | r + 1 => ord_or ord_cmpF (ord_or (ord_on V.l (ord_row (ord_cmpV r))) (ord_on V.m (ord_row (ord_cmpV r))))

/-- The model's order of texts is this one. -/
theorem less_iff : ∀ (x y : List UInt8), Op.bytesLess x y = decide (rowC cmpU x y = -1)
  | [], [] => by simp [Op.bytesLess, rowC]
  | [], _ :: _ => by simp [Op.bytesLess, rowC]
  | _ :: _, [] => by simp [Op.bytesLess, rowC]
  | a :: x, b :: y => by
    have ih := less_iff x y
    simp only [Op.bytesLess, ih, rowC]
    by_cases h1 : a < b
    · have e : cmpU a b = -1 := by unfold cmpU cmpI; rw [if_pos (by have := UInt8.lt_iff_toNat_lt.1 h1; omega)]
      simp [h1, e, orI]
    · by_cases h2 : a = b
      · subst h2
        have e : cmpU a a = 0 := ord_cmpU.refl a
        simp [e, orI]
      · have e : cmpU a b = 1 := by
          unfold cmpU cmpI
          have : ¬ a.toNat < b.toNat := fun h => h1 (UInt8.lt_iff_toNat_lt.2 h)
          have : a.toNat ≠ b.toNat := fun h => h2 (UInt8.toNat_inj.1 h)
          rw [if_neg (by omega), if_pos (by omega)]
        simp [h1, h2, e, orI]
theorem same_iff : ∀ (x y : List UInt8), rowC cmpU x y = 0 ↔ x = y
  | [], [] => by simp [rowC]
  | [], _ :: _ => by simp [rowC]
  | _ :: _, [] => by simp [rowC]
  | a :: x, b :: y => by
    have ih := same_iff x y
    simp only [rowC, orI, List.cons.injEq]
    by_cases h2 : a = b
    · subst h2
      rw [if_pos (ord_cmpU.refl a), ih]; simp
    · have e : cmpU a b ≠ 0 := by
        unfold cmpU cmpI
        have : a.toNat ≠ b.toNat := fun h => h2 (UInt8.toNat_inj.1 h)
        repeat' split <;> omega
      rw [if_neg e]
      exact ⟨fun h => absurd h e, fun h => absurd h.1 h2⟩
end Go.Proofs.Ytciipggccjiaiaa

