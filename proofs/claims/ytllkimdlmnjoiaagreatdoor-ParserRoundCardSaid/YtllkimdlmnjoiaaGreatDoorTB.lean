/- Carried over from an earlier seat. -/
import Derived.Test.YtllkimdlmnjoiaaGreatDoorTA
import Derived.Test.YtllkimdlmnjoiaaGreatDoorNA
import Derived.Test.YtllkimdlmnjoiaaGreatDoorPD
namespace Go.Proofs.YtllkimdlmnjoiaaGreatDoor
set_option maxRecDepth 100000
set_option maxRecDepth 100000
set_option maxRecDepth 100000
open Go.RowKit Go.Sort

section
variable {α : Type}
def topL (f : α → Nat) : List α → Nat
  | [] => 0
  | x :: r => max (f x) (topL f r)
def sumL (f : α → Nat) : List α → Nat
  | [] => 0
  | x :: r => f x + sumL f r
theorem topL_append (f : α → Nat) : ∀ a b, topL f (a ++ b) = max (topL f a) (topL f b)
  | [], b => by simp [topL]
  | x :: a, b => by simp only [List.cons_append, topL, topL_append f a b]; omega
theorem sumL_append (f : α → Nat) : ∀ a b, sumL f (a ++ b) = sumL f a + sumL f b
  | [], b => by simp [sumL]
  | x :: a, b => by simp only [List.cons_append, sumL, sumL_append f a b]; omega
theorem take_snoc (l : List α) (k : Nat) {x : α} (h : l[k]? = some x) : l.take (k + 1) = l.take k ++ [x] := by
  obtain ⟨h1, e1⟩ := List.getElem?_eq_some_iff.1 h
  rw [List.take_succ_eq_append_getElem h1, e1]
theorem topL_next (f : α → Nat) (l : List α) (k : Nat) {x : α} (h : l[k]? = some x) : topL f (l.take (k + 1)) = max (topL f (l.take k)) (f x) := by
  rw [take_snoc l k h, topL_append]; simp [topL]
theorem sumL_next (f : α → Nat) (l : List α) (k : Nat) {x : α} (h : l[k]? = some x) : sumL f (l.take (k + 1)) = sumL f (l.take k) + f x := by
  rw [take_snoc l k h, sumL_append]; simp [sumL]
theorem topL_take (f : α → Nat) (l : List α) (k : Nat) : topL f (l.take k) ≤ topL f l := by
  have := congrArg (topL f) (List.take_append_drop k l).symm
  rw [topL_append] at this; omega
theorem sumL_take (f : α → Nat) (l : List α) (k : Nat) : sumL f (l.take k) ≤ sumL f l := by
  have := congrArg (sumL f) (List.take_append_drop k l).symm
  rw [sumL_append] at this; omega
theorem topL_le (f : α → Nat) (m : Nat) : ∀ l, (∀ x ∈ l, f x ≤ m) → topL f l ≤ m
  | [], _ => by simp [topL]
  | x :: r, h => by
    have h1 := h x (by simp)
    have h2 := topL_le f m r (fun y hy => h y (by simp [hy]))
    simp only [topL]; omega
theorem topL_mem (f : α → Nat) : ∀ (l : List α) (x : α), x ∈ l → f x ≤ topL f l
  | [], _, h => by cases h
  | y :: r, x, h => by
    simp only [topL]
    rcases List.mem_cons.1 h with rfl | h
    · omega
    · have := topL_mem f r x h; omega
theorem topL_zero (l : List α) : topL (fun _ : α => 0) l = 0 := by
  have := topL_le (fun _ : α => 0) 0 l (fun _ _ => Nat.le_refl _); omega
end

/-- How deep, with so many more chains within one another. -/
def nestA (f : List C → Nat) (g : Ag) : Nat := if g.c.isEmpty then 0 else f g.c
def nestV : Nat → List C → Nat
  | 0, _ => 1
  | r + 1, l => 1 + topL (fun x => topL (nestA (nestV r)) x.a) l
def stepN : Nat → Ag → Nat
  | 0 => fun _ => 0
  | r + 1 => nestA (nestV r)
theorem nestV_eq (r : Nat) (l : List C) : nestV r l = 1 + topL (fun x => topL (stepN r) x.a) l := by
  cases r with
  | zero =>
    have e : (fun x : C => topL (stepN 0) x.a) = fun _ => 0 := by funext x; exact topL_zero _
    rw [e, topL_zero]; rfl
  | succ r => rfl
theorem nestV_le : ∀ (r : Nat) (l : List C), nestV r l ≤ r + 1
  | 0, _ => Nat.le_refl _
  | r + 1, l => by
    have : topL (fun x : C => topL (nestA (nestV r)) x.a) l ≤ r + 1 := topL_le _ _ _ fun x _ => topL_le _ _ _ fun g _ => by
      unfold nestA
      have := nestV_le r g.c
      split <;> omega
    simp only [nestV]; omega
/-- How many calls, in so many chains within one another. -/
def cntP : Nat → List C → Nat
  | 0, _ => 0
  | r + 1, l => sumL (fun x => 1 + sumL (fun g => cntP r g.c) x.a) l

/-- Are all its values written? (A value that may be.) -/
def wrV : Nat → V → Bool
  | 0, _ => false
  | r + 1, v => if v.k = 1 ∨ v.k = 2 then true else if v.k = 3 then v.s.toList.all (fun c => decide (32 ≤ c.toNat)) else if v.k = 6 then v.l.all (wrV r) else false
def wrP : Nat → P → Bool
  | 0, _ => false
  | r + 1, p => p.v.all (wrV 12) && p.p.all (wrP r)
def namesL : List ByteArray := [⟨#[]⟩, ⟨#[101, 113]⟩, ⟨#[110, 101, 113]⟩, ⟨#[108, 116]⟩, ⟨#[108, 116, 101]⟩, ⟨#[103, 116]⟩, ⟨#[103, 116, 101]⟩, ⟨#[98, 101, 116, 119, 101, 101, 110]⟩, ⟨#[105, 110, 115, 105, 100, 101]⟩, ⟨#[111, 117, 116, 115, 105, 100, 101]⟩, ⟨#[119, 105, 116, 104, 105, 110]⟩, ⟨#[119, 105, 116, 104, 111, 117, 116]⟩, ⟨#[110, 111, 116]⟩, ⟨#[97, 110, 100]⟩, ⟨#[111, 114]⟩]
def namesB : List (List UInt8) := [[], [101, 113], [110, 101, 113], [108, 116], [108, 116, 101], [103, 116], [103, 116, 101], [98, 101, 116, 119, 101, 101, 110], [105, 110, 115, 105, 100, 101], [111, 117, 116, 115, 105, 100, 101], [119, 105, 116, 104, 105, 110], [119, 105, 116, 104, 111, 117, 116], [110, 111, 116], [97, 110, 100], [111, 114]]
/-- Is it something else than a word? -/
def takenB (s : ByteArray) : Bool := namesB.any (fun n => s.toList == n) || s.toList == [116, 114, 117, 101] || s.toList == [102, 97, 108, 115, 101] || s.toList == [95, 95]
def wordB (s : ByteArray) : Bool := nameB s && !takenB s
def isZeroP (p : P) : Bool := p.k == 0 && p.v.length == 0 && p.p.length == 0
def zeroV : V := .mk 0 0 ⟨#[]⟩ [] []
def fitsA (g : Ag) : Bool := (g.k == 1 || cmpV 12 g.v zeroV == 0) && (g.k == 2 || isZeroP g.p) && (g.k == 3 || g.c.length == 0) && (g.k == 4 || g.s.toList.isEmpty)
def argOk (f : List C → Bool) (g : Ag) : Bool :=
  fitsA g && (if g.k = 1 then okV 12 g.v && wrV 12 g.v else if g.k = 2 then okP 12 g.p && wrP 12 g.p else if g.k = 3 then f g.c else if g.k = 4 then wordB g.s else false)
def callOk (f : List C → Bool) (x : C) : Bool := nameB x.n && !(x.n.toList == [95, 95]) && decide (x.a.length ≤ 50) && x.a.all (argOk f)
/-- A chain, with at most so many within one another. -/
def chOk : Nat → List C → Bool
  | 0, _ => false
  | r + 1, l => decide (0 < l.length) && l.all (callOk (chOk r))
/-- A query. -/
def qOk (l : List C) : Bool := decide (cntP 11 l ≤ 200) && chOk 10 l

theorem all_congr_mem {α : Type} {l : List α} {p q : α → Bool} (h : ∀ x ∈ l, p x = q x) : l.all p = l.all q := by
  induction l with
  | nil => rfl
  | cons a l ih => rw [List.all_cons, List.all_cons, h a (by simp), ih (fun x hx => h x (by simp [hx]))]
theorem argOk_parts (f : List C → Bool) (g : Ag) : argOk f g = true → (g.k = 1 ∨ g.k = 2 ∨ g.k = 3 ∨ g.k = 4) ∧ (g.k = 3 → f g.c = true) ∧ (g.k ≠ 3 → g.c = []) := by
  intro h
  unfold argOk at h
  rw [Bool.and_eq_true] at h
  obtain ⟨h1, h2⟩ := h
  unfold fitsA at h1
  simp only [Bool.and_eq_true, Bool.or_eq_true, beq_iff_eq] at h1
  refine ⟨?_, fun hk => ?_, fun hk => ?_⟩
  · by_cases k1 : g.k = 1
    · exact .inl k1
    · by_cases k2 : g.k = 2
      · exact .inr (.inl k2)
      · by_cases k3 : g.k = 3
        · exact .inr (.inr (.inl k3))
        · by_cases k4 : g.k = 4
          · exact .inr (.inr (.inr k4))
          · simp [k1, k2, k3, k4] at h2
  · simpa [hk] using h2
  · rcases h1.1.2 with h | h
    · exact absurd h hk
    · exact List.eq_nil_of_length_eq_zero h
theorem ch_nest : ∀ (r : Nat) (l : List C), chOk r l = true → nestV r l ≤ r
  | 0, _, h => by cases h
  | r + 1, l, h => by
    simp only [chOk, Bool.and_eq_true, List.all_eq_true] at h
    have : topL (fun x : C => topL (nestA (nestV r)) x.a) l ≤ r := topL_le _ _ _ fun x hx => topL_le _ _ _ fun g hg => by
      have hc := h.2 x hx
      unfold callOk at hc
      rw [Bool.and_eq_true, List.all_eq_true] at hc
      obtain ⟨_, h3, h4⟩ := argOk_parts _ g (hc.2 g hg)
      unfold nestA
      by_cases hk : g.k = 3
      · have := ch_nest r g.c (h3 hk)
        split <;> omega
      · rw [h4 hk]; simp
    simp only [nestV]; omega
theorem nest_ch : ∀ (r e : Nat) (l : List C), nestV r l ≤ r → chOk (r + e) l = chOk r l
  | 0, _, _, h => by simp [nestV] at h
  | r + 1, e, l, h => by
    have h' : topL (fun x : C => topL (nestA (nestV r)) x.a) l ≤ r := by simp only [nestV] at h; omega
    rw [show r + 1 + e = (r + e) + 1 by omega]
    simp only [chOk]
    congr 1
    refine all_congr_mem fun x hx => ?_
    unfold callOk
    congr 1
    refine all_congr_mem fun g hg => ?_
    unfold argOk
    congr 1
    have hg' : nestA (nestV r) g ≤ r := by
      have h1 := topL_mem (fun x : C => topL (nestA (nestV r)) x.a) l x hx
      have h2 := topL_mem (nestA (nestV r)) x.a g hg
      omega
    by_cases hc : g.c = []
    · rw [hc]
      have e0 : ∀ q, chOk q [] = false := fun q => by cases q <;> rfl
      rw [e0, e0]
    · have : nestV r g.c ≤ r := by
        unfold nestA at hg'
        rw [if_neg (by simpa using hc)] at hg'
        exact hg'
      rw [nest_ch r e g.c this]
end Go.Proofs.YtllkimdlmnjoiaaGreatDoor



