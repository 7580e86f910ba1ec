/- Contract of the document's With. -/
import Derived.Test.YtciipggccjiaiaaOa
namespace Go.Proofs.Ytciipggccjiaiaa
open Go.RowKit Go.Sort
set_option maxRecDepth 100000

def RWithPost (w : World) (d : Nat) (t : TA) (key : ByteArray) (x : At) (e : Ending) (w' : World) : Prop :=
  ∃ q : TA, e = .returned (.tuple #[q.v, .int .i64 (withE key x.t t.l)]) ∧ PRow w' 0 d q.A q.c q.l ∧ ((withE key x.t t.l ≠ 0 ∧ q.tv' = zeroTV) ∨ (withE key x.t t.l = 0 ∧ q.tv' = ⟨t.id, t.label, t.o, t.i, (withLL (fromOf key t.l) (toOf key t.l) t.l ⟨key, x⟩).map PA.kv⟩)) ∧ Below w.heap.size w w'
/-- What the rounds ask of each property. -/
structure Asks (key : ByteArray) (l : List PA) (has : Bool) (i i2 : Nat) : Prop where
  le : i ≤ l.length
  yes : has = true → i < l.length ∧ i2 = i + 1
  no : has = false → i2 = i
  low : ∀ (k : Nat) (q : PA), k < i → l[k]? = some q → (if has then keyB key q else gtB key q) = false
  at_ : ∀ q : PA, l[i]? = some q → (if has then keyB key q else gtB key q) = true
theorem idxG_low {α : Type} (p : α → Bool) : ∀ (l : List α) (k : Nat) (j : Nat) (q : α), (idxG p l k = -1 ∨ (k : Int) + j < idxG p l k) → l[j]? = some q → p q = false
  | [], _, _, _, _, h => by simp at h
  | x :: r, k, 0, q, hi, h => by
    simp at h
    subst h
    cases hp : p x with
    | false => rfl
    | true =>
      exfalso
      rw [idxG, if_pos hp] at hi
      rcases hi with h1 | h1 <;> omega
  | x :: r, k, j + 1, q, hi, h => by
    cases hp : p x with
    | true =>
      exfalso
      rw [idxG, if_pos hp] at hi
      rcases hi with h1 | h1 <;> omega
    | false =>
      refine idxG_low p r (k + 1) j q ?_ (by simpa using h)
      rw [idxG, if_neg (by rw [hp]; simp)] at hi
      rcases hi with h1 | h1
      · exact .inl h1
      · exact .inr (by omega)
theorem asks_of (key : ByteArray) (l : List PA) : Asks key l (decide (¬ idxG (keyB key) l 0 < 0)) (fromOf key l) (toOf key l) := by
  rcases idxG_at (keyB key) l 0 with ⟨e1, f1⟩ | ⟨i, y, e1, hy, f1, hpy⟩
  · have hd : decide (¬ idxG (keyB key) l 0 < 0) = false := by simp; omega
    have hf : fromOf key l = insAt key l := by unfold fromOf; rw [if_pos (by omega)]
    have ht : toOf key l = insAt key l := by unfold toOf; rw [if_pos (by omega)]
    rw [hd, hf, ht]
    refine ⟨insAt_le key l, (fun h => by cases h), fun _ => rfl, fun k q hk hq => ?_, fun q hq => ?_⟩
    · show gtB key q = false
      unfold insAt at hk
      by_cases hj : idxG (gtB key) l 0 < 0
      · exact idxG_low (gtB key) l 0 k q (.inl (by rcases idxG_range (gtB key) l 0 with ⟨e, _⟩ | ⟨e, _⟩; exact e; omega)) hq
      · rw [if_neg hj] at hk
        exact idxG_low (gtB key) l 0 k q (.inr (by omega)) hq
    · show gtB key q = true
      rcases idxG_at (gtB key) l 0 with ⟨e2, _⟩ | ⟨j, z, e2, hz, _, hpz⟩
      · have : insAt key l = l.length := by unfold insAt; rw [if_pos (by omega)]
        rw [this] at hq
        simp at hq
      · have : insAt key l = j := by unfold insAt; rw [if_neg (by omega)]; omega
        rw [this, hz] at hq
        injection hq with hq
        subst hq
        exact hpz
  · have hd : decide (¬ idxG (keyB key) l 0 < 0) = true := by simp; omega
    have hf : fromOf key l = i := by unfold fromOf; rw [if_neg (by omega)]; omega
    have ht : toOf key l = i + 1 := by unfold toOf; rw [if_neg (by omega)]; omega
    have hil := (List.getElem?_eq_some_iff.1 hy).1
    rw [hd, hf, ht]
    refine ⟨by omega, fun _ => ⟨hil, rfl⟩, (fun h => by cases h), fun k q hk hq => ?_, fun q hq => ?_⟩
    · exact idxG_low (keyB key) l 0 k q (.inr (by omega)) hq
    · rw [hy] at hq
      injection hq with hq
      subst hq
      exact hpy
theorem gt_parts (key : ByteArray) (q : PA) (b : Bool) (h : gtB key q = b) : (b = true ∧ Op.bytesLess q.key.toList key.toList = false ∧ (q.key.toList == key.toList) = false) ∨ (b = false ∧ Op.bytesLess q.key.toList key.toList = true) ∨ (b = false ∧ Op.bytesLess q.key.toList key.toList = false ∧ (q.key.toList == key.toList) = true) := by
  unfold gtB at h
  cases h1 : Op.bytesLess q.key.toList key.toList <;> cases h2 : (q.key.toList == key.toList) <;> rw [h1, h2] at h <;> simp at h <;> subst h <;> simp
end Go.Proofs.Ytciipggccjiaiaa
