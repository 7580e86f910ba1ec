/- Plain arithmetic of decimal digits, the lowest first: their value, sums, differences. No program in this text. -/
import Derived.Lib.Hide
namespace Go.Proofs.Ytgjimgopfpaimaa

def valD : List Int → Int
  | [] => 0
  | d :: r => d + 10 * valD r
def Digs (l : List Int) : Prop := ∀ d ∈ l, 0 ≤ d ∧ d ≤ 9
/-- No nought behind. -/
def Norm (l : List Int) : Prop := l.getLastD 1 ≠ 0
def ten (n : Nat) : Int := 10 ^ n
theorem ten_zero : ten 0 = 1 := rfl
theorem ten_succ (n : Nat) : ten (n + 1) = 10 * ten n := by unfold ten; rw [Int.pow_succ, Int.mul_comm]
theorem ten_pos : ∀ n, 0 < ten n
  | 0 => by decide
  | n + 1 => by have := ten_pos n; rw [ten_succ]; omega
theorem ten_mono {a b : Nat} (h : a ≤ b) : ten a ≤ ten b := by
  induction b with
  | zero => obtain rfl : a = 0 := by omega
            exact Int.le_refl _
  | succ b ih =>
    by_cases e : a = b + 1
    · subst e; exact Int.le_refl _
    · have := ih (by omega); have := ten_pos b; rw [ten_succ]; omega

theorem digs_nil : Digs [] := fun _ h => by cases h
theorem digs_cons {d : Int} {r : List Int} (h : Digs (d :: r)) : (0 ≤ d ∧ d ≤ 9) ∧ Digs r := ⟨h d (by simp), fun x hx => h x (by simp [hx])⟩
theorem digs_snoc {l : List Int} {d : Int} (h : Digs l) (h0 : 0 ≤ d) (h9 : d ≤ 9) : Digs (l ++ [d]) := by
  intro x hx
  rcases List.mem_append.1 hx with hx | hx
  · exact h x hx
  · rw [List.mem_singleton] at hx; subst hx; exact ⟨h0, h9⟩
theorem digs_take {l : List Int} (h : Digs l) (k : Nat) : Digs (l.take k) := fun x hx => h x (List.mem_of_mem_take hx)
theorem digs_getD {l : List Int} (h : Digs l) (k : Nat) : 0 ≤ l.getD k 0 ∧ l.getD k 0 ≤ 9 := by
  rcases Nat.lt_or_ge k l.length with hk | hk
  · have e : l.getD k 0 = l[k] := by simp [hk]
    rw [e]; exact h _ (List.getElem_mem hk)
  · have e : l.getD k 0 = 0 := by simp [hk]
    rw [e]; omega

theorem valD_nonneg : ∀ {l : List Int}, Digs l → 0 ≤ valD l
  | [], _ => Int.le_refl _
  | d :: r, h => by
    have := digs_cons h
    have := valD_nonneg this.2
    simp only [valD]; omega
theorem valD_lt : ∀ {l : List Int}, Digs l → valD l < ten l.length
  | [], _ => by decide
  | d :: r, h => by
    have := digs_cons h
    have := valD_lt this.2
    simp only [valD, List.length_cons, ten_succ]; omega
theorem valD_append : ∀ (a b : List Int), valD (a ++ b) = valD a + ten a.length * valD b
  | [], b => by simp [valD, ten_zero]
  | d :: r, b => by
    simp only [List.cons_append, valD, valD_append r b, List.length_cons, ten_succ]
    rw [Int.mul_add, Int.mul_assoc, Int.add_assoc]
theorem valD_snoc (a : List Int) (d : Int) : valD (a ++ [d]) = valD a + ten a.length * d := by
  rw [valD_append]; simp [valD]
theorem valD_take (l : List Int) (k : Nat) : valD (l.take (k + 1)) = valD (l.take k) + ten k * l.getD k 0 := by
  rcases Nat.lt_or_ge k l.length with hk | hk
  · rw [List.take_succ_eq_append_getElem hk, valD_snoc, List.length_take, Nat.min_eq_left (by omega)]
    simp [hk]
  · rw [List.take_of_length_le (by omega), List.take_of_length_le hk]
    simp [hk]
theorem valD_all {l : List Int} {k : Nat} (h : l.length ≤ k) : valD (l.take k) = valD l := by rw [List.take_of_length_le h]

theorem norm_ge : ∀ {l : List Int}, Digs l → Norm l → l ≠ [] → ten (l.length - 1) ≤ valD l
  | [], _, _, h => absurd rfl h
  | [d], h, hn, _ => by
    have := digs_cons h
    have h1 : d ≠ 0 := by simpa [Norm] using hn
    simp [valD, ten_zero]; omega
  | d :: e :: r, h, hn, _ => by
    have h1 := digs_cons h
    have h2 := norm_ge h1.2 (by simpa [Norm] using hn) (by simp)
    have e2 : (d :: e :: r).length - 1 = ((e :: r).length - 1) + 1 := by simp
    have e1 : valD (d :: e :: r) = d + 10 * valD (e :: r) := rfl
    rw [e1, e2, ten_succ]
    omega
theorem norm_short {l : List Int} (h : Digs l) (hn : Norm l) {j : Nat} (hv : valD l < ten j) : l.length ≤ j := by
  rcases Nat.lt_or_ge j l.length with hj | hj
  · have h1 := norm_ge h hn (by intro e; subst e; simp at hj)
    have := ten_mono (show j ≤ l.length - 1 by omega)
    omega
  · exact hj
theorem norm_zero {l : List Int} (h : Digs l) (hn : Norm l) (hv : valD l = 0) : l = [] := by
  have := norm_short h hn (j := 0) (by rw [hv]; decide)
  exact List.eq_nil_of_length_eq_zero (by omega)
/-- A shorter one is less. -/
theorem norm_len_lt {a b : List Int} (ha : Digs a) (hb : Digs b) (nb : Norm b) (h : a.length < b.length) : valD a < valD b := by
  have h1 := valD_lt ha
  have h2 := norm_ge hb nb (by intro e; subst e; simp at h)
  have := ten_mono (show a.length ≤ b.length - 1 by omega)
  omega
/-- The highest place at which two rows part tells which is less. -/
theorem part_lt {a b : List Int} (ha : Digs a) (hb : Digs b) (i : Nat) (hi : i < a.length) (hl : a.length = b.length) (heq : a.drop (i + 1) = b.drop (i + 1)) (hlt : a.getD i 0 < b.getD i 0) : valD a < valD b := by
  have e : ∀ l : List Int, l.length = a.length → valD l = valD (l.take i) + ten i * l.getD i 0 + ten (i + 1) * valD (l.drop (i + 1)) := by
    intro l hll
    conv => lhs; rw [← List.take_append_drop (i + 1) l]
    rw [valD_append, valD_take, List.length_take, Nat.min_eq_left (by omega)]
  rw [e a rfl, e b hl.symm, heq]
  have h1 := valD_lt (digs_take ha i)
  have h2 := valD_nonneg (digs_take hb i)
  rw [List.length_take, Nat.min_eq_left (by omega)] at h1
  have h3 : ten i * a.getD i 0 + ten i ≤ ten i * b.getD i 0 := by
    have := Int.mul_le_mul_of_nonneg_left (show a.getD i 0 + 1 ≤ b.getD i 0 by omega) (Int.le_of_lt (ten_pos i))
    rw [Int.mul_add, Int.mul_one] at this
    exact this
  omega
theorem split_ten (p x : Int) : p * x = p * (x % 10) + 10 * p * (x / 10) := by
  have h : x = x % 10 + 10 * (x / 10) := by omega
  conv => lhs; rw [h, Int.mul_add]
  rw [Int.mul_left_comm, Int.mul_assoc]

/-- One step of a sum. -/
theorem add_step (a b d : List Int) (i : Nat) (c x : Int) (hl : d.length = i) (hinv : valD d + ten i * c = valD (a.take i) + valD (b.take i)) (hx : x = a.getD i 0 + b.getD i 0 + c) :
    valD (d ++ [x % 10]) + ten (i + 1) * (x / 10) = valD (a.take (i + 1)) + valD (b.take (i + 1)) := by
  rw [valD_snoc, valD_take, valD_take, hl, ten_succ]
  have h := split_ten (ten i) x
  have h2 : ten i * x = ten i * a.getD i 0 + ten i * b.getD i 0 + ten i * c := by rw [hx, Int.mul_add, Int.mul_add]
  omega
/-- One step of a difference. -/
theorem sub_step (a b d : List Int) (i : Nat) (c x c' x' : Int) (hl : d.length = i) (hinv : valD d = valD (a.take i) - valD (b.take i) + ten i * c) (hx : x = a.getD i 0 - b.getD i 0 - c) (hx' : x' = x + 10 * c') :
    valD (d ++ [x']) = valD (a.take (i + 1)) - valD (b.take (i + 1)) + ten (i + 1) * c' := by
  rw [valD_snoc, valD_take, valD_take, hl, ten_succ]
  have h2 : ten i * x' = ten i * a.getD i 0 - ten i * b.getD i 0 - ten i * c + 10 * ten i * c' := by
    rw [hx', hx, Int.mul_add, Int.mul_sub, Int.mul_sub, Int.mul_assoc, Int.mul_left_comm]
  omega

/-- Without its noughts behind. -/
theorem valD_noughts (l : List Int) (k : Nat) (h : ∀ j, k ≤ j → j < l.length → l.getD j 0 = 0) : valD (l.take k) = valD l := by
  have key : ∀ m, valD (l.take (k + m)) = valD (l.take k) := by
    intro m
    induction m with
    | zero => rfl
    | succ m ih =>
      rw [← Nat.add_assoc, valD_take, ih]
      have : l.getD (k + m) 0 = 0 := by
        rcases Nat.lt_or_ge (k + m) l.length with hk | hk
        · exact h _ (by omega) hk
        · simp [hk]
      rw [this]; omega
  have := key l.length
  rw [valD_all (by omega)] at this
  exact this.symm
theorem last_snoc (m : List Int) (x : Int) : (m ++ [x]).getLastD 1 = x := by rw [List.getLastD_eq_getLast?]; simp
theorem norm_take (l : List Int) (k : Nat) (hk : k ≤ l.length) (h : k = 0 ∨ l.getD (k - 1) 0 ≠ 0) : Norm (l.take k) := by
  unfold Norm
  rcases h with rfl | h
  · simp
  · cases k with
    | zero => simp
    | succ k =>
      have e : (l.take k ++ [l[k]'(by omega)]).getLastD 1 = l[k]'(by omega) := last_snoc _ _
      rw [List.take_succ_eq_append_getElem (by omega), e]
      have e2 : l.getD (k + 1 - 1) 0 = l[k]'(by omega) := by simp [show k < l.length by omega]
      rwa [e2] at h
end Go.Proofs.Ytgjimgopfpaimaa
