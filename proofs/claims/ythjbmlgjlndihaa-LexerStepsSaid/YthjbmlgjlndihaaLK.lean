/- Tokens, plain: byte after byte; what more bytes behind change, and fewer. -/
import Derived.Test.YthjbmlgjlndihaaLG
namespace Go.Proofs.Ythjbmlgjlndihaa
set_option maxRecDepth 100000

theorem all_bytes {p : UInt8 → Prop} [DecidablePred p] (h : ∀ n : Fin 256, p (UInt8.ofNat n.val)) (c : UInt8) : p c := by
  have := h ⟨c.toNat, c.toNat_lt⟩
  simpa using this
theorem blank_word (c : UInt8) : blankB c = true → wordB c = false := all_bytes (p := fun c => blankB c = true → wordB c = false) (by decide) c
theorem blank_not (c : UInt8) : blankB c = true → letB c = false ∧ digB c = false ∧ ¬ c.toNat = 45 ∧ ¬ c.toNat = 39 ∧ signB c = false :=
  all_bytes (p := fun c => blankB c = true → letB c = false ∧ digB c = false ∧ ¬ c.toNat = 45 ∧ ¬ c.toNat = 39 ∧ signB c = false) (by decide) c

/-! Runs of bytes of one kind. -/
theorem tw_append (p : UInt8 → Bool) (c : UInt8) (hc : p c = false) (r : Bs) : ∀ l : Bs, (l ++ c :: r).takeWhile p = l.takeWhile p
  | [] => by simp [hc]
  | d :: l => by
    rw [List.cons_append, List.takeWhile_cons, List.takeWhile_cons, tw_append p c hc r l]
theorem tw_take (p : UInt8 → Bool) : ∀ (l : Bs) (m : Nat), (l.takeWhile p).length ≤ m → (l.take m).takeWhile p = l.takeWhile p
  | [], m, _ => by simp
  | d :: l, 0, h => by
    rw [List.takeWhile_cons] at h ⊢
    split at h
    · simp at h
    · simp_all
  | d :: l, m + 1, h => by
    rw [List.take_succ_cons, List.takeWhile_cons, List.takeWhile_cons]
    rw [List.takeWhile_cons] at h
    split at h
    · rw [List.length_cons] at h
      rename_i hd
      rw [if_pos hd, if_pos hd, tw_take p l m (by omega)]
    · rename_i hd
      rw [if_neg hd, if_neg hd]
theorem run_append (p : UInt8 → Bool) (c : UInt8) (hc : p c = false) (l r : Bs) (h0 : 0 < l.length) : runN p (l ++ c :: r) 1 = runN p l 1 := by
  unfold runN
  rw [List.drop_append_of_le_length (by omega), tw_append p c hc]
theorem run_take (p : UInt8 → Bool) (l : Bs) (m : Nat) (h : runN p l 1 ≤ m) : runN p (l.take m) 1 = runN p l 1 := by
  unfold runN at h ⊢
  rw [List.drop_take, tw_take p _ _ (by omega)]
theorem take_front (l r : Bs) (n : Nat) (h : n ≤ l.length) : (l ++ r).take n = l.take n := by
  rw [List.take_append_of_le_length h]

/-! Texts. -/
theorem text_more (r : Bs) : ∀ (k : Nat) (l acc : Bs) (i : Nat) (x : Bs × Nat), l.length ≤ k → textP l acc i = some x → textP (l ++ r) acc i = some x
  | k, [], acc, i, x, _, h => by rw [textP_nil] at h; cases h
  | 0, c :: l, acc, i, x, hk, h => by simp at hk
  | k + 1, c :: l, acc, i, x, hk, h => by
    rw [List.cons_append, textP_cons]
    rw [textP_cons] at h
    rw [List.length_cons] at hk
    split at h
    · cases h
    · rename_i h1
      rw [if_neg h1]
      split at h
      · rename_i h2
        rw [if_pos h2]; exact h
      · rename_i h2
        rw [if_neg h2]
        split at h
        · rename_i h3
          rw [if_pos h3]
          match l, h with
          | [], h => cases h
          | d :: l', h =>
            simp only [List.cons_append] at h ⊢
            split at h
            · rename_i h4
              rw [if_pos h4]
              split at h
              · cases h
              · rename_i h5
                rw [if_neg h5]
                exact text_more r k l' _ _ _ (by rw [List.length_cons] at hk; omega) h
            · cases h
        · rename_i h3
          rw [if_neg h3]
          split at h
          · cases h
          · rename_i h5
            rw [if_neg h5]
            exact text_more r k l _ _ _ (by omega) h
theorem text_less : ∀ (k : Nat) (l acc : Bs) (i m : Nat) (b : Bs) (n : Nat), l.length ≤ k → textP l acc i = some (b, n) → n ≤ i + m → textP (l.take m) acc i = some (b, n)
  | k, [], acc, i, m, b, n, _, h, _ => by rw [textP_nil] at h; cases h
  | 0, c :: l, acc, i, m, b, n, hk, h, _ => by simp at hk
  | k + 1, c :: l, acc, i, m, b, n, hk, h, hm => by
    have hl := textP_len _ _ _ _ _ _ (Nat.le_refl _) h
    obtain ⟨m, rfl⟩ : ∃ m', m = m' + 1 := ⟨m - 1, by omega⟩
    rw [List.take_succ_cons, textP_cons]
    rw [textP_cons] at h
    rw [List.length_cons] at hk
    split at h
    · cases h
    · rename_i h1
      rw [if_neg h1]
      split at h
      · rename_i h2
        rw [if_pos h2]; exact h
      · rename_i h2
        rw [if_neg h2]
        split at h
        · rename_i h3
          rw [if_pos h3]
          match l, h with
          | [], h => cases h
          | d :: l', h =>
            simp only at h
            split at h
            · rename_i h4
              split at h
              · cases h
              · rename_i h5
                have hl2 := textP_len _ _ _ _ _ _ (Nat.le_refl _) h
                obtain ⟨m, rfl⟩ : ∃ m', m = m' + 1 := ⟨m - 1, by omega⟩
                rw [List.take_succ_cons]
                simp only [if_pos h4, if_neg h5]
                exact text_less k l' _ _ m _ _ (by rw [List.length_cons] at hk; omega) h (by omega)
            · cases h
        · rename_i h3
          rw [if_neg h3]
          split at h
          · cases h
          · rename_i h5
            rw [if_neg h5]
            exact text_less k l _ _ m _ _ (by omega) h (by omega)
theorem text_low (r : Bs) : ∀ (k : Nat) (l acc : Bs) (i : Nat), l.length ≤ k → textP l acc i = none → textP (l ++ 10 :: r) acc i = none
  | _, [], acc, i, _, _ => by rw [List.nil_append, textP_cons, if_pos (by decide)]
  | 0, c :: l, acc, i, hk, h => by simp at hk
  | k + 1, c :: l, acc, i, hk, h => by
    rw [List.cons_append, textP_cons]
    rw [textP_cons] at h
    rw [List.length_cons] at hk
    split at h
    · rename_i h1; rw [if_pos h1]
    · rename_i h1
      rw [if_neg h1]
      split at h
      · cases h
      · rename_i h2
        rw [if_neg h2]
        split at h
        · rename_i h3
          rw [if_pos h3]
          match l, h with
          | [], h => simp
          | d :: l', h =>
            simp only [List.cons_append] at h ⊢
            split at h
            · rename_i h4
              rw [if_pos h4]
              split at h
              · rename_i h5; rw [if_pos h5]
              · rename_i h5
                rw [if_neg h5]
                exact text_low r k l' _ _ (by rw [List.length_cons] at hk; omega) h
            · rename_i h4; rw [if_neg h4]
        · rename_i h3
          rw [if_neg h3]
          split at h
          · rename_i h5; rw [if_pos h5]
          · rename_i h5
            rw [if_neg h5]
            exact text_low r k l _ _ (by omega) h

theorem head_more (l r : Bs) (h0 : 0 < l.length) : (l ++ r).headD 0 = l.headD 0 := by
  cases l with
  | nil => simp at h0
  | cons a l => rfl
/-- More bytes behind a blank change no first token. -/
theorem first_more (l r : Bs) (c : UInt8) (hc : blankB c = true) (h0 : 0 < l.length) (x : TK × Nat) (h : firstP l = some x) : firstP (l ++ c :: r) = some x := by
  have hw := run_append wordB c (blank_word c hc) l r h0
  have hr := runN_le wordB l 1 (by omega)
  unfold firstP at h ⊢
  rw [head_more l _ h0, hw, take_front l _ _ hr]
  split at h
  · rename_i h1; rw [if_pos h1]; exact h
  · rename_i h1
    rw [if_neg h1]
    split at h
    · rename_i h2; rw [if_pos h2]; exact h
    · rename_i h2
      rw [if_neg h2]
      split at h
      · rename_i h3
        rw [if_pos h3, List.drop_append_of_le_length (by omega)]
        cases ht : textP (l.drop 1) [] 1 with
        | none => rw [ht] at h; cases h
        | some y => rw [ht] at h; rw [text_more _ _ _ _ _ _ (Nat.le_refl _) ht]; exact h
      · rename_i h3
        rw [if_neg h3]
        split at h
        · rename_i h4
          rw [if_pos h4, take_front l _ 1 (by omega)]; exact h
        · cases h
/-- Fewer bytes behind the first token don't, either. -/
theorem first_less (l : Bs) (m n : Nat) (t : TK) (h0 : 0 < l.length) (h : firstP l = some (t, n)) (hm : n ≤ m) : firstP (l.take m) = some (t, n) := by
  have hn := first_len l h0 t n h
  have hh : (l.take m).headD 0 = l.headD 0 := by
    cases l with
    | nil => simp at h0
    | cons a l => obtain ⟨m, rfl⟩ : ∃ k, m = k + 1 := ⟨m - 1, by omega⟩; rfl
  have hwl := runN_le wordB l 1 (by omega)
  unfold firstP at h ⊢
  rw [hh]
  split at h
  · rename_i h1
    injection h with h; injection h with h2 h3
    rw [if_pos h1, run_take wordB l m (by omega), List.take_take, Nat.min_eq_left (by omega), h2, h3]
  · rename_i h1
    rw [if_neg h1]
    split at h
    · rename_i h2
      have hm2 : runN wordB l 1 ≤ m := by
        unfold numP at h
        split at h
        · injection h with h; injection h with h3 h4
          rw [List.length_take] at h4; omega
        · cases h
      rw [if_pos h2, run_take wordB l m hm2, List.take_take, Nat.min_eq_left hm2]; exact h
    · rename_i h2
      rw [if_neg h2]
      split at h
      · rename_i h3
        rw [if_pos h3, List.drop_take]
        cases ht : textP (l.drop 1) [] 1 with
        | none => rw [ht] at h; cases h
        | some y =>
          obtain ⟨b, n'⟩ := y
          rw [ht] at h
          injection h with h; injection h with h4 h5
          simp at h5
          rw [text_less _ _ _ _ (m - 1) b n' (Nat.le_refl _) ht (by omega)]
          simp only [textO]
          rw [h4, h5]
      · rename_i h3
        rw [if_neg h3]
        split at h
        · rename_i h4
          rw [if_pos h4, List.take_take, Nat.min_eq_left (by injection h with h; injection h with h5 h6; omega)]; exact h
        · cases h
/-- What is no token is none with a line feed behind. -/
theorem first_low (l r : Bs) (h0 : 0 < l.length) (h : firstP l = none) : firstP (l ++ 10 :: r) = none := by
  have hw := run_append wordB 10 (by decide) l r h0
  have hr := runN_le wordB l 1 (by omega)
  unfold firstP at h ⊢
  rw [head_more l _ h0, hw, take_front l _ _ hr]
  split at h
  · cases h
  · rename_i h1
    rw [if_neg h1]
    split at h
    · rename_i h2; rw [if_pos h2]; exact h
    · rename_i h2
      rw [if_neg h2]
      split at h
      · rename_i h3
        rw [if_pos h3, List.drop_append_of_le_length (by omega)]
        cases ht : textP (l.drop 1) [] 1 with
        | none => rw [text_low _ _ _ _ _ (Nat.le_refl _) ht]; rfl
        | some y => rw [ht] at h; cases h
      · rename_i h3
        rw [if_neg h3]
        split at h
        · cases h
        · rename_i h4; rw [if_neg h4]
end Go.Proofs.Ythjbmlgjlndihaa
