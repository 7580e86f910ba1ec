/- LexerWhole: its plain side; a slice's middle. -/
import Derived.Test.YthjbmlgjlndihaaLY
import Derived.Test.YthjbmlgjlndihaaLS
namespace Go.Proofs.Ythjbmlgjlndihaa
set_option maxRecDepth 100000
open Go.RowKit Go.Sort

theorem tw_yes (p : UInt8 → Bool) : ∀ (l : Bs) (j : Nat) (b : UInt8), j < (l.takeWhile p).length → l[j]? = some b → p b = true
  | [], j, b, h, _ => by simp at h
  | c :: l, j, b, h, hb => by
    rw [List.takeWhile_cons] at h
    split at h
    · rename_i hc
      cases j with
      | zero => simp at hb; rw [← hb]; exact hc
      | succ j =>
        rw [List.length_cons] at h
        exact tw_yes p l j b (by omega) (by simpa using hb)
    · simp at h
theorem tw_len (p : UInt8 → Bool) (l : Bs) : (l.takeWhile p).length ≤ l.length := List.Sublist.length_le (List.takeWhile_sublist p)
theorem whole_step (q : Bs) (L : List IT) (i k : Nat) (h : its (q.drop k) k = L.drop i) (hi : i < L.length) (hok : ∀ x ∈ L, x.ok = true) :
    ∃ p n t, L[i]? = some ⟨t.at_ (p : Nat), true⟩ ∧ k ≤ p ∧ p + n ≤ q.length ∧ 1 ≤ n ∧ (∀ (j : Nat) (b : UInt8), k ≤ j → j < p → q[j]? = some b → blankB b = true) ∧ firstP (q.drop p) = some (t, n) ∧ its (q.drop (p + n)) (p + n) = L.drop (i + 1) := by
  have hp := its_past (q.drop k) k
  have hl := tw_len blankB (q.drop k)
  rw [List.length_drop] at hl
  have hb := tw_yes blankB (q.drop k)
  have hh := past_head (q.drop k)
  generalize ((q.drop k).takeWhile blankB).length = d at hp hl hb hh
  rw [List.drop_drop] at hp hh
  rw [h] at hp
  cases hd : q.drop (k + d) with
  | nil =>
    rw [hd, its_nil, List.drop_eq_getElem_cons hi] at hp
    cases hp
  | cons c r =>
    have hc := hh c r hd
    rw [hd] at hp
    have hlen := congrArg List.length hd
    rw [List.length_drop, List.length_cons] at hlen
    have hx0 : L[i]? = some L[i] := List.getElem?_eq_getElem hi
    rw [List.drop_eq_getElem_cons hi] at hp
    cases hf : firstP (c :: r) with
    | none =>
      rw [its_none c r _ hc hf] at hp
      injection hp with h1 h2
      have := hok _ (List.getElem_mem hi)
      rw [h1] at this
      cases this
    | some y =>
      obtain ⟨t, n⟩ := y
      have hn := first_len (c :: r) (by simp) t n hf
      rw [List.length_cons] at hn
      rw [its_some c r _ hc t n hf] at hp
      injection hp with h1 h2
      refine ⟨k + d, n, t, by rw [hx0, h1], by omega, by omega, hn.1, fun j b hj1 hj2 hb' => ?_, by rw [hd]; exact hf, ?_⟩
      · refine hb (j - k) b (by omega) ?_
        rw [List.getElem?_drop, show k + (j - k) = j from by omega]
        exact hb'
      · rw [← hd, List.drop_drop] at h2
        exact h2.symm
theorem whole_end (q : Bs) (k : Nat) (h : its (q.drop k) k = []) (j : Nat) (b : UInt8) (hj : k ≤ j) (hb' : q[j]? = some b) : blankB b = true := by
  have hp := its_past (q.drop k) k
  have hb := tw_yes blankB (q.drop k)
  have hh := past_head (q.drop k)
  generalize ((q.drop k).takeWhile blankB).length = d at hp hb hh
  rw [List.drop_drop] at hp hh
  rw [h] at hp
  cases hd : q.drop (k + d) with
  | nil =>
    have hlen := congrArg List.length hd
    rw [List.length_drop, List.length_nil] at hlen
    have := (List.getElem?_eq_some_iff.1 hb').1
    refine hb (j - k) b (by omega) ?_
    rw [List.getElem?_drop, show k + (j - k) = j from by omega]
    exact hb'
  | cons c r =>
    have hc := hh c r hd
    rw [hd] at hp
    cases hf : firstP (c :: r) with
    | none => rw [its_none c r _ hc hf] at hp; cases hp
    | some y =>
      obtain ⟨t, n⟩ := y
      rw [its_some c r _ hc t n hf] at hp
      cases hp
theorem first_kind (m : Bs) (h0 : 0 < m.length) (t : TK) (n : Nat) (h : firstP m = some (t, n)) : 1 ≤ t.k ∧ t.k ≤ 4 ∧ ((t.k = 3 ∧ ∃ b, textP (m.drop 1) [] 1 = some (b, n)) ∨ (t.k ≠ 3 ∧ t.s = m.take n ∧ t.s.length = n)) := by
  have h1 := runN_le wordB m 1 (by omega)
  unfold firstP at h
  split at h
  · injection h with h; injection h with h3 h4
    rw [← h3, ← h4]
    exact ⟨by simp, by simp, .inr ⟨by simp, rfl, by rw [List.length_take]; omega⟩⟩
  · split at h
    · unfold numP at h
      split at h
      · injection h with h; injection h with h3 h4
        rw [← h3, ← h4]
        refine ⟨by simp, by simp, .inr ⟨by simp, ?_, rfl⟩⟩
        rw [List.length_take, Nat.min_eq_left (by omega)]
      · cases h
    · split at h
      · unfold textO at h
        cases hr : textP (m.drop 1) [] 1 with
        | none => rw [hr] at h; cases h
        | some r =>
          obtain ⟨b, n'⟩ := r
          rw [hr] at h
          injection h with h; injection h with h3 h4
          rw [← h3, ← h4]
          exact ⟨by show (1 : Int) ≤ 3; omega, by show (3 : Int) ≤ 4; omega, .inl ⟨rfl, b, rfl⟩⟩
      · split at h
        · injection h with h; injection h with h3 h4
          rw [← h3, ← h4]
          exact ⟨by simp, by simp, .inr ⟨by simp, rfl, by rw [List.length_take]; omega⟩⟩
        · cases h
theorem text_step (l : Bs) (k i : Nat) (acc b : Bs) (n : Nat) (h : textP (l.drop k) acc i = some (b, n)) :
    ∃ c, l[k]? = some c ∧ ((c.toNat = 39 ∧ n = i + 1) ∨ (¬ c.toNat = 39 ∧ c.toNat = 92 ∧ ∃ acc', textP (l.drop (k + 2)) acc' (i + 2) = some (b, n)) ∨ (¬ c.toNat = 39 ∧ ¬ c.toNat = 92 ∧ ∃ acc', textP (l.drop (k + 1)) acc' (i + 1) = some (b, n))) := by
  by_cases hlt : k < l.length
  · rw [List.drop_eq_getElem_cons hlt, textP_cons] at h
    refine ⟨l[k], List.getElem?_eq_getElem hlt, ?_⟩
    split at h
    · cases h
    · split at h
      · rename_i h2
        injection h with h; injection h with h3 h4
        exact .inl ⟨h2, h4.symm⟩
      · rename_i h2
        split at h
        · rename_i h3
          by_cases hlt2 : k + 1 < l.length
          · rw [List.drop_eq_getElem_cons hlt2] at h
            simp only at h
            split at h
            · split at h
              · cases h
              · exact .inr (.inl ⟨h2, h3, _, h⟩)
            · cases h
          · rw [List.drop_eq_nil_of_le (by omega)] at h
            cases h
        · rename_i h3
          split at h
          · cases h
          · exact .inr (.inr ⟨h2, h3, _, h⟩)
  · rw [List.drop_eq_nil_of_le (by omega), textP_nil] at h
    cases h
theorem run_mid (A : Option Addr) (n c p m : Nat) (hp : p + m ≤ c) (W : World) : (Instr.sliceAt 22 (.slice A n c) (some (.int .i64 (p : Int))) (some (.int .i64 ((p : Int) + (m : Int)))) none).run Try.prog W = .ok (.slice (if c = p then A else A.map (·.add p)) m (c - p)) W := by
  have h1 : (p : Int) ≤ (c : Int) := by omega
  have h2 : (p : Int) + (m : Int) ≤ (c : Int) := by omega
  have h3 : (0 : Int) ≤ (p : Int) + (m : Int) := by omega
  have h4 : ((p : Int) + (m : Int)).toNat = p + m := by omega
  simp [Instr.sliceAt, go_sem, Try.underlying22, h2, h3, h4]
theorem BRow.mid {w : World} {A : Option Addr} {c : Nat} {l : Bs} (h : BRow w A c l) (n p m : Nat) (hn : n = l.length) (hp : p + m ≤ n) :
    ∃ X, (∀ W, (Instr.sliceAt 22 (.slice A n c) (some (.int .i64 (p : Int))) (some (.int .i64 ((p : Int) + (m : Int)))) none).run Try.prog W = .ok (.slice X m (c - p)) W) ∧ BRow w X (c - p) ((l.drop p).take m) := by
  have hle := h.le
  refine ⟨_, run_mid A n c p m (by omega), ?_⟩
  obtain ⟨X, _, hX⟩ := h.rest n p hn (by omega)
  have hcap := h.cap
  split
  · rename_i hcp
    rw [List.drop_eq_nil_of_le (by omega), List.take_nil]
    exact brow_end (by omega) (fun e => by omega)
  · rename_i hcp
    cases A with
    | none => have := h.nil rfl; omega
    | some a =>
      refine ⟨by rw [List.length_take, List.length_drop]; omega, by omega, (fun e => by cases e), fun h0 => ?_⟩
      rw [List.length_take, List.length_drop] at h0
      obtain ⟨b, off, e, hb, hc⟩ := h.at_ (by omega)
      injection e with e
      subst e
      refine ⟨b, off + p, by simp [add_none], hb, fun j x hj => ?_⟩
      rw [List.getElem?_take] at hj
      split at hj
      · rw [List.getElem?_drop] at hj
        have := hc _ x hj
        rwa [← Nat.add_assoc] at this
      · cases hj
end Go.Proofs.Ythjbmlgjlndihaa
