/- All tokens, plain, byte after byte; of two queries one behind the other; with blanks in between. -/
import Derived.Test.YthjbmlgjlndihaaLK
namespace Go.Proofs.Ythjbmlgjlndihaa
set_option maxRecDepth 100000

def lexC : Nat → Bs → Nat → List IT
  | 0, _, _ => []
  | _ + 1, [], _ => []
  | f + 1, c :: m, o => if blankB c then lexC f m (o + 1) else
      match firstP (c :: m) with
      | none => [⟨TK.zero.at_ o, false⟩]
      | some r => ⟨r.1.at_ o, true⟩ :: lexC f ((c :: m).drop r.2) (o + r.2)
theorem lexC_fuel : ∀ (f g : Nat) (m : Bs) (o : Nat), m.length < f → m.length < g → lexC f m o = lexC g m o
  | 0, _, m, _, h, _ => by omega
  | _, 0, m, _, _, h => by omega
  | f + 1, g + 1, [], o, _, _ => rfl
  | f + 1, g + 1, c :: m, o, hf, hg => by
    rw [List.length_cons] at hf hg
    simp only [lexC]
    split
    · exact lexC_fuel f g m _ (by omega) (by omega)
    · cases hx : firstP (c :: m) with
      | none => rfl
      | some r =>
        have := first_len (c :: m) (by simp) r.1 r.2 hx
        rw [List.length_cons] at this
        simp only []
        rw [lexC_fuel f g _ _ (by rw [List.length_drop, List.length_cons]; omega) (by rw [List.length_drop, List.length_cons]; omega)]
/-- The tokens of bytes that begin at a place. -/
def its (m : Bs) (o : Nat) : List IT := lexC (m.length + 1) m o
theorem its_nil (o : Nat) : its [] o = [] := rfl
theorem its_blank (c : UInt8) (m : Bs) (o : Nat) (h : blankB c = true) : its (c :: m) o = its m (o + 1) := by
  unfold its
  rw [List.length_cons]
  conv => lhs; unfold lexC
  rw [if_pos h]
theorem its_none (c : UInt8) (m : Bs) (o : Nat) (h : blankB c = false) (hx : firstP (c :: m) = none) : its (c :: m) o = [⟨TK.zero.at_ o, false⟩] := by
  unfold its
  rw [List.length_cons]
  conv => lhs; unfold lexC
  rw [if_neg (by simp [h]), hx]
theorem its_some (c : UInt8) (m : Bs) (o : Nat) (h : blankB c = false) (t : TK) (n : Nat) (hx : firstP (c :: m) = some (t, n)) : its (c :: m) o = ⟨t.at_ o, true⟩ :: its ((c :: m).drop n) (o + n) := by
  have hl := first_len (c :: m) (by simp) t n hx
  rw [List.length_cons] at hl
  unfold its
  rw [List.length_cons]
  conv => lhs; unfold lexC
  rw [if_neg (by simp [h]), hx]
  simp only []
  rw [lexC_fuel _ ((((c :: m).drop n).length) + 1) _ _ (by rw [List.length_drop, List.length_cons]; omega) (by omega)]
theorem its_past : ∀ (m : Bs) (o : Nat), its m o = its (m.drop (m.takeWhile blankB).length) (o + (m.takeWhile blankB).length)
  | [], o => rfl
  | c :: m, o => by
    rw [List.takeWhile_cons]
    cases h : blankB c
    · simp
    · rw [its_blank c m o h, its_past m (o + 1)]
      simp only [if_true, List.length_cons, List.drop_succ_cons]
      rw [show o + 1 + (m.takeWhile blankB).length = o + ((m.takeWhile blankB).length + 1) from by omega]
theorem past_head : ∀ (m : Bs) (c : UInt8) (r : Bs), m.drop (m.takeWhile blankB).length = c :: r → blankB c = false
  | [], c, r, h => by simp at h
  | d :: m, c, r, h => by
    rw [List.takeWhile_cons] at h
    cases hd : blankB d
    · rw [hd] at h
      simp at h
      rw [← h.1]; exact hd
    · rw [hd] at h
      simp at h
      exact past_head m c r h
theorem lexA_its : ∀ (f : Nat) (l : Bs) (p : Nat), p ≤ l.length → l.length < f + p → lexA f l (runN blankB l p) = its (l.drop p) p
  | 0, l, p, hp, hf => by omega
  | f + 1, l, p, hp, hf => by
    rw [its_past (l.drop p) p]
    have hq := runN_le blankB l p hp
    have hge := runN_ge blankB l p
    rw [List.drop_drop]
    have e : p + ((l.drop p).takeWhile blankB).length = runN blankB l p := rfl
    rw [e]
    generalize hz : runN blankB l p = q at hq hge e
    by_cases hlt : q < l.length
    · cases hd : l.drop q with
      | nil => have := congrArg List.length hd; rw [List.length_drop] at this; simp at this; omega
      | cons c r =>
        have hb : blankB c = false := past_head (l.drop p) c r (by rw [List.drop_drop, e]; exact hd)
        cases hx : firstP (c :: r) with
        | none => rw [lexA_none (f + 1) l q (by omega) hlt (by rw [hd]; exact hx), its_none c r q hb hx]
        | some y =>
          obtain ⟨t, n⟩ := y
          have hl := first_len (c :: r) (by simp) t n hx
          rw [← hd, List.length_drop] at hl
          rw [lexA_some f l q hlt t n (by rw [hd]; exact hx), its_some c r q hb t n hx, lexA_its f l (q + n) (by omega) (by omega), ← hd, List.drop_drop]
    · rw [lexA_end _ _ _ hlt, List.drop_eq_nil_of_le (by omega)]; rfl
theorem items_its (l : Bs) : itemsL l = its l 0 := by
  have := lexA_its (l.length + 1) l 0 (by omega) (by omega)
  rw [List.drop_zero] at this
  exact this

/-- A token farther behind. -/
def IT.far (d : Nat) (x : IT) : IT := ⟨⟨x.t.k, x.t.p + d, x.t.s, x.t.n⟩, x.ok⟩
theorem its_far : ∀ (k : Nat) (m : Bs) (o d : Nat), m.length ≤ k → its m (o + d) = (its m o).map (IT.far d)
  | k, [], o, d, _ => rfl
  | 0, c :: m, o, d, h => by simp at h
  | k + 1, c :: m, o, d, h => by
    rw [List.length_cons] at h
    cases hb : blankB c
    · cases hx : firstP (c :: m) with
      | none =>
        rw [its_none c m _ hb hx, its_none c m _ hb hx]
        simp [IT.far, TK.zero]
      | some y =>
        obtain ⟨t, n⟩ := y
        have hl := first_len (c :: m) (by simp) t n hx
        rw [List.length_cons] at hl
        rw [its_some c m _ hb t n hx, its_some c m _ hb t n hx, show o + d + n = (o + n) + d from by omega, its_far k _ (o + n) d (by rw [List.length_drop, List.length_cons]; omega)]
        simp [IT.far]
    · rw [its_blank c m _ hb, its_blank c m _ hb, show o + d + 1 = (o + 1) + d from by omega]
      exact its_far k m (o + 1) d (by omega)

/-- Two queries with a line feed between. -/
theorem its_join (b : Bs) : ∀ (k : Nat) (a : Bs) (o : Nat), a.length ≤ k →
    (∀ x ∈ its a o, x.ok = true) → its (a ++ 10 :: b) o = its a o ++ its b (o + a.length + 1)
  | k, [], o, _, _ => by rw [List.nil_append, its_blank 10 b o (by decide), its_nil]; rfl
  | 0, c :: m, o, h, _ => by simp at h
  | k + 1, c :: m, o, h, hok => by
    rw [List.length_cons] at h
    cases hb : blankB c
    · cases hx : firstP (c :: m) with
      | none =>
        rw [its_none c m _ hb hx] at hok
        have := hok _ (List.mem_singleton.2 rfl)
        cases this
      | some y =>
        obtain ⟨t, n⟩ := y
        have hl := first_len (c :: m) (by simp) t n hx
        rw [its_some c m _ hb t n hx] at hok ⊢
        have hx' := first_more (c :: m) b 10 (by decide) (by simp) _ hx
        rw [List.cons_append] at hx' ⊢
        rw [its_some c _ o hb t n hx', ← List.cons_append, List.drop_append_of_le_length hl.2, its_join b k _ (o + n) (by rw [List.length_drop, List.length_cons]; omega) (fun x hm => hok x (List.mem_cons_of_mem _ hm)), List.cons_append, List.length_drop]
        rw [show o + n + ((c :: m).length - n) + 1 = o + (c :: m).length + 1 from by omega]
    · rw [its_blank c m _ hb] at hok ⊢
      rw [List.cons_append, its_blank c _ o hb, its_join b k m (o + 1) (by omega) hok, List.length_cons]
      rw [show o + 1 + m.length + 1 = o + (m.length + 1) + 1 from by omega]
theorem its_join_no (b : Bs) : ∀ (k : Nat) (a : Bs) (o : Nat), a.length ≤ k → ∀ xs x, its a o = xs ++ [x] → x.ok = false → its (a ++ 10 :: b) o = xs ++ [x]
  | k, [], o, _, xs, x, he, _ => by rw [its_nil] at he; simp at he
  | 0, c :: m, o, h, _, _, _, _ => by simp at h
  | k + 1, c :: m, o, h, xs, x, he, hok => by
    rw [List.length_cons] at h
    cases hb : blankB c
    · cases hx : firstP (c :: m) with
      | none =>
        have hx' := first_low (c :: m) b (by simp) hx
        rw [List.cons_append] at hx' ⊢
        rw [its_none c _ o hb hx', ← he, its_none c m o hb hx]
      | some y =>
        obtain ⟨t, n⟩ := y
        have hl := first_len (c :: m) (by simp) t n hx
        rw [its_some c m _ hb t n hx] at he
        have hx' := first_more (c :: m) b 10 (by decide) (by simp) _ hx
        rw [List.cons_append] at hx' ⊢
        rw [its_some c _ o hb t n hx', ← List.cons_append, List.drop_append_of_le_length hl.2]
        cases xs with
        | nil =>
          rw [List.nil_append] at he
          injection he with e1 e2
          rw [← e1] at hok; cases hok
        | cons z xs =>
          rw [List.cons_append] at he
          injection he with e1 e2
          rw [its_join_no b k _ (o + n) (by rw [List.length_drop, List.length_cons]; omega) xs x e2 hok, List.cons_append, e1]
    · rw [its_blank c m _ hb] at he
      rw [List.cons_append, its_blank c _ o hb, its_join_no b k m (o + 1) (by omega) xs x he hok]

/-- Where a token begins: not ahead of the first byte. -/
theorem its_ge : ∀ (k : Nat) (m : Bs) (o : Nat), m.length ≤ k → ∀ x ∈ its m o, (o : Int) ≤ x.t.p ∧ x.t.p < o + m.length
  | k, [], o, _, x, hx => by rw [its_nil] at hx; cases hx
  | 0, c :: m, o, h, _, _ => by simp at h
  | k + 1, c :: m, o, h, x, hx => by
    rw [List.length_cons] at h
    cases hb : blankB c
    · cases hf : firstP (c :: m) with
      | none =>
        rw [its_none c m _ hb hf] at hx
        simp at hx
        rw [hx, List.length_cons]; simp; omega
      | some y =>
        obtain ⟨t, n⟩ := y
        have hl := first_len (c :: m) (by simp) t n hf
        rw [its_some c m _ hb t n hf] at hx
        rcases List.mem_cons.1 hx with rfl | hx
        · rw [List.length_cons]; simp; omega
        · have := its_ge k _ (o + n) (by rw [List.length_drop, List.length_cons]; omega) x hx
          rw [List.length_drop] at this
          omega
    · rw [its_blank c m _ hb] at hx
      have := its_ge k m (o + 1) (by omega) x hx
      rw [List.length_cons]; omega
/-- Two blanks ahead of token number j, or behind all. -/
theorem its_wide (b : UInt8) (hb : blankB b = true) : ∀ (k : Nat) (m : Bs) (o j p : Nat), m.length ≤ k → (∀ x ∈ its m o, x.ok = true) → j ≤ (its m o).length →
    (∀ x, (its m o)[j]? = some x → ((o + p : Nat) : Int) = x.t.p) → (j = (its m o).length → p = m.length) →
    its (m.take p ++ b :: 32 :: m.drop p) o = (its m o).take j ++ ((its m o).drop j).map (IT.far 2)
  | k, [], o, j, p, _, _, hj, _, _ => by
    rw [its_nil] at hj ⊢
    simp only [List.take_nil, List.drop_nil, List.nil_append, List.map_nil]
    rw [its_blank b _ o hb, its_blank 32 _ _ (by decide), its_nil]
  | 0, c :: m, o, j, p, h, _, _, _, _ => by simp at h
  | k + 1, c :: m, o, j, p, h, hok, hj, hat, hend => by
    rw [List.length_cons] at h
    cases hc : blankB c
    · cases hf : firstP (c :: m) with
      | none =>
        rw [its_none c m _ hc hf] at hok
        have := hok _ (List.mem_singleton.2 rfl)
        cases this
      | some y =>
        obtain ⟨t, n⟩ := y
        have hl := first_len (c :: m) (by simp) t n hf
        cases j with
        | zero =>
          have h0 := hat ⟨t.at_ o, true⟩ (by rw [its_some c m _ hc t n hf]; rfl)
          have hp : p = 0 := by simp at h0; omega
          subst hp
          rw [List.take_zero, List.nil_append, List.drop_zero, List.take_zero, List.nil_append, List.drop_zero, its_blank b _ o hb, its_blank 32 _ _ (by decide)]
          exact its_far _ (c :: m) o 2 (Nat.le_refl _)
        | succ j =>
          have hI := its_some c m o hc t n hf
          rw [hI] at hok hj hat hend ⊢
          rw [List.length_cons] at hj
          have hpn : n ≤ p := by
            rcases Nat.lt_or_ge j (its ((c :: m).drop n) (o + n)).length with hlt | hge
            · have e := List.getElem?_eq_getElem hlt
              have h1 := hat _ (by rw [List.getElem?_cons_succ]; exact e)
              have h2 := its_ge _ _ (o + n) (Nat.le_refl _) _ (List.getElem_mem hlt)
              omega
            · have := hend (by rw [List.length_cons]; omega)
              omega
          have hf2 := first_less (c :: m) p n t (by simp) hf hpn
          have hlen : 0 < ((c :: m).take p).length := by rw [List.length_take, List.length_cons]; omega
          have hf3 := first_more ((c :: m).take p) (32 :: (c :: m).drop p) b hb hlen _ hf2
          have hdr : ((c :: m).take p ++ b :: 32 :: (c :: m).drop p).drop n = ((c :: m).drop n).take (p - n) ++ b :: 32 :: ((c :: m).drop n).drop (p - n) := by
            rw [List.drop_append_of_le_length (by rw [List.length_take]; omega), List.drop_take, List.drop_drop, show n + (p - n) = p from by omega]
          have hcons : ∃ r, (c :: m).take p ++ b :: 32 :: (c :: m).drop p = c :: r := by
            obtain ⟨p, rfl⟩ : ∃ p', p = p' + 1 := ⟨p - 1, by omega⟩
            exact ⟨_, rfl⟩
          obtain ⟨r, hr⟩ := hcons
          rw [hr] at hf3 hdr ⊢
          rw [its_some c r o hc t n hf3, hdr, List.take_succ_cons, List.drop_succ_cons, List.cons_append]
          rw [its_wide b hb k ((c :: m).drop n) (o + n) j (p - n) (by rw [List.length_drop, List.length_cons]; omega) (fun x hm => hok x (List.mem_cons_of_mem _ hm)) (by omega) (fun x hx => by
            have := hat x (by rw [List.getElem?_cons_succ]; exact hx)
            omega) (fun e => by
            have := hend (by rw [List.length_cons]; omega)
            rw [List.length_drop]; omega)]
    · rw [its_blank c m _ hc] at hok hj hat hend ⊢
      have hp : 1 ≤ p := by
        rcases Nat.lt_or_ge j (its m (o + 1)).length with hlt | hge
        · have e := List.getElem?_eq_getElem hlt
          have h1 := hat _ e
          have h2 := its_ge _ _ (o + 1) (Nat.le_refl _) _ (List.getElem_mem hlt)
          omega
        · have := hend (by omega)
          rw [List.length_cons] at this
          omega
      obtain ⟨p, rfl⟩ : ∃ p', p = p' + 1 := ⟨p - 1, by omega⟩
      rw [List.take_succ_cons, List.drop_succ_cons, List.cons_append, its_blank c _ o hc]
      exact its_wide b hb k m (o + 1) j p (by omega) hok hj (fun x hx => by have := hat x hx; omega) (fun e => by have := hend e; rw [List.length_cons] at this; omega)
/-- A wrong one is the last. -/
theorem its_last : ∀ (k : Nat) (m : Bs) (o : Nat), m.length ≤ k → (∀ x ∈ its m o, x.ok = true) ∨ ∃ xs x, its m o = xs ++ [x] ∧ (∀ y ∈ xs, y.ok = true) ∧ x.ok = false
  | k, [], o, _ => .inl (by rw [its_nil]; simp)
  | 0, c :: m, o, h => by simp at h
  | k + 1, c :: m, o, h => by
    rw [List.length_cons] at h
    cases hb : blankB c
    · cases hf : firstP (c :: m) with
      | none => exact .inr ⟨[], _, its_none c m o hb hf, by simp, rfl⟩
      | some y =>
        obtain ⟨t, n⟩ := y
        have hl := first_len (c :: m) (by simp) t n hf
        rw [its_some c m _ hb t n hf]
        rcases its_last k ((c :: m).drop n) (o + n) (by rw [List.length_drop, List.length_cons]; omega) with h1 | ⟨xs, x, h1, h2, h3⟩
        · exact .inl (fun x hx => (List.mem_cons.1 hx).elim (fun e => by rw [e]) (h1 x))
        · refine .inr ⟨⟨t.at_ o, true⟩ :: xs, x, by rw [h1]; rfl, fun y hy => ?_, h3⟩
          rcases List.mem_cons.1 hy with rfl | hy
          · rfl
          · exact h2 y hy
    · rw [its_blank c m _ hb]
      exact its_last k m (o + 1) (by omega)
end Go.Proofs.Ythjbmlgjlndihaa
