/- Carried over from an earlier seat. -/
import Derived.Test.YtllkimdlmnjoiaaGreatDoorELG
import Derived.Test.YtllkimdlmnjoiaaGreatDoorXL
import Derived.Test.YtllkimdlmnjoiaaGreatDoorTY
import Derived.Test.YtllkimdlmnjoiaaGreatDoorWC
import Derived.Test.YtllkimdlmnjoiaaGreatDoorXQ
namespace Go.Proofs.YtllkimdlmnjoiaaGreatDoor.E8
set_option maxRecDepth 100000
set_option maxRecDepth 100000

theorem all_bytes {p : UInt8 → Prop} [DecidablePred p] (h : ∀ n : Fin 256, p (UInt8.ofNat n.val)) (c : UInt8) : p c := by
  have := h ⟨c.toNat, c.toNat_lt⟩
  simpa using this
theorem blank_not (c : UInt8) : blankB c = true → letB c = false ∧ digB c = false ∧ ¬ c.toNat = 45 ∧ ¬ c.toNat = 39 ∧ signB c = false :=
  all_bytes (p := fun c => blankB c = true → letB c = false ∧ digB c = false ∧ ¬ c.toNat = 45 ∧ ¬ c.toNat = 39 ∧ signB c = false) (by decide) c

end Go.Proofs.YtllkimdlmnjoiaaGreatDoor.E8

/- Carried over from an earlier seat. -/
namespace Go.Proofs.YtllkimdlmnjoiaaGreatDoor.E8
set_option maxRecDepth 100000
set_option maxRecDepth 100000

def lexC : Nat → Bs → Nat → List IT
  | 0, _, _ => []
  | _ + 1, [], _ => []
  | f + 1, c :: m, o => if blankB c then lexC f m (o + 1) else
      match firstP (c :: m) with
      | none => [⟨TK.zero.at_ o, false⟩]
      | some r => ⟨r.1.at_ o, true⟩ :: lexC f ((c :: m).drop r.2) (o + r.2)
theorem lexC_fuel : ∀ (f g : Nat) (m : Bs) (o : Nat), m.length < f → m.length < g → lexC f m o = lexC g m o
  | 0, _, m, _, h, _ => by omega
  | _, 0, m, _, _, h => by omega
  | f + 1, g + 1, [], o, _, _ => rfl
  | f + 1, g + 1, c :: m, o, hf, hg => by
    rw [List.length_cons] at hf hg
    simp only [lexC]
    split
    · exact lexC_fuel f g m _ (by omega) (by omega)
    · cases hx : firstP (c :: m) with
      | none => rfl
      | some r =>
        have := first_len (c :: m) (by simp) r.1 r.2 hx
        rw [List.length_cons] at this
        simp only []
        rw [lexC_fuel f g _ _ (by rw [List.length_drop, List.length_cons]; omega) (by rw [List.length_drop, List.length_cons]; omega)]
/-- The tokens of bytes that begin at a place. -/
def its (m : Bs) (o : Nat) : List IT := lexC (m.length + 1) m o
theorem its_nil (o : Nat) : its [] o = [] := rfl
theorem its_blank (c : UInt8) (m : Bs) (o : Nat) (h : blankB c = true) : its (c :: m) o = its m (o + 1) := by
  unfold its
  rw [List.length_cons]
  conv => lhs; unfold lexC
  rw [if_pos h]
theorem its_none (c : UInt8) (m : Bs) (o : Nat) (h : blankB c = false) (hx : firstP (c :: m) = none) : its (c :: m) o = [⟨TK.zero.at_ o, false⟩] := by
  unfold its
  rw [List.length_cons]
  conv => lhs; unfold lexC
  rw [if_neg (by simp [h]), hx]
theorem its_some (c : UInt8) (m : Bs) (o : Nat) (h : blankB c = false) (t : TK) (n : Nat) (hx : firstP (c :: m) = some (t, n)) : its (c :: m) o = ⟨t.at_ o, true⟩ :: its ((c :: m).drop n) (o + n) := by
  have hl := first_len (c :: m) (by simp) t n hx
  rw [List.length_cons] at hl
  unfold its
  rw [List.length_cons]
  conv => lhs; unfold lexC
  rw [if_neg (by simp [h]), hx]
  simp only []
  rw [lexC_fuel _ ((((c :: m).drop n).length) + 1) _ _ (by rw [List.length_drop, List.length_cons]; omega) (by omega)]
theorem its_past : ∀ (m : Bs) (o : Nat), its m o = its (m.drop (m.takeWhile blankB).length) (o + (m.takeWhile blankB).length)
  | [], o => rfl
  | c :: m, o => by
    rw [List.takeWhile_cons]
    cases h : blankB c
    · simp
    · rw [its_blank c m o h, its_past m (o + 1)]
      simp only [if_true, List.length_cons, List.drop_succ_cons]
      rw [show o + 1 + (m.takeWhile blankB).length = o + ((m.takeWhile blankB).length + 1) from by omega]
theorem past_head : ∀ (m : Bs) (c : UInt8) (r : Bs), m.drop (m.takeWhile blankB).length = c :: r → blankB c = false
  | [], c, r, h => by simp at h
  | d :: m, c, r, h => by
    rw [List.takeWhile_cons] at h
    cases hd : blankB d
    · rw [hd] at h
      simp at h
      rw [← h.1]; exact hd
    · rw [hd] at h
      simp at h
      exact past_head m c r h
theorem lexA_its : ∀ (f : Nat) (l : Bs) (p : Nat), p ≤ l.length → l.length < f + p → lexA f l (runN blankB l p) = its (l.drop p) p
  | 0, l, p, hp, hf => by omega
  | f + 1, l, p, hp, hf => by
    rw [its_past (l.drop p) p]
    have hq := runN_le blankB l p hp
    have hge := runN_ge blankB l p
    rw [List.drop_drop]
    have e : p + ((l.drop p).takeWhile blankB).length = runN blankB l p := rfl
    rw [e]
    generalize hz : runN blankB l p = q at hq hge e
    by_cases hlt : q < l.length
    · cases hd : l.drop q with
      | nil => have := congrArg List.length hd; rw [List.length_drop] at this; simp at this; omega
      | cons c r =>
        have hb : blankB c = false := past_head (l.drop p) c r (by rw [List.drop_drop, e]; exact hd)
        cases hx : firstP (c :: r) with
        | none => rw [lexA_none (f + 1) l q (by omega) hlt (by rw [hd]; exact hx), its_none c r q hb hx]
        | some y =>
          obtain ⟨t, n⟩ := y
          have hl := first_len (c :: r) (by simp) t n hx
          rw [← hd, List.length_drop] at hl
          rw [lexA_some f l q hlt t n (by rw [hd]; exact hx), its_some c r q hb t n hx, lexA_its f l (q + n) (by omega) (by omega), ← hd, List.drop_drop]
    · rw [lexA_end _ _ _ hlt, List.drop_eq_nil_of_le (by omega)]; rfl
theorem items_its (l : Bs) : itemsL l = its l 0 := by
  have := lexA_its (l.length + 1) l 0 (by omega) (by omega)
  rw [List.drop_zero] at this
  exact this

/-- A token farther behind. -/
def IT.far (d : Nat) (x : IT) : IT := ⟨⟨x.t.k, x.t.p + d, x.t.s, x.t.n⟩, x.ok⟩
/-- Where a token begins: not ahead of the first byte. -/
theorem its_ge : ∀ (k : Nat) (m : Bs) (o : Nat), m.length ≤ k → ∀ x ∈ its m o, (o : Int) ≤ x.t.p ∧ x.t.p < o + m.length
  | k, [], o, _, x, hx => by rw [its_nil] at hx; cases hx
  | 0, c :: m, o, h, _, _ => by simp at h
  | k + 1, c :: m, o, h, x, hx => by
    rw [List.length_cons] at h
    cases hb : blankB c
    · cases hf : firstP (c :: m) with
      | none =>
        rw [its_none c m _ hb hf] at hx
        simp at hx
        rw [hx, List.length_cons]; simp; omega
      | some y =>
        obtain ⟨t, n⟩ := y
        have hl := first_len (c :: m) (by simp) t n hf
        rw [its_some c m _ hb t n hf] at hx
        rcases List.mem_cons.1 hx with rfl | hx
        · rw [List.length_cons]; simp; omega
        · have := its_ge k _ (o + n) (by rw [List.length_drop, List.length_cons]; omega) x hx
          rw [List.length_drop] at this
          omega
    · rw [its_blank c m _ hb] at hx
      have := its_ge k m (o + 1) (by omega) x hx
      rw [List.length_cons]; omega
end Go.Proofs.YtllkimdlmnjoiaaGreatDoor.E8

/- There and back, plain: what is written is read as it was. -/
namespace Go.Proofs.YtllkimdlmnjoiaaGreatDoor
set_option maxRecDepth 100000
open Go.RowKit Go.Sort

/-- A token without its place. -/
def erK (t : Tk) : Tk := ⟨t.k, 0, t.s, t.n⟩
def sgK (c : UInt8) : Tk := ⟨4, 0, [c], 0⟩
def nmK (s : List UInt8) : Tk := ⟨1, 0, s, 0⟩
def nbK (n : Int) : Tk := ⟨2, 0, digL n, n⟩
def txK (s : List UInt8) : Tk := ⟨3, 0, s, 0⟩
/-- Each one's tokens, with a comma between. -/
def comK {α : Type} (f : α → List Tk) (l : List α) : List Tk := l.flatMap fun y => sgK 44 :: f y
def sepK {α : Type} (f : α → List Tk) : List α → List Tk
  | [] => []
  | x :: r => f x ++ comK f r
def tkV : Nat → V → List Tk
  | 0, _ => []
  | r + 1, v => if v.k = 1 then [nmK (if v.n = 0 then [102, 97, 108, 115, 101] else [116, 114, 117, 101])] else if v.k = 2 then [nbK v.n] else if v.k = 3 then [txK v.s.toList]
    else sgK 91 :: (sepK (tkV r) v.l ++ [sgK 93])
def tkP : Nat → P → List Tk
  | 0, _ => []
  | r + 1, p => nmK (nameP p.k) :: sgK 40 :: ((if 0 < p.p.length then sepK (tkP r) p.p else sepK (tkV 12) p.v) ++ [sgK 41])
def tkG (f : List C → List Tk) (g : Ag) : List Tk := if g.k = 1 then tkV 12 g.v else if g.k = 2 then tkP 12 g.p else if g.k = 3 then f g.c else [nmK g.s.toList]
def tkCall (f : List C → List Tk) (x : C) : List Tk := sgK 46 :: nmK x.n.toList :: sgK 40 :: (sepK (tkG f) x.a ++ [sgK 41])
def tkC : Nat → List UInt8 → List C → List Tk
  | 0, first, _ => [nmK first]
  | r + 1, first, l => nmK first :: l.flatMap (tkCall (tkC r [95, 95]))
/-- These tokens, wherever they stand. -/
def As (ts es : List Tk) : Prop := ts.map erK = es
theorem As.split {ts a b : List Tk} (h : As ts (a ++ b)) : ∃ t1 t2, ts = t1 ++ t2 ∧ As t1 a ∧ As t2 b := by
  obtain ⟨t1, t2, e, h1, h2⟩ := List.map_eq_append_iff.1 h
  exact ⟨t1, t2, e, h1, h2⟩
theorem As.cons {ts b : List Tk} {x : Tk} (h : As ts (x :: b)) : ∃ t t2, ts = t :: t2 ∧ erK t = x ∧ As t2 b := by
  obtain ⟨t, t2, e, h1, h2⟩ := List.map_eq_cons_iff.1 h
  exact ⟨t, t2, e, h1, h2⟩
theorem As.nil {ts : List Tk} (h : As ts []) : ts = [] := by simpa [As] using h
theorem er_k {t x : Tk} (h : erK t = x) : t.k = x.k ∧ t.s = x.s ∧ t.n = x.n := by subst h; exact ⟨rfl, rfl, rfl⟩
theorem sees_sg {t : Tk} {c : UInt8} (h : erK t = sgK c) (l : List Tk) (d : UInt8) : sees (t :: l) [d] = (c == d) := by
  obtain ⟨h1, h2, _⟩ := er_k h
  show (t.k == 4 && t.s == [d]) = _
  rw [h1, h2]
  show ((4 : Int) == 4 && [c] == [d]) = _
  cases hb : (c == d)
  · rw [Bool.and_eq_false_iff]; right
    rw [beq_eq_false_iff_ne] at hb ⊢
    intro e; injection e with e; exact hb e
  · rw [beq_iff_eq] at hb; subst hb; simp
theorem com_no {α : Type} (F : α → List Tk) (last : UInt8) (h46 : last ≠ 46) (xs : List α) (t4 : List Tk) (lt : Tk) (rest : List Tk) (h4 : As t4 (comK F xs)) (hlt : erK lt = sgK last) : sees (t4 ++ lt :: rest) [46] = false := by
  cases xs with
  | nil =>
    have e : t4 = [] := As.nil h4
    subst e
    rw [List.nil_append, sees_sg hlt, beq_eq_false_iff_ne]; exact h46
  | cons y ys =>
    have h' : As t4 (sgK 44 :: (F y ++ comK F ys)) := h4
    obtain ⟨u, u2, rfl, he, _⟩ := h'.cons
    rw [List.cons_append, sees_sg he]; rfl
/-- Behind a comma, each; then the sign at the end. -/
theorem btl_back {α : Type} (F : α → List Tk) (cost : α → Nat) (ok : α → Prop) (last : UInt8) (a : Int) (m : Bool) (lim : Nat) (rd : Nat → List Tk → Nat → Rs α) (hl : last ≠ 44)
    (h46 : last ≠ 46) (hrd : ∀ i x ts rest n, ok x → i < lim → As ts (F x) → sees rest [46] = false → n + cost x ≤ 200 → rd i (ts ++ rest) n = .ok x rest (n + cost x)) :
    ∀ (xs acc : List α) (f : Nat) (ts : List Tk) (lt : Tk) (rest : List Tk) (n : Nat), (∀ x ∈ xs, ok x) → 0 < acc.length → acc.length + xs.length ≤ lim → As ts (comK F xs) → erK lt = sgK last → a ≤ ((acc.length + xs.length : Nat) : Int) → (m = true ∨ ((acc.length + xs.length : Nat) : Int) ≤ a) → xs.length < f →
      n + (xs.map cost).sum ≤ 200 → btl [last] a m rd f acc (ts ++ lt :: rest) n = .ok (acc ++ xs) rest (n + (xs.map cost).sum) := by
  intro xs
  induction xs with
  | nil =>
    intro acc f ts lt rest n _ h0 _ hts hlt ha _ hf _
    obtain ⟨f, rfl⟩ : ∃ g, f = g + 1 := ⟨f - 1, by simp at hf; omega⟩
    rw [hts.nil, List.nil_append, btl_stop _ _ _ _ _ _ _ _ (by rw [sees_sg hlt, beq_self_eq_true, Bool.and_true]; simpa using ha)]
    simp
  | cons x xs ih =>
    intro acc f ts lt rest n hok h0 hlim hts hlt ha hm hf hn
    obtain ⟨f, rfl⟩ : ∃ g, f = g + 1 := ⟨f - 1, by omega⟩
    have hts' : As ts (sgK 44 :: (F x ++ comK F xs)) := hts
    obtain ⟨t, t2, rfl, he, ht2⟩ := hts'.cons
    obtain ⟨t3, t4, rfl, h3, h4⟩ := ht2.split
    simp only [List.length_cons] at hlim ha hm hf
    simp only [List.map_cons, List.sum_cons] at hn ⊢
    rw [List.cons_append, btl_more _ _ _ _ _ _ _ _ (by rw [sees_sg he, beq_eq_false_iff_ne.2 (fun e => hl e.symm), Bool.and_false]) h0 (by
      rw [sees_sg he, beq_self_eq_true, Bool.and_true]
      rcases hm with hm | hm
      · rw [hm, Bool.or_true]
      · rw [Bool.or_eq_true]; left; rw [decide_eq_true_eq]; omega)]
    rw [List.tail_cons, List.append_assoc, hrd _ x t3 _ n (hok x (by simp)) (by omega) h3 (com_no F last h46 xs t4 lt rest h4 hlt) (by omega)]
    show btl [last] a m rd f (acc ++ [x]) (t4 ++ lt :: rest) (n + cost x) = _
    rw [ih (acc ++ [x]) f t4 lt rest (n + cost x) (fun y hy => hok y (by simp [hy])) (by simp) (by simp; omega) h4 hlt (by simp at ha ⊢; omega) (by rcases hm with hm | hm; exact .inl hm; right; simp at hm ⊢; omega) (by omega) (by omega)]
    rw [List.append_assoc, Nat.add_assoc]; rfl
theorem btw_back {α : Type} (F : α → List Tk) (cost : α → Nat) (ok : α → Prop) (first last : UInt8) (a : Int) (m : Bool) (lim : Nat) (rd : Nat → List Tk → Nat → Rs α) (hl : last ≠ 44)
    (hF : ∀ x, ok x → ∃ t r, F x = t :: r ∧ (t.k = 4 → t.s ≠ [last]))
    (h46 : last ≠ 46) (hrd : ∀ i x ts rest n, ok x → i < lim → As ts (F x) → sees rest [46] = false → n + cost x ≤ 200 → rd i (ts ++ rest) n = .ok x rest (n + cost x))
    (xs : List α) (ts : List Tk) (ft lt : Tk) (rest : List Tk) (n : Nat) (hok : ∀ x ∈ xs, ok x) (hlim : xs.length ≤ lim) (hts : As ts (sepK F xs)) (hft : erK ft = sgK first) (hlt : erK lt = sgK last) (ha : a ≤ (xs.length : Int)) (hm : m = true ∨ (xs.length : Int) ≤ a)
    (hn : n + (xs.map cost).sum ≤ 200) : btw [first] [last] a m rd (ft :: (ts ++ lt :: rest)) n = .ok xs rest (n + (xs.map cost).sum) := by
  unfold btw
  rw [if_pos (by rw [sees_sg hft, beq_self_eq_true]), List.tail_cons]
  cases xs with
  | nil =>
    have e : ts = [] := As.nil hts
    subst e
    rw [List.nil_append, btl_stop _ _ _ _ _ _ _ _ (by rw [sees_sg hlt, beq_self_eq_true, Bool.and_true]; simpa using ha)]
    simp
  | cons x xs =>
    have hts' : As ts (F x ++ comK F xs) := hts
    obtain ⟨t3, t4, rfl, h3, h4⟩ := hts'.split
    obtain ⟨t0, r0, e0, hne⟩ := hF x (hok x (by simp))
    have hs : sees (t3 ++ t4 ++ lt :: rest) [last] = false := by
      rw [e0] at h3
      obtain ⟨t, t5, rfl, he, _⟩ := h3.cons
      obtain ⟨k1, k2, _⟩ := er_k he
      show (t.k == 4 && t.s == [last]) = false
      by_cases hk : t.k = 4
      · rw [Bool.and_eq_false_iff]; right
        rw [beq_eq_false_iff_ne, k2]; exact hne (by rw [← k1]; exact hk)
      · rw [beq_eq_false_iff_ne.2 hk]; rfl
    have hlen : xs.length ≤ t4.length := by
      have : ∀ (ys : List α) (t : List Tk), As t (comK F ys) → ys.length ≤ t.length := by
        intro ys
        induction ys with
        | nil => intro t _; simp
        | cons y ys ih =>
          intro t h
          have h' : As t (sgK 44 :: (F y ++ comK F ys)) := h
          obtain ⟨u, u2, rfl, _, hu⟩ := h'.cons
          obtain ⟨u3, u4, rfl, _, hu4⟩ := hu.split
          have := ih u4 hu4
          simp; omega
      exact this xs t4 h4
    simp only [List.length_cons] at hlim ha hm
    simp only [List.map_cons, List.sum_cons] at hn ⊢
    rw [btl_first _ _ _ _ _ _ _ _ (by rw [hs, Bool.and_false]) rfl, List.append_assoc, hrd 0 x t3 _ n (hok x (by simp)) (by omega) h3 (com_no F last h46 xs t4 lt rest h4 hlt) (by omega)]
    show btl [last] a m rd _ [x] (t4 ++ lt :: rest) (n + cost x) = _
    rw [btl_back F cost ok last a m lim rd hl h46 hrd xs [x] _ t4 lt rest (n + cost x) (fun y hy => hok y (by simp [hy])) (by simp) (by simp; omega) h4 hlt (by simp at ha ⊢; omega) (by rcases hm with hm | hm; exact .inl hm; right; simp at hm ⊢; omega) (by simp; omega) (by omega)]
    rw [Nat.add_assoc]; rfl
theorem empty_of {s : ByteArray} (h : s.toList.isEmpty = true) : s = ⟨#[]⟩ := by
  rw [← str_eta s, List.isEmpty_iff.1 h]
/-- A value that is written, and may be, is one of these. -/
theorem form_V {r : Nat} {v : V} (h : fitsV v = true) (hw : wrV (r + 1) v = true) :
    v = .mk 1 0 ⟨#[]⟩ [] [] ∨ v = .mk 1 1 ⟨#[]⟩ [] [] ∨ (∃ n, v = .mk 2 n ⟨#[]⟩ [] []) ∨ (∃ s : ByteArray, v = .mk 3 0 s [] []) ∨ ∃ l : List V, v = .mk 6 0 ⟨#[]⟩ l [] ∧ l.length ≤ 1000 ∧ l.all (wrV r) = true := by
  obtain ⟨k, n, s, l, m⟩ := v
  replace h : (if k = 1 then (n == 0 || n == 1) && s.toList.isEmpty && (l.length == 0 && m.length == 0)
    else if k = 2 then s.toList.isEmpty && (l.length == 0 && m.length == 0)
    else if k = 3 then n == 0 && decide (s.size ≤ 1000) && (l.length == 0 && m.length == 0)
    else if k = 4 ∨ k = 5 then decide (0 ≤ n) && s.toList.isEmpty && (l.length == 0 && m.length == 0)
    else if k = 6 ∨ k = 8 then n == 0 && s.toList.isEmpty && decide (l.length ≤ 1000) && m.length == 0
    else if k = 7 then n == 0 && s.toList.isEmpty && decide (l.length ≤ 1000) && m.length == l.length
    else false) = true := h
  replace hw : (if k = 1 ∨ k = 2 then true else if k = 3 then s.toList.all (fun c => decide (32 ≤ c.toNat)) else if k = 6 then l.all (wrV r) else false) = true := hw
  by_cases h1 : k = 1
  · rw [if_pos h1] at h
    simp only [Bool.and_eq_true, Bool.or_eq_true, beq_iff_eq] at h
    obtain ⟨⟨hn, hs⟩, hl, hm⟩ := h
    have := empty_of hs
    have e1 := List.length_eq_zero_iff.1 hl
    have e2 := List.length_eq_zero_iff.1 hm
    subst this e1 e2 h1
    rcases hn with rfl | rfl
    · exact .inl rfl
    · exact .inr (.inl rfl)
  rw [if_neg h1] at h
  by_cases h2 : k = 2
  · rw [if_pos h2] at h
    simp only [Bool.and_eq_true, beq_iff_eq] at h
    obtain ⟨hs, hl, hm⟩ := h
    have := empty_of hs
    have e1 := List.length_eq_zero_iff.1 hl
    have e2 := List.length_eq_zero_iff.1 hm
    subst this e1 e2 h2
    exact .inr (.inr (.inl ⟨n, rfl⟩))
  rw [if_neg h2] at h
  by_cases h3 : k = 3
  · rw [if_pos h3] at h
    simp only [Bool.and_eq_true, beq_iff_eq] at h
    obtain ⟨⟨hn, _⟩, hl, hm⟩ := h
    have e1 := List.length_eq_zero_iff.1 hl
    have e2 := List.length_eq_zero_iff.1 hm
    subst hn e1 e2 h3
    exact .inr (.inr (.inr (.inl ⟨s, rfl⟩)))
  rw [if_neg h3] at h
  by_cases h6 : k = 6
  · rw [if_neg (by omega), if_pos (.inl h6)] at h
    rw [if_neg (by omega), if_neg h3, if_pos h6] at hw
    simp only [Bool.and_eq_true, beq_iff_eq, decide_eq_true_eq] at h
    obtain ⟨⟨⟨hn, hs⟩, hl⟩, hm⟩ := h
    have := empty_of hs
    have e2 := List.length_eq_zero_iff.1 hm
    subst this hn e2 h6
    exact .inr (.inr (.inr (.inr ⟨l, rfl, hl, hw⟩)))
  · rw [if_neg (by omega), if_neg h3, if_neg h6] at hw
    cases hw
theorem cost0 {α : Type} (xs : List α) : (xs.map fun _ => 0).sum = 0 := by
  induction xs with
  | nil => rfl
  | cons x xs ih => rw [List.map_cons, List.sum_cons, ih]
theorem tkV_head {r : Nat} {v : V} (h : okV r v = true) (hw : wrV r v = true) : ∃ t l, tkV r v = t :: l ∧ (t.k = 4 → t.s = [91]) ∧ begV t = true := by
  cases r with
  | zero => cases h
  | succ r =>
    have h' : (fitsV v && v.l.all (okV r) && v.m.all (okV r) && (v.k != 7 || risesV v.l)) = true := h
    simp only [Bool.and_eq_true] at h'
    rcases form_V h'.1.1.1 hw with rfl | rfl | ⟨n, rfl⟩ | ⟨s, rfl⟩ | ⟨l, rfl, _, _⟩
    · exact ⟨_, _, rfl, fun e => absurd e (by decide), rfl⟩
    · exact ⟨_, _, rfl, fun e => absurd e (by decide), rfl⟩
    · exact ⟨_, _, rfl, fun e => absurd e (show (2 : Int) ≠ 4 by decide), rfl⟩
    · exact ⟨_, _, rfl, fun e => absurd e (show (3 : Int) ≠ 4 by decide), rfl⟩
    · exact ⟨_, _, rfl, fun _ => rfl, rfl⟩
theorem begV_er {t x : Tk} (h : erK t = x) : begV t = begV x := by
  obtain ⟨h1, h2, _⟩ := er_k h
  unfold begV; rw [h1, h2]
theorem bsT_of (s : ByteArray) : bsT s.toList = s := E8.bs_of s
/-- A value's tokens are the value. -/
theorem val_back : ∀ (r : Nat) (v : V) (ts rest : List Tk) (n : Nat), okV r v = true → wrV r v = true → n ≤ 200 → As ts (tkV r v) → valT r (ts ++ rest) n = .ok v rest n := by
  intro r
  induction r with
  | zero => intro v ts rest n h; cases h
  | succ r ih =>
    intro v ts rest n h hw hn hts
    have h' : (fitsV v && v.l.all (okV r) && v.m.all (okV r) && (v.k != 7 || risesV v.l)) = true := h
    simp only [Bool.and_eq_true, List.all_eq_true] at h'
    obtain ⟨⟨⟨hf, hl⟩, _⟩, _⟩ := h'
    have sgl : ∀ (x : Tk), tkV (r + 1) v = [x] → begV x = true → x.k ≠ 4 → (∀ p, singV ⟨x.k, p, x.s, x.n⟩ = v) → valT (r + 1) (ts ++ rest) n = .ok v rest n := by
      intro x hx hb hk hs
      rw [hx] at hts
      obtain ⟨t, t2, rfl, he, h2⟩ := hts.cons
      rw [As.nil h2]
      obtain ⟨e1, e2, e3⟩ := er_k he
      show (if begV t = true then _ else _) = _
      rw [if_pos (by rw [begV_er he]; exact hb)]
      show (if t.k = 4 then _ else Rs.ok (singV t) rest n) = _
      rw [if_neg (by rw [e1]; exact hk)]
      have : t = ⟨x.k, t.p, x.s, x.n⟩ := by rw [← e1, ← e2, ← e3]
      rw [this, hs]
    rcases form_V hf hw with rfl | rfl | ⟨m, rfl⟩ | ⟨s, rfl⟩ | ⟨l, rfl, hle, hwl⟩
    · exact sgl _ rfl rfl (by decide) (fun _ => rfl)
    · exact sgl _ rfl rfl (by decide) (fun _ => rfl)
    · exact sgl _ rfl rfl (show (2 : Int) ≠ 4 by decide) (fun _ => rfl)
    · refine sgl _ rfl rfl (show (3 : Int) ≠ 4 by decide) (fun p => ?_)
      show V.mk 3 0 (bsT s.toList) [] [] = _
      rw [bsT_of]
    · have hts' : As ts (sgK 91 :: (sepK (tkV r) l ++ [sgK 93])) := hts
      obtain ⟨t, t2, rfl, he, h2⟩ := hts'.cons
      obtain ⟨t3, t4, rfl, h3, h4⟩ := h2.split
      obtain ⟨lt, t5, rfl, hlt, h5⟩ := h4.cons
      have e5 := As.nil h5
      subst e5
      obtain ⟨e1, e2, e3⟩ := er_k he
      have hB := btw_back (tkV r) (fun _ => 0) (fun x => okV r x = true ∧ wrV r x = true) 91 93 0 true 1000 (rdV (valT r)) (by decide)
        (fun x hx => by
          obtain ⟨t, r', e, h4, _⟩ := tkV_head hx.1 hx.2
          exact ⟨t, r', e, fun hk => by rw [h4 hk]; decide⟩)
        (by decide)
        (fun i x ts rest n hx hi hts _ hn => by
          unfold rdV
          rw [if_neg (by omega)]
          exact ih x ts rest n hx.1 hx.2 hn hts)
        l t3 t lt rest n (fun x hx => ⟨hl x hx, List.all_eq_true.1 hwl x hx⟩) hle h3 he hlt (by omega) (.inl rfl) (by rw [cost0]; exact hn)
      rw [cost0] at hB
      rw [List.cons_append, List.append_assoc, List.singleton_append]
      show (if begV t = true then _ else _) = _
      rw [if_pos (by rw [begV_er he]; rfl)]
      show (if t.k = 4 then _ else _) = _
      rw [if_pos (by rw [e1]; rfl), hB]
      rfl
/-- A predicate's kind, by its name. -/
theorem kind_back {t : Tk} {k : Int} (h1 : 1 ≤ k) (h2 : k ≤ 14) (ht : erK t = nmK (nameP k)) : kindT t = k := by
  obtain ⟨e1, e2, _⟩ := er_k ht
  unfold kindT
  rw [e1, e2]
  obtain rfl | rfl | rfl | rfl | rfl | rfl | rfl | rfl | rfl | rfl | rfl | rfl | rfl | rfl : k = 1 ∨ k = 2 ∨ k = 3 ∨ k = 4 ∨ k = 5 ∨ k = 6 ∨ k = 7 ∨ k = 8 ∨ k = 9 ∨ k = 10 ∨ k = 11 ∨ k = 12 ∨ k = 13 ∨ k = 14 := by omega
  all_goals rfl
theorem no_beg {t : Tk} {k : Int} (h1 : 1 ≤ k) (h2 : k ≤ 14) (ht : erK t = nmK (nameP k)) : begV t = false := by
  rw [begV_er ht]
  obtain rfl | rfl | rfl | rfl | rfl | rfl | rfl | rfl | rfl | rfl | rfl | rfl | rfl | rfl : k = 1 ∨ k = 2 ∨ k = 3 ∨ k = 4 ∨ k = 5 ∨ k = 6 ∨ k = 7 ∨ k = 8 ∨ k = 9 ∨ k = 10 ∨ k = 11 ∨ k = 12 ∨ k = 13 ∨ k = 14 := by omega
  all_goals rfl
/-- A predicate that may be is made of values, or of predicates. -/
theorem form_P {p : P} (h : fitsP p = true) : 1 ≤ p.k ∧ p.k ≤ 14 ∧
    ((madeT p.k = false ∧ (∃ vs, p = .mk p.k vs [] ∧ vs.length ≤ 1000 ∧ (hasT p.k).1 ≤ (vs.length : Int) ∧ ((hasT p.k).2 = true ∨ (vs.length : Int) ≤ (hasT p.k).1))) ∨
     (madeT p.k = true ∧ (∃ ps, p = .mk p.k [] ps ∧ 0 < ps.length ∧ ps.length ≤ 1000 ∧ (hasT p.k).1 ≤ (ps.length : Int) ∧ ((hasT p.k).2 = true ∨ (ps.length : Int) ≤ (hasT p.k).1)))) := by
  obtain ⟨k, vs, ps⟩ := p
  replace h : (if 1 ≤ k ∧ k ≤ 6 then vs.length == 1 && ps.length == 0 else if 7 ≤ k ∧ k ≤ 9 then vs.length == 2 && ps.length == 0 else if 10 ≤ k ∧ k ≤ 11 then decide (vs.length ≤ 1000) && ps.length == 0
    else if k = 12 then vs.length == 0 && ps.length == 1 else if 13 ≤ k ∧ k ≤ 14 then vs.length == 0 && (decide (2 ≤ ps.length) && decide (ps.length ≤ 1000)) else false) = true := h
  show 1 ≤ k ∧ k ≤ 14 ∧
    ((madeT k = false ∧ (∃ vs1, P.mk k vs ps = .mk k vs1 [] ∧ vs1.length ≤ 1000 ∧ (hasT k).1 ≤ (vs1.length : Int) ∧ ((hasT k).2 = true ∨ (vs1.length : Int) ≤ (hasT k).1))) ∨
     (madeT k = true ∧ (∃ ps1, P.mk k vs ps = .mk k [] ps1 ∧ 0 < ps1.length ∧ ps1.length ≤ 1000 ∧ (hasT k).1 ≤ (ps1.length : Int) ∧ ((hasT k).2 = true ∨ (ps1.length : Int) ≤ (hasT k).1))))
  by_cases h1 : 1 ≤ k ∧ k ≤ 6
  · rw [if_pos h1] at h
    simp only [Bool.and_eq_true, beq_iff_eq] at h
    have e := List.length_eq_zero_iff.1 h.2
    subst e
    have hh : hasT k = (1, false) := by unfold hasT; rw [if_neg (by omega), if_neg (by omega), if_neg (by omega)]
    have hm : madeT k = false := by unfold madeT; simp only [Bool.or_eq_false_iff, beq_eq_false_iff_ne]; omega
    rw [hh]
    exact ⟨by omega, by omega, .inl ⟨hm, vs, rfl, by omega, by simp only []; omega, .inr (by simp only []; omega)⟩⟩
  rw [if_neg h1] at h
  by_cases h2 : 7 ≤ k ∧ k ≤ 9
  · rw [if_pos h2] at h
    simp only [Bool.and_eq_true, beq_iff_eq] at h
    have e := List.length_eq_zero_iff.1 h.2
    subst e
    have hh : hasT k = (2, false) := by unfold hasT; rw [if_pos (by omega)]
    have hm : madeT k = false := by unfold madeT; simp only [Bool.or_eq_false_iff, beq_eq_false_iff_ne]; omega
    rw [hh]
    exact ⟨by omega, by omega, .inl ⟨hm, vs, rfl, by omega, by simp only []; omega, .inr (by simp only []; omega)⟩⟩
  rw [if_neg h2] at h
  by_cases h3 : 10 ≤ k ∧ k ≤ 11
  · rw [if_pos h3] at h
    simp only [Bool.and_eq_true, beq_iff_eq, decide_eq_true_eq] at h
    have e := List.length_eq_zero_iff.1 h.2
    subst e
    have hh : hasT k = (0, true) := by unfold hasT; rw [if_neg (by omega), if_pos (by omega)]
    have hm : madeT k = false := by unfold madeT; simp only [Bool.or_eq_false_iff, beq_eq_false_iff_ne]; omega
    rw [hh]
    exact ⟨by omega, by omega, .inl ⟨hm, vs, rfl, by omega, by simp only []; omega, .inl rfl⟩⟩
  rw [if_neg h3] at h
  by_cases h4 : k = 12
  · rw [if_pos h4] at h
    simp only [Bool.and_eq_true, beq_iff_eq] at h
    have e := List.length_eq_zero_iff.1 h.1
    subst e
    have hh : hasT k = (1, false) := by unfold hasT; rw [if_neg (by omega), if_neg (by omega), if_neg (by omega)]
    have hm : madeT k = true := by unfold madeT; simp only [Bool.or_eq_true, beq_iff_eq]; omega
    rw [hh]
    exact ⟨by omega, by omega, .inr ⟨hm, ps, rfl, by omega, by omega, by simp only []; omega, .inr (by simp only []; omega)⟩⟩
  rw [if_neg h4] at h
  by_cases h5 : 13 ≤ k ∧ k ≤ 14
  · rw [if_pos h5] at h
    simp only [Bool.and_eq_true, beq_iff_eq, decide_eq_true_eq] at h
    have e := List.length_eq_zero_iff.1 h.1
    subst e
    have hh : hasT k = (2, true) := by unfold hasT; rw [if_neg (by omega), if_neg (by omega), if_pos (by omega)]
    have hm : madeT k = true := by unfold madeT; simp only [Bool.or_eq_true, beq_iff_eq]; omega
    rw [hh]
    exact ⟨by omega, by omega, .inr ⟨hm, ps, rfl, by omega, by omega, by simp only []; omega, .inl rfl⟩⟩
  rw [if_neg h5] at h
  cases h
end Go.Proofs.YtllkimdlmnjoiaaGreatDoor
/- There and back, plain: predicates, arguments, calls, chains, queries. -/
namespace Go.Proofs.YtllkimdlmnjoiaaGreatDoor
set_option maxRecDepth 100000
open Go.RowKit Go.Sort

theorem nil_bytes : (⟨#[]⟩ : ByteArray).toList = [] := by rw [ByteArray.toList_eq]
theorem kindT_er {t x : Tk} (h : erK t = x) : kindT t = kindT x := by
  obtain ⟨h1, h2, _⟩ := er_k h
  unfold kindT; rw [h1, h2]
theorem prdT_step (r : Nat) (t : Tk) (l : List Tk) (n : Nat) (k : Int) (hk : kindT t = k) (h0 : k ≠ 0) : prdT (r + 1) (t :: l) n =
    if madeT k = true then (btw [40] [41] (hasT k).1 (hasT k).2 (rdP (prdT r)) l n).map (fun ps => .mk k [] ps) else (btw [40] [41] (hasT k).1 (hasT k).2 (rdV (valT 12)) l n).map (fun vs => .mk k vs []) := by
  subst hk
  show (if kindT t = 0 then _ else _) = _
  rw [if_neg h0]; rfl
theorem tkP_head {r : Nat} {p : P} (h : okP r p = true) : ∃ l, tkP r p = nmK (nameP p.k) :: l ∧ 1 ≤ p.k ∧ p.k ≤ 14 := by
  cases r with
  | zero => cases h
  | succ r =>
    have h' : (fitsP p && p.v.all (okV 12) && p.p.all (okP r)) = true := h
    simp only [Bool.and_eq_true] at h'
    obtain ⟨h1, h2, _⟩ := form_P h'.1.1
    exact ⟨_, rfl, h1, h2⟩
/-- A predicate's tokens are the predicate. -/
theorem prd_back : ∀ (r : Nat) (p : P) (ts rest : List Tk) (n : Nat), okP r p = true → wrP r p = true → n ≤ 200 → As ts (tkP r p) → prdT r (ts ++ rest) n = .ok p rest n := by
  intro r
  induction r with
  | zero => intro p ts rest n h; cases h
  | succ r ih =>
    intro p ts rest n h hw hn hts
    have h' : (fitsP p && p.v.all (okV 12) && p.p.all (okP r)) = true := h
    have hw' : (p.v.all (wrV 12) && p.p.all (wrP r)) = true := hw
    simp only [Bool.and_eq_true, List.all_eq_true] at h' hw'
    obtain ⟨⟨hf, hv⟩, hp⟩ := h'
    obtain ⟨wv, wp⟩ := hw'
    obtain ⟨k1, k2, hform⟩ := form_P hf
    have hts' : As ts (nmK (nameP p.k) :: sgK 40 :: ((if 0 < p.p.length then sepK (tkP r) p.p else sepK (tkV 12) p.v) ++ [sgK 41])) := hts
    obtain ⟨t, t2, rfl, he, h2⟩ := hts'.cons
    obtain ⟨ft, t2', rfl, hft, h2⟩ := h2.cons
    obtain ⟨t3, t4, rfl, h3, h4⟩ := h2.split
    obtain ⟨lt, t5, rfl, hlt, h5⟩ := h4.cons
    have e5 := As.nil h5
    subst e5
    rw [List.cons_append, List.cons_append, List.append_assoc, List.singleton_append, prdT_step r t _ n p.k (kind_back k1 k2 he) (by omega)]
    rcases hform with ⟨hm, vs, e, hl, ha, hb⟩ | ⟨hm, ps, e, h0, hl, ha, hb⟩
    · have eP : p.p = [] := congrArg P.p e
      have eV : p.v = vs := congrArg P.v e
      rw [if_neg (by rw [eP]; simp), eV] at h3
      rw [eV] at hv wv
      have hB := btw_back (tkV 12) (fun _ => 0) (fun x => okV 12 x = true ∧ wrV 12 x = true) 40 41 (hasT p.k).1 (hasT p.k).2 1000 (rdV (valT 12)) (by decide)
        (fun x hx => by
          obtain ⟨t, r', e, h4, _⟩ := tkV_head hx.1 hx.2
          exact ⟨t, r', e, fun hk => by rw [h4 hk]; decide⟩)
        (by decide)
        (fun i x ts rest n hx hi hts _ hn => by
          unfold rdV
          rw [if_neg (by omega)]
          exact val_back 12 x ts rest n hx.1 hx.2 hn hts)
        vs t3 ft lt rest n (fun x hx => ⟨hv x hx, wv x hx⟩) hl h3 hft hlt ha hb (by rw [cost0]; exact hn)
      rw [cost0] at hB
      rw [hm, if_neg (by decide), hB]
      show Rs.ok (P.mk p.k vs []) rest n = _
      rw [← e]
    · have eP : p.p = ps := congrArg P.p e
      rw [if_pos (by rw [eP]; exact h0), eP] at h3
      rw [eP] at hp wp
      have hB := btw_back (tkP r) (fun _ => 0) (fun x => okP r x = true ∧ wrP r x = true) 40 41 (hasT p.k).1 (hasT p.k).2 1000 (rdP (prdT r)) (by decide)
        (fun x hx => by
          obtain ⟨l, e, _⟩ := tkP_head hx.1
          exact ⟨_, _, e, fun hk => absurd hk (show (1 : Int) ≠ 4 by decide)⟩)
        (by decide)
        (fun i x ts rest n hx hi hts _ hn => by
          unfold rdP
          rw [if_neg (fun hc => absurd hc.1 (by omega))]
          exact ih x ts rest n hx.1 hx.2 hn hts)
        ps t3 ft lt rest n (fun x hx => ⟨hp x hx, wp x hx⟩) hl h3 hft hlt ha hb (by rw [cost0]; exact hn)
      rw [cost0] at hB
      rw [hm, if_pos rfl, hB]
      show Rs.ok (P.mk p.k [] ps) rest n = _
      rw [← e]
theorem kind_none {t : Tk} (h : t.k = 1) (hs : namesB.any (fun n => t.s == n) = false) : kindT t = 0 := by
  unfold namesB at hs
  simp only [List.any_cons, List.any_nil, Bool.or_eq_false_iff, beq_eq_false_iff_ne] at hs
  obtain ⟨_, a1, a2, a3, a4, a5, a6, a7, a8, a9, a10, a11, a12, a13, a14, _⟩ := hs
  unfold kindT
  rw [if_neg (fun n => n h), if_neg a1, if_neg a2, if_neg a3, if_neg a4, if_neg a5, if_neg a6, if_neg a7, if_neg a8, if_neg a9, if_neg a10, if_neg a11, if_neg a12, if_neg a13, if_neg a14]
theorem tkC_head (r : Nat) (first : List UInt8) (l : List C) : ∃ m, tkC r first l = nmK first :: m := by cases r <;> exact ⟨_, rfl⟩
theorem tkG_head {r : Nat} {g : Ag} (ho : argOk (chOk r) g = true) : ∃ t l, tkG (tkC r [95, 95]) g = t :: l ∧ (t.k = 4 → t.s = [91]) := by
  have hf := argOk_fit ho
  unfold tkG
  obtain hk | hk | hk | hk := (argOk_parts _ _ ho).1
  · rw [argOk_1 _ _ hf hk, Bool.and_eq_true] at ho
    obtain ⟨t, l, e, h, _⟩ := tkV_head ho.1 ho.2
    rw [if_pos hk]
    exact ⟨t, l, e, h⟩
  · rw [argOk_2 _ _ hf hk, Bool.and_eq_true] at ho
    obtain ⟨l, e, _⟩ := tkP_head ho.1
    rw [if_neg (by omega), if_pos hk]
    exact ⟨_, l, e, fun h => absurd h (show (1 : Int) ≠ 4 by decide)⟩
  · obtain ⟨m, e⟩ := tkC_head r [95, 95] g.c
    rw [if_neg (by omega), if_neg (by omega), if_pos hk]
    exact ⟨_, m, e, fun h => absurd h (show (1 : Int) ≠ 4 by decide)⟩
  · rw [if_neg (by omega), if_neg (by omega), if_neg (by omega)]
    exact ⟨_, _, rfl, fun h => absurd h (show (1 : Int) ≠ 4 by decide)⟩
/-- An argument's tokens are the argument. -/
theorem argT_back (r : Nat) (inner : List Tk → Nat → Rs (List C))
    (hin : ∀ (l : List C) (ts rest : List Tk) (n : Nat), chOk r l = true → As ts (tkC r [95, 95] l) → sees rest [46] = false → n + cntP r l ≤ 200 → inner (ts ++ rest) n = .ok l rest (n + cntP r l))
    (g : Ag) (ts rest : List Tk) (n : Nat) (ho : argOk (chOk r) g = true) (hts : As ts (tkG (tkC r [95, 95]) g)) (hr : sees rest [46] = false) (hn : n + cntP r g.c ≤ 200) : argT inner (ts ++ rest) n = .ok g rest (n + cntP r g.c) := by
  have hf := argOk_fit ho
  obtain ⟨a1, a2, a3, a4⟩ := fit_rest hf
  unfold tkG at hts
  unfold argT
  obtain hk | hk | hk | hk := (argOk_parts _ _ ho).1
  · rw [argOk_1 _ _ hf hk, Bool.and_eq_true] at ho
    rw [if_pos hk] at hts
    obtain ⟨t, l, e, _, hb⟩ := tkV_head ho.1 ho.2
    have hb' : begV (hdT (ts ++ rest)) = true := by
      rw [e] at hts
      obtain ⟨u, us, rfl, he, _⟩ := hts.cons
      show begV u = true
      rw [begV_er he]; exact hb
    rw [if_pos hb', val_back 12 g.v ts rest n ho.1 ho.2 (by omega) hts, a3 (by omega), cntP_nil]
    show Rs.ok (⟨1, g.v, zP, [], ⟨#[]⟩⟩ : Ag) rest n = Rs.ok g rest n
    rw [Ag_same (g := ⟨1, g.v, zP, [], ⟨#[]⟩⟩) (u := g) hk.symm rfl (a2 (by omega)).symm (a3 (by omega)).symm (by rw [a4 (by omega)]; exact nil_bytes)]
  · rw [argOk_2 _ _ hf hk, Bool.and_eq_true] at ho
    rw [if_neg (by omega), if_pos hk] at hts
    obtain ⟨l, e, k1, k2⟩ := tkP_head ho.1
    have hb' : begV (hdT (ts ++ rest)) = false ∧ kindT (hdT (ts ++ rest)) ≠ 0 := by
      rw [e] at hts
      obtain ⟨u, us, rfl, he, _⟩ := hts.cons
      refine ⟨no_beg k1 k2 he, ?_⟩
      show kindT u ≠ 0
      rw [kind_back k1 k2 he]; omega
    rw [if_neg (by rw [hb'.1]; decide), if_pos hb'.2, prd_back 12 g.p ts rest n ho.1 ho.2 (by omega) hts, a3 (by omega), cntP_nil]
    show Rs.ok (⟨2, zV, g.p, [], ⟨#[]⟩⟩ : Ag) rest n = Rs.ok g rest n
    rw [Ag_same (g := ⟨2, zV, g.p, [], ⟨#[]⟩⟩) (u := g) hk.symm (a1 (by omega)).symm rfl (a3 (by omega)).symm (by rw [a4 (by omega)]; exact nil_bytes)]
  · rw [argOk_3 _ _ hf hk] at ho
    rw [if_neg (by omega), if_neg (by omega), if_pos hk] at hts
    have hI := hin g.c ts rest n ho hts hr hn
    obtain ⟨m, e⟩ := tkC_head r [95, 95] g.c
    rw [e] at hts
    obtain ⟨u, us, rfl, he, _⟩ := hts.cons
    have b1 : begV (hdT (u :: us ++ rest)) = false := by show begV u = false; rw [begV_er he]; rfl
    have b2 : kindT (hdT (u :: us ++ rest)) = 0 := by show kindT u = 0; rw [kindT_er he]; rfl
    have b3 : isN (hdT (u :: us ++ rest)) [95, 95] = true := by
      obtain ⟨e1, e2, _⟩ := er_k he
      show (u.k == 1 && u.s == [95, 95]) = true
      rw [e1, e2]; rfl
    rw [if_neg (by rw [b1]; decide), if_neg (by rw [b2]; decide), if_pos b3, hI]
    show Rs.ok (⟨3, zV, zP, g.c, ⟨#[]⟩⟩ : Ag) rest _ = Rs.ok g rest _
    rw [Ag_same (g := ⟨3, zV, zP, g.c, ⟨#[]⟩⟩) (u := g) hk.symm (a1 (by omega)).symm (a2 (by omega)).symm rfl (by rw [a4 (by omega)]; exact nil_bytes)]
  · rw [argOk_4 _ _ hf hk, Bool.and_eq_true, Bool.not_eq_true'] at ho
    rw [if_neg (by omega), if_neg (by omega), if_neg (by omega)] at hts
    obtain ⟨u, us, rfl, he, h0⟩ := hts.cons
    have e0 := As.nil h0
    subst e0
    obtain ⟨e1, e2, _⟩ := er_k he
    have ht := ho.2
    unfold takenB at ht
    simp only [Bool.or_eq_false_iff, beq_eq_false_iff_ne, ne_eq] at ht
    obtain ⟨⟨⟨t1, t2⟩, t3⟩, t4⟩ := ht
    have es : u.s = g.s.toList := e2
    have b1 : begV (hdT ([u] ++ rest)) = false := by
      show begV u = false
      rw [begV_er he]
      show ((g.s.toList == [116, 114, 117, 101]) || (g.s.toList == [102, 97, 108, 115, 101])) = false
      rw [beq_eq_false_iff_ne.2 t2, beq_eq_false_iff_ne.2 t3]; rfl
    have b2 : kindT (hdT ([u] ++ rest)) = 0 := kind_none (t := u) e1 (by rw [es]; exact t1)
    have b3 : isN (hdT ([u] ++ rest)) [95, 95] = false := by
      show (u.k == 1 && u.s == [95, 95]) = false
      rw [es, beq_eq_false_iff_ne.2 t4, Bool.and_false]
    have b4 : ((hdT ([u] ++ rest)).k == 1 && nameB (bsT (hdT ([u] ++ rest)).s)) = true := by
      show (u.k == 1 && nameB (bsT u.s)) = true
      rw [es, bsT_of, ho.1, e1]; rfl
    rw [if_neg (by rw [b1]; decide), if_neg (by rw [b2]; decide), if_neg (by rw [b3]; decide), if_pos b4, a3 (by omega), cntP_nil]
    show Rs.ok (⟨4, zV, zP, [], bsT u.s⟩ : Ag) rest n = Rs.ok g rest n
    rw [Ag_same (g := ⟨4, zV, zP, [], bsT u.s⟩) (u := g) hk.symm (a1 (by omega)).symm (a2 (by omega)).symm (a3 (by omega)).symm (by show (bsT u.s).toList = _; rw [es, bsT_of])]
theorem sumL_map {α : Type} (f : α → Nat) : ∀ l : List α, sumL f l = (l.map f).sum
  | [] => rfl
  | x :: l => by rw [List.map_cons, List.sum_cons, ← sumL_map f l]; rfl
/-- A call's tokens are the call. -/
theorem call_back (r : Nat) (inner : List Tk → Nat → Rs (List C))
    (hin : ∀ (l : List C) (ts rest : List Tk) (n : Nat), chOk r l = true → As ts (tkC r [95, 95] l) → sees rest [46] = false → n + cntP r l ≤ 200 → inner (ts ++ rest) n = .ok l rest (n + cntP r l))
    (x : C) (ts rest : List Tk) (n : Nat) (ho : callOk (chOk r) x = true) (hts : As ts (tkCall (tkC r [95, 95]) x)) (hn : n + (1 + sumL (fun g => cntP r g.c) x.a) ≤ 200) : calT inner (ts ++ rest) n = .ok x rest (n + (1 + sumL (fun g => cntP r g.c) x.a)) := by
  unfold callOk at ho
  simp only [Bool.and_eq_true, List.all_eq_true, decide_eq_true_eq, Bool.not_eq_true'] at ho
  obtain ⟨⟨⟨hn1, hn2⟩, hl⟩, ha⟩ := ho
  have hts' : As ts (sgK 46 :: nmK x.n.toList :: sgK 40 :: (sepK (tkG (tkC r [95, 95])) x.a ++ [sgK 41])) := hts
  obtain ⟨t, t2, rfl, he, h2⟩ := hts'.cons
  obtain ⟨t', t2', rfl, he', h2⟩ := h2.cons
  obtain ⟨ft, t2'', rfl, hft, h2⟩ := h2.cons
  obtain ⟨t3, t4, rfl, h3, h4⟩ := h2.split
  obtain ⟨lt, t5, rfl, hlt, h5⟩ := h4.cons
  have e5 := As.nil h5
  subst e5
  obtain ⟨e1, e2, _⟩ := er_k he'
  have es : t'.s = x.n.toList := e2
  rw [List.cons_append, List.cons_append, List.cons_append, List.append_assoc, List.singleton_append]
  rw [sumL_map] at hn ⊢
  have hB := btw_back (tkG (tkC r [95, 95])) (fun g => cntP r g.c) (fun g => argOk (chOk r) g = true) 40 41 0 true 50 (rdA (argT inner)) (by decide)
    (fun g hg => by
      obtain ⟨t, l, e, h⟩ := tkG_head hg
      exact ⟨t, l, e, fun hk => by rw [h hk]; decide⟩)
    (by decide)
    (fun i g ts rest n hg hi hts hr hn => by
      unfold rdA
      rw [if_neg (by omega)]
      exact argT_back r inner hin g ts rest n hg hts hr hn)
    x.a t3 ft lt rest (n + 1) ha hl h3 hft hlt (by omega) (.inl rfl) (by omega)
  unfold calT
  rw [if_pos (by rw [sees_sg he]; rfl), List.tail_cons]
  have hN : nmT (t' :: ft :: (t3 ++ lt :: rest)) n = .ok x.n.toList (ft :: (t3 ++ lt :: rest)) (n + 1) := by
    unfold nmT
    have c1 : ((hdT (t' :: ft :: (t3 ++ lt :: rest))).k == 1 && !((hdT (t' :: ft :: (t3 ++ lt :: rest))).s == [95, 95]) && nameB (bsT (hdT (t' :: ft :: (t3 ++ lt :: rest))).s)) = true := by
      show (t'.k == 1 && !(t'.s == [95, 95]) && nameB (bsT t'.s)) = true
      rw [es, bsT_of, hn1, hn2, e1]; rfl
    rw [if_pos c1, if_neg (by omega)]
    show Rs.ok t'.s _ _ = _
    rw [es]; rfl
  rw [hN]
  show Rs.map (fun a => C.mk (bsT x.n.toList) a) (btw [40] [41] 0 true (rdA (argT inner)) (ft :: (t3 ++ lt :: rest)) (n + 1)) = _
  rw [hB, bsT_of]
  show Rs.ok (C.mk x.n x.a) rest _ = _
  rw [C_same (x := C.mk x.n x.a) (y := x) rfl rfl, Nat.add_assoc]
theorem chl_back (F : C → List Tk) (cost : C → Nat) (ok : C → Prop) (cal : List Tk → Nat → Rs C) (hF : ∀ x, ok x → ∃ l, F x = sgK 46 :: l)
    (hc : ∀ x ts rest n, ok x → As ts (F x) → n + cost x ≤ 200 → cal (ts ++ rest) n = .ok x rest (n + cost x)) :
    ∀ (xs acc : List C) (f : Nat) (ts rest : List Tk) (n : Nat), (∀ x ∈ xs, ok x) → 0 < acc.length + xs.length → As ts (xs.flatMap F) → sees rest [46] = false → xs.length < f → n + (xs.map cost).sum ≤ 200 → chl cal f acc (ts ++ rest) n = .ok (acc ++ xs) rest (n + (xs.map cost).sum) := by
  intro xs
  induction xs with
  | nil =>
    intro acc f ts rest n _ h0 hts hr hf _
    obtain ⟨f, rfl⟩ : ∃ g, f = g + 1 := ⟨f - 1, by simp at hf; omega⟩
    have e : ts = [] := As.nil hts
    subst e
    have ha : (acc.length == 0) = false := by rw [beq_eq_false_iff_ne]; simp at h0; omega
    rw [List.nil_append, chl, if_neg (by rw [ha, hr]; decide)]
    simp
  | cons x xs ih =>
    intro acc f ts rest n hok h0 hts hr hf hn
    obtain ⟨f, rfl⟩ : ∃ g, f = g + 1 := ⟨f - 1, by omega⟩
    have hts' : As ts (F x ++ xs.flatMap F) := by rw [← List.flatMap_cons]; exact hts
    obtain ⟨t1, t2, rfl, h1, h2⟩ := hts'.split
    simp only [List.length_cons] at hf
    simp only [List.map_cons, List.sum_cons] at hn ⊢
    have hs : sees (t1 ++ t2 ++ rest) [46] = true := by
      obtain ⟨l, e⟩ := hF x (hok x (by simp))
      rw [e] at h1
      obtain ⟨u, us, rfl, he, _⟩ := h1.cons
      show sees (u :: _) [46] = true
      rw [sees_sg he]; rfl
    rw [chl, if_pos (by rw [hs, Bool.or_true]), List.append_assoc, hc x t1 _ n (hok x (by simp)) h1 (by omega)]
    show chl cal f (acc ++ [x]) (t2 ++ rest) (n + cost x) = _
    rw [ih (acc ++ [x]) f t2 rest (n + cost x) (fun y hy => hok y (by simp [hy])) (by simp; omega) h2 hr (by omega) (by omega), List.append_assoc, Nat.add_assoc]
    rfl
/-- A chain's tokens are the chain. -/
theorem chn_back : ∀ (r : Nat) (l : List C) (ts rest : List Tk) (n : Nat), chOk r l = true → As ts (l.flatMap (tkCall (tkC (r - 1) [95, 95]))) → sees rest [46] = false → n + cntP r l ≤ 200 → chnT r (ts ++ rest) n = .ok l rest (n + cntP r l) := by
  intro r
  induction r with
  | zero => intro l ts rest n h; cases h
  | succ r ih =>
    intro l ts rest n h hts hr hn
    obtain ⟨h0, hc⟩ := ch_len h
    have hts' : As ts (l.flatMap (tkCall (tkC r [95, 95]))) := hts
    have ec : cntP (r + 1) l = (l.map (fun x => 1 + sumL (fun g => cntP r g.c) x.a)).sum := by rw [← sumL_map]; rfl
    rw [ec] at hn ⊢
    have hlen : l.length ≤ ts.length := by
      have : ∀ (ys : List C) (t : List Tk), As t (ys.flatMap (tkCall (tkC r [95, 95]))) → ys.length ≤ t.length := by
        intro ys
        induction ys with
        | nil => intro t _; simp
        | cons y ys ih2 =>
          intro t ht
          have h' : As t (tkCall (tkC r [95, 95]) y ++ ys.flatMap (tkCall (tkC r [95, 95]))) := by rw [← List.flatMap_cons]; exact ht
          obtain ⟨u3, u4, rfl, hu3, hu4⟩ := h'.split
          have hu3' : As u3 (sgK 46 :: nmK y.n.toList :: sgK 40 :: (sepK (tkG (tkC r [95, 95])) y.a ++ [sgK 41])) := hu3
          obtain ⟨u, u2, rfl, _, _⟩ := hu3'.cons
          have := ih2 u4 hu4
          simp; omega
      exact this l ts hts'
    have hin : ∀ (l : List C) (ts rest : List Tk) (n : Nat), chOk r l = true → As ts (tkC r [95, 95] l) → sees rest [46] = false → n + cntP r l ≤ 200 →
        (fun (l : List Tk) (n : Nat) => if r = 0 then (.bad l n 3 : Rs (List C)) else chnT r l.tail n) (ts ++ rest) n = .ok l rest (n + cntP r l) := by
      intro l ts rest n ho hts hr hn
      cases r with
      | zero => cases ho
      | succ q =>
        have hts' : As ts (nmK [95, 95] :: l.flatMap (tkCall (tkC q [95, 95]))) := hts
        obtain ⟨t, t2, rfl, _, h2⟩ := hts'.cons
        show (if q + 1 = 0 then _ else chnT (q + 1) (t2 ++ rest) n) = _
        rw [if_neg (by omega)]
        exact ih l t2 rest n ho h2 hr hn
    show chl (calT _) ((ts ++ rest).length + 1) [] (ts ++ rest) n = _
    rw [chl_back (tkCall (tkC r [95, 95])) (fun x => 1 + sumL (fun g => cntP r g.c) x.a) (fun x => callOk (chOk r) x = true) _ (fun x _ => ⟨_, rfl⟩)
      (fun x ts rest n hx hts hn => call_back r _ hin x ts rest n hx hts hn) l [] _ ts rest n hc (by simpa using h0) hts' hr (by rw [List.length_append]; omega) hn]
    rfl
/-- A query's tokens are the query. -/
theorem qry_back (l : List C) (ts : List Tk) (h : qOk l = true) (hts : As ts (tkC 10 [103] l)) : qryT ts = .ok l [] (cntP 10 l) := by
  obtain ⟨h1, _, h2⟩ := qOk_parts h
  have hts' : As ts (nmK [103] :: l.flatMap (tkCall (tkC 9 [95, 95]))) := hts
  obtain ⟨t, t2, rfl, he, h3⟩ := hts'.cons
  obtain ⟨e1, e2, _⟩ := er_k he
  have hC := chn_back 10 l t2 [] 0 h2 h3 rfl (by omega)
  rw [List.append_nil, Nat.zero_add] at hC
  unfold qryT
  have hq : isN (hdT (t :: t2)) [103] = true := by
    show (t.k == 1 && t.s == [103]) = true
    rw [e1, e2]; rfl
  rw [if_pos hq, List.tail_cons, hC]
  rfl
end Go.Proofs.YtllkimdlmnjoiaaGreatDoor
/- The text of a query, in tokens: what is printed is read as it was (plain). -/
namespace Go.Proofs.YtllkimdlmnjoiaaGreatDoor
set_option maxRecDepth 100000
open Go.RowKit Go.Sort

/-- Bytes that are read as these tokens, whatever stands behind (or, if q = false, what no word goes on with). -/
def Lx (q : Bool) (m : List UInt8) (es : List Tk) : Prop :=
  ∀ (s : List UInt8) (o : Nat), (q = true ∨ E8.wordB (s.headD 0) = false) → ∃ ts : List Tk, E8.its (m ++ s) o = ts.map (fun t => ⟨t, true⟩) ++ E8.its s (o + m.length) ∧ As ts es
theorem Lx.weak {q : Bool} {m : List UInt8} {es : List Tk} (h : Lx true m es) : Lx q m es := fun s o _ => h s o (.inl rfl)
theorem As.app {a b x y : List Tk} (h : As a x) (k : As b y) : As (a ++ b) (x ++ y) := by
  unfold As at *
  rw [List.map_append, h, k]
theorem Lx.then {q p : Bool} {a b : List UInt8} {x y : List Tk} (h : Lx q a x) (k : Lx p b y) (hb : q = true ∨ (E8.wordB (b.headD 0) = false ∧ b ≠ [])) : Lx p (a ++ b) (x ++ y) := by
  intro s o hs
  have h1 : q = true ∨ E8.wordB ((b ++ s).headD 0) = false := by
    rcases hb with hb | ⟨hb, hn⟩
    · exact .inl hb
    · right
      cases b with
      | nil => exact absurd rfl hn
      | cons c b => exact hb
  obtain ⟨t1, e1, a1⟩ := h (b ++ s) o h1
  obtain ⟨t2, e2, a2⟩ := k s (o + a.length) hs
  refine ⟨t1 ++ t2, ?_, a1.app a2⟩
  rw [List.append_assoc, e1, e2, List.map_append, List.append_assoc, List.length_append, Nat.add_assoc]
theorem Lx.nil : Lx true [] [] := fun s o _ => ⟨[], by simp, rfl⟩
theorem lx_one {c : UInt8} {m : List UInt8} {t : Tk} {s : List UInt8} {o : Nat} (hb : E8.blankB c = false) (hf : E8.firstP (c :: (m ++ s)) = some (t, m.length + 1)) :
    E8.its (c :: m ++ s) o = [t.at_ o].map (fun t => ⟨t, true⟩) ++ E8.its s (o + (c :: m).length) := by
  rw [List.cons_append, E8.its_some c (m ++ s) o hb t (m.length + 1) hf]
  rw [List.drop_succ_cons, List.drop_left]
  rfl
/-- A sign. -/
theorem lx_sg (c : UInt8) (hc : c = 46 ∨ c = 40 ∨ c = 41 ∨ c = 44 ∨ c = 91 ∨ c = 93) : Lx true [c] [sgK c] := by
  intro s o _
  refine ⟨_, lx_one (c := c) (m := []) (t := ⟨4, 0, [c], 0⟩) (by rcases hc with rfl | rfl | rfl | rfl | rfl | rfl <;> decide) ?_, rfl⟩
  unfold E8.firstP
  rcases hc with rfl | rfl | rfl | rfl | rfl | rfl
  all_goals
    rw [List.headD_cons, if_neg (by decide), if_neg (by decide), if_neg (by decide), if_pos (by decide)]
    rfl
theorem lx_blank : Lx true [32] [] := by
  intro s o _
  exact ⟨[], by rw [List.cons_append, List.nil_append, E8.its_blank 32 s o (by decide)]; rfl, rfl⟩
theorem lx_com : Lx true [44, 32] [sgK 44] := (lx_sg 44 (by decide)).then lx_blank (.inl rfl)
theorem run_all (p : UInt8 → Bool) (c : UInt8) (m s : List UInt8) (hm : ∀ x ∈ m, p x = true) (hs : p (s.headD 0) = false) : E8.runN p (c :: (m ++ s)) 1 = m.length + 1 := by
  unfold E8.runN
  rw [List.drop_succ_cons, List.drop_zero, List.takeWhile_append_of_pos hm]
  have : s.takeWhile p = [] := by
    cases s with
    | nil => rfl
    | cons d s => rw [List.takeWhile_cons, if_neg (by rw [List.headD_cons] at hs; rw [hs]; decide)]
  rw [this, List.append_nil]; omega
theorem let_blank : ∀ c : UInt8, E8.letB c = true → E8.blankB c = false := fun c h => by
  cases hb : E8.blankB c
  · rfl
  · have := (E8.blank_not c hb).1
    rw [h] at this; cases this
/-- A word. -/
theorem lx_nm {c : UInt8} {m : List UInt8} (hc : E8.letB c = true) (hm : ∀ x ∈ m, E8.wordB x = true) : Lx false (c :: m) [nmK (c :: m)] := by
  intro s o hs
  have hs' : E8.wordB (s.headD 0) = false := by rcases hs with h | h; cases h; exact h
  refine ⟨_, lx_one (c := c) (m := m) (t := ⟨1, 0, c :: m, 0⟩) (let_blank c hc) ?_, rfl⟩
  unfold E8.firstP
  rw [List.headD_cons, if_pos hc, run_all E8.wordB c m s hm hs']
  rw [List.take_succ_cons, List.take_left]
/-- A number. -/
theorem e8V (l : List UInt8) : E8.parseV l = parseV l := rfl
theorem e8E (l : List UInt8) : E8.parseE l = parseE l := rfl
theorem lx_nb (n : Int) (hf : fitsB n = true) : Lx false (digL n) [nbK n] := by
  intro s o hs
  have hs' : E8.wordB (s.headD 0) = false := by rcases hs with h | h; cases h; exact h
  obtain ⟨p1, p2⟩ := parse_digL n hf
  have hall := digL_num n
  have hhead := digs_head n.natAbs
  obtain ⟨c, m, e, hc, hm⟩ : ∃ c m, digL n = c :: m ∧ (E8.digB c = true ∨ c.toNat = 45) ∧ ∀ x ∈ m, E8.digB x = true := by
    have hd : ∀ x ∈ (lowsAll n.natAbs).reverse.map (fun z => UInt8.ofNat z.toNat), E8.digB x = true := by
      intro x hx
      obtain ⟨z, hz, rfl⟩ := List.mem_map.1 hx
      have hz' := lowsAll_dig n.natAbs z (by simpa using hz)
      obtain ⟨k, rfl⟩ : ∃ k : Nat, z = (k : Int) := ⟨z.toNat, by omega⟩
      have hk : k = 48 ∨ k = 49 ∨ k = 50 ∨ k = 51 ∨ k = 52 ∨ k = 53 ∨ k = 54 ∨ k = 55 ∨ k = 56 ∨ k = 57 := by omega
      rcases hk with rfl | rfl | rfl | rfl | rfl | rfl | rfl | rfl | rfl | rfl <;> decide
    unfold digL
    by_cases h0 : n < 0
    · rw [if_pos h0]
      exact ⟨45, _, rfl, .inr (by decide), hd⟩
    · rw [if_neg h0, List.nil_append]
      cases hl : (lowsAll n.natAbs).reverse.map (fun z => UInt8.ofNat z.toNat) with
      | nil =>
        have := digL_ne n
        unfold digL at this
        rw [if_neg h0, List.nil_append] at this
        exact absurd hl this
      | cons c m => exact ⟨c, m, rfl, .inl (hd c (by rw [hl]; simp)), fun x hx => hd x (by rw [hl]; simp [hx])⟩
  have hlc : E8.letB c = false ∧ E8.blankB c = false := by
    have : ∀ c : UInt8, (E8.digB c = true ∨ c.toNat = 45) → E8.letB c = false ∧ E8.blankB c = false :=
      fun c => E8.all_bytes (p := fun c => (E8.digB c = true ∨ c.toNat = 45) → E8.letB c = false ∧ E8.blankB c = false) (by decide) c
    exact this c hc
  refine ⟨[(⟨2, 0, digL n, n⟩ : Tk).at_ o], ?_, rfl⟩
  rw [e]
  refine lx_one (c := c) (m := m) (t := ⟨2, 0, c :: m, n⟩) hlc.2 ?_
  unfold E8.firstP
  rw [List.headD_cons, if_neg (by rw [hlc.1]; decide), if_pos hc, run_all E8.wordB c m s (fun x hx => by unfold E8.wordB; rw [hm x hx, Bool.or_true]) hs']
  rw [List.take_succ_cons, List.take_left, ← e, E8.numP_yes (by rw [e8E]; exact p2), e8V, p1, e]
  rfl
/-- A text. -/
theorem text_all (r : List UInt8) : ∀ (s acc : List UInt8) (i : Nat), (∀ c ∈ s, 32 ≤ c.toNat) → acc.length + s.length ≤ 1000 → E8.textP (s.flatMap qC ++ 39 :: r) acc i = some (acc ++ s, i + (s.flatMap qC).length + 1) := by
  intro s
  induction s with
  | nil =>
    intro acc i _ _
    rw [List.flatMap_nil, List.nil_append, E8.textP_cons, if_neg (by decide), if_pos (by decide), List.append_nil]
    rfl
  | cons c s ih =>
    intro acc i hs hl
    have hc := hs c (by simp)
    rw [List.length_cons] at hl
    rw [List.flatMap_cons]
    by_cases hq : c = 39 ∨ c = 92
    · have e : qC c = [92, c] := by unfold qC; rw [if_pos hq]
      have hq' : c.toNat = 39 ∨ c.toNat = 92 := by rcases hq with rfl | rfl <;> decide
      rw [e, List.append_assoc]
      show E8.textP (92 :: c :: (s.flatMap qC ++ 39 :: r)) acc i = _
      rw [E8.textP_cons, if_neg (by decide), if_neg (by decide), if_pos (by decide)]
      show (if c.toNat = 39 ∨ c.toNat = 92 then (if acc.length = 1000 then none else E8.textP (s.flatMap qC ++ 39 :: r) (acc ++ [c]) (i + 2)) else none) = _
      rw [if_pos hq', if_neg (by omega), ih (acc ++ [c]) (i + 2) (fun x hx => hs x (by simp [hx])) (by simp; omega)]
      simp; omega
    · have e : qC c = [c] := by unfold qC; rw [if_neg hq]
      have hn : ¬ c.toNat = 39 ∧ ¬ c.toNat = 92 := by
        refine ⟨fun h => hq (.inl ?_), fun h => hq (.inr ?_)⟩
        · rw [← UInt8.toNat_inj]; exact h
        · rw [← UInt8.toNat_inj]; exact h
      rw [e, List.append_assoc]
      show E8.textP (c :: (s.flatMap qC ++ 39 :: r)) acc i = _
      rw [E8.textP_cons, if_neg (by omega), if_neg hn.1, if_neg hn.2, if_neg (by omega), ih (acc ++ [c]) (i + 1) (fun x hx => hs x (by simp [hx])) (by simp; omega)]
      simp; omega
theorem lx_tx (t : List UInt8) (ht : ∀ c ∈ t, 32 ≤ c.toNat) (hl : t.length ≤ 1000) : Lx true (qT t) [txK t] := by
  intro s o _
  refine ⟨[(⟨3, 0, t, 0⟩ : Tk).at_ o], ?_, rfl⟩
  refine lx_one (c := 39) (m := t.flatMap qC ++ [39]) (t := ⟨3, 0, t, 0⟩) (by decide) ?_
  unfold E8.firstP
  rw [List.headD_cons, if_neg (by decide), if_neg (by decide), if_pos (by decide), List.drop_succ_cons, List.drop_zero, List.append_assoc, List.singleton_append, text_all s t [] 1 ht (by simpa using hl)]
  unfold E8.textO
  simp; omega
/-- Each one, a comma between, then a sign. -/
theorem lx_rest {α : Type} (f : α → List UInt8) (F : α → List Tk) (last : UInt8) (hlast : last = 41 ∨ last = 93) : ∀ (l : List α) (i : Nat), 0 < i → (∀ x ∈ l, Lx false (f x) (F x)) →
    Lx true (itemsT f i l ++ [last]) (comK F l ++ [sgK last]) ∧ E8.wordB ((itemsT f i l ++ [last]).headD 0) = false ∧ itemsT f i l ++ [last] ≠ [] := by
  intro l
  induction l with
  | nil =>
    intro i _ _
    refine ⟨lx_sg last (by rcases hlast with rfl | rfl <;> decide), ?_, by simp [itemsT]⟩
    show E8.wordB last = false
    rcases hlast with rfl | rfl <;> decide
  | cons x l ih =>
    intro i hi hl
    obtain ⟨h1, h2, h3⟩ := ih (i + 1) (by omega) (fun y hy => hl y (by simp [hy]))
    have e : itemsT f i (x :: l) ++ [last] = [44, 32] ++ (f x ++ (itemsT f (i + 1) l ++ [last])) := by
      show ((if 0 < i then [44, 32] else []) ++ f x) ++ itemsT f (i + 1) l ++ [last] = _
      rw [if_pos hi, List.append_assoc, List.append_assoc]
    have e2 : comK F (x :: l) ++ [sgK last] = [sgK 44] ++ (F x ++ (comK F l ++ [sgK last])) := by
      unfold comK
      rw [List.flatMap_cons, List.cons_append, List.cons_append, List.append_assoc]
      rfl
    rw [e, e2]
    exact ⟨lx_com.then ((hl x (by simp)).then h1 (.inr ⟨h2, h3⟩)) (.inl rfl), rfl, by simp⟩
theorem lx_items {α : Type} (f : α → List UInt8) (F : α → List Tk) (last : UInt8) (hlast : last = 41 ∨ last = 93) (l : List α) (hl : ∀ x ∈ l, Lx false (f x) (F x)) :
    Lx true (itemsT f 0 l ++ [last]) (sepK F l ++ [sgK last]) := by
  cases l with
  | nil => exact lx_sg last (by rcases hlast with rfl | rfl <;> decide)
  | cons x l =>
    obtain ⟨h1, h2, h3⟩ := lx_rest f F last hlast l 1 (by omega) (fun y hy => hl y (by simp [hy]))
    have e : itemsT f 0 (x :: l) ++ [last] = f x ++ (itemsT f 1 l ++ [last]) := by
      show ((if 0 < 0 then [44, 32] else []) ++ f x) ++ itemsT f 1 l ++ [last] = _
      rw [if_neg (by omega), List.nil_append, List.append_assoc]
    have e2 : sepK F (x :: l) ++ [sgK last] = F x ++ (comK F l ++ [sgK last]) := by
      unfold sepK
      rw [List.append_assoc]
    rw [e, e2]
    exact (hl x (by simp)).then h1 (.inr ⟨h2, h3⟩)
/-- A value. -/
theorem lx_V : ∀ (r : Nat) (v : V), okV r v = true → wrV r v = true → intsOk r v → Lx false (txV r v) (tkV r v) := by
  intro r
  induction r with
  | zero => intro v h; cases h
  | succ r ih =>
    intro v h hw hi
    have h' : (fitsV v && v.l.all (okV r) && v.m.all (okV r) && (v.k != 7 || risesV v.l)) = true := h
    simp only [Bool.and_eq_true, List.all_eq_true] at h'
    obtain ⟨⟨⟨hf, hl⟩, _⟩, _⟩ := h'
    rcases form_V hf hw with rfl | rfl | ⟨m, rfl⟩ | ⟨s, rfl⟩ | ⟨l, rfl, hle, hwl⟩
    · exact lx_nm (c := 102) (m := [97, 108, 115, 101]) (by decide) (by decide)
    · exact lx_nm (c := 116) (m := [114, 117, 101]) (by decide) (by decide)
    · exact lx_nb m hi.1
    · have hw' : (s.toList.all (fun c => decide (32 ≤ c.toNat))) = true := hw
      have hs : s.size ≤ 1000 := by
        have hf' : ((0 : Int) == 0 && decide (s.size ≤ 1000) && ((0 : Nat) == 0 && (0 : Nat) == 0)) = true := hf
        simp only [Bool.and_eq_true, decide_eq_true_eq] at hf'
        exact hf'.1.2
      exact (lx_tx s.toList (fun c hc => by simpa using List.all_eq_true.1 hw' c hc) (by rw [length_toList']; exact hs)).weak
    · have hI := lx_items (txV r) (tkV r) 93 (.inr rfl) l (fun x hx => ih x (hl x hx) (List.all_eq_true.1 hwl x hx) (hi.2.1 x hx))
      exact ((lx_sg 91 (by decide)).then hI (.inl rfl)).weak
def intsP : Nat → P → Prop
  | 0, _ => True
  | r + 1, p => (∀ x ∈ p.v, intsOk 12 x) ∧ ∀ x ∈ p.p, intsP r x
theorem lx_name {k : Int} (h1 : 1 ≤ k) (h2 : k ≤ 14) : Lx false (nameP k) [nmK (nameP k)] := by
  obtain rfl | rfl | rfl | rfl | rfl | rfl | rfl | rfl | rfl | rfl | rfl | rfl | rfl | rfl : k = 1 ∨ k = 2 ∨ k = 3 ∨ k = 4 ∨ k = 5 ∨ k = 6 ∨ k = 7 ∨ k = 8 ∨ k = 9 ∨ k = 10 ∨ k = 11 ∨ k = 12 ∨ k = 13 ∨ k = 14 := by omega
  all_goals exact lx_nm (by decide) (by decide)
/-- A predicate. -/
theorem lx_P : ∀ (r : Nat) (p : P), okP r p = true → wrP r p = true → intsP r p → Lx true (txP r p) (tkP r p) := by
  intro r
  induction r with
  | zero => intro p h; cases h
  | succ r ih =>
    intro p h hw hi
    have h' : (fitsP p && p.v.all (okV 12) && p.p.all (okP r)) = true := h
    have hw' : (p.v.all (wrV 12) && p.p.all (wrP r)) = true := hw
    simp only [Bool.and_eq_true, List.all_eq_true] at h' hw'
    obtain ⟨⟨hf, hv⟩, hp⟩ := h'
    obtain ⟨wv, wp⟩ := hw'
    obtain ⟨k1, k2, _⟩ := form_P hf
    have hB : Lx true ((if 0 < p.p.length then itemsT (txP r) 0 p.p else itemsT (txV 12) 0 p.v) ++ [41]) ((if 0 < p.p.length then sepK (tkP r) p.p else sepK (tkV 12) p.v) ++ [sgK 41]) := by
      by_cases h0 : 0 < p.p.length
      · rw [if_pos h0, if_pos h0]
        exact lx_items _ _ 41 (.inl rfl) _ fun x hx => (ih x (hp x hx) (wp x hx) (hi.2 x hx)).weak
      · rw [if_neg h0, if_neg h0]
        exact lx_items _ _ 41 (.inl rfl) _ fun x hx => lx_V 12 x (hv x hx) (wv x hx) (hi.1 x hx)
    exact (lx_name k1 k2).then ((lx_sg 40 (by decide)).then hB (.inl rfl)) (.inr ⟨rfl, by simp⟩)
theorem lx_nameB {s : ByteArray} (h : nameB s = true) : Lx false s.toList [nmK s.toList] := by
  obtain ⟨h1, c, t, e, h2⟩ := name_chars h
  rw [e] at h1 ⊢
  have hnc : ∀ c : UInt8, nc c = true → E8.wordB c = true := fun c => E8.all_bytes (p := fun c => nc c = true → E8.wordB c = true) (by decide) c
  have hlet : ∀ c : UInt8, letB c.toNat = true → E8.letB c = true := fun c => E8.all_bytes (p := fun c => letB c.toNat = true → E8.letB c = true) (by decide) c
  exact lx_nm (hlet c h2) fun x hx => hnc x (h1 x (by simp [hx]))
def intsG (f : List C → Prop) (g : Ag) : Prop := intsOk 12 g.v ∧ intsP 12 g.p ∧ f g.c
def intsC : Nat → List C → Prop
  | 0, _ => True
  | r + 1, l => ∀ x ∈ l, ∀ g ∈ x.a, intsG (intsC r) g
theorem lx_G (r : Nat) (ih : ∀ l : List C, chOk r l = true → intsC r l → Lx false (txC r [95, 95] l) (tkC r [95, 95] l)) (g : Ag) (ho : argOk (chOk r) g = true) (hi : intsG (intsC r) g) : Lx false (txG (txC r [95, 95]) g) (tkG (tkC r [95, 95]) g) := by
  have hf := argOk_fit ho
  unfold tkG
  obtain hk | hk | hk | hk := (argOk_parts _ _ ho).1
  · rw [argOk_1 _ _ hf hk, Bool.and_eq_true] at ho
    rw [txG_1 _ _ hk, if_pos hk]
    exact lx_V 12 g.v ho.1 ho.2 hi.1
  · rw [argOk_2 _ _ hf hk, Bool.and_eq_true] at ho
    rw [txG_2 _ _ hk, if_neg (by omega), if_pos hk]
    exact (lx_P 12 g.p ho.1 ho.2 hi.2.1).weak
  · rw [argOk_3 _ _ hf hk] at ho
    rw [txG_3 _ _ hk, if_neg (by omega), if_neg (by omega), if_pos hk]
    exact ih g.c ho hi.2.2
  · rw [argOk_4 _ _ hf hk, Bool.and_eq_true, Bool.not_eq_true'] at ho
    rw [txG_4 _ _ hk, if_neg (by omega), if_neg (by omega), if_neg (by omega)]
    exact lx_nameB ho.1
theorem lx_call (r : Nat) (ih : ∀ l : List C, chOk r l = true → intsC r l → Lx false (txC r [95, 95] l) (tkC r [95, 95] l)) (x : C) (ho : callOk (chOk r) x = true) (hi : ∀ g ∈ x.a, intsG (intsC r) g) : Lx true (txCall (txC r [95, 95]) x) (tkCall (tkC r [95, 95]) x) := by
  unfold callOk at ho
  simp only [Bool.and_eq_true, List.all_eq_true, decide_eq_true_eq, Bool.not_eq_true'] at ho
  obtain ⟨⟨⟨hn1, _⟩, _⟩, ha⟩ := ho
  have hI := lx_items (txG (txC r [95, 95])) (tkG (tkC r [95, 95])) 41 (.inl rfl) x.a (fun g hg => lx_G r ih g (ha g hg) (hi g hg))
  exact (lx_sg 46 (by decide)).then ((lx_nameB hn1).then ((lx_sg 40 (by decide)).then hI (.inl rfl)) (.inr ⟨rfl, by simp⟩)) (.inl rfl)
theorem lx_calls (r : Nat) (ih : ∀ l : List C, chOk r l = true → intsC r l → Lx false (txC r [95, 95] l) (tkC r [95, 95] l)) : ∀ (l : List C), (∀ x ∈ l, callOk (chOk r) x = true) → (∀ x ∈ l, ∀ g ∈ x.a, intsG (intsC r) g) → Lx true (l.flatMap (txCall (txC r [95, 95]))) (l.flatMap (tkCall (tkC r [95, 95])))
  | [], _, _ => Lx.nil
  | x :: l, ho, hi => by
    rw [List.flatMap_cons, List.flatMap_cons]
    exact (lx_call r ih x (ho x (by simp)) (hi x (by simp))).then (lx_calls r ih l (fun y hy => ho y (by simp [hy])) (fun y hy => hi y (by simp [hy]))) (.inl rfl)
theorem lx_chain (r : Nat) (ih : ∀ l : List C, chOk r l = true → intsC r l → Lx false (txC r [95, 95] l) (tkC r [95, 95] l)) (c : UInt8) (m : List UInt8) (hc : E8.letB c = true) (hm : ∀ x ∈ m, E8.wordB x = true)
    (l : List C) (ho : chOk (r + 1) l = true) (hi : intsC (r + 1) l) : Lx true (txC (r + 1) (c :: m) l) (tkC (r + 1) (c :: m) l) := by
  obtain ⟨h0, hc'⟩ := ch_len ho
  have hL := lx_calls r ih l hc' hi
  refine (lx_nm hc hm).then hL (.inr ?_)
  cases l with
  | nil => cases h0
  | cons x l => exact ⟨rfl, by simp [txCall]⟩
theorem lx_C : ∀ (r : Nat) (l : List C), chOk r l = true → intsC r l → Lx false (txC r [95, 95] l) (tkC r [95, 95] l) := by
  intro r
  induction r with
  | zero => intro l h; cases h
  | succ r ih => exact fun l h hi => (lx_chain r ih 95 [95] (by decide) (by decide) l h hi).weak
/-- The query's text, read. -/
theorem lx_query (l : List C) (h : chOk 10 l = true) (hi : intsC 10 l) (hlen : (txC 10 [103] l).length ≤ 20000) : ∃ ts, E8.allL (txC 10 [103] l) = (ts, 0, 0) ∧ As ts (tkC 10 [103] l) := by
  obtain ⟨ts, e, ha⟩ := lx_chain 9 (lx_C 9) 103 [] (by decide) (by decide) l h hi [] 0 (.inl rfl)
  rw [List.append_nil, E8.its_nil, List.append_nil] at e
  refine ⟨ts, ?_, ha⟩
  rw [E8.all_yes (by omega) (by rw [E8.items_its, e]; intro x hx; obtain ⟨t, _, rfl⟩ := List.mem_map.1 hx; rfl), E8.items_its, e]
  rw [List.map_map]
  have : (fun t : Tk => ((⟨t, true⟩ : E8.IT)).t) = id := rfl
  show (ts.map (fun t : Tk => ((⟨t, true⟩ : E8.IT)).t), _, _) = _
  rw [this, List.map_id]
/-- A query is read as it was. -/
theorem par_back (l : List C) (h : qOk l = true) (hi : intsC 10 l) (hlen : (txC 10 [103] l).length ≤ 20000) : parT (txC 10 [103] l) = (l, 0, 0) := by
  obtain ⟨_, _, h2⟩ := qOk_parts h
  obtain ⟨ts, e, ha⟩ := lx_query l h2 hi hlen
  unfold parT
  rw [e, if_pos rfl]
  show (match qryT ts with
    | .ok c _ _ => (c, 0, 0)
    | .bad l _ e => ([], plc _ l, e)) = _
  rw [qry_back l ts h ha]
end Go.Proofs.YtllkimdlmnjoiaaGreatDoor
/- A query's text is read as it was: the law ParserBack. -/
namespace Go.Proofs.YtllkimdlmnjoiaaGreatDoor
set_option maxRecDepth 100000
open Go.RowKit Go.Sort

theorem ints_of_pd {w : World} {lo B : Nat} : ∀ (d r : Nat) (t : P) (A : Option Addr) (c : Nat) (A' : Option Addr) (c' : Nat), Pd w lo B d t A c A' c' → intsP r t
  | _, 0, _, _, _, _, _, _ => trivial
  | 0, r + 1, _, _, _, _, _, h => h.elim
  | d + 1, r + 1, t, A, c, A', c', h => by
    obtain ⟨_, ⟨n, hv⟩, hp⟩ := h
    refine ⟨fun x hx => ?_, fun x hx => ?_⟩
    · obtain ⟨j, hj⟩ := List.getElem?_of_mem hx
      obtain ⟨_, _, t', A1, c1, A2, c2, _, _, _, ht, _, rt⟩ := hv.elem (k := j) (List.getElem?_eq_some_iff.1 hj).1
      rw [hj] at ht
      injection ht with ht
      subst ht
      exact ints_of_rd n 12 _ _ _ _ _ rt
    · obtain ⟨j, hj⟩ := List.getElem?_of_mem hx
      have hlt := (List.getElem?_eq_some_iff.1 hj).1
      obtain ⟨b, off, _, _, _, hc⟩ := hp.at_ (by omega)
      obtain ⟨A1, c1, A2, c2, _, q2⟩ := hc j x hj
      exact ints_of_pd d r x _ _ _ _ q2
theorem ints_of_ch {w : World} {lo B : Nat} : ∀ (d r : Nat) (A : Option Addr) (c : Nat) (l : List C), Ch w lo B d A c l → intsC r l
  | _, 0, _, _, _, _ => trivial
  | 0, r + 1, A, c, l, h => by
    intro x hx
    obtain ⟨j, hj⟩ := List.getElem?_of_mem hx
    have h' : GRowC w lo B (fun _ => False) A c l := h
    obtain ⟨_, _, _, _, _, _, _, _, hR⟩ := h'.elem (k := j) (List.getElem?_eq_some_iff.1 hj).1
    exact hR.elim
  | d + 1, r + 1, A, c, l, h => by
    intro x hx g hg
    obtain ⟨j, hj⟩ := List.getElem?_of_mem hx
    have h' : GRowC w lo B (COk w lo B (Ch w lo B d)) A c l := h
    obtain ⟨_, _, y, _, _, _, e, _, hR⟩ := h'.elem (k := j) (List.getElem?_eq_some_iff.1 hj).1
    rw [hj] at e
    injection e with e
    subst e
    have hg' : g ∈ y.l := hg
    obtain ⟨i, hi⟩ := List.getElem?_of_mem hg'
    obtain ⟨_, _, u, _, _, _, e, _, hG⟩ := hR.a.elem (k := i) (List.getElem?_eq_some_iff.1 hi).1
    rw [hi] at e
    injection e with e
    subst e
    obtain ⟨n, hv⟩ := hG.v
    obtain ⟨m, hp⟩ := hG.p
    exact ⟨ints_of_rd n 12 _ _ _ _ _ hv, ints_of_pd m 12 _ _ _ _ _ hp, ints_of_ch d r _ _ _ hG.c⟩
structure PJ11 (W : World) (d : Nat) (A : Option Addr) (c : Nat) (l : List C) (w : World) : Prop where
  bel : Below W.heap.size W w
  nm : NM w
  ch : Ch w 0 w.heap.size d A c l
theorem PJ11.next {W : World} {d : Nat} {A : Option Addr} {c : Nat} {l : List C} {a b : World} (h : PJ11 W d A c l a) (hb : Below a.heap.size a b) : PJ11 W d A c l b := ⟨bnext h.bel hb, h.nm.next hb, h.ch.next hb⟩
theorem prtS_yes {l : List C} (h : qOk l = true) : prtS l = txC 10 [103] l := by unfold prtS; rw [if_pos h]
theorem prtS_no {l : List C} (h : qOk l = false) : prtS l = [] := by unfold prtS; rw [if_neg (by rw [h]; decide)]
end Go.Proofs.YtllkimdlmnjoiaaGreatDoor
