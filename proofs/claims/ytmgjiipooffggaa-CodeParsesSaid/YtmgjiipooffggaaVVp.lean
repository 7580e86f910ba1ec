/- Carried over from the seat of layer 2. -/
import Derived.Test.YtmgjiipooffggaaVL
import Derived.Test.YtmgjiipooffggaaVJ
namespace Go.Proofs.Ytmgjiipooffggaa
set_option maxRecDepth 100000
open Go.RowKit

theorem cmpF_copy (s : Nat) (a : V) : cmpF (copyV s a) a = 0 := by
  have e : cmpF (copyV s a) a = cmpF a a := by cases s <;> rfl
  rw [e]; exact ord_cmpF.refl a
theorem rowC_map {f : V → V → Int} {g : V → V} (h : ∀ x, f (g x) x = 0) : ∀ l, rowC f (l.map g) l = 0
  | [] => rfl
  | x :: l => by
    rw [List.map_cons, rowC, h x, orI, if_pos rfl]; exact rowC_map h l
/-- A copy that is deep enough is the same. -/
theorem cmp_copy : ∀ r s a, r ≤ s → cmpV r (copyV s a) a = 0
  | 0, s, a, _ => cmpF_copy s a
  | r + 1, 0, _, h => absurd h (by omega)
  | r + 1, s + 1, a, h => by
    have ih := fun x => cmp_copy r s x (by omega)
    show orI (cmpF (copyV (s + 1) a) a) (orI (rowC (cmpV r) (a.l.map (copyV s)) a.l) (rowC (cmpV r) (a.m.map (copyV s)) a.m)) = 0
    rw [cmpF_copy, rowC_map ih, rowC_map ih]; rfl
theorem cmp_copies (r s : Nat) (a b : V) (h : r ≤ s) : cmpV r (copyV s a) (copyV s b) = cmpV r a b := by
  rw [(ord_cmpV r).same_left _ _ _ (cmp_copy r s a h), (ord_cmpV r).same_right a (copyV s b) b (cmp_copy r s b h)]
theorem map_same {g : V → V} {l : List V} (h : ∀ x ∈ l, g x = x) : l.map g = l := by
  rw [List.map_congr_left h, List.map_id']
/-- What may be, after the copy, was not cut by it. -/
theorem ok_copy_same : ∀ r s a, okV r (copyV s a) = true → r ≤ s → copyV s a = a
  | 0, _, _, h, _ => by simp [okV] at h
  | r + 1, 0, _, _, h => absurd h (by omega)
  | r + 1, s + 1, a, h, hs => by
    simp only [okV, Bool.and_eq_true] at h
    obtain ⟨⟨⟨_, h1⟩, h2⟩, _⟩ := h
    have e1 : a.l.map (copyV s) = a.l := map_same fun x hx => ok_copy_same r s x (List.all_eq_true.1 h1 _ (List.mem_map_of_mem hx)) (by omega)
    have e2 : a.m.map (copyV s) = a.m := map_same fun x hx => ok_copy_same r s x (List.all_eq_true.1 h2 _ (List.mem_map_of_mem hx)) (by omega)
    show V.mk a.k a.n a.s (a.l.map (copyV s)) (a.m.map (copyV s)) = a
    rw [e1, e2]; exact a.eta.symm
theorem ok_same_copy : ∀ r s a, okV r a = true → r ≤ s → copyV s a = a
  | 0, _, _, h, _ => by simp [okV] at h
  | r + 1, 0, _, _, h => absurd h (by omega)
  | r + 1, s + 1, a, h, hs => by
    simp only [okV, Bool.and_eq_true] at h
    obtain ⟨⟨⟨_, h1⟩, h2⟩, _⟩ := h
    have e1 : a.l.map (copyV s) = a.l := map_same fun x hx => ok_same_copy r s x (List.all_eq_true.1 h1 _ hx) (by omega)
    have e2 : a.m.map (copyV s) = a.m := map_same fun x hx => ok_same_copy r s x (List.all_eq_true.1 h2 _ hx) (by omega)
    show V.mk a.k a.n a.s (a.l.map (copyV s)) (a.m.map (copyV s)) = a
    rw [e1, e2]; exact a.eta.symm
theorem ok_copy (r s : Nat) (a : V) (h : r ≤ s) : okV r (copyV s a) = okV r a := by
  cases e : okV r a with
  | true => rw [ok_same_copy r s a e h]; exact e
  | false =>
    cases e2 : okV r (copyV s a) with
    | false => rfl
    | true => rw [ok_copy_same r s a e2 h, e] at e2; cases e2
theorem maxL_le_of {f : V → Nat} {n : Nat} : ∀ {l : List V}, (∀ x ∈ l, f x ≤ n) → maxL f l ≤ n
  | [], _ => Nat.zero_le _
  | x :: l, h => by
    have := maxL_le_of (l := l) (fun y hy => h y (List.mem_cons_of_mem _ hy))
    have := h x (by simp)
    simp only [maxL]; omega
theorem le_maxL {f : V → Nat} : ∀ {l : List V} {x : V}, x ∈ l → f x ≤ maxL f l
  | y :: l, x, h => by
    simp only [maxL]
    rcases List.mem_cons.1 h with rfl | h
    · omega
    · have := le_maxL (f := f) h; omega
theorem ok_depth : ∀ r q a, okV r a = true → depV q a ≤ r
  | 0, _, _, h => by simp [okV] at h
  | r + 1, 0, _, _ => by simp [depV]
  | r + 1, q + 1, a, h => by
    simp only [okV, Bool.and_eq_true] at h
    obtain ⟨⟨⟨_, h1⟩, h2⟩, _⟩ := h
    have e1 : maxL (depV q) a.l ≤ r := maxL_le_of fun x hx => ok_depth r q x (List.all_eq_true.1 h1 _ hx)
    have e2 : maxL (depV q) a.m ≤ r := maxL_le_of fun x hx => ok_depth r q x (List.all_eq_true.1 h2 _ hx)
    simp only [depV]; omega
theorem ok_less : ∀ r q a, okV (r + 1) a = true → depV q a ≤ r → r ≤ q → okV r a = true
  | 0, q, a, _, h, _ => by have := depV_pos q a; omega
  | r + 1, 0, _, _, _, h => absurd h (by omega)
  | r + 1, q + 1, a, h, hd, hq => by
    have h0 := h
    simp only [okV, Bool.and_eq_true] at h0
    obtain ⟨⟨⟨h00, h1⟩, h2⟩, h3⟩ := h0
    simp only [depV] at hd
    have e1 : a.l.all (okV r) = true := List.all_eq_true.2 fun x hx => ok_less r q x (by have := List.all_eq_true.1 h1 _ hx; simpa [okV] using this) (by have := le_maxL (f := depV q) hx; omega) (by omega)
    have e2 : a.m.all (okV r) = true := List.all_eq_true.2 fun x hx => ok_less r q x (by have := List.all_eq_true.1 h2 _ hx; simpa [okV] using this) (by have := le_maxL (f := depV q) hx; omega) (by omega)
    rw [okV, h00, e1, e2, h3]; rfl
theorem ok_more : ∀ r a, okV r a = true → okV (r + 1) a = true
  | 0, _, h => by simp [okV] at h
  | r + 1, a, h => by
    have h0 := h
    simp only [okV, Bool.and_eq_true] at h0
    obtain ⟨⟨⟨h00, h1⟩, h2⟩, h3⟩ := h0
    have e1 : a.l.all (okV (r + 1)) = true := List.all_eq_true.2 fun x hx => ok_more r x (List.all_eq_true.1 h1 _ hx)
    have e2 : a.m.all (okV (r + 1)) = true := List.all_eq_true.2 fun x hx => ok_more r x (List.all_eq_true.1 h2 _ hx)
    rw [okV, h00, e1, e2, h3]; rfl
theorem maxL_congr {f g : V → Nat} : ∀ {l : List V}, (∀ x ∈ l, f x = g x) → maxL f l = maxL g l
  | [], _ => rfl
  | x :: l, h => by rw [maxL, maxL, h x (by simp), maxL_congr (fun y hy => h y (List.mem_cons_of_mem _ hy))]
theorem maxL_map (f : V → Nat) (g : V → V) : ∀ l, maxL f (l.map g) = maxL (fun x => f (g x)) l
  | [] => rfl
  | x :: l => by rw [List.map_cons, maxL, maxL, maxL_map f g l]
theorem dep_copy : ∀ r s a, r ≤ s → depV r (copyV s a) = depV r a
  | 0, _, _, _ => rfl
  | r + 1, 0, _, h => absurd h (by omega)
  | r + 1, s + 1, a, h => by
    show 1 + max (maxL (depV r) (a.l.map (copyV s))) (maxL (depV r) (a.m.map (copyV s))) = 1 + max (maxL (depV r) a.l) (maxL (depV r) a.m)
    rw [maxL_map, maxL_map, maxL_congr (fun x _ => dep_copy r s x (by omega)), maxL_congr (l := a.m) (fun x _ => dep_copy r s x (by omega))]
theorem maxL_min {f g : V → Nat} {n : Nat} (h : ∀ x, f x = min (g x) n) : ∀ l, maxL f l = min (maxL g l) n
  | [] => by simp [maxL]
  | x :: l => by rw [maxL, maxL, h x, maxL_min h l]; omega
theorem dep_less : ∀ r a, depV r a = min (depV (r + 1) a) (r + 1)
  | 0, a => by simp only [depV]; omega
  | r + 1, a => by
    have ih := dep_less r
    have h1 := maxL_min (n := r + 1) ih a.l
    have h2 := maxL_min (n := r + 1) ih a.m
    show 1 + max (maxL (depV r) a.l) (maxL (depV r) a.m) = min (1 + max (maxL (depV (r + 1)) a.l) (maxL (depV (r + 1)) a.m)) (r + 2)
    rw [h1, h2]; omega
theorem rowC_congr {f g : V → V → Int} : ∀ {l l' : List V}, (∀ x ∈ l, ∀ y ∈ l', f x y = g x y) → rowC f l l' = rowC g l l'
  | [], [], _ => rfl
  | [], _ :: _, _ => rfl
  | _ :: _, [], _ => rfl
  | x :: l, y :: l', h => by
    rw [rowC, rowC, h x (by simp) y (by simp), rowC_congr (fun a ha b hb => h a (List.mem_cons_of_mem _ ha) b (List.mem_cons_of_mem _ hb))]
theorem maxL_zero {f : V → Nat} (hf : ∀ x, 1 ≤ f x) {l : List V} (h : maxL f l = 0) : l = [] := by
  cases l with
  | nil => rfl
  | cons x l => have := hf x; simp only [maxL] at h; omega
/-- Deeper is no other order where nothing is so deep. -/
theorem cmp_less : ∀ r q a b, depV q a ≤ r + 1 → depV q b ≤ r + 1 → r + 1 ≤ q → cmpV (r + 1) a b = cmpV r a b
  | _, 0, _, _, _, _, h => absurd h (by omega)
  | 0, q + 1, a, b, ha, hb, _ => by
    simp only [depV] at ha hb
    have la : a.l = [] := maxL_zero (depV_pos q) (by omega)
    have ma : a.m = [] := maxL_zero (depV_pos q) (by omega)
    have lb : b.l = [] := maxL_zero (depV_pos q) (by omega)
    have mb : b.m = [] := maxL_zero (depV_pos q) (by omega)
    show orI (cmpF a b) (orI (rowC (cmpV 0) a.l b.l) (rowC (cmpV 0) a.m b.m)) = cmpF a b
    rw [la, ma, lb, mb]
    show orI (cmpF a b) 0 = _
    unfold orI
    split <;> omega
  | r + 1, q + 1, a, b, ha, hb, hq => by
    simp only [depV] at ha hb
    show orI (cmpF a b) (orI (rowC (cmpV (r + 1)) a.l b.l) (rowC (cmpV (r + 1)) a.m b.m)) = orI (cmpF a b) (orI (rowC (cmpV r) a.l b.l) (rowC (cmpV r) a.m b.m))
    rw [rowC_congr (l := a.l) (l' := b.l) (fun x hx y hy => cmp_less r q x y (by have := le_maxL (f := depV q) hx; omega) (by have := le_maxL (f := depV q) hy; omega) (by omega)),
      rowC_congr (l := a.m) (l' := b.m) (fun x hx y hy => cmp_less r q x y (by have := le_maxL (f := depV q) hx; omega) (by have := le_maxL (f := depV q) hy; omega) (by omega))]

/-- A row of copies. -/
def rowV (l : List V) : V := .mk 6 0 ⟨#[]⟩ (l.map (copyV 12)) []
theorem dep_row_one (a : V) : (depV 12 (rowV [a]) : Int) = min ((depV 12 a : Int) + 1) 13 := by
  have e : depV 12 (rowV [a]) = 1 + max (max (depV 11 (copyV 12 a)) 0) 0 := rfl
  have q : depV 11 a = min (depV 12 a) 12 := dep_less 11 a
  rw [e, dep_copy 11 12 a (by omega), q]
  omega
theorem ok_row_one (a : V) : okV 12 (rowV [a]) = (okV 12 a && decide (depV 12 a < 12)) := by
  have e : okV 12 (rowV [a]) = (fitsV (rowV [a]) && (okV 11 (copyV 12 a) && true) && true && true) := rfl
  have hf : fitsV (rowV [a]) = true := by simp [fitsV, rowV, V.k, V.n, V.s, V.l, V.m, ByteArray.toList_eq]
  rw [e, hf, ok_copy 11 12 a (by omega)]
  simp only [Bool.true_and, Bool.and_true]
  cases h : okV 11 a with
  | true =>
    have h1 := ok_depth 11 12 a h
    have h2 : okV 12 a = true := by
      cases h' : okV 12 a with
      | true => rfl
      | false => exact absurd (ok_more 11 a h) (by rw [h']; simp)
    rw [h2, decide_eq_true (by omega)]; rfl
  | false =>
    cases h2 : okV 12 a with
    | false => rfl
    | true =>
      rw [Bool.true_and]
      symm
      refine decide_eq_false (fun hd => ?_)
      rw [ok_less 11 12 a h2 (by omega) (by omega)] at h
      cases h
end Go.Proofs.Ytmgjiipooffggaa

