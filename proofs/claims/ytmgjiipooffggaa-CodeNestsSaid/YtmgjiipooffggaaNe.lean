/- A row of two, a path of one: when they may be, and their texts. -/
import Derived.Test.YtmgjiipooffggaaNd
import Derived.Test.YtmgjiipooffggaaVVb
import Derived.Test.YtmgjiipooffggaaVVp
import Derived.Test.YtmgjiipooffggaaKX
namespace Go.Proofs.Ytmgjiipooffggaa
set_option maxRecDepth 100000
open Go.RowKit Go.Sort

theorem maxL_iff (f : V → Nat) (n : Nat) : ∀ l, maxL f l ≤ n ↔ ∀ x ∈ l, f x ≤ n
  | [] => by simp [maxL]
  | x :: r => by
    have := maxL_iff f n r
    simp only [maxL, List.mem_cons, forall_eq_or_imp, ← this]
    omega
/-- What may be with r + 1 levels may be with r, if it is not so deep. -/
theorem dep_ok : ∀ (r : Nat) (a : V), okV (r + 1) a = true → (okV r a = true ↔ depV (r + 1) a ≤ r)
  | 0, a, _ => by
    have := depV_pos (0 + 1) a
    constructor
    · intro h; cases h
    · intro h; omega
  | r + 1, a, h => by
    obtain ⟨hf, hl, hm, h7⟩ := (ok_parts (r + 1) a).1 h
    have e : depV (r + 2) a = 1 + max (maxL (depV (r + 1)) a.l) (maxL (depV (r + 1)) a.m) := rfl
    have L := maxL_iff (depV (r + 1)) r a.l
    have M := maxL_iff (depV (r + 1)) r a.m
    rw [e, ok_parts r a]
    constructor
    · rintro ⟨_, kl, km, _⟩
      have h1 := L.2 (fun x hx => (dep_ok r x (hl x hx)).1 (kl x hx))
      have h2 := M.2 (fun x hx => (dep_ok r x (hm x hx)).1 (km x hx))
      omega
    · intro hd
      have h1 := L.1 (by omega)
      have h2 := M.1 (by omega)
      exact ⟨hf, fun x hx => (dep_ok r x (hl x hx)).2 (h1 x hx), fun x hx => (dep_ok r x (hm x hx)).2 (h2 x hx), h7⟩
theorem dep12 (a : V) (h : okV 12 a = true) : okV 11 a = true ↔ depV 12 a ≤ 11 := dep_ok 11 a h
theorem itemsT_congr {α : Type} {f g : α → Bs} : ∀ (l : List α) (i : Nat), (∀ x ∈ l, f x = g x) → itemsT f i l = itemsT g i l
  | [], _, _ => rfl
  | x :: r, i, h => by
    simp only [itemsT]
    rw [h x (by simp), itemsT_congr r (i + 1) (fun y hy => h y (by simp [hy]))]
/-- Its text is the same with a level more. -/
theorem txt_up : ∀ (r : Nat) (t : V), okV r t = true → txt (r + 1) t = txt r t
  | 0, t, h => by cases h
  | r + 1, t, h => by
    obtain ⟨hf, hl, hm, h7⟩ := (ok_parts r t).1 h
    have L : ∀ x ∈ t.l, txt (r + 1) x = txt r x := fun x hx => txt_up r x (hl x hx)
    have M : ∀ x ∈ t.m, txt (r + 1) x = txt r x := fun x hx => txt_up r x (hm x hx)
    rcases fits_kind hf with k | k | k | k | k | k | k | k
    · rw [txt_k1 _ t k, txt_k1 _ t k]
    · rw [txt_k2 _ t k, txt_k2 _ t k]
    · rw [txt_k3 _ t k, txt_k3 _ t k]
    · rw [txt_k4 _ t k, txt_k4 _ t k]
    · rw [txt_k5 _ t k, txt_k5 _ t k]
    · rw [txt_k6 _ t k, txt_k6 _ t k, itemsT_congr t.l 0 L]
    · rw [txt_k7 _ t k, txt_k7 _ t k, itemsT_congr (f := pairT (txt (r + 1))) (g := pairT (txt r)) (t.l.zip t.m) 0 (fun p hp => by
        have h1 := L p.1 (List.of_mem_zip hp).1
        have h2 := M p.2 (List.of_mem_zip hp).2
        simp only [pairT, h1, h2])]
    · rw [txt_k8 _ t k, txt_k8 _ t k, itemsT_congr t.l 0 L]
theorem copy_id (a : V) (h : okV 12 a = true) : copyV 12 a = a := ok_copy_same 12 12 a (by rw [ok_copy 12 12 a (Nat.le_refl _)]; exact h) (Nat.le_refl _)

theorem row_two_ok (a b : V) (ha : okV 12 a = true) (hb : okV 12 b = true) : okV 12 (rowV [a, b]) = decide (max (depV 12 a) (depV 12 b) < 12) := by
  have e : rowV [a, b] = .mk 6 0 ⟨#[]⟩ [a, b] [] := by show V.mk 6 0 ⟨#[]⟩ [copyV 12 a, copyV 12 b] [] = _; rw [copy_id a ha, copy_id b hb]
  rw [e, Bool.eq_iff_iff, ok_parts 11, decide_eq_true_iff]
  have h1 := dep12 a ha
  have h2 := dep12 b hb
  constructor
  · rintro ⟨_, hl, _, _⟩
    have := h1.1 (hl a (by simp [V.l]))
    have := h2.1 (hl b (by simp [V.l]))
    omega
  · intro h
    refine ⟨fits_r6 [a, b] (by simp), fun x hx => ?_, fun x hx => by simp [V.m] at hx, fun h => by simp [V.k] at h⟩
    have : x = a ∨ x = b := by simpa [V.l] using hx
    rcases this with rfl | rfl
    · exact h1.2 (by omega)
    · exact h2.2 (by omega)
theorem row_two_txt (a b : V) (ha : okV 12 a = true) (hb : okV 12 b = true) (h : max (depV 12 a) (depV 12 b) < 12) : txt 12 (rowV [a, b]) = [91] ++ txt 12 a ++ [44, 32] ++ txt 12 b ++ [93] := by
  have e : rowV [a, b] = .mk 6 0 ⟨#[]⟩ [a, b] [] := by show V.mk 6 0 ⟨#[]⟩ [copyV 12 a, copyV 12 b] [] = _; rw [copy_id a ha, copy_id b hb]
  rw [e, txt_k6 11 _ rfl]
  show [91] ++ (itemsT (txt 11) 0 [a, b] ++ [93]) = _
  rw [show itemsT (txt 11) 0 [a, b] = (([] ++ txt 11 a) ++ (([44, 32] ++ txt 11 b) ++ [])) from rfl, ← txt_up 11 a ((dep12 a ha).2 (by omega)), ← txt_up 11 b ((dep12 b hb).2 (by omega))]
  simp
theorem path_one_ok (a : V) (ha : okV 12 a = true) : okV 12 (.mk 8 0 ⟨#[]⟩ [a] []) = decide (depV 12 a < 12) := by
  rw [Bool.eq_iff_iff, ok_parts 11, decide_eq_true_iff]
  have h1 := dep12 a ha
  constructor
  · rintro ⟨_, hl, _, _⟩
    have := h1.1 (hl a (by simp [V.l]))
    omega
  · intro h
    refine ⟨fits_r8 [a] (by simp), fun x hx => ?_, fun x hx => by simp [V.m] at hx, fun h => by simp [V.k] at h⟩
    have : x = a := by simpa [V.l] using hx
    subst this
    exact h1.2 (by omega)
theorem path_one_txt (a : V) (ha : okV 12 a = true) (h : depV 12 a < 12) : txt 12 (.mk 8 0 ⟨#[]⟩ [a] []) = [112, 97, 116, 104, 91] ++ txt 12 a ++ [93] := by
  rw [txt_k8 11 _ rfl]
  show [112, 97, 116, 104, 91] ++ (itemsT (txt 11) 0 [a] ++ [93]) = _
  rw [show itemsT (txt 11) 0 [a] = (([] ++ txt 11 a) ++ []) from rfl, ← txt_up 11 a ((dep12 a ha).2 (by omega))]
  simp
end Go.Proofs.Ytmgjiipooffggaa
