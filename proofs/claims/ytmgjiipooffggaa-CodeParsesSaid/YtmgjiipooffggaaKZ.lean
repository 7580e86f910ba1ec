/- Texts that are hurt; quotes. -/
import Derived.Test.YtmgjiipooffggaaKY
namespace Go.Proofs.Ytmgjiipooffggaa
set_option maxRecDepth 100000
open Go.RowKit Go.Sort

/-- How a text begins that is no number's. -/
theorem head_other (r : Nat) (t : V) (q : Bs) (h : fitsV t = true) (hk : t.k ≠ 2) : numB ((txt (r + 1) t ++ q).headD 0) = false ∧ txt (r + 1) t ≠ [] := by
  rcases fits_kind h with k | k | k | k | k | k | k | k
  · rw [txt_k1 r t k]; split
    · exact ⟨by show numB 102 = false; decide, by simp⟩
    · exact ⟨by show numB 116 = false; decide, by simp⟩
  · exact absurd k hk
  · rw [txt_k3 r t k]; exact ⟨by show numB 39 = false; decide, by simp [qL]⟩
  · rw [txt_k4 r t k]; exact ⟨by show numB 118 = false; decide, by simp⟩
  · rw [txt_k5 r t k]; exact ⟨by show numB 101 = false; decide, by simp⟩
  · rw [txt_k6 r t k]; exact ⟨by show numB 91 = false; decide, by simp⟩
  · rw [txt_k7 r t k]; exact ⟨by show numB 123 = false; decide, by simp⟩
  · rw [txt_k8 r t k]; exact ⟨by show numB 112 = false; decide, by simp⟩
theorem head_39 (r : Nat) (t : V) (h : fitsV t = true) (h39 : (txt (r + 1) t).headD 0 = 39) : t.k = 3 := by
  rcases fits_kind h with k | k | k | k | k | k | k | k
  · rw [txt_k1 r t k] at h39; split at h39
    · exact absurd h39 (by show ¬ (102 : UInt8) = 39; decide)
    · exact absurd h39 (by show ¬ (116 : UInt8) = 39; decide)
  · rw [txt_k2 r t k] at h39
    have := digL_head t.n []
    rw [List.append_nil, h39] at this
    exact absurd this (by decide)
  · exact k
  · rw [txt_k4 r t k] at h39; exact absurd h39 (by show ¬ (118 : UInt8) = 39; decide)
  · rw [txt_k5 r t k] at h39; exact absurd h39 (by show ¬ (101 : UInt8) = 39; decide)
  · rw [txt_k6 r t k] at h39; exact absurd h39 (by show ¬ (91 : UInt8) = 39; decide)
  · rw [txt_k7 r t k] at h39; exact absurd h39 (by show ¬ (123 : UInt8) = 39; decide)
  · rw [txt_k8 r t k] at h39; exact absurd h39 (by show ¬ (112 : UInt8) = 39; decide)
theorem ok_fits {r : Nat} {t : V} (h : okV (r + 1) t = true) : fitsV t = true := ((ok_parts r t).1 h).1
theorem prs_blank (l : Bs) : prs (32 :: l) = none := by
  apply prs_none
  rw [rd_succ, if_neg (by show ¬ numB 32 = true; decide), if_neg (by show ¬ (32 : UInt8) = 39; decide), if_neg (by show ¬ (97 ≤ (32 : UInt8).toNat ∧ (32 : UInt8).toNat ≤ 122); decide),
    show takeL [91] (32 :: l) = none from take_other (by decide)]
  simp only
  rw [show takeL [123] (32 :: l) = none from take_other (by decide)]
theorem prs_more (t : V) (ho : okV 12 t = true) (hi : intsOk 12 t) (hk : t.k ≠ 2) (c : UInt8) : prs (txt 12 t ++ [c]) = none := by
  rw [prs_some (rd_here 12 t [c] ho hi (fun h => absurd h hk))]; rfl
theorem prs_cut (t u : V) (k : Nat) (ho : okV 12 t = true) (hi : intsOk 12 t) (hk : t.k ≠ 2) (hlt : k < (txt 12 t).length) (h : prs ((txt 12 t).take k) = some u) (hu : intsOk 12 u) : False := by
  obtain ⟨e, ou⟩ := prs_sound h
  have hs : txt 12 t = txt 12 u ++ (txt 12 t).drop k := by rw [← e, List.take_append_drop]
  have hne : (txt 12 t).drop k ≠ [] := by intro h0; rw [List.drop_eq_nil_iff] at h0; omega
  have h1 := rd_here 12 t [] ho hi (fun h => absurd h hk)
  rw [List.append_nil] at h1
  by_cases k2 : u.k = 2
  · have h3 := (head_other 11 t [] (ok_fits ho) hk).1
    rw [List.append_nil, hs, txt_k2 11 u k2, digL_head] at h3
    cases h3
  · have h2 := rd_here 12 u ((txt 12 t).drop k) ou hu (fun h => absurd h k2)
    rw [← hs, h1] at h2
    injection h2 with h2
    injection h2 with _ h2
    exact hne h2.symm
/-- One text is no beginning of another one, but of numbers. -/
theorem txt_begin (a b : V) (oa : okV 12 a = true) (ob : okV 12 b = true) (ia : intsOk 12 a) (ib : intsOk 12 b) (z : Bs) (hz : z ≠ []) (h : txt 12 b = txt 12 a ++ z) : a.k = 2 := by
  apply Classical.byContradiction
  intro hk
  have h1 := rd_here 12 a z oa ia (fun h => absurd h hk)
  have h2 := rd_here 12 b [] ob ib (fun _ => by show numB 0 = false; decide)
  rw [List.append_nil, h, h1] at h2
  injection h2 with h2
  injection h2 with _ h2
  exact hz h2
theorem txt_inj (a b : V) (oa : okV 12 a = true) (ob : okV 12 b = true) (ia : intsOk 12 a) (ib : intsOk 12 b) (h : txt 12 a = txt 12 b) : a = b := by
  have h1 := prs_txt a oa ia
  rw [h, prs_txt b ob ib] at h1
  injection h1 with h1
  exact h1.symm

/-- A quote that is read. -/
theorem prs_quote (s : ByteArray) (h : s.size ≤ 1000) : prs (qL s.toList) = some (.mk 3 0 s [] []) := by
  have ho : okV 12 (.mk 3 0 s [] []) = true := ok_leaf 11 _ (fits_l3 s h) rfl rfl
  have := prs_txt (.mk 3 0 s [] []) ho ⟨by show fitsB 0 = true; decide, by simp [V.l], by simp [V.m]⟩
  rw [txt_k3 11 _ rfl] at this
  exact this
theorem prs_quote_no (s : ByteArray) (h : 1000 < s.size) : prs (qL s.toList) = none := by
  cases hp : prs (qL s.toList) with
  | none => rfl
  | some u =>
    obtain ⟨e, ou⟩ := prs_sound hp
    have hk := head_39 11 u (ok_fits ou) (by rw [← e]; rfl)
    rw [txt_k3 11 u hk] at e
    have := congrArg List.length (qL_inj e)
    rw [toList_size, toList_size] at this
    have := fits_3 (ok_fits ou) hk
    omega

/-- What is between the quotes from a place on. -/
def Btw (l : Bs) : Prop := ∃ h m : Bs, (∀ c ∈ h, seenB c = true ∧ c ≠ 39 ∧ c ≠ 92) ∧ l = h ++ (qM m ++ [39])
theorem hex_seen (n : Nat) (h : n < 16) : seenB (hexD n) = true ∧ hexD n ≠ 39 ∧ hexD n ≠ 92 := by
  have : ∀ m : Fin 16, seenB (hexD m.val) = true ∧ hexD m.val ≠ 39 ∧ hexD m.val ≠ 92 := by decide
  exact this ⟨n, h⟩
theorem Btw.start (m : Bs) : Btw (qM m ++ [39]) := ⟨[], m, by simp, rfl⟩
theorem Btw.ne {l : Bs} (h : Btw l) : l ≠ [] := by
  obtain ⟨h, m, _, rfl⟩ := h; simp
/-- One step on: a byte that can be seen and is no quote; two, if it is a backslash. -/
theorem Btw.step {c : UInt8} {r : Bs} (h : Btw (c :: r)) (hr : r ≠ []) : seenB c = true ∧ c ≠ 39 ∧ (c ≠ 92 → Btw r) ∧ (c = 92 → Btw (r.drop 1)) := by
  obtain ⟨h, m, hh, e⟩ := h
  match h, e with
  | x :: h', e =>
    injection e with e1 e2
    subst e1
    have := hh c (by simp)
    exact ⟨this.1, this.2.1, fun _ => ⟨h', m, fun y hy => hh y (by simp [hy]), e2⟩, fun e => absurd e this.2.2⟩
  | [], e =>
    match m, e with
    | [], e =>
      injection e with e1 e2
      exact absurd e2 hr
    | x :: m', e =>
      rw [List.nil_append, qM_cons] at e
      by_cases h1 : x = 39 ∨ x = 92
      · rw [show qB x = [92, x] by simp [qB, h1]] at e
        injection e with e1 e2
        subst e1
        exact ⟨by decide, by decide, fun h => absurd rfl h, fun _ => ⟨[], m', by simp, by rw [e2]; rfl⟩⟩
      · by_cases h2 : seenB x = true
        · rw [show qB x = [x] by simp [qB, h1, h2]] at e
          injection e with e1 e2
          subst e1
          exact ⟨h2, fun h => h1 (.inl h), fun _ => ⟨[], m', by simp, by rw [e2]; rfl⟩, fun h => absurd (.inr h) h1⟩
        · simp at h2
          rw [show qB x = [92, 120, hexD (x.toNat / 16), hexD (x.toNat % 16)] by simp [qB, h1, h2]] at e
          injection e with e1 e2
          subst e1
          have := x.toNat_lt
          exact ⟨by decide, by decide, fun h => absurd rfl h, fun _ => ⟨[hexD (x.toNat / 16), hexD (x.toNat % 16)], m', by
            intro y hy
            have : y = hexD (x.toNat / 16) ∨ y = hexD (x.toNat % 16) := by simpa using hy
            rcases this with rfl | rfl
            · exact hex_seen _ (by omega)
            · exact hex_seen _ (by omega), by rw [e2]; rfl⟩⟩
theorem Btw.last {l : Bs} (h : Btw l) : l.getLast? = some 39 := by
  obtain ⟨h, m, _, rfl⟩ := h
  simp
theorem qL_len (l : Bs) : l.length + 2 ≤ (qL l).length := by
  have : ∀ l : Bs, l.length ≤ (qM l).length := by
    intro l
    induction l with
    | nil => simp
    | cons c r ih =>
      rw [qM_cons, List.length_append]
      have : 1 ≤ (qB c).length := by unfold qB; split; simp; split <;> simp
      simp; omega
  have := this l
  simp [qL]; omega
end Go.Proofs.Ytmgjiipooffggaa
