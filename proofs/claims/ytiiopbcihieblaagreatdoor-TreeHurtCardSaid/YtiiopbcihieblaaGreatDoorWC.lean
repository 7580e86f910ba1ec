/- Two texts of values, of predicates: read back. Plain. -/
import Derived.Test.YtiiopbcihieblaaGreatDoorTX
import Derived.Test.YtiiopbcihieblaaGreatDoorTK
import Derived.Test.YtiiopbcihieblaaGreatDoorTJ
import Derived.Test.YtiiopbcihieblaaGreatDoorTR
import Derived.Test.YtiiopbcihieblaaGreatDoorTM
namespace Go.Proofs.YtiiopbcihieblaaGreatDoor
set_option maxRecDepth 100000
open Go.RowKit Go.Sort

def St (s : Bs) : Prop := ∃ c r, s = c :: r ∧ (c = 44 ∨ c = 41 ∨ c = 93)
theorem split_class (p : UInt8 → Bool) : ∀ (L L' s s' : Bs), (∀ c ∈ L, p c = true) → (∀ c ∈ L', p c = true) → p (s.headD 0) = false → p (s'.headD 0) = false → s ≠ [] → s' ≠ [] → L ++ s = L' ++ s' → L = L' ∧ s = s'
  | [], [], _, _, _, _, _, _, _, _, h => ⟨rfl, h⟩
  | [], c :: L', s, s', _, h2, h3, _, h5, _, h => by
    obtain rfl : s = c :: (L' ++ s') := h
    have := h2 c (by simp)
    simp at h3
    rw [h3] at this; cases this
  | c :: L, [], s, s', h1, _, _, h4, _, h6, h => by
    obtain rfl : c :: (L ++ s) = s' := h
    have := h1 c (by simp)
    simp at h4
    rw [h4] at this; cases this
  | c :: L, c' :: L', s, s', h1, h2, h3, h4, h5, h6, h => by
    rw [List.cons_append, List.cons_append] at h
    injection h with e1 e2
    subst e1
    obtain ⟨e3, e4⟩ := split_class p L L' s s' (fun x hx => h1 x (by simp [hx])) (fun x hx => h2 x (by simp [hx])) h3 h4 h5 h6 e2
    exact ⟨by rw [e3], e4⟩
theorem St.ne {s : Bs} (h : St s) : s ≠ [] := by obtain ⟨c, r, rfl, _⟩ := h; simp
theorem St.head {s : Bs} (h : St s) (p : UInt8 → Bool) (h1 : p 44 = false) (h2 : p 41 = false) (h3 : p 93 = false) : p (s.headD 0) = false := by
  obtain ⟨c, r, rfl, rfl | rfl | rfl⟩ := h
  · exact h1
  · exact h2
  · exact h3
/-- Items are read back. -/
theorem items_back {α : Type} (f : α → Bs) (P : α → Prop) (U : ∀ x y s s', P x → P y → St s → St s' → f x ++ s = f y ++ s' → x = y ∧ s = s')
    (F : ∀ x, P x → ∃ c r, f x = c :: r ∧ c ≠ 44 ∧ c ≠ 41 ∧ c ≠ 93) (e : UInt8) (he : e = 41 ∨ e = 93) :
    ∀ (i : Nat) (l l' : List α) (s s' : Bs), (∀ x ∈ l, P x) → (∀ x ∈ l', P x) → itemsT f i l ++ e :: s = itemsT f i l' ++ e :: s' → l = l' ∧ s = s'
  | _, [], [], s, s', _, _, h => ⟨rfl, by simpa [itemsT] using h⟩
  | i, [], y :: l', s, s', _, hy, h => by
    exfalso
    obtain ⟨c, r, e1, c1, c2, c3⟩ := F y (hy y (by simp))
    simp only [itemsT, e1] at h
    by_cases hi : 0 < i
    · rw [if_pos hi] at h
      simp at h
      rcases he with rfl | rfl
      · exact absurd h.1 (by decide)
      · exact absurd h.1 (by decide)
    · rw [if_neg hi] at h
      simp at h
      rcases he with rfl | rfl
      · exact c2 h.1.symm
      · exact c3 h.1.symm
  | i, x :: l, [], s, s', hx, _, h => by
    exfalso
    obtain ⟨c, r, e1, c1, c2, c3⟩ := F x (hx x (by simp))
    simp only [itemsT, e1] at h
    by_cases hi : 0 < i
    · rw [if_pos hi] at h
      simp at h
      rcases he with rfl | rfl
      · exact absurd h.1 (by decide)
      · exact absurd h.1 (by decide)
    · rw [if_neg hi] at h
      simp at h
      rcases he with rfl | rfl
      · exact c2 h.1
      · exact c3 h.1
  | i, x :: l, y :: l', s, s', hx, hy, h => by
    have st : ∀ (l : List α) (s : Bs), St (itemsT f (i + 1) l ++ e :: s) := by
      intro l s
      cases l with
      | nil =>
        rcases he with rfl | rfl
        · exact ⟨41, s, rfl, by simp⟩
        · exact ⟨93, s, rfl, by simp⟩
      | cons z l => exact ⟨44, 32 :: (f z ++ (itemsT f (i + 1 + 1) l ++ e :: s)), by simp [itemsT], by simp⟩
    have h' : f x ++ (itemsT f (i + 1) l ++ e :: s) = f y ++ (itemsT f (i + 1) l' ++ e :: s') := by
      simp only [itemsT, List.append_assoc] at h
      exact List.append_cancel_left h
    obtain ⟨rfl, h2⟩ := U x y _ _ (hx x (by simp)) (hy y (by simp)) (st l s) (st l' s') h'
    obtain ⟨rfl, rfl⟩ := items_back f P U F e he (i + 1) l l' s s' (fun z hz => hx z (by simp [hz])) (fun z hz => hy z (by simp [hz])) h2
    exact ⟨rfl, rfl⟩
/-- A quoted text is read back. -/
theorem quote_back : ∀ (s s' r r' : Bs), s.flatMap qC ++ 39 :: r = s'.flatMap qC ++ 39 :: r' → s = s' ∧ r = r'
  | [], [], r, r', h => ⟨rfl, by simpa using h⟩
  | [], c :: t, r, r', h => by
    exfalso
    rw [List.flatMap_cons] at h
    unfold qC at h
    split at h
    · simp at h
    · rename_i hc
      simp at h
      exact hc (.inl h.1.symm)
  | c :: t, [], r, r', h => by
    exfalso
    rw [List.flatMap_cons] at h
    unfold qC at h
    split at h
    · simp at h
    · rename_i hc
      simp at h
      exact hc (.inl h.1)
  | c :: t, c' :: t', r, r', h => by
    rw [List.flatMap_cons, List.flatMap_cons, List.append_assoc, List.append_assoc] at h
    have e : c = c' ∧ t.flatMap qC ++ 39 :: r = t'.flatMap qC ++ 39 :: r' := by
      by_cases hc : c = 39 ∨ c = 92 <;> by_cases hc' : c' = 39 ∨ c' = 92
      · rw [show qC c = [92, c] by unfold qC; rw [if_pos hc], show qC c' = [92, c'] by unfold qC; rw [if_pos hc']] at h
        simp at h
        exact h
      · rw [show qC c = [92, c] by unfold qC; rw [if_pos hc], show qC c' = [c'] by unfold qC; rw [if_neg hc']] at h
        simp at h
        exact absurd (.inr h.1.symm) hc'
      · rw [show qC c = [c] by unfold qC; rw [if_neg hc], show qC c' = [92, c'] by unfold qC; rw [if_pos hc']] at h
        simp at h
        exact absurd (.inr h.1) hc
      · rw [show qC c = [c] by unfold qC; rw [if_neg hc], show qC c' = [c'] by unfold qC; rw [if_neg hc']] at h
        simp at h
        exact h
    obtain ⟨rfl, rfl⟩ := quote_back t t' r r' e.2
    exact ⟨by rw [e.1], rfl⟩
/-- What digits say, the least first. -/
def sayL : List Int → Int
  | [] => 0
  | d :: r => (d - 48) + 10 * sayL r
theorem say_lows : ∀ (k n : Nat), n ≤ k → sayL (lows n) = n
  | 0, n, h => by
    obtain rfl : n = 0 := by omega
    rw [lows_zero]; rfl
  | k + 1, n, h => by
    by_cases h0 : n = 0
    · subst h0; rw [lows_zero]; rfl
    · rw [lows_pos n (by omega)]
      simp only [sayL]
      rw [say_lows k (n / 10) (by omega)]
      omega
theorem say_all (n : Nat) : sayL (lowsAll n) = n := by
  unfold lowsAll
  simp only [sayL]
  rw [say_lows (n / 10) (n / 10) (Nat.le_refl _)]
  omega
theorem byte_inj {a b : Int} (ha : 48 ≤ a ∧ a ≤ 57) (hb : 48 ≤ b ∧ b ≤ 57) (h : UInt8.ofNat a.toNat = UInt8.ofNat b.toNat) : a = b := by
  have := congrArg UInt8.toNat h
  rw [UInt8.toNat_ofNat', UInt8.toNat_ofNat'] at this
  omega
theorem map_byte : ∀ (l m : List Int), (∀ z ∈ l, 48 ≤ z ∧ z ≤ 57) → (∀ z ∈ m, 48 ≤ z ∧ z ≤ 57) → l.map (fun z => UInt8.ofNat z.toNat) = m.map (fun z => UInt8.ofNat z.toNat) → l = m
  | [], [], _, _, _ => rfl
  | [], _ :: _, _, _, h => by simp at h
  | _ :: _, [], _, _, h => by simp at h
  | a :: l, b :: m, h1, h2, h => by
    simp only [List.map_cons] at h
    injection h with e1 e2
    rw [byte_inj (h1 a (by simp)) (h2 b (by simp)) e1, map_byte l m (fun z hz => h1 z (by simp [hz])) (fun z hz => h2 z (by simp [hz])) e2]
theorem digs_inj (a b : Nat) (h : (lowsAll a).reverse.map (fun z => UInt8.ofNat z.toNat) = (lowsAll b).reverse.map (fun z => UInt8.ofNat z.toNat)) : a = b := by
  have e := map_byte _ _ (fun z hz => lowsAll_dig a z (by simpa using hz)) (fun z hz => lowsAll_dig b z (by simpa using hz)) h
  have e' := congrArg sayL (List.reverse_inj.1 e)
  rw [say_all, say_all] at e'
  omega
theorem digs_head (a : Nat) (r : Bs) : (lowsAll a).reverse.map (fun z => UInt8.ofNat z.toNat) ≠ 45 :: r := by
  intro h
  have hm : (45 : UInt8) ∈ (lowsAll a).reverse.map (fun z => UInt8.ofNat z.toNat) := by rw [h]; simp
  obtain ⟨z, hz, e⟩ := List.mem_map.1 hm
  have hd := lowsAll_dig a z (by simpa using hz)
  have := congrArg UInt8.toNat e
  rw [UInt8.toNat_ofNat'] at this
  have h45 : (45 : UInt8).toNat = 45 := rfl
  rw [h45] at this
  omega
theorem digL_inj (a b : Int) (h : digL a = digL b) : a = b := by
  unfold digL at h
  by_cases ha : a < 0 <;> by_cases hb : b < 0
  · rw [if_pos ha, if_pos hb] at h
    have := digs_inj _ _ (List.append_cancel_left h)
    omega
  · rw [if_pos ha, if_neg hb] at h
    exact absurd h.symm (digs_head _ _)
  · rw [if_neg ha, if_pos hb] at h
    exact absurd h (digs_head _ _)
  · rw [if_neg ha, if_neg hb] at h
    have := digs_inj _ _ h
    omega
theorem fitk_1 {t : V} (h : fitsV t = true) (hk : t.k = 1) : (t.n = 0 ∨ t.n = 1) ∧ t.s.toList = [] ∧ t.l = [] ∧ t.m = [] := by
  unfold fitsV at h
  rw [if_pos hk] at h
  simp only [noItems, Bool.and_eq_true, Bool.or_eq_true, beq_iff_eq, List.isEmpty_iff, List.length_eq_zero_iff] at h
  exact ⟨h.1.1, h.1.2, h.2.1, h.2.2⟩
theorem fitk_2 {t : V} (h : fitsV t = true) (hk : t.k = 2) : t.s.toList = [] ∧ t.l = [] ∧ t.m = [] := by
  unfold fitsV at h
  rw [if_neg (by omega), if_pos hk] at h
  simp only [noItems, Bool.and_eq_true, beq_iff_eq, List.isEmpty_iff, List.length_eq_zero_iff] at h
  exact ⟨h.1, h.2.1, h.2.2⟩
theorem fitk_3 {t : V} (h : fitsV t = true) (hk : t.k = 3) : t.n = 0 ∧ t.l = [] ∧ t.m = [] := by
  unfold fitsV at h
  rw [if_neg (by omega), if_neg (by omega), if_pos hk] at h
  simp only [noItems, Bool.and_eq_true, beq_iff_eq, List.length_eq_zero_iff] at h
  exact ⟨h.1.1, h.2.1, h.2.2⟩
theorem fitk_6 {t : V} (h : fitsV t = true) (hk : t.k = 6) : t.n = 0 ∧ t.s.toList = [] ∧ t.m = [] := by
  unfold fitsV at h
  rw [if_neg (by omega), if_neg (by omega), if_neg (by omega), if_neg (by omega), if_pos (by omega)] at h
  simp only [Bool.and_eq_true, beq_iff_eq, List.isEmpty_iff, List.length_eq_zero_iff] at h
  exact ⟨h.1.1.1, h.1.1.2, h.2⟩
theorem wrV_k {r : Nat} {v : V} (h : wrV (r + 1) v = true) : v.k = 1 ∨ v.k = 2 ∨ v.k = 3 ∨ v.k = 6 := by
  unfold wrV at h
  by_cases h1 : v.k = 1 ∨ v.k = 2
  · omega
  · rw [if_neg h1] at h
    by_cases h3 : v.k = 3
    · omega
    · rw [if_neg h3] at h
      by_cases h6 : v.k = 6
      · omega
      · rw [if_neg h6] at h; cases h
theorem V_same {a b : V} (h1 : a.k = b.k) (h2 : a.n = b.n) (h3 : a.s.toList = b.s.toList) (h4 : a.l = b.l) (h5 : a.m = b.m) : a = b := by
  rw [a.eta, b.eta, h1, h2, str_same h3, h4, h5]
/-- Which kind of value begins so. -/
def kindV (c : UInt8) : Int := if c = 102 ∨ c = 116 then 1 else if numB c then 2 else if c = 39 then 3 else 6
theorem txV_head {r : Nat} {v : V} (h : wrV (r + 1) v = true) : ∃ c t, txV (r + 1) v = c :: t ∧ kindV c = v.k ∧ c ≠ 44 ∧ c ≠ 41 ∧ c ≠ 93 := by
  rcases wrV_k h with hk | hk | hk | hk
  · by_cases hn : v.n = 0
    · exact ⟨102, [97, 108, 115, 101], by simp only [txV]; rw [if_pos hk, if_pos hn], by rw [hk]; rfl, by decide, by decide, by decide⟩
    · exact ⟨116, [114, 117, 101], by simp only [txV]; rw [if_pos hk, if_neg hn], by rw [hk]; rfl, by decide, by decide, by decide⟩
  · cases hd : digL v.n with
    | nil => exact absurd hd (digL_ne _)
    | cons c t =>
      have hc : numB c = true := digL_num v.n c (by rw [hd]; simp)
      refine ⟨c, t, by simp only [txV]; rw [if_neg (by omega), if_pos hk, hd], ?_, ?_, ?_, ?_⟩
      · unfold kindV
        rw [if_neg (by rintro (rfl | rfl) <;> exact absurd hc (by decide)), if_pos hc, hk]
      · rintro rfl; exact absurd hc (by decide)
      · rintro rfl; exact absurd hc (by decide)
      · rintro rfl; exact absurd hc (by decide)
  · exact ⟨39, _, by simp only [txV]; rw [if_neg (by omega), if_neg (by omega), if_pos hk]; rfl, by rw [hk]; rfl, by decide, by decide, by decide⟩
  · exact ⟨91, _, by simp only [txV]; rw [if_neg (by omega), if_neg (by omega), if_neg (by omega)]; rfl, by rw [hk]; rfl, by decide, by decide, by decide⟩
/-- A value's text is read back. -/
theorem txV_back : ∀ (r : Nat) (v v' : V) (s s' : Bs), (okV r v = true ∧ wrV r v = true) → (okV r v' = true ∧ wrV r v' = true) → St s → St s' → txV r v ++ s = txV r v' ++ s' → v = v' ∧ s = s'
  | 0, _, _, _, _, h, _, _, _, _ => absurd h.1 (by simp [okV])
  | r + 1, v, v', s, s', ⟨o, w⟩, ⟨o', w'⟩, hs, hs', h => by
    obtain ⟨f1, f2, _, _⟩ := (ok_parts r v).1 o
    obtain ⟨g1, g2, _, _⟩ := (ok_parts r v').1 o'
    obtain ⟨c, t, e1, k1, _⟩ := txV_head w
    obtain ⟨c', t', e2, k2, _⟩ := txV_head w'
    have hkk : v.k = v'.k := by
      rw [e1, e2] at h
      simp only [List.cons_append] at h
      injection h with h1 _
      rw [← k1, ← k2, h1]
    clear e1 e2 k1 k2
    simp only [txV] at h
    rcases wrV_k w with hk | hk | hk | hk
    · have hk' : v'.k = 1 := by omega
      obtain ⟨n1, a1, a2, a3⟩ := fitk_1 f1 hk
      obtain ⟨n2, b1, b2, b3⟩ := fitk_1 g1 hk'
      rw [if_pos hk, if_pos hk'] at h
      by_cases z : v.n = 0 <;> by_cases z' : v'.n = 0
      · rw [if_pos z, if_pos z'] at h
        exact ⟨V_same hkk (by omega) (by rw [a1, b1]) (by rw [a2, b2]) (by rw [a3, b3]), List.append_cancel_left h⟩
      · rw [if_pos z, if_neg z'] at h
        simp at h
      · rw [if_neg z, if_pos z'] at h
        simp at h
      · rw [if_neg z, if_neg z'] at h
        exact ⟨V_same hkk (by omega) (by rw [a1, b1]) (by rw [a2, b2]) (by rw [a3, b3]), List.append_cancel_left h⟩
    · have hk' : v'.k = 2 := by omega
      obtain ⟨a1, a2, a3⟩ := fitk_2 f1 hk
      obtain ⟨b1, b2, b3⟩ := fitk_2 g1 hk'
      rw [if_neg (by omega), if_pos hk, if_neg (by omega), if_pos hk'] at h
      obtain ⟨e, e'⟩ := split_class numB _ _ s s' (digL_num v.n) (digL_num v'.n) (hs.head numB (by decide) (by decide) (by decide)) (hs'.head numB (by decide) (by decide) (by decide)) hs.ne hs'.ne h
      exact ⟨V_same hkk (digL_inj _ _ e) (by rw [a1, b1]) (by rw [a2, b2]) (by rw [a3, b3]), e'⟩
    · have hk' : v'.k = 3 := by omega
      obtain ⟨a1, a2, a3⟩ := fitk_3 f1 hk
      obtain ⟨b1, b2, b3⟩ := fitk_3 g1 hk'
      rw [if_neg (by omega), if_neg (by omega), if_pos hk, if_neg (by omega), if_neg (by omega), if_pos hk'] at h
      unfold qT at h
      simp only [List.cons_append, List.append_assoc, List.cons.injEq, true_and, List.nil_append] at h
      obtain ⟨e, e'⟩ := quote_back _ _ _ _ h
      exact ⟨V_same hkk (by omega) e (by rw [a2, b2]) (by rw [a3, b3]), e'⟩
    · have hk' : v'.k = 6 := by omega
      obtain ⟨a1, a2, a3⟩ := fitk_6 f1 hk
      obtain ⟨b1, b2, b3⟩ := fitk_6 g1 hk'
      have wl : ∀ x ∈ v.l, wrV r x = true := by
        unfold wrV at w
        rw [if_neg (by omega), if_neg (by omega), if_pos hk, List.all_eq_true] at w
        exact w
      have wl' : ∀ x ∈ v'.l, wrV r x = true := by
        unfold wrV at w'
        rw [if_neg (by omega), if_neg (by omega), if_pos hk', List.all_eq_true] at w'
        exact w'
      rw [if_neg (by omega), if_neg (by omega), if_neg (by omega), if_neg (by omega), if_neg (by omega), if_neg (by omega)] at h
      simp only [List.cons_append, List.append_assoc, List.cons.injEq, true_and, List.nil_append] at h
      obtain ⟨e, e'⟩ := items_back (txV r) (fun x => okV r x = true ∧ wrV r x = true) (fun x y s s' => txV_back r x y s s') (fun x hx => by
        cases r with
        | zero => exact absurd (show okV 0 x = true from hx.1) (by simp [okV])
        | succ r =>
          obtain ⟨c, t, e1, _, e2⟩ := txV_head hx.2
          exact ⟨c, t, e1, e2⟩) 93 (.inr rfl) 0 _ _ s s' (fun x hx => ⟨f2 x hx, wl x hx⟩) (fun x hx => ⟨g2 x hx, wl' x hx⟩) h
      exact ⟨V_same hkk (by omega) (by rw [a2, b2]) e (by rw [a3, b3]), e'⟩
end Go.Proofs.YtiiopbcihieblaaGreatDoor
/- Two texts of queries: read back; the same, and one. Plain. -/
namespace Go.Proofs.YtiiopbcihieblaaGreatDoor
set_option maxRecDepth 100000
open Go.RowKit Go.Sort

theorem names_low : (List.range 15).all (fun i => (namesB.getD i []).all (fun c => decide (97 ≤ c.toNat) && decide (c.toNat ≤ 122)) && (i == 0 || !(namesB.getD i []).isEmpty)) = true := by kernel_rfl
theorem names_two : (List.range 15).all (fun i => (List.range 15).all fun j => !(namesB.getD i [] == namesB.getD j []) || i == j) = true := by kernel_rfl
theorem fitsP_k {p : P} (h : fitsP p = true) : 1 ≤ p.k ∧ p.k ≤ 14 ∧ (p.k ≤ 11 → p.p = []) ∧ (12 ≤ p.k → p.v = [] ∧ 0 < p.p.length) := by
  unfold fitsP fitsN at h
  by_cases h1 : 1 ≤ p.k ∧ p.k ≤ 6
  · rw [if_pos h1] at h
    simp only [Bool.and_eq_true, beq_iff_eq, List.length_eq_zero_iff] at h
    exact ⟨by omega, by omega, fun _ => h.2, fun _ => by omega⟩
  rw [if_neg h1] at h
  by_cases h2 : 7 ≤ p.k ∧ p.k ≤ 9
  · rw [if_pos h2] at h
    simp only [Bool.and_eq_true, beq_iff_eq, List.length_eq_zero_iff] at h
    exact ⟨by omega, by omega, fun _ => h.2, fun _ => by omega⟩
  rw [if_neg h2] at h
  by_cases h3 : 10 ≤ p.k ∧ p.k ≤ 11
  · rw [if_pos h3] at h
    simp only [Bool.and_eq_true, beq_iff_eq, List.length_eq_zero_iff] at h
    exact ⟨by omega, by omega, fun _ => h.2, fun _ => by omega⟩
  rw [if_neg h3] at h
  by_cases h4 : p.k = 12
  · rw [if_pos h4] at h
    simp only [Bool.and_eq_true, beq_iff_eq, List.length_eq_zero_iff] at h
    exact ⟨by omega, by omega, fun _ => by omega, fun _ => ⟨h.1, by omega⟩⟩
  rw [if_neg h4] at h
  by_cases h5 : 13 ≤ p.k ∧ p.k ≤ 14
  · rw [if_pos h5] at h
    simp only [Bool.and_eq_true, beq_iff_eq, List.length_eq_zero_iff, decide_eq_true_eq] at h
    exact ⟨by omega, by omega, fun _ => by omega, fun _ => ⟨h.1, by omega⟩⟩
  rw [if_neg h5] at h; cases h
theorem nameP_low {k : Int} (h1 : 1 ≤ k) (h2 : k ≤ 14) : (∀ c ∈ nameP k, 97 ≤ c.toNat ∧ c.toNat ≤ 122) ∧ nameP k ≠ [] := by
  have := List.all_eq_true.1 names_low k.toNat (List.mem_range.2 (by omega))
  simp only [Bool.and_eq_true, List.all_eq_true, decide_eq_true_eq, Bool.or_eq_true, beq_iff_eq, Bool.not_eq_true'] at this
  refine ⟨this.1, fun h => ?_⟩
  rcases this.2 with h0 | h0
  · omega
  · unfold nameP at h; rw [h] at h0; cases h0
theorem nameP_inj {k k' : Int} (h1 : 1 ≤ k) (h2 : k ≤ 14) (h3 : 1 ≤ k') (h4 : k' ≤ 14) (h : nameP k = nameP k') : k = k' := by
  have := List.all_eq_true.1 (List.all_eq_true.1 names_two k.toNat (List.mem_range.2 (by omega))) k'.toNat (List.mem_range.2 (by omega))
  unfold nameP at h
  rw [h] at this
  simp at this
  omega
theorem P_same {a b : P} (h1 : a.k = b.k) (h2 : a.v = b.v) (h3 : a.p = b.p) : a = b := by
  cases a; cases b
  simp only [P.k, P.v, P.p] at h1 h2 h3
  rw [h1, h2, h3]
theorem low_ne {c : UInt8} (h : 97 ≤ c.toNat ∧ c.toNat ≤ 122) (d : UInt8) (hd : d.toNat < 97) : c ≠ d := by
  rintro rfl; omega
theorem txP_eq (r : Nat) (p : P) : txP (r + 1) p = nameP p.k ++ (40 :: ((if 0 < p.p.length then itemsT (txP r) 0 p.p else itemsT (txV 12) 0 p.v) ++ [41])) := rfl
theorem txP_head {r : Nat} {p : P} (h : okP (r + 1) p = true) : ∃ c t, txP (r + 1) p = c :: t ∧ c ≠ 44 ∧ c ≠ 41 ∧ c ≠ 93 := by
  obtain ⟨f, _, _⟩ := (okP_parts r p).1 h
  obtain ⟨k1, k2, _, _⟩ := fitsP_k f
  obtain ⟨l1, l2⟩ := nameP_low k1 k2
  cases hn : nameP p.k with
  | nil => exact absurd hn l2
  | cons c t =>
    have hc := l1 c (by rw [hn]; simp)
    exact ⟨c, _, by rw [txP_eq, hn]; rfl, low_ne hc 44 (by decide), low_ne hc 41 (by decide), low_ne hc 93 (by decide)⟩
theorem wrP_ps {r : Nat} {p : P} (h : wrP (r + 1) p = true) : (∀ x ∈ p.v, wrV 12 x = true) ∧ ∀ x ∈ p.p, wrP r x = true := by
  unfold wrP at h
  simpa only [Bool.and_eq_true, List.all_eq_true] using h
theorem txP_back : ∀ (r : Nat) (p p' : P) (s s' : Bs), (okP r p = true ∧ wrP r p = true) → (okP r p' = true ∧ wrP r p' = true) → St s → St s' → txP r p ++ s = txP r p' ++ s' → p = p' ∧ s = s'
  | 0, _, _, _, _, h, _, _, _, _ => absurd h.1 (by simp [okP])
  | r + 1, p, p', s, s', ⟨o, w⟩, ⟨o', w'⟩, hs, hs', h => by
    obtain ⟨f, ov, op⟩ := (okP_parts r p).1 o
    obtain ⟨g, ov', op'⟩ := (okP_parts r p').1 o'
    obtain ⟨k1, k2, k3, k4⟩ := fitsP_k f
    obtain ⟨q1, q2, q3, q4⟩ := fitsP_k g
    obtain ⟨wv, wp⟩ := wrP_ps w
    obtain ⟨wv', wp'⟩ := wrP_ps w'
    rw [txP_eq, txP_eq, List.append_assoc, List.append_assoc] at h
    obtain ⟨e1, e2⟩ := split_class (fun c => c != 40) _ _ _ _ (fun c hc => by
      have := low_ne ((nameP_low k1 k2).1 c hc) 40 (by decide)
      simpa using this) (fun c hc => by
      have := low_ne ((nameP_low q1 q2).1 c hc) 40 (by decide)
      simpa using this) (by simp) (by simp) (by simp) (by simp) h
    have hk := nameP_inj k1 k2 q1 q2 e1
    simp only [List.cons_append, List.append_assoc, List.cons.injEq, true_and, List.nil_append] at e2
    by_cases hc : p.k ≤ 11
    · have z := k3 hc
      have z' := q3 (by omega)
      rw [z, z'] at e2
      simp only [List.length_nil, Nat.lt_irrefl, if_false] at e2
      obtain ⟨e3, e4⟩ := items_back (txV 12) (fun x => okV 12 x = true ∧ wrV 12 x = true) (fun x y s s' => txV_back 12 x y s s') (fun x hx => by
        obtain ⟨c, t, e1, _, e2⟩ := txV_head (r := 11) hx.2
        exact ⟨c, t, e1, e2⟩) 41 (.inl rfl) 0 _ _ s s' (fun x hx => ⟨ov x hx, wv x hx⟩) (fun x hx => ⟨ov' x hx, wv' x hx⟩) e2
      exact ⟨P_same hk e3 (by rw [z, z']), e4⟩
    · obtain ⟨z, zl⟩ := k4 (by omega)
      obtain ⟨z', zl'⟩ := q4 (by omega)
      rw [if_pos zl, if_pos zl'] at e2
      obtain ⟨e3, e4⟩ := items_back (txP r) (fun x => okP r x = true ∧ wrP r x = true) (fun x y s s' => txP_back r x y s s') (fun x hx => by
        cases r with
        | zero => exact absurd (show okP 0 x = true from hx.1) (by simp [okP])
        | succ r => exact txP_head hx.1) 41 (.inl rfl) 0 _ _ s s' (fun x hx => ⟨op x hx, wp x hx⟩) (fun x hx => ⟨op' x hx, wp' x hx⟩) e2
      exact ⟨P_same hk (by rw [z, z']) e3, e4⟩
/-- A letter of a name. -/
def nc (c : UInt8) : Bool := letB c.toNat || (decide (48 ≤ c.toNat) && decide (c.toNat ≤ 57))
theorem length_toList' (s : ByteArray) : s.toList.length = s.size := by
  rw [ByteArray.toList_eq]
  exact Array.length_toList
theorem byt_of (s : ByteArray) (j : Nat) (c : UInt8) (h : s.toList[j]? = some c) : j < s.size ∧ byt s j = c.toNat := by
  rw [ByteArray.toList_eq, Array.getElem?_toList] at h
  obtain ⟨hj, e⟩ := Array.getElem?_eq_some_iff.1 h
  have hj' : j < s.size := hj
  refine ⟨hj', ?_⟩
  unfold byt
  rw [dif_pos hj', ← e]
  rfl
theorem name_chars {s : ByteArray} (h : nameB s = true) : (∀ c ∈ s.toList, nc c = true) ∧ ∃ c t, s.toList = c :: t ∧ letB c.toNat = true := by
  unfold nameB at h
  simp only [Bool.and_eq_true, decide_eq_true_eq] at h
  obtain ⟨⟨h1, _⟩, h3⟩ := h
  unfold nmAll at h3
  rw [List.all_eq_true] at h3
  refine ⟨fun c hc => ?_, ?_⟩
  · obtain ⟨j, hj⟩ := List.mem_iff_getElem?.1 hc
    obtain ⟨hl, e⟩ := byt_of s j c hj
    have := h3 j (List.mem_range.2 hl)
    rw [e] at this
    unfold nmC at this
    unfold nc
    simp only [Bool.or_eq_true, Bool.and_eq_true] at this ⊢
    rcases this with h | h
    · exact .inl h
    · exact .inr h.1
  · cases hs : s.toList with
    | nil =>
      have := length_toList' s
      rw [hs] at this
      simp at this
      omega
    | cons c t =>
      obtain ⟨hl, e⟩ := byt_of s 0 c (by rw [hs]; rfl)
      have := h3 0 (List.mem_range.2 hl)
      rw [e] at this
      unfold nmC at this
      simp only [Bool.or_eq_true, Bool.and_eq_true, decide_eq_true_eq] at this
      refine ⟨c, t, rfl, ?_⟩
      rcases this with h | h
      · exact h
      · omega
theorem take_split (p : UInt8 → Bool) : ∀ (L s : Bs), (∀ c ∈ L, p c = true) → p (s.headD 0) = false → s ≠ [] → (L ++ s).takeWhile p = L ∧ (L ++ s).dropWhile p = s
  | [], [], _, _, h => absurd rfl h
  | [], c :: s, _, h, _ => by
    simp only [List.headD_cons] at h
    exact ⟨by rw [List.nil_append, List.takeWhile_cons, h]; rfl, by rw [List.nil_append, List.dropWhile_cons, h]; rfl⟩
  | c :: L, s, h1, h2, h3 => by
    obtain ⟨e1, e2⟩ := take_split p L s (fun x hx => h1 x (by simp [hx])) h2 h3
    have hc := h1 c (by simp)
    exact ⟨by rw [List.cons_append, List.takeWhile_cons, hc, if_pos rfl, e1], by rw [List.cons_append, List.dropWhile_cons, hc, if_pos rfl, e2]⟩
/-- Which kind of argument begins so. -/
def kindG (t : Bs) : Int :=
  if (t.dropWhile nc).headD 0 = 40 then 2 else if (t.dropWhile nc).headD 0 = 46 then 3 else if (t.dropWhile nc).headD 0 = 45 ∨ (t.dropWhile nc).headD 0 = 39 ∨ (t.dropWhile nc).headD 0 = 91 then 1
  else if t.takeWhile nc = [116, 114, 117, 101] ∨ t.takeWhile nc = [102, 97, 108, 115, 101] ∨ letB ((t.takeWhile nc).headD 0).toNat = false then 1 else 4
theorem kindG_of (L s : Bs) (h1 : ∀ c ∈ L, nc c = true) (h2 : nc (s.headD 0) = false) (h3 : s ≠ []) : kindG (L ++ s) =
    if s.headD 0 = 40 then 2 else if s.headD 0 = 46 then 3 else if s.headD 0 = 45 ∨ s.headD 0 = 39 ∨ s.headD 0 = 91 then 1
    else if L = [116, 114, 117, 101] ∨ L = [102, 97, 108, 115, 101] ∨ letB (L.headD 0).toNat = false then 1 else 4 := by
  obtain ⟨e1, e2⟩ := take_split nc L s h1 h2 h3
  unfold kindG
  rw [e1, e2]
theorem kindG_stop (L s : Bs) (h1 : ∀ c ∈ L, nc c = true) (hs : St s) : kindG (L ++ s) = if L = [116, 114, 117, 101] ∨ L = [102, 97, 108, 115, 101] ∨ letB (L.headD 0).toNat = false then 1 else 4 := by
  rw [kindG_of L s h1 (hs.head nc (by decide) (by decide) (by decide)) hs.ne]
  obtain ⟨c, r, rfl, rfl | rfl | rfl⟩ := hs <;> simp
theorem low_nc {c : UInt8} (h : 97 ≤ c.toNat ∧ c.toNat ≤ 122) : nc c = true := by
  unfold nc letB
  simp [h.1, h.2]
theorem num_nc {c : UInt8} (h : numB c = true) (h2 : c ≠ 45) : nc c = true ∧ letB c.toNat = false := by
  unfold numB digB at h
  simp only [Bool.or_eq_true, beq_iff_eq, decide_eq_true_eq] at h
  rcases h with h | h
  · exact absurd h h2
  · refine ⟨by unfold nc; simp [h.1, h.2], ?_⟩
    unfold letB
    simp only [Bool.or_eq_false_iff, Bool.and_eq_false_iff, decide_eq_false_iff_not]
    omega
theorem kindV1 {r : Nat} {v : V} {s : Bs} (w : wrV (r + 1) v = true) (hs : St s) : kindG (txV (r + 1) v ++ s) = 1 := by
  rcases wrV_k w with hk | hk | hk | hk
  · simp only [txV]
    rw [if_pos hk]
    by_cases hn : v.n = 0
    · rw [if_pos hn, kindG_stop _ _ (by decide) hs, if_pos (.inr (.inl rfl))]
    · rw [if_neg hn, kindG_stop _ _ (by decide) hs, if_pos (.inl rfl)]
  · simp only [txV]
    rw [if_neg (by omega), if_pos hk]
    have hnum := digL_num v.n
    unfold digL at hnum ⊢
    by_cases hn : v.n < 0
    · rw [if_pos hn]
      have := kindG_of [] (45 :: ((lowsAll v.n.natAbs).reverse.map (fun z => UInt8.ofNat z.toNat) ++ s)) (by simp) (show nc 45 = false by decide) (by simp)
      simp only [List.nil_append, List.cons_append] at this ⊢
      rw [this]
      simp
    · rw [if_neg hn] at hnum ⊢
      simp only [List.nil_append] at hnum ⊢
      have h45 : ∀ c ∈ (lowsAll v.n.natAbs).reverse.map (fun z => UInt8.ofNat z.toNat), c ≠ 45 := by
        intro c hc e
        subst e
        obtain ⟨z, hz, e⟩ := List.mem_map.1 hc
        have hd := lowsAll_dig v.n.natAbs z (by simpa using hz)
        have := congrArg UInt8.toNat e
        rw [UInt8.toNat_ofNat'] at this
        have h45 : (45 : UInt8).toNat = 45 := rfl
        rw [h45] at this
        omega
      have hne : (lowsAll v.n.natAbs).reverse.map (fun z => UInt8.ofNat z.toNat) ≠ [] := by
        unfold lowsAll; simp
      generalize (lowsAll v.n.natAbs).reverse.map (fun z => UInt8.ofNat z.toNat) = L at *
      rw [kindG_stop L s (fun c hc => (num_nc (hnum c hc) (h45 c hc)).1) hs]
      cases L with
      | nil => exact absurd rfl hne
      | cons c t => rw [if_pos (.inr (.inr (num_nc (hnum c (by simp)) (h45 c (by simp))).2))]
  · simp only [txV]
    rw [if_neg (by omega), if_neg (by omega), if_pos hk]
    unfold qT
    have := kindG_of [] (39 :: ((v.s.toList.flatMap qC ++ [39]) ++ s)) (by simp) (show nc 39 = false by decide) (by simp)
    simp only [List.nil_append, List.cons_append] at this ⊢
    rw [this]
    simp
  · simp only [txV]
    rw [if_neg (by omega), if_neg (by omega), if_neg (by omega)]
    have := kindG_of [] (91 :: ((itemsT (txV r) 0 v.l ++ [93]) ++ s)) (by simp) (show nc 91 = false by decide) (by simp)
    simp only [List.nil_append, List.cons_append] at this ⊢
    rw [this]
    simp
theorem kindP2 {p : P} {s : Bs} (o : okP 12 p = true) : kindG (txP 12 p ++ s) = 2 := by
  obtain ⟨f, _, _⟩ := (okP_parts 11 p).1 o
  obtain ⟨k1, k2, _, _⟩ := fitsP_k f
  rw [txP_eq, List.append_assoc, kindG_of _ _ (fun c hc => low_nc ((nameP_low k1 k2).1 c hc)) (by exact (show nc 40 = false by decide)) (by simp)]
  simp
/-- The calls' text. -/
def bodyR (r : Nat) (l : List C) : Bs := l.flatMap (txCall (txC r [95, 95]))
theorem kindC3 {r : Nat} {l : List C} {s : Bs} (h : 0 < l.length) : kindG (([95, 95] ++ bodyR r l) ++ s) = 3 := by
  cases l with
  | nil => simp at h
  | cons x l =>
    rw [List.append_assoc, kindG_of _ _ (by decide) (by unfold bodyR; rw [List.flatMap_cons]; unfold txCall; simp; decide) (by unfold bodyR; rw [List.flatMap_cons]; unfold txCall; simp)]
    unfold bodyR
    rw [List.flatMap_cons]
    unfold txCall
    simp
theorem kindW4 {w : ByteArray} {s : Bs} (hn : nameB w = true) (ht : takenB w = false) (hs : St s) : kindG (w.toList ++ s) = 4 := by
  obtain ⟨h1, c, t, e, h2⟩ := name_chars hn
  rw [kindG_stop _ _ h1 hs]
  unfold takenB at ht
  simp only [Bool.or_eq_false_iff, beq_eq_false_iff_ne, ne_eq] at ht
  rw [if_neg]
  rintro (h | h | h)
  · exact ht.1.1.2 h
  · exact ht.1.2 h
  · rw [e] at h
    simp only [List.headD_cons] at h
    rw [h2] at h; cases h
theorem zeroV_of {v : V} (h : (cmpV 12 v zeroV == 0) = true) : v = zeroV := by
  have h' : orI (cmpF v zeroV) (orI (rowC (cmpV 11) v.l zeroV.l) (rowC (cmpV 11) v.m zeroV.m)) = 0 := (beq_iff_eq.1 h : cmpV 12 v zeroV = 0)
  obtain ⟨h1, h2⟩ := orI_both h'
  obtain ⟨h3, h4⟩ := orI_both h2
  unfold cmpF at h1
  obtain ⟨k1, k2⟩ := orI_both h1
  obtain ⟨k3, k4⟩ := orI_both k2
  have e1 := rowC_zero _ _ (fun x hx y (hy : y ∈ ([] : List V)) h => by cases hy) h3
  have e2 := rowC_zero _ _ (fun x hx y (hy : y ∈ ([] : List V)) h => by cases hy) h4
  rw [v.eta, zeroV.eta, cmpI_zero k1, cmpI_zero k3, cmpS_zero k4, e1, e2]
  rfl
theorem fit_rest {g : Ag} (h : fitsA g = true) : (g.k ≠ 1 → g.v = zeroV) ∧ (g.k ≠ 2 → g.p = .mk 0 [] []) ∧ (g.k ≠ 3 → g.c = []) ∧ (g.k ≠ 4 → g.s.toList = []) := by
  unfold fitsA at h
  simp only [Bool.and_eq_true, Bool.or_eq_true, beq_iff_eq] at h
  obtain ⟨⟨⟨h1, h2⟩, h3⟩, h4⟩ := h
  refine ⟨fun n => ?_, fun n => ?_, fun n => ?_, fun n => ?_⟩
  · rcases h1 with h1 | h1
    · exact absurd h1 n
    · exact zeroV_of (by simpa using h1)
  · rcases h2 with h2 | h2
    · exact absurd h2 n
    · unfold isZeroP at h2
      simp only [Bool.and_eq_true, beq_iff_eq, List.length_eq_zero_iff] at h2
      exact P_same h2.1.1 h2.1.2 h2.2
  · rcases h3 with h3 | h3
    · exact absurd h3 n
    · exact List.length_eq_zero_iff.1 h3
  · rcases h4 with h4 | h4
    · exact absurd h4 n
    · simpa using h4
theorem Ag_same {g u : Ag} (h1 : g.k = u.k) (h2 : g.v = u.v) (h3 : g.p = u.p) (h4 : g.c = u.c) (h5 : g.s.toList = u.s.toList) : g = u := by
  cases g; cases u
  simp only at h1 h2 h3 h4 h5
  rw [h1, h2, h3, h4, str_same h5]
def ChBack (q : Nat) : Prop := ∀ (l l' : List C) (s s' : Bs), chOk (q + 1) l = true → chOk (q + 1) l' = true → s.headD 0 ≠ 46 → s'.headD 0 ≠ 46 → bodyR q l ++ s = bodyR q l' ++ s' → l = l' ∧ s = s'
theorem St.dot {s : Bs} (h : St s) : s.headD 0 ≠ 46 := by
  obtain ⟨c, r, rfl, rfl | rfl | rfl⟩ := h <;> simp
theorem ch_len {r : Nat} {l : List C} (h : chOk (r + 1) l = true) : 0 < l.length ∧ ∀ x ∈ l, callOk (chOk r) x = true := by
  have h' : (decide (0 < l.length) && l.all (callOk (chOk r))) = true := h
  rw [Bool.and_eq_true, List.all_eq_true, decide_eq_true_eq] at h'
  exact h'
theorem arg_kind {r : Nat} {g : Ag} {s : Bs} (ho : argOk (chOk r) g = true) (hs : St s) : kindG (txG (txC r [95, 95]) g ++ s) = g.k := by
  have hf := argOk_fit ho
  obtain hk | hk | hk | hk := (argOk_parts _ _ ho).1
  · rw [argOk_1 _ _ hf hk, Bool.and_eq_true] at ho
    rw [txG_1 _ _ hk, kindV1 (r := 11) ho.2 hs, hk]
  · rw [argOk_2 _ _ hf hk, Bool.and_eq_true] at ho
    rw [txG_2 _ _ hk, kindP2 ho.1, hk]
  · rw [argOk_3 _ _ hf hk] at ho
    rw [txG_3 _ _ hk]
    cases r with
    | zero => cases ho
    | succ q => exact (kindC3 (ch_len ho).1).trans hk.symm
  · rw [argOk_4 _ _ hf hk, Bool.and_eq_true, Bool.not_eq_true'] at ho
    rw [txG_4 _ _ hk, kindW4 ho.1 ho.2 hs, hk]
theorem arg_back (r : Nat) (ih : ∀ q, r = q + 1 → ChBack q) (g u : Ag) (s s' : Bs) (ho : argOk (chOk r) g = true) (ho' : argOk (chOk r) u = true) (hs : St s) (hs' : St s') (h : txG (txC r [95, 95]) g ++ s = txG (txC r [95, 95]) u ++ s') : g = u ∧ s = s' := by
  have hkk : g.k = u.k := by rw [← arg_kind ho hs, h, arg_kind ho' hs']
  have hf := argOk_fit ho
  have hf' := argOk_fit ho'
  obtain ⟨a1, a2, a3, a4⟩ := fit_rest hf
  obtain ⟨b1, b2, b3, b4⟩ := fit_rest hf'
  obtain hk | hk | hk | hk := (argOk_parts _ _ ho).1
  · have hk' : u.k = 1 := by omega
    rw [argOk_1 _ _ hf hk, Bool.and_eq_true] at ho
    rw [argOk_1 _ _ hf' hk', Bool.and_eq_true] at ho'
    rw [txG_1 _ _ hk, txG_1 _ _ hk'] at h
    obtain ⟨e, e'⟩ := txV_back 12 _ _ _ _ ho ho' hs hs' h
    exact ⟨Ag_same hkk e (by rw [a2 (by omega), b2 (by omega)]) (by rw [a3 (by omega), b3 (by omega)]) (by rw [a4 (by omega), b4 (by omega)]), e'⟩
  · have hk' : u.k = 2 := by omega
    rw [argOk_2 _ _ hf hk, Bool.and_eq_true] at ho
    rw [argOk_2 _ _ hf' hk', Bool.and_eq_true] at ho'
    rw [txG_2 _ _ hk, txG_2 _ _ hk'] at h
    obtain ⟨e, e'⟩ := txP_back 12 _ _ _ _ ho ho' hs hs' h
    exact ⟨Ag_same hkk (by rw [a1 (by omega), b1 (by omega)]) e (by rw [a3 (by omega), b3 (by omega)]) (by rw [a4 (by omega), b4 (by omega)]), e'⟩
  · have hk' : u.k = 3 := by omega
    rw [argOk_3 _ _ hf hk] at ho
    rw [argOk_3 _ _ hf' hk'] at ho'
    rw [txG_3 _ _ hk, txG_3 _ _ hk'] at h
    cases r with
    | zero => cases ho
    | succ q =>
      have h' : ([95, 95] ++ bodyR q g.c) ++ s = ([95, 95] ++ bodyR q u.c) ++ s' := h
      rw [List.append_assoc, List.append_assoc] at h'
      obtain ⟨e, e'⟩ := ih q rfl g.c u.c s s' ho ho' hs.dot hs'.dot (List.append_cancel_left h')
      exact ⟨Ag_same hkk (by rw [a1 (by omega), b1 (by omega)]) (by rw [a2 (by omega), b2 (by omega)]) e (by rw [a4 (by omega), b4 (by omega)]), e'⟩
  · have hk' : u.k = 4 := by omega
    rw [argOk_4 _ _ hf hk, Bool.and_eq_true] at ho
    rw [argOk_4 _ _ hf' hk', Bool.and_eq_true] at ho'
    rw [txG_4 _ _ hk, txG_4 _ _ hk'] at h
    obtain ⟨e, e'⟩ := split_class nc _ _ s s' (name_chars ho.1).1 (name_chars ho'.1).1 (hs.head nc (by decide) (by decide) (by decide)) (hs'.head nc (by decide) (by decide) (by decide)) hs.ne hs'.ne h
    exact ⟨Ag_same hkk (by rw [a1 (by omega), b1 (by omega)]) (by rw [a2 (by omega), b2 (by omega)]) (by rw [a3 (by omega), b3 (by omega)]) e, e'⟩
theorem nc40 {s : ByteArray} (h : nameB s = true) : ∀ c ∈ s.toList, (c != 40) = true := by
  intro c hc
  have := (name_chars h).1 c hc
  simp only [bne_iff_ne, ne_eq]
  rintro rfl
  exact absurd this (by decide)
theorem arg_head {r : Nat} {g : Ag} (ho : argOk (chOk r) g = true) : ∃ c t, txG (txC r [95, 95]) g = c :: t ∧ c ≠ 44 ∧ c ≠ 41 ∧ c ≠ 93 := by
  have hf := argOk_fit ho
  obtain hk | hk | hk | hk := (argOk_parts _ _ ho).1
  · rw [argOk_1 _ _ hf hk, Bool.and_eq_true] at ho
    rw [txG_1 _ _ hk]
    obtain ⟨c, t, e, _, e2⟩ := txV_head (r := 11) ho.2
    exact ⟨c, t, e, e2⟩
  · rw [argOk_2 _ _ hf hk, Bool.and_eq_true] at ho
    rw [txG_2 _ _ hk]
    exact txP_head (r := 11) ho.1
  · rw [txG_3 _ _ hk]
    cases r with
    | zero => exact ⟨95, [95], rfl, by decide, by decide, by decide⟩
    | succ q => exact ⟨95, 95 :: bodyR q g.c, rfl, by decide, by decide, by decide⟩
  · rw [argOk_4 _ _ hf hk, Bool.and_eq_true] at ho
    rw [txG_4 _ _ hk]
    obtain ⟨h1, c, t, e, _⟩ := name_chars ho.1
    have hc := h1 c (by rw [e]; simp)
    refine ⟨c, t, e, ?_, ?_, ?_⟩ <;> (rintro rfl; exact absurd hc (by decide))
theorem C_same {x y : C} (h1 : x.n.toList = y.n.toList) (h2 : x.a = y.a) : x = y := by
  cases x; cases y
  simp only [C.n, C.a] at h1 h2
  rw [str_same h1, h2]
theorem calls_back (q : Nat) (ih : ∀ p, q = p + 1 → ChBack p) : ∀ (l l' : List C) (s s' : Bs), (∀ x ∈ l, callOk (chOk q) x = true) → (∀ x ∈ l', callOk (chOk q) x = true) → s.headD 0 ≠ 46 → s'.headD 0 ≠ 46 → bodyR q l ++ s = bodyR q l' ++ s' → l = l' ∧ s = s'
  | [], [], _, _, _, _, _, _, h => ⟨rfl, by simpa [bodyR] using h⟩
  | [], y :: l', s, s', _, _, hs, _, h => by
    exfalso
    unfold bodyR at h
    rw [List.flatMap_cons] at h
    unfold txCall at h
    simp at h
    rw [h] at hs
    simp at hs
  | x :: l, [], s, s', _, _, _, hs', h => by
    exfalso
    unfold bodyR at h
    rw [List.flatMap_cons] at h
    unfold txCall at h
    simp at h
    rw [← h] at hs'
    simp at hs'
  | x :: l, y :: l', s, s', hx, hy, hs, hs', h => by
    obtain ⟨n1, _, _, a1⟩ := call_parts (hx x (by simp))
    obtain ⟨n2, _, _, a2⟩ := call_parts (hy y (by simp))
    have e : ∀ (z : C) (m : List C) (t : Bs), bodyR q (z :: m) ++ t = 46 :: (z.n.toList ++ (40 :: (itemsT (txG (txC q [95, 95])) 0 z.a ++ 41 :: (bodyR q m ++ t)))) := by
      intro z m t
      unfold bodyR
      rw [List.flatMap_cons]
      unfold txCall
      simp
    rw [e, e] at h
    injection h with _ h
    obtain ⟨e1, e2⟩ := split_class (fun c => c != 40) _ _ _ _ (nc40 n1) (nc40 n2) (by simp) (by simp) (by simp) (by simp) h
    injection e2 with _ e2
    obtain ⟨e3, e4⟩ := items_back (txG (txC q [95, 95])) (fun g => argOk (chOk q) g = true) (fun g u s s' => arg_back q ih g u s s') (fun g hg => arg_head hg) 41 (.inl rfl) 0 _ _ _ _ a1 a2 e2
    obtain ⟨e5, e6⟩ := calls_back q ih l l' s s' (fun z hz => hx z (by simp [hz])) (fun z hz => hy z (by simp [hz])) hs hs' e4
    exact ⟨by rw [C_same e1 e3, e5], e6⟩
theorem ch_back : ∀ q, ChBack q
  | 0 => fun l l' s s' h h' => calls_back 0 (fun _ h => by omega) l l' s s' (ch_len h).2 (ch_len h').2
  | q + 1 => fun l l' s s' h h' => calls_back (q + 1) (fun p hp => by cases hp; exact ch_back q) l l' s s' (ch_len h).2 (ch_len h').2
/-- One text, one query. -/
theorem txt_one {a b : List C} (ha : chOk 10 a = true) (hb : chOk 10 b = true) (h : txC 10 [103] a = txC 10 [103] b) : a = b := by
  have h' : [103] ++ bodyR 9 a = [103] ++ bodyR 9 b := h
  have h2 : bodyR 9 a ++ [] = bodyR 9 b ++ [] := by rw [List.append_nil, List.append_nil]; exact List.append_cancel_left h'
  exact (ch_back 9 a b [] [] ha hb (by simp) (by simp) h2).1
theorem eqL_one {α : Type} {f : α → α → Bool} : ∀ (l m : List α), (∀ x ∈ l, ∀ y ∈ m, f x y = true → x = y) → eqL f l m = true → l = m
  | [], [], _, _ => rfl
  | [], _ :: _, _, h => by cases h
  | _ :: _, [], _, h => by cases h
  | x :: l, y :: m, hf, h => by
    simp only [eqL, Bool.and_eq_true] at h
    rw [hf x (by simp) y (by simp) h.1, eqL_one l m (fun a ha b hb => hf a (by simp [ha]) b (by simp [hb])) h.2]
theorem eqL_refl {α : Type} {f : α → α → Bool} : ∀ (l : List α), (∀ x ∈ l, f x x = true) → eqL f l l = true
  | [], _ => rfl
  | x :: l, h => by simp only [eqL]; rw [h x (by simp), eqL_refl l (fun y hy => h y (by simp [hy]))]; rfl
theorem eqV_one {x y : V} (hx : okV 12 x = true) (hy : okV 12 y = true) (h : eqV x y = true) : x = y :=
  cmp_zero 12 12 x y hx hy (Nat.le_refl _) (by unfold eqV at h; simpa using h)
theorem eqV_refl (x : V) : eqV x x = true := by
  unfold eqV
  rw [(ord_cmpV 12).refl x]; rfl
theorem sameQ_one : ∀ (r n : Nat) (p q : P), okP r p = true → okP r q = true → r ≤ n → sameQ n p q = true → p = q
  | 0, _, _, _, h, _, _, _ => absurd h (by simp [okP])
  | r + 1, 0, _, _, _, _, h, _ => by omega
  | r + 1, n + 1, p, q, hp, hq, hn, h => by
    obtain ⟨_, v1, p1⟩ := (okP_parts r p).1 hp
    obtain ⟨_, v2, p2⟩ := (okP_parts r q).1 hq
    simp only [sameQ, Bool.and_eq_true, beq_iff_eq] at h
    exact P_same h.1 (eqL_one _ _ (fun x hx y hy => eqV_one (v1 x hx) (v2 y hy)) h.2.1) (eqL_one _ _ (fun x hx y hy => sameQ_one r n x y (p1 x hx) (p2 y hy) (by omega)) h.2.2)
theorem sameQ_refl : ∀ (n : Nat) (p : P), sameQ n p p = true
  | 0, _ => rfl
  | n + 1, p => by
    simp only [sameQ]
    rw [eqL_refl p.v (fun x _ => eqV_refl x), eqL_refl p.p (fun x _ => sameQ_refl n x)]
    simp
theorem sameP_one {p q : P} (hp : okP 12 p = true) (hq : okP 12 q = true) (h : sameP p q = true) : p = q := by
  unfold sameP at h
  rw [← sameQ_top (max 12 (hP p)) (hP p) p q (by omega) (Nat.le_refl _)] at h
  exact sameQ_one 12 _ p q hp hq (by omega) h
theorem sameC_one : ∀ (r : Nat) (l m : List C), chOk r l = true → chOk r m = true → sameC (r + 1) l m = true → l = m
  | 0, _, _, h, _, _ => by cases h
  | r + 1, l, m, hl, hm, h => by
    have h' : eqL (sameCl (sameC (r + 1))) l m = true := h
    refine eqL_one l m (fun x hx y hy hxy => ?_) h'
    obtain ⟨_, _, _, a1⟩ := call_parts ((ch_len hl).2 x hx)
    obtain ⟨_, _, _, a2⟩ := call_parts ((ch_len hm).2 y hy)
    unfold sameCl at hxy
    simp only [Bool.and_eq_true, beq_iff_eq] at hxy
    refine C_same hxy.1 (eqL_one _ _ (fun g hg u hu hgu => ?_) hxy.2)
    have ho := a1 g hg
    have ho' := a2 u hu
    have hf := argOk_fit ho
    have hf' := argOk_fit ho'
    obtain ⟨z1, z2, z3, z4⟩ := fit_rest hf
    obtain ⟨b1, b2, b3, b4⟩ := fit_rest hf'
    unfold sameA at hgu
    simp only [Bool.and_eq_true, beq_iff_eq] at hgu
    obtain ⟨hkk, hs, hv, hp, hc⟩ := hgu
    refine Ag_same hkk ?_ ?_ ?_ hs
    · by_cases hk : g.k = 1
      · rw [argOk_1 _ _ hf hk, Bool.and_eq_true] at ho
        rw [argOk_1 _ _ hf' (by omega), Bool.and_eq_true] at ho'
        exact cmp_zero 12 12 _ _ ho.1 ho'.1 (Nat.le_refl _) hv
      · rw [z1 hk, b1 (by omega)]
    · by_cases hk : g.k = 2
      · rw [argOk_2 _ _ hf hk, Bool.and_eq_true] at ho
        rw [argOk_2 _ _ hf' (by omega), Bool.and_eq_true] at ho'
        exact sameP_one ho.1 ho'.1 hp
      · rw [z2 hk, b2 (by omega)]
    · by_cases hk : g.k = 3
      · rw [argOk_3 _ _ hf hk] at ho
        rw [argOk_3 _ _ hf' (by omega)] at ho'
        exact sameC_one r _ _ ho ho' hc
      · rw [z3 hk, b3 (by omega)]
theorem sameC_refl : ∀ (r : Nat) (l : List C), sameC r l l = true
  | 0, _ => rfl
  | r + 1, l => by
    show eqL (sameCl (sameC r)) l l = true
    refine eqL_refl l (fun x _ => ?_)
    unfold sameCl
    rw [eqL_refl x.a (fun g _ => ?_)]
    · simp
    · unfold sameA
      have hv := eqV_refl g.v
      unfold eqV at hv
      rw [hv, show sameP g.p g.p = true from sameQ_refl _ _, sameC_refl r g.c]
      simp
theorem texts_same {a b : List C} (ha : qOk a = true) (hb : qOk b = true) : (txC 10 [103] a == txC 10 [103] b) = sameC 11 a b := by
  have ca : chOk 10 a = true := by unfold qOk at ha; rw [Bool.and_eq_true] at ha; exact ha.2
  have cb : chOk 10 b = true := by unfold qOk at hb; rw [Bool.and_eq_true] at hb; exact hb.2
  cases hs : sameC 11 a b
  · rw [beq_eq_false_iff_ne]
    intro h
    rw [txt_one ca cb h, sameC_refl] at hs
    cases hs
  · rw [sameC_one 10 a b ca cb hs]
    simp
end Go.Proofs.YtiiopbcihieblaaGreatDoor
/- Two queries that are not the same have two texts. -/
namespace Go.Proofs.YtiiopbcihieblaaGreatDoor
set_option maxRecDepth 100000
open Go.RowKit Go.Sort

set_option maxHeartbeats 1600000 in
/-- The document's Same of two queries. -/
theorem refSameC_any (w : World) (d : Nat) (A : Option Addr) (c : Nat) (l : List C) (A' : Option Addr) (c' : Nat) (m : List C) (hl : Ch w 0 w.heap.size d A c l) (hm : Ch w 0 w.heap.size d A' c' m) :
    Calls Tryz.prog 19 #[.slice A l.length c, .slice A' m.length c'] w fun e w' => e = .returned (.bool (sameC 11 l m)) ∧ Below w.heap.size w w' := by
  have CT := Lib.hid (sameR_any 10 w d A c l A' c' m (by omega) hl hm)
  rw [show ((10 : Nat) : Int) = 10 from rfl] at CT
  generalize sameC (10 + 1) l m = b at CT ⊢
  clear hl hm
  go_enter Tryz.func19, Tryz.ntmps19
  go_wp2_with fail
  refine CT.out.mono ?_
  rintro e w2 ⟨rfl, hb⟩
  have HB := Lib.hid hb
  clear hb CT
  go_wp2
  go_ret
  exact ⟨rfl, HB.out⟩
set_option maxHeartbeats 6400000 in
theorem apart_law (W : World) (hm : NM W) (d : Nat) (A : Option Addr) (c : Nat) (l : List C) (A' : Option Addr) (c' : Nat) (m : List C) (hl : Ch W 0 W.heap.size d A c l) (hm' : Ch W 0 W.heap.size d A' c' m) :
    Calls Tryz.prog 5 #[.slice A l.length c, .slice A' m.length c'] W fun e w' => e = .returned (.bool true) ∧ Below W.heap.size W w' := by
  have HM := Lib.hid hm
  have HL := Lib.hid (hl.up (show d ≤ d + 1 by omega))
  have HR := Lib.hid (hm'.up (show d ≤ d + 1 by omega))
  have hbl := hl.big
  have hbr := hm'.big
  clear hm hl hm'
  have CT := Lib.hid (much_any W _ A c l HL.out)
  go_enter Tryz.func5, Tryz.ntmps5
  go_wp2_with fail
  refine CT.out.mono ?_
  rintro e w1 ⟨b1, rfl, hb, hs1⟩
  have B1 := Lib.hid hb
  have HS1 := Lib.hid hs1
  have HL1 := Lib.hid (HL.out.next hb)
  have HR1 := Lib.hid (HR.out.next hb)
  clear CT hb hs1 HL HR
  cases b1
  case true =>
    have CT := Lib.hid (known_any w1 (HM.out.next B1.out))
    go_wp2_with fail
    refine CT.out.mono ?_
    rintro e w2 ⟨rfl, hb⟩
    have B2 := Lib.hid (bnext B1.out hb)
    clear CT hb
    go_wp2
    go_ret
    exact ⟨rfl, B2.out⟩
  have CT := Lib.hid (much_any w1 _ A' c' m HR1.out)
  go_wp2_with fail
  refine CT.out.mono ?_
  rintro e w2 ⟨b2, rfl, hb, hs2⟩
  have B2 := Lib.hid (bnext B1.out hb)
  have HS2 := Lib.hid hs2
  have HL2 := Lib.hid (HL1.out.next hb)
  have HR2 := Lib.hid (HR1.out.next hb)
  clear CT hb hs2 HL1 HR1
  cases b2
  case true =>
    have CT := Lib.hid (known_any w2 (HM.out.next B2.out))
    go_wp2_with fail
    refine CT.out.mono ?_
    rintro e w3 ⟨rfl, hb⟩
    have B3 := Lib.hid (bnext B2.out hb)
    clear CT hb
    go_wp2
    go_ret
    exact ⟨rfl, B3.out⟩
  replace HS1 := Lib.hid (by first | exact HS1.out rfl | exact HS1.out trivial)
  replace HS2 := Lib.hid (by first | exact HS2.out rfl | exact HS2.out trivial)
  have CT := Lib.hid (tprint_any w2 (HM.out.next B2.out) _ A c l HL2.out (fun h => by have := HS1.out h; unfold MX; omega))
  obtain ⟨SA, hSA⟩ : ∃ s : ByteArray, s = ⟨(prtS l).toArray⟩ := ⟨_, rfl⟩
  obtain ⟨za, hza⟩ : ∃ z, qOk l = z := ⟨_, rfl⟩
  rw [← hSA, hza] at CT
  have HSA := Lib.hid hSA
  have HZA := Lib.hid hza
  clear hSA hza
  go_wp2_with fail
  refine CT.out.mono ?_
  rintro e w3 ⟨rfl, hb⟩
  have B3 := Lib.hid (bnext B2.out hb)
  have HL3 := Lib.hid (HL2.out.next hb)
  have HR3 := Lib.hid (HR2.out.next hb)
  clear CT hb HL2 HR2
  have CT := Lib.hid (tprint_any w3 (HM.out.next B3.out) _ A' c' m HR3.out (fun h => by have := HS2.out h; unfold MX; omega))
  obtain ⟨SB, hSB⟩ : ∃ s : ByteArray, s = ⟨(prtS m).toArray⟩ := ⟨_, rfl⟩
  obtain ⟨zb, hzb⟩ : ∃ z, qOk m = z := ⟨_, rfl⟩
  rw [← hSB, hzb] at CT
  have HSB := Lib.hid hSB
  have HZB := Lib.hid hzb
  clear hSB hzb
  go_wp2_with fail
  refine CT.out.mono ?_
  rintro e w4 ⟨rfl, hb⟩
  have B4 := Lib.hid (bnext B3.out hb)
  have HL4 := Lib.hid (HL3.out.next hb)
  have HR4 := Lib.hid (HR3.out.next hb)
  clear CT hb HL3 HR3
  have EA := Lib.hid (show SA.toList = prtS l by rw [HSA.out, ByteArray.toList_mk])
  have EB := Lib.hid (show SB.toList = prtS m by rw [HSB.out, ByteArray.toList_mk])
  have e0 : errI true = 0 := rfl
  have e1 : errI false = 2 := rfl
  have CT := Lib.hid (known_any w4 (HM.out.next B4.out))
  cases za
  case false =>
    have ha : SA.toList.isEmpty = true := by rw [EA.out]; unfold prtS; rw [if_neg (by rw [HZA.out]; simp)]; rfl
    go_wp2_with fail
    refine CT.out.mono ?_
    rintro e w5 ⟨rfl, hb⟩
    have B5 := Lib.hid (bnext B4.out hb)
    clear CT hb
    go_wp2
    go_ret
    exact ⟨rfl, B5.out⟩
  have ha : SA.toList.isEmpty = false := by rw [EA.out]; unfold prtS; rw [if_pos HZA.out]; rfl
  cases zb
  case false =>
    have hb0 : SB.toList.isEmpty = true := by rw [EB.out]; unfold prtS; rw [if_neg (by rw [HZB.out]; simp)]; rfl
    go_wp2_with fail
    refine CT.out.mono ?_
    rintro e w5 ⟨rfl, hb⟩
    have B5 := Lib.hid (bnext B4.out hb)
    clear CT hb
    go_wp2
    go_ret
    exact ⟨rfl, B5.out⟩
  have EQ := Lib.hid (show (SA.toList == SB.toList) = sameC 11 l m by
    rw [EA.out, EB.out]
    unfold prtS
    rw [if_pos HZA.out, if_pos HZB.out]
    exact texts_same HZA.out HZB.out)
  obtain ⟨z, hz⟩ : ∃ z, sameC 11 l m = z := ⟨_, rfl⟩
  rw [hz] at EQ
  have CS := refSameC_any w4 (d + 1) A c l A' c' m HL4.out HR4.out
  rw [hz] at CS
  replace CS := Lib.hid CS
  clear hz CT ha
  have HEQ := EQ.out
  go_wp2_with fail
  refine CS.out.mono ?_
  rintro e w5 ⟨rfl, hb⟩
  have B5 := Lib.hid (bnext B4.out hb)
  have CT := Lib.hid (known_any w5 (HM.out.next B5.out))
  clear hb CS HL4 HR4
  cases z
  · go_wp2_with fail
    refine CT.out.mono ?_
    rintro e w6 ⟨rfl, hb⟩
    have B6 := Lib.hid (bnext B5.out hb)
    clear CT hb
    go_wp2
    go_ret
    exact ⟨rfl, B6.out⟩
  · go_wp2_with fail
    refine CT.out.mono ?_
    rintro e w6 ⟨rfl, hb⟩
    have B6 := Lib.hid (bnext B5.out hb)
    clear CT hb
    go_wp2
    go_ret
    exact ⟨rfl, B6.out⟩
end Go.Proofs.YtiiopbcihieblaaGreatDoor
