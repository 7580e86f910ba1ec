/- Texts and values, plain: what is read is what was written there; what is written is read. -/
import Derived.Test.YtmgjiipooffggaaKS
namespace Go.Proofs.Ytmgjiipooffggaa
set_option maxRecDepth 100000
open Go.RowKit

theorem digL_parse (l : Bs) (h : parseE l = 0) : digL (parseV l) = l := by
  unfold parseE at h
  split at h
  · cases h
  · rename_i ha
    split at h
    · rename_i hf
      have ha' : parseArg l = false := by simpa using ha
      unfold parseV
      rw [ha']
      simp only [Bool.false_eq_true, if_false]
      rw [room_ok hf]
      unfold parseArg at ha'
      rw [Bool.or_eq_false_iff, Bool.not_eq_false'] at ha'
      obtain ⟨hw, hz⟩ := ha'
      unfold wholeL at hw
      rw [Bool.and_eq_true] at hw
      obtain ⟨hall, hw⟩ := hw
      have hl := split_sgn l
      by_cases h48 : digsOf l = [48]
      · have hm : minusB l = false := by
          rw [h48] at hz; simpa using hz
        rw [hm, h48] at hl
        have hl' : l = [48] := hl
        rw [hm, h48, hl', show parseN false [48] = 0 from by decide]
        unfold digL
        rw [show lowsAll (0 : Int).natAbs = [48] from by simp [lowsAll, lows_zero]]
        decide
      · match hd : digsOf l, hw with
        | [], hw => simp at hw
        | c :: r, hw =>
          have hc : c ≠ 48 := by
            intro e
            subst e
            rw [hd] at h48
            simp at hw
            exact h48 (by rw [hw])
          rw [hd] at hall
          have hcn : (c.toNat : Int) - 48 ≠ 0 := by
            intro e
            apply hc
            apply UInt8.toNat_inj.1
            show c.toNat = 48
            omega
          have hN : Norm (dvals (c :: r)) := by unfold Norm; rw [dvals_cons, last_snoc]; exact hcn
          have hne : dvals (c :: r) ≠ [] := by rw [dvals_cons]; simp
          have := text_digL (minusB l) (dvals (c :: r)) (parseN (minusB l) (c :: r)) (dvals_digs _ hall) hN (fun _ => hne) (by unfold parseN; rw [valD_dvals _ hall])
          rw [← this]
          unfold textL
          rw [if_neg hne, high_dvals _ hall]
          rw [hd] at hl
          exact hl.symm
    · cases h

theorem num_some {l q : Bs} {n : Int} (h : numR l = some (n, q)) : l = digL n ++ q := by
  unfold numR at h
  split at h
  · rename_i h0
    injection h with h
    injection h with h1 h2
    rw [← h1, ← h2, digL_parse _ h0, List.takeWhile_append_dropWhile]
  · cases h
theorem thing_some {k : Int} {l q : Bs} {t : V} (h : thingR k l = some (t, q)) : ∃ n, t = .mk k n ⟨#[]⟩ [] [] ∧ l = digL n ++ ([93] ++ q) := by
  unfold thingR at h
  cases hn : numR l with
  | none => rw [hn] at h; cases h
  | some p =>
    rw [hn] at h
    obtain ⟨n, r⟩ := p
    simp only at h
    cases ht : takeL [93] r with
    | none => rw [ht] at h; cases h
    | some z =>
      rw [ht] at h
      injection h with h
      injection h with h1 h2
      subst h1 h2
      exact ⟨n, rfl, by rw [num_some hn, take_some ht]⟩

theorem itemsT_pos {α : Type} (f : α → Bs) : ∀ (l : List α) (i : Nat), 0 < i → itemsT f i l = itemsT f 1 l
  | [], _, _ => rfl
  | x :: r, i, h => by
    simp only [itemsT]
    rw [if_pos h, if_pos (by omega), itemsT_pos f r (i + 1) (by omega), itemsT_pos f r (1 + 1) (by omega)]
theorem items_sound {α : Type} {e : Bs} {one : Bs → Option (α × Bs)} {f : α → Bs} (hone : ∀ l x r, one l = some (x, r) → l = f x ++ r) :
    ∀ (n : Nat) (acc : List α) (l : Bs) (xs : List α) (q : Bs), itemsR e one n acc l = some (xs, q) → ∃ y ys, xs = acc ++ y :: ys ∧ l = f y ++ (itemsT f 1 ys ++ (e ++ q))
  | 0, _, _, _, _, h => by cases h
  | n + 1, acc, l, xs, q, h => by
    cases h1 : one l with
    | none => rw [items_none h1] at h; cases h
    | some p =>
      obtain ⟨x, r⟩ := p
      cases h2 : takeL e r with
      | some z =>
        rw [items_end h1 h2] at h
        injection h with h
        injection h with a1 a2
        subst a2
        exact ⟨x, [], a1.symm, by rw [hone _ _ _ h1, take_some h2]; simp [itemsT]⟩
      | none =>
        cases h3 : takeL [44, 32] r with
        | none => rw [items_bad h1 h2 h3] at h; cases h
        | some z =>
          rw [items_more h1 h2 h3] at h
          obtain ⟨y, ys, a1, a2⟩ := items_sound hone n _ _ _ _ h
          refine ⟨x, y :: ys, by rw [a1]; simp, ?_⟩
          rw [hone _ _ _ h1, take_some h3, a2]
          simp only [itemsT]
          rw [if_pos (by omega), itemsT_pos f ys (1 + 1) (by omega)]
          simp
theorem row_sound {α : Type} {e : Bs} {one : Bs → Option (α × Bs)} {f : α → Bs} (hone : ∀ l x r, one l = some (x, r) → l = f x ++ r) (l : Bs) (xs : List α) (q : Bs) (h : rowR e one l = some (xs, q)) : l = itemsT f 0 xs ++ (e ++ q) := by
  cases h1 : takeL e l with
  | some z =>
    rw [rowR_some h1] at h
    injection h with h
    injection h with a1 a2
    subst a1 a2
    rw [take_some h1]; simp [itemsT]
  | none =>
    rw [rowR_none h1] at h
    obtain ⟨y, ys, a1, a2⟩ := items_sound hone _ _ _ _ _ h
    rw [a1, a2]
    simp [itemsT]
theorem pair_sound {one : Bs → Option (V × Bs)} {f : V → Bs} (hone : ∀ l x r, one l = some (x, r) → l = f x ++ r) (l : Bs) (p : V × V) (q : Bs) (h : pairR one l = some (p, q)) : l = pairT f p ++ q := by
  cases h1 : one l with
  | none => rw [pair_none h1] at h; cases h
  | some a =>
    obtain ⟨k, r⟩ := a
    cases h2 : takeL [58, 32] r with
    | none => rw [pair_colon h1 h2] at h; cases h
    | some z =>
      cases h3 : one z with
      | none => rw [pair_half h1 h2 h3] at h; cases h
      | some b =>
        obtain ⟨v, y⟩ := b
        rw [pair_some h1 h2 h3] at h
        injection h with h
        injection h with a1 a2
        subst a1 a2
        rw [hone _ _ _ h1, take_some h2, hone _ _ _ h3]
        simp [pairT]
theorem zip_unzip : ∀ ps : List (V × V), (ps.map Prod.fst).zip (ps.map Prod.snd) = ps
  | [] => rfl
  | p :: r => by simp [zip_unzip r]

/-- What is read was written there. -/
theorem rd_sound : ∀ (r : Nat) (l : Bs) (t : V) (q : Bs), rd r l = some (t, q) → l = txt r t ++ q
  | 0, _, _, _, h => by cases h
  | r + 1, l, t, q, h => by
    have ih := rd_sound r
    rw [rd_succ] at h
    split at h
    · cases hn : numR l with
      | none => rw [hn] at h; cases h
      | some p =>
        rw [hn] at h
        injection h with h
        injection h with h1 h2
        subst h1 h2
        rw [num_some hn]; rfl
    · split at h
      · rename_i h39
        match l, h39, h with
        | [], h39, _ => exact absurd h39 (by decide)
        | c :: z, h39, h =>
          simp only [List.headD_cons, List.drop_succ_cons, List.drop_zero] at h h39
          cases hn : textR 1001 [] z with
          | none => rw [hn] at h; cases h
          | some p =>
            rw [hn] at h
            injection h with h
            injection h with h1 h2
            obtain ⟨m, e1, e2⟩ := text_some _ _ _ _ _ hn
            subst h1 h2
            rw [txt_succ, if_neg (by show ¬ (3 : Int) = 1; decide), if_neg (by show ¬ (3 : Int) = 2; decide), if_pos (by show (3 : Int) = 3; rfl)]
            show c :: z = qL (⟨p.1.toArray⟩ : ByteArray).toList ++ p.2
            rw [lit_list, h39, e2, e1]
            simp [qL]
      · split at h
        · unfold namedR at h
          cases h1 : takeL [116, 114, 117, 101] l with
          | some z =>
            rw [h1] at h; injection h with h; injection h with a1 a2; subst a1 a2
            rw [take_some h1]; rfl
          | none =>
            rw [h1] at h; simp only at h
            cases h2 : takeL [102, 97, 108, 115, 101] l with
            | some z =>
              rw [h2] at h; injection h with h; injection h with a1 a2; subst a1 a2
              rw [take_some h2]; rfl
            | none =>
              rw [h2] at h; simp only at h
              cases h3 : takeL [118, 91] l with
              | some z =>
                rw [h3] at h; simp only at h
                obtain ⟨n, e1, e2⟩ := thing_some h
                subst e1
                rw [take_some h3, e2, txt_succ]
                simp [V.k, V.n]
              | none =>
                rw [h3] at h; simp only at h
                cases h4 : takeL [101, 91] l with
                | some z =>
                  rw [h4] at h; simp only at h
                  obtain ⟨n, e1, e2⟩ := thing_some h
                  subst e1
                  rw [take_some h4, e2, txt_succ]
                  simp [V.k, V.n]
                | none =>
                  rw [h4] at h; simp only at h
                  cases h5 : takeL [112, 97, 116, 104, 91] l with
                  | none => rw [h5] at h; cases h
                  | some z =>
                    rw [h5] at h; simp only at h
                    obtain ⟨xs, e1, e2⟩ := (rowV_parts 8 _).1 t q h
                    subst e2
                    rw [take_some h5, row_sound ih _ _ _ e1, txt_succ]
                    simp [V.k, V.l]
        · cases h1 : takeL [91] l with
          | some z =>
            rw [h1] at h; simp only at h
            obtain ⟨xs, e1, e2⟩ := (rowV_parts 6 _).1 t q h
            subst e2
            rw [take_some h1, row_sound ih _ _ _ e1, txt_succ]
            simp [V.k, V.l]
          | none =>
            rw [h1] at h; simp only at h
            cases h2 : takeL [123] l with
            | none => rw [h2] at h; cases h
            | some z =>
              rw [h2] at h; simp only at h
              obtain ⟨xs, e1, e2⟩ := (dictV_parts _).1 t q h
              subst e2
              rw [take_some h2, row_sound (f := pairT (txt r)) (pair_sound ih) _ _ _ e1, txt_succ]
              simp [V.k, V.l, V.m, zip_unzip]
end Go.Proofs.Ytmgjiipooffggaa
/- What is written is read: whole. -/
namespace Go.Proofs.Ytmgjiipooffggaa
set_option maxRecDepth 100000
open Go.RowKit

theorem digL_num (n : Int) : ∀ c ∈ digL n, numB c = true := by
  intro c hc
  unfold digL at hc
  rw [List.mem_append] at hc
  rcases hc with hc | hc
  · split at hc
    · simp at hc; subst hc; decide
    · simp at hc
  · obtain ⟨z, hz, rfl⟩ := List.mem_map.1 hc
    have := lowsAll_dig n.natAbs z (by simpa using hz)
    unfold numB digB
    rw [Bool.or_eq_true]
    right
    rw [decide_eq_true_iff]
    simp; omega
theorem digL_ne (n : Int) : digL n ≠ [] := by
  unfold digL
  intro h
  rw [List.append_eq_nil_iff] at h
  have := h.2
  simp [lowsAll] at this
theorem num_here (n : Int) (hf : fitsB n = true) (q : Bs) (hq : numB (q.headD 0) = false) : numR (digL n ++ q) = some (n, q) := by
  have hz : q.takeWhile numB = [] ∧ q.dropWhile numB = q := by
    cases q with
    | nil => exact ⟨rfl, rfl⟩
    | cons c r => simp at hq; simp [hq]
  unfold numR
  rw [List.takeWhile_append_of_pos (digL_num n), List.dropWhile_append_of_pos (digL_num n), hz.1, hz.2, List.append_nil]
  obtain ⟨h1, h2⟩ := parse_digL n hf
  rw [h1, h2]; rfl
theorem digL_head (n : Int) (q : Bs) : numB ((digL n ++ q).headD 0) = true := by
  cases h : digL n with
  | nil => exact absurd h (digL_ne n)
  | cons c r => simp; exact digL_num n c (by rw [h]; simp)
theorem thing_here (k n : Int) (hf : fitsB n = true) (q : Bs) : thingR k (digL n ++ ([93] ++ q)) = some (.mk k n ⟨#[]⟩ [] [], q) := by
  unfold thingR
  rw [num_here n hf ([93] ++ q) (by show numB 93 = false; decide)]
  simp only [take_here]

/-- What may stand behind a value. -/
def sep (q : Bs) : Prop := numB (q.headD 0) = false
theorem items_here {α : Type} {c0 : UInt8} {one : Bs → Option (α × Bs)} {f : α → Bs} (h0 : c0 ≠ 44) (hs : numB c0 = false) :
    ∀ (ys : List α) (y : α) (n : Nat) (acc : List α) (q : Bs), (∀ x ∈ y :: ys, ∀ rest, sep rest → one (f x ++ rest) = some (x, rest)) → ys.length < n → itemsR [c0] one n acc (f y ++ (itemsT f 1 ys ++ ([c0] ++ q))) = some (acc ++ y :: ys, q)
  | _, _, 0, _, _, _, hn => absurd hn (by omega)
  | [], y, n + 1, acc, q, ho, _ => by
    have h1 := ho y (by simp) ([c0] ++ q) hs
    simp only [itemsT, List.nil_append]
    rw [items_end h1 (take_here _ _)]
  | z :: ys, y, n + 1, acc, q, ho, hn => by
    have ih := items_here h0 hs ys z n (acc ++ [y]) q (fun x hx => ho x (by simp at hx ⊢; right; exact hx)) (by simp at hn; omega)
    have e : itemsT f 1 (z :: ys) ++ ([c0] ++ q) = [44, 32] ++ (f z ++ (itemsT f 1 ys ++ ([c0] ++ q))) := by
      simp only [itemsT]
      rw [if_pos (by omega), itemsT_pos f ys (1 + 1) (by omega)]
      simp
    rw [e]
    have h1 := ho y (by simp) ([44, 32] ++ (f z ++ (itemsT f 1 ys ++ ([c0] ++ q)))) (by show numB 44 = false; decide)
    rw [items_more h1 (take_other h0) (take_here _ _), ih]
    simp
theorem row_here {α : Type} {c0 : UInt8} {one : Bs → Option (α × Bs)} {f : α → Bs} (h0 : c0 ≠ 44) (hs : numB c0 = false) (l : List α) (q : Bs) (ho : ∀ x ∈ l, ∀ rest, sep rest → one (f x ++ rest) = some (x, rest)) (hh : ∀ x ∈ l, ∃ c r, f x = c :: r ∧ c ≠ c0) (hn : l.length ≤ 1000) : rowR [c0] one (itemsT f 0 l ++ ([c0] ++ q)) = some (l, q) := by
  cases l with
  | nil => simp only [itemsT, List.nil_append]; exact rowR_some (take_here _ _)
  | cons y ys =>
    have e : itemsT f 0 (y :: ys) ++ ([c0] ++ q) = f y ++ (itemsT f 1 ys ++ ([c0] ++ q)) := by simp [itemsT]
    rw [e]
    obtain ⟨c, r, hc, hne⟩ := hh y (by simp)
    rw [rowR_none (by rw [hc]; exact take_other hne.symm), items_here h0 hs ys y 1000 [] q ho (by simp at hn; omega)]
    simp

theorem plain_eta {t : V} (hs : t.s.toList = []) (hl : t.l.length = 0) (hm : t.m.length = 0) : t = .mk t.k t.n ⟨#[]⟩ [] [] := by
  cases t with
  | mk k n s l m =>
    simp only [V.s, V.l, V.m, V.k, V.n] at *
    have h1 : s = ⟨#[]⟩ := by
      apply ByteArray.ext
      rw [ByteArray.toList_eq] at hs
      apply Array.toList_inj.1
      simpa using hs
    rw [h1, List.length_eq_zero_iff.1 hl, List.length_eq_zero_iff.1 hm]
theorem str_eta (s : ByteArray) : (⟨s.toList.toArray⟩ : ByteArray) = s := by
  apply ByteArray.ext
  rw [ByteArray.toList_eq]
theorem no_items {t : V} (h : noItems t = true) : t.l.length = 0 ∧ t.m.length = 0 := by
  unfold noItems at h; simpa using h
theorem txt_k1 (r : Nat) (t : V) (hk : t.k = 1) : txt (r + 1) t = (if t.n = 0 then [102, 97, 108, 115, 101] else [116, 114, 117, 101]) := by rw [txt_succ, if_pos hk]
theorem txt_k2 (r : Nat) (t : V) (hk : t.k = 2) : txt (r + 1) t = digL t.n := by rw [txt_succ, if_neg (by omega), if_pos hk]
theorem txt_k3 (r : Nat) (t : V) (hk : t.k = 3) : txt (r + 1) t = qL t.s.toList := by rw [txt_succ, if_neg (by omega), if_neg (by omega), if_pos hk]
theorem txt_k4 (r : Nat) (t : V) (hk : t.k = 4) : txt (r + 1) t = [118, 91] ++ (digL t.n ++ [93]) := by rw [txt_succ, if_neg (by omega), if_neg (by omega), if_neg (by omega), if_pos hk]
theorem txt_k5 (r : Nat) (t : V) (hk : t.k = 5) : txt (r + 1) t = [101, 91] ++ (digL t.n ++ [93]) := by rw [txt_succ, if_neg (by omega), if_neg (by omega), if_neg (by omega), if_neg (by omega), if_pos hk]
theorem txt_k6 (r : Nat) (t : V) (hk : t.k = 6) : txt (r + 1) t = [91] ++ (itemsT (txt r) 0 t.l ++ [93]) := by rw [txt_succ, if_neg (by omega), if_neg (by omega), if_neg (by omega), if_neg (by omega), if_neg (by omega), if_pos hk]
theorem txt_k7 (r : Nat) (t : V) (hk : t.k = 7) : txt (r + 1) t = [123] ++ (itemsT (pairT (txt r)) 0 (t.l.zip t.m) ++ [125]) := by rw [txt_succ, if_neg (by omega), if_neg (by omega), if_neg (by omega), if_neg (by omega), if_neg (by omega), if_neg (by omega), if_pos hk]
theorem txt_k8 (r : Nat) (t : V) (hk : t.k = 8) : txt (r + 1) t = [112, 97, 116, 104, 91] ++ (itemsT (txt r) 0 t.l ++ [93]) := by rw [txt_succ, if_neg (by omega), if_neg (by omega), if_neg (by omega), if_neg (by omega), if_neg (by omega), if_neg (by omega), if_neg (by omega), if_pos hk]
theorem txt_head (r : Nat) (t : V) (h : fitsV t = true) : ∃ c z, txt (r + 1) t = c :: z ∧ c ≠ 93 ∧ c ≠ 125 := by
  rcases fits_kind h with hk | hk | hk | hk | hk | hk | hk | hk
  · rw [txt_k1 r t hk]; split
    · exact ⟨_, _, rfl, by decide, by decide⟩
    · exact ⟨_, _, rfl, by decide, by decide⟩
  · rw [txt_k2 r t hk]
    cases hd : digL t.n with
    | nil => exact absurd hd (digL_ne _)
    | cons c z =>
      have := digL_num t.n c (by rw [hd]; simp)
      exact ⟨c, z, rfl, (by rintro rfl; revert this; decide), (by rintro rfl; revert this; decide)⟩
  · rw [txt_k3 r t hk]; exact ⟨39, _, rfl, by decide, by decide⟩
  · rw [txt_k4 r t hk]; exact ⟨118, _, rfl, by decide, by decide⟩
  · rw [txt_k5 r t hk]; exact ⟨101, _, rfl, by decide, by decide⟩
  · rw [txt_k6 r t hk]; exact ⟨91, _, rfl, by decide, by decide⟩
  · rw [txt_k7 r t hk]; exact ⟨123, _, rfl, by decide, by decide⟩
  · rw [txt_k8 r t hk]; exact ⟨112, _, rfl, by decide, by decide⟩

/-- All numbers are a machine's. -/
def intsOk : Nat → V → Prop
  | 0, _ => True
  | r + 1, t => fitsB t.n = true ∧ (∀ x ∈ t.l, intsOk r x) ∧ (∀ x ∈ t.m, intsOk r x)
theorem ints_of_rd {w : World} {lo B : Nat} : ∀ (d r : Nat) (t : V) (A : Option Addr) (c : Nat) (A' : Option Addr) (c' : Nat), Rd w lo B d t A c A' c' → intsOk r t
  | _, 0, _, _, _, _, _, _ => trivial
  | 0, r + 1, _, _, _, _, _, h => h.elim
  | d + 1, r + 1, t, A, c, A', c', h => by
    have row : ∀ (A : Option Addr) (c : Nat) (l : List V), Rw w lo B d A c l → ∀ x ∈ l, intsOk r x := fun A c l hr x hx => by
      obtain ⟨j, hj⟩ := List.getElem?_of_mem hx
      obtain ⟨_, _, t', A1, c1, A2, c2, _, _, _, ht, _, rt⟩ := hr.elem (k := j) (List.getElem?_eq_some_iff.1 hj).1
      rw [hj] at ht
      injection ht with ht
      subst ht
      exact ints_of_rd d r _ _ _ _ _ rt
    exact ⟨by rw [fits_iff]; exact ⟨h.1.n0, h.1.n1⟩, row _ _ _ h.2.1, row _ _ _ h.2.2⟩

/-- What is written is read. -/
theorem rd_here : ∀ (r : Nat) (t : V) (q : Bs), okV r t = true → intsOk r t → (t.k = 2 → sep q) → rd r (txt r t ++ q) = some (t, q)
  | 0, _, _, h, _, _ => by cases h
  | r + 1, t, q, h, hi, hq => by
    obtain ⟨hf, hl, hm, _⟩ := (ok_parts r t).1 h
    obtain ⟨hn, hil, him⟩ := hi
    have ih : ∀ x, okV r x = true → intsOk r x → ∀ rest, sep rest → rd r (txt r x ++ rest) = some (x, rest) := fun x h1 h2 rest h3 => rd_here r x rest h1 h2 (fun _ => h3)
    have hd : ∀ (e : UInt8), (e = 93 ∨ e = 125) → ∀ x, okV r x = true → ∃ c z, txt r x = c :: z ∧ c ≠ e := fun e he x hx => by
      cases r with
      | zero => cases hx
      | succ r' =>
        obtain ⟨c, z, h1, h2, h3⟩ := txt_head r' x ((ok_parts r' x).1 hx).1
        exact ⟨c, z, h1, by rcases he with rfl | rfl; exact h2; exact h3⟩
    have rows : ∀ q', t.l.length ≤ 1000 → rowR [93] (rd r) (itemsT (txt r) 0 t.l ++ ([93] ++ q')) = some (t.l, q') := fun q' hlen =>
      row_here (by decide) (by decide) t.l q' (fun x hx => ih x (hl x hx) (hil x hx)) (fun x hx => hd 93 (.inl rfl) x (hl x hx)) hlen
    rcases fits_kind hf with hk | hk | hk | hk | hk | hk | hk | hk
    · unfold fitsV at hf
      rw [if_pos hk] at hf
      simp only [Bool.and_eq_true, Bool.or_eq_true, beq_iff_eq, List.isEmpty_iff] at hf
      obtain ⟨⟨h1, h2⟩, h3⟩ := hf
      obtain ⟨a1, a2⟩ := no_items h3
      have he := plain_eta h2 a1 a2
      rw [txt_k1 r t hk]
      rcases h1 with h1 | h1
      · rw [if_pos h1, he, hk, h1]; rfl
      · rw [if_neg (by omega), he, hk, h1]; rfl
    · unfold fitsV at hf
      rw [if_neg (by omega), if_pos hk] at hf
      simp only [Bool.and_eq_true, List.isEmpty_iff] at hf
      obtain ⟨a1, a2⟩ := no_items hf.2
      have he := plain_eta hf.1 a1 a2
      rw [txt_k2 r t hk, rd_succ, if_pos (digL_head _ _), num_here _ hn q (hq hk)]
      show some (V.mk 2 t.n ⟨#[]⟩ [] [], q) = some (t, q)
      rw [← hk, ← he]
    · unfold fitsV at hf
      rw [if_neg (by omega), if_neg (by omega), if_pos hk] at hf
      simp only [Bool.and_eq_true, beq_iff_eq, decide_eq_true_eq] at hf
      obtain ⟨⟨h1, h2⟩, h3⟩ := hf
      obtain ⟨a1, a2⟩ := no_items h3
      have he : t = .mk 3 0 t.s [] [] := by
        cases t with
        | mk k n s l m => simp only [V.k, V.n, V.s, V.l, V.m] at *; rw [hk, h1, List.length_eq_zero_iff.1 a1, List.length_eq_zero_iff.1 a2]
      rw [txt_k3 r t hk, rd_succ]
      have e : qL t.s.toList ++ q = 39 :: (qM t.s.toList ++ 39 :: q) := by simp [qL]
      rw [e, if_neg (by show ¬ numB 39 = true; decide), if_pos (by rfl)]
      simp only [List.drop_succ_cons, List.drop_zero]
      rw [text_here _ 1001 [] q (by rw [toList_size]; omega)]
      show some (V.mk 3 0 ⟨(([] : Bs) ++ t.s.toList).toArray⟩ [] [], q) = some (t, q)
      rw [List.nil_append, str_eta, ← he]
    · unfold fitsV at hf
      rw [if_neg (by omega), if_neg (by omega), if_neg (by omega), if_pos (.inl hk)] at hf
      simp only [Bool.and_eq_true, List.isEmpty_iff] at hf
      obtain ⟨a1, a2⟩ := no_items hf.2
      have he := plain_eta hf.1.2 a1 a2
      rw [txt_k4 r t hk, rd_succ, if_neg (by show ¬ numB 118 = true; decide), if_neg (by show ¬ (118 : UInt8) = 39; decide), if_pos (by show 97 ≤ (118 : UInt8).toNat ∧ (118 : UInt8).toNat ≤ 122; decide)]
      unfold namedR
      rw [show ([118, 91] ++ (digL t.n ++ [93]) ++ q : Bs) = [118, 91] ++ (digL t.n ++ ([93] ++ q)) by simp]
      rw [show takeL [116, 114, 117, 101] ([118, 91] ++ (digL t.n ++ ([93] ++ q))) = none from take_other (by decide), show takeL [102, 97, 108, 115, 101] ([118, 91] ++ (digL t.n ++ ([93] ++ q))) = none from take_other (by decide), take_here]
      simp only
      rw [thing_here 4 t.n hn q, he, hk]
      rfl
    · unfold fitsV at hf
      rw [if_neg (by omega), if_neg (by omega), if_neg (by omega), if_pos (.inr hk)] at hf
      simp only [Bool.and_eq_true, List.isEmpty_iff] at hf
      obtain ⟨a1, a2⟩ := no_items hf.2
      have he := plain_eta hf.1.2 a1 a2
      rw [txt_k5 r t hk, rd_succ, if_neg (by show ¬ numB 101 = true; decide), if_neg (by show ¬ (101 : UInt8) = 39; decide), if_pos (by show 97 ≤ (101 : UInt8).toNat ∧ (101 : UInt8).toNat ≤ 122; decide)]
      unfold namedR
      rw [show ([101, 91] ++ (digL t.n ++ [93]) ++ q : Bs) = [101, 91] ++ (digL t.n ++ ([93] ++ q)) by simp]
      rw [show takeL [116, 114, 117, 101] ([101, 91] ++ (digL t.n ++ ([93] ++ q))) = none from take_other (by decide), show takeL [102, 97, 108, 115, 101] ([101, 91] ++ (digL t.n ++ ([93] ++ q))) = none from take_other (by decide), show takeL [118, 91] ([101, 91] ++ (digL t.n ++ ([93] ++ q))) = none from take_other (by decide), take_here]
      simp only
      rw [thing_here 5 t.n hn q, he, hk]
      rfl
    · unfold fitsV at hf
      rw [if_neg (by omega), if_neg (by omega), if_neg (by omega), if_neg (by omega), if_pos (.inl hk)] at hf
      simp only [Bool.and_eq_true, List.isEmpty_iff, beq_iff_eq, decide_eq_true_eq] at hf
      obtain ⟨⟨⟨h1, h2⟩, h3⟩, h4⟩ := hf
      have he : t = .mk 6 0 ⟨#[]⟩ t.l [] := by
        cases t with
        | mk k n s l m =>
          simp only [V.k, V.n, V.s, V.l, V.m] at *
          have hs : s = ⟨#[]⟩ := by
            apply ByteArray.ext
            rw [ByteArray.toList_eq] at h2
            apply Array.toList_inj.1
            simpa using h2
          rw [hk, h1, hs, List.length_eq_zero_iff.1 h4]
      rw [txt_k6 r t hk, rd_succ, show ([91] ++ (itemsT (txt r) 0 t.l ++ [93]) ++ q : Bs) = [91] ++ (itemsT (txt r) 0 t.l ++ ([93] ++ q)) by simp,
        if_neg (by show ¬ numB 91 = true; decide), if_neg (by show ¬ (91 : UInt8) = 39; decide), if_neg (by show ¬ (97 ≤ (91 : UInt8).toNat ∧ (91 : UInt8).toNat ≤ 122); decide), take_here]
      simp only
      rw [rows q h3]
      show some (V.mk 6 0 ⟨#[]⟩ t.l [], q) = some (t, q)
      rw [← he]
    · have hlm := fits_7 hf hk
      unfold fitsV at hf
      rw [if_neg (by omega), if_neg (by omega), if_neg (by omega), if_neg (by omega), if_neg (by omega), if_pos hk] at hf
      simp only [Bool.and_eq_true, List.isEmpty_iff, beq_iff_eq, decide_eq_true_eq] at hf
      obtain ⟨⟨⟨h1, h2⟩, h3⟩, h4⟩ := hf
      have he : t = .mk 7 0 ⟨#[]⟩ t.l t.m := by
        cases t with
        | mk k n s l m =>
          simp only [V.k, V.n, V.s, V.l, V.m] at *
          have hs : s = ⟨#[]⟩ := by
            apply ByteArray.ext
            rw [ByteArray.toList_eq] at h2
            apply Array.toList_inj.1
            simpa using h2
          rw [hk, h1, hs]
      have hp : ∀ p ∈ t.l.zip t.m, okV r p.1 = true ∧ okV r p.2 = true ∧ intsOk r p.1 ∧ intsOk r p.2 := fun p hp => by
        have := List.of_mem_zip (a := p.1) (b := p.2) hp
        exact ⟨hl _ this.1, hm _ this.2, hil _ this.1, him _ this.2⟩
      have hone : ∀ p ∈ t.l.zip t.m, ∀ rest, sep rest → pairR (rd r) (pairT (txt r) p ++ rest) = some (p, rest) := fun p hp' rest hs => by
        obtain ⟨o1, o2, o3, o4⟩ := hp p hp'
        have e : pairT (txt r) p ++ rest = txt r p.1 ++ ([58, 32] ++ (txt r p.2 ++ rest)) := by simp [pairT]
        rw [e, pair_some (ih p.1 o1 o3 _ (by show numB 58 = false; decide)) (take_here _ _) (ih p.2 o2 o4 rest hs)]
      have hhd : ∀ p ∈ t.l.zip t.m, ∃ c z, pairT (txt r) p = c :: z ∧ c ≠ 125 := fun p hp' => by
        obtain ⟨c, z, e1, e2⟩ := hd 125 (.inr rfl) p.1 (hp p hp').1
        exact ⟨c, z ++ ([58, 32] ++ txt r p.2), by unfold pairT; rw [e1]; rfl, e2⟩
      have rw7 := row_here (c0 := 125) (by decide) (by decide) (t.l.zip t.m) q hone hhd (by rw [List.length_zip]; omega)
      rw [txt_k7 r t hk, rd_succ, show ([123] ++ (itemsT (pairT (txt r)) 0 (t.l.zip t.m) ++ [125]) ++ q : Bs) = [123] ++ (itemsT (pairT (txt r)) 0 (t.l.zip t.m) ++ ([125] ++ q)) by simp,
        if_neg (by show ¬ numB 123 = true; decide), if_neg (by show ¬ (123 : UInt8) = 39; decide), if_neg (by show ¬ (97 ≤ (123 : UInt8).toNat ∧ (123 : UInt8).toNat ≤ 122); decide),
        show takeL [91] ([123] ++ (itemsT (pairT (txt r)) 0 (t.l.zip t.m) ++ ([125] ++ q))) = none from take_other (by decide)]
      simp only
      rw [take_here]
      simp only
      rw [rw7]
      show some (V.mk 7 0 ⟨#[]⟩ ((t.l.zip t.m).map Prod.fst) ((t.l.zip t.m).map Prod.snd), q) = some (t, q)
      rw [List.map_fst_zip (by omega), List.map_snd_zip (by omega), ← he]
    · unfold fitsV at hf
      rw [if_neg (by omega), if_neg (by omega), if_neg (by omega), if_neg (by omega), if_pos (.inr hk)] at hf
      simp only [Bool.and_eq_true, List.isEmpty_iff, beq_iff_eq, decide_eq_true_eq] at hf
      obtain ⟨⟨⟨h1, h2⟩, h3⟩, h4⟩ := hf
      have he : t = .mk 8 0 ⟨#[]⟩ t.l [] := by
        cases t with
        | mk k n s l m =>
          simp only [V.k, V.n, V.s, V.l, V.m] at *
          have hs : s = ⟨#[]⟩ := by
            apply ByteArray.ext
            rw [ByteArray.toList_eq] at h2
            apply Array.toList_inj.1
            simpa using h2
          rw [hk, h1, hs, List.length_eq_zero_iff.1 h4]
      rw [txt_k8 r t hk, rd_succ, show ([112, 97, 116, 104, 91] ++ (itemsT (txt r) 0 t.l ++ [93]) ++ q : Bs) = [112, 97, 116, 104, 91] ++ (itemsT (txt r) 0 t.l ++ ([93] ++ q)) by simp,
        if_neg (by show ¬ numB 112 = true; decide), if_neg (by show ¬ (112 : UInt8) = 39; decide), if_pos (by show 97 ≤ (112 : UInt8).toNat ∧ (112 : UInt8).toNat ≤ 122; decide)]
      unfold namedR
      have hx : ∀ z : Bs, takeL [116, 114, 117, 101] ([112, 97, 116, 104, 91] ++ z) = none ∧ takeL [102, 97, 108, 115, 101] ([112, 97, 116, 104, 91] ++ z) = none ∧ takeL [118, 91] ([112, 97, 116, 104, 91] ++ z) = none ∧ takeL [101, 91] ([112, 97, 116, 104, 91] ++ z) = none :=
        fun z => ⟨take_other (by decide), take_other (by decide), take_other (by decide), take_other (by decide)⟩
      rw [(hx _).1, (hx _).2.1, (hx _).2.2.1, (hx _).2.2.2, take_here]
      simp only
      rw [rows q h3]
      show some (V.mk 8 0 ⟨#[]⟩ t.l [], q) = some (t, q)
      rw [← he]
end Go.Proofs.Ytmgjiipooffggaa
