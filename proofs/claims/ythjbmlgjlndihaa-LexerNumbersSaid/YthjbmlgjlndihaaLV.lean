/- LexerNumbers, walked. -/
import Derived.Test.YthjbmlgjlndihaaLU
import Derived.Test.YthjbmlgjlndihaaLJ
import Derived.Laws.AppendOwn
namespace Go.Proofs.Ythjbmlgjlndihaa
set_option maxRecDepth 100000
open Go.RowKit Go.Sort

theorem dB_dig (d : Nat) (h : d < 10) : digB (dB d) = true := by unfold digB; rw [dB_nat d h]; simp; omega
theorem decN_dig : ∀ (k n : Nat), n < k → (decN n).all digB = true
  | 0, n, h => by omega
  | k + 1, n, h => by
    by_cases h0 : n = 0
    · subst h0; rw [decN_zero]; rfl
    · rw [decN_pos n (by omega), List.all_append, decN_dig k (n / 10) (by omega)]
      simp [dB_dig (n % 10) (by omega)]
theorem decN_val : ∀ (k n : Nat), n < k → valL (decN n) = n
  | 0, n, h => by omega
  | k + 1, n, h => by
    by_cases h0 : n = 0
    · subst h0; rw [decN_zero]; rfl
    · have := decN_val k (n / 10) (by omega)
      unfold valL at this ⊢
      rw [decN_pos n (by omega), List.foldl_append, this]
      simp only [List.foldl_cons, List.foldl_nil, valStep]
      rw [dB_nat (n % 10) (by omega)]; omega
theorem decN_head : ∀ (k n : Nat), n < k → 0 < n → ∃ d r, decN n = dB d :: r ∧ 0 < d ∧ d < 10
  | 0, n, h, _ => by omega
  | k + 1, n, h, h0 => by
    rw [decN_pos n h0]
    by_cases h1 : n / 10 = 0
    · rw [h1, decN_zero]
      exact ⟨n % 10, [], rfl, by omega, by omega⟩
    · obtain ⟨d, r, e, h2, h3⟩ := decN_head k (n / 10) (by omega) (by omega)
      exact ⟨d, r ++ [dB (n % 10)], by rw [e]; rfl, h2, h3⟩
theorem whole_dec (n : Nat) (h0 : 0 < n) : wholeL (decN n) = true := by
  obtain ⟨d, r, e, h1, h2⟩ := decN_head (n + 1) n (by omega) h0
  have h3 := decN_dig (n + 1) n (by omega)
  unfold wholeL
  rw [h3, e]
  have h4 : (dB d != 48) = true := by
    rw [bne_iff_ne]
    intro e2
    have := congrArg UInt8.toNat e2
    rw [dB_nat d h2] at this
    simp at this; omega
  simp [h4]
theorem minus_cons (c : UInt8) (r : Bs) : minusB (c :: r) = (c == 45) := by
  unfold minusB
  rw [List.take_succ_cons, List.take_zero]
  cases h : (c == 45)
  · simpa using h
  · simpa using h
theorem minus_dec (n : Nat) (h0 : 0 < n) : minusB (decN n) = false := by
  obtain ⟨d, r, e, h1, h2⟩ := decN_head (n + 1) n (by omega) h0
  rw [e, minus_cons, byte_eq, dB_nat d h2]
  simp; omega
theorem not_48 (n : Nat) (h0 : 0 < n) : (decN n == [48]) = false := by
  obtain ⟨d, r, e, h1, h2⟩ := decN_head (n + 1) n (by omega) h0
  rw [e, beq_eq_false_iff_ne]
  intro e2
  injection e2 with e3
  have := congrArg UInt8.toNat e3
  rw [dB_nat d h2] at this
  simp at this; omega
theorem dec_parse (n : Int) (h1 : -9223372036854775808 ≤ n) (h2 : n ≤ 9223372036854775807) : parseE (decI n) = 0 ∧ parseV (decI n) = n := by
  have hf : fitsB n = true := (fits_iff n).2 ⟨h1, h2⟩
  by_cases h0 : n = 0
  · subst h0
    exact ⟨by decide, by decide⟩
  · have hp : 0 < n.natAbs := by omega
    have hv := decN_val (n.natAbs + 1) n.natAbs (by omega)
    unfold parseE parseV parseArg parseN decI
    rw [if_neg h0]
    by_cases hneg : n < 0
    · rw [if_pos hneg]
      have hm : minusB (45 :: decN n.natAbs) = true := by rw [minus_cons]; rfl
      have hd : digsOf (45 :: decN n.natAbs) = decN n.natAbs := by unfold digsOf; rw [if_pos hm]; rfl
      rw [hd, hm, whole_dec _ hp, not_48 _ hp, hv]
      have e : -(n.natAbs : Int) = n := by omega
      simp [e, hf, room]
    · rw [if_neg hneg]
      have hm := minus_dec n.natAbs hp
      have hd : digsOf (decN n.natAbs) = decN n.natAbs := by unfold digsOf; rw [if_neg (by simp [hm])]
      rw [hd, hm, whole_dec _ hp, hv]
      have e : (n.natAbs : Int) = n := by omega
      simp [e, hf, room]
/-- What a number's digits are: a sign or a digit, then digits. -/
theorem dec_shape (n : Int) (hL : n.natAbs ≤ 9223372036854775808) : ∃ c r, decI n = c :: r ∧ (digB c = true ∨ c = 45) ∧ r.all digB = true ∧ r.length ≤ 19 ∧ (c = 45 → ∃ d, d ∈ r) := by
  unfold decI
  split
  · exact ⟨48, [], rfl, .inl (by decide), rfl, by simp, fun e => by cases e⟩
  · rename_i h0
    have hp : 0 < n.natAbs := by omega
    have ha := decN_dig (n.natAbs + 1) n.natAbs (by omega)
    have hl := decN_len19 n.natAbs hL
    obtain ⟨d, r, e, h1, h2⟩ := decN_head (n.natAbs + 1) n.natAbs (by omega) hp
    split
    · exact ⟨45, _, rfl, .inr rfl, ha, hl, fun _ => ⟨dB d, by rw [e]; simp⟩⟩
    · rw [e] at ha hl ⊢
      rw [List.all_cons, Bool.and_eq_true] at ha
      rw [List.length_cons] at hl
      exact ⟨dB d, r, rfl, .inl ha.1, ha.2, by omega, fun e2 => by
        have := congrArg UInt8.toNat e2
        rw [dB_nat d h2] at this
        simp at this; omega⟩
theorem dig_word (c : UInt8) (h : digB c = true) : wordB c = true ∧ letB c = false ∧ ¬ c.toNat = 45 :=
  all_bytes (p := fun c => digB c = true → wordB c = true ∧ letB c = false ∧ ¬ c.toNat = 45) (by decide) c h
theorem digs_word : ∀ r : Bs, r.all digB = true → r.takeWhile wordB = r
  | [], _ => rfl
  | c :: r, h => by
    rw [List.all_cons, Bool.and_eq_true] at h
    rw [List.takeWhile_cons, if_pos (dig_word c h.1).1, digs_word r h.2]
theorem tw_all (p : UInt8 → Bool) : ∀ (a b : Bs), a.takeWhile p = a → (a ++ b).takeWhile p = a ++ b.takeWhile p
  | [], b, _ => rfl
  | c :: a, b, h => by
    rw [List.takeWhile_cons] at h
    split at h
    · rename_i hc
      injection h with _ h
      rw [List.cons_append, List.takeWhile_cons, if_pos hc, tw_all p a b h, List.cons_append]
    · cases h
theorem its_paren (o : Nat) : its [41] o = [⟨⟨4, o, [41], 0⟩, true⟩] := by
  have := its_some 41 [] o (by decide) ⟨4, 0, [41], 0⟩ 1 (by rfl)
  rw [this]; rfl
theorem num_head {c : UInt8} (h : digB c = true ∨ c = 45) : blankB c = false ∧ letB c = false ∧ (digB c = true ∨ c.toNat = 45) := by
  rcases h with h | rfl
  · exact all_bytes (p := fun c => digB c = true → blankB c = false ∧ letB c = false ∧ (digB c = true ∨ c.toNat = 45)) (by decide) c h
  · exact ⟨by decide, by decide, .inr (by decide)⟩
theorem first_dec (n : Int) (h1 : -9223372036854775808 ≤ n) (h2 : n ≤ 9223372036854775807) (z : UInt8) (hz : wordB z = false) : firstP (decI n ++ [z]) = some (⟨2, 0, decI n, n⟩, (decI n).length) := by
  obtain ⟨c, r, e, hc, hr, hl, _⟩ := dec_shape n (by omega)
  obtain ⟨p1, p2⟩ := dec_parse n h1 h2
  rw [e] at p1 p2 ⊢
  obtain ⟨q1, q2, q3⟩ := num_head hc
  have hw : runN wordB (c :: r ++ [z]) 1 = (c :: r).length := by
    unfold runN
    rw [List.cons_append, List.drop_succ_cons, List.drop_zero, tw_all wordB r [z] (digs_word r hr), List.takeWhile_cons, if_neg (by simp [hz]), List.append_nil, List.length_cons]; omega
  unfold firstP
  rw [hw, List.cons_append, List.headD_cons, if_neg (by simp [q2]), if_pos q3, ← List.cons_append, List.take_append_of_le_length (Nat.le_refl _), List.take_length, numP_yes p1, p2]
theorem dec_len (n : Int) (hL : n.natAbs ≤ 9223372036854775808) : 1 ≤ (decI n).length ∧ (decI n).length ≤ 20 := by
  obtain ⟨c, r, e, hc, hr, hl, _⟩ := dec_shape n hL
  rw [e, List.length_cons]; omega
theorem all_dec (n : Int) (h1 : -9223372036854775808 ≤ n) (h2 : n ≤ 9223372036854775807) : allL (decI n ++ [41]) = ([⟨2, 0, decI n, n⟩, ⟨4, (decI n).length, [41], 0⟩], 0, 0) := by
  have hf := first_dec n h1 h2 41 (by decide)
  have hl := dec_len n (by omega)
  obtain ⟨c, r, e, hc, hr, hl', _⟩ := dec_shape n (by omega)
  have hi : its (decI n ++ [41]) 0 = [⟨⟨2, 0, decI n, n⟩, true⟩, ⟨⟨4, (decI n).length, [41], 0⟩, true⟩] := by
    rw [e] at hf hl ⊢
    rw [List.cons_append] at hf ⊢
    rw [its_some c (r ++ [41]) 0 (num_head hc).1 _ _ hf, ← List.cons_append, List.drop_append_of_le_length (Nat.le_refl _), List.drop_length, List.nil_append, its_paren]
    simp
  rw [all_ok (by rw [List.length_append]; simp; omega) (by rw [hi]; intro x hx; simp at hx; rcases hx with h | h <;> rw [h]), hi]
  rfl
theorem low_byte (c : UInt8) (h : 97 ≤ c.toNat ∧ c.toNat ≤ 122) : letB c = true ∧ wordB c = true ∧ digB c = false ∧ blankB c = false :=
  all_bytes (p := fun c => (97 ≤ c.toNat ∧ c.toNat ≤ 122) → letB c = true ∧ wordB c = true ∧ digB c = false ∧ blankB c = false) (by decide) c h
theorem first_bad (n : Int) (hL : n.natAbs ≤ 9223372036854775808) (z : UInt8) (hz : 97 ≤ z.toNat ∧ z.toNat ≤ 122) : firstP (decI n ++ [z]) = none := by
  obtain ⟨c, r, e, hc, hr, hl, _⟩ := dec_shape n hL
  obtain ⟨z1, z2, z3, _⟩ := low_byte z hz
  obtain ⟨q1, q2, q3⟩ := num_head hc
  have hw : runN wordB (c :: r ++ [z]) 1 = (c :: r ++ [z]).length := by
    unfold runN
    rw [List.cons_append, List.drop_succ_cons, List.drop_zero, tw_all wordB r [z] (digs_word r hr), List.takeWhile_cons, if_pos z2, List.takeWhile_nil, List.length_cons]; omega
  have hE : ¬ parseE (c :: r ++ [z]) = 0 := by
    have hd : ∃ s, digsOf (c :: r ++ [z]) = s ++ [z] := by
      unfold digsOf
      split
      · exact ⟨r, rfl⟩
      · exact ⟨c :: r, rfl⟩
    obtain ⟨s, hs⟩ := hd
    have hwl : wholeL (s ++ [z]) = false := by
      unfold wholeL
      rw [List.all_append]
      simp [z3]
    unfold parseE parseArg
    rw [hs, hwl]
    simp
  rw [e]
  unfold firstP
  rw [hw, List.take_length, List.cons_append, List.headD_cons, if_neg (by simp [q2]), if_pos q3, ← List.cons_append]
  exact numP_no hE
theorem all_bad_dec (n : Int) (hL : n.natAbs ≤ 9223372036854775808) (z : UInt8) (hz : 97 ≤ z.toNat ∧ z.toNat ≤ 122) : allL (40 :: 32 :: (decI n ++ [z])) = ([], 2, 30) := by
  have hf := first_bad n hL z hz
  have hl := dec_len n hL
  obtain ⟨c, r, e, hc, hr, hl', _⟩ := dec_shape n hL
  have h2 : its (decI n ++ [z]) 2 = [⟨TK.zero.at_ 2, false⟩] := by
    rw [e] at hf ⊢
    exact its_none c (r ++ [z]) 2 (num_head hc).1 hf
  have hi : its (40 :: 32 :: (decI n ++ [z])) 0 = [⟨⟨4, 0, [40], 0⟩, true⟩] ++ [⟨TK.zero.at_ 2, false⟩] := by
    rw [its_some 40 (32 :: (decI n ++ [z])) 0 (by decide) ⟨4, 0, [40], 0⟩ 1 rfl, List.drop_succ_cons, List.drop_zero, its_blank 32 _ _ (by decide), h2]
    rfl
  exact all_bad (by simp; omega) hi (by intro y hy; simp at hy; rw [hy]) rfl
theorem all_name (z : UInt8) (hz : 97 ≤ z.toNat ∧ z.toNat ≤ 122) : allL [z, 55] = ([⟨1, 0, [z, 55], 0⟩], 0, 0) := by
  obtain ⟨z1, z2, z3, z4⟩ := low_byte z hz
  have hf : firstP [z, 55] = some (⟨1, 0, [z, 55], 0⟩, 2) := by
    unfold firstP
    rw [List.headD_cons, if_pos z1]
    rfl
  have hi : its [z, 55] 0 = [⟨⟨1, 0, [z, 55], 0⟩, true⟩] := by
    rw [its_some z [55] 0 z4 _ _ hf]; rfl
  rw [all_ok (by simp) (by rw [hi]; intro x hx; simp at hx; rw [hx]), hi]
  rfl
/-- '[]byte(s)'. -/
theorem conv_bytes (W : World) (l : Bs) (h : l.length ≤ 1000000) : ∃ A c W', (convert 9 22 (.string (bs l))).run Try.prog W = .ok (.slice A l.length c) W' ∧ BRow W' A c l ∧ Below W.heap.size W W' := by
  have hg := grownCap_ge W (bs l).size 0 5
  have hm := grownCap_le_maxLen W (bs l).size 0 5 (by rw [bs_size]; unfold maxLen; omega)
  have hr := Lib.run_convert_string_bytes (P := Try.prog) W 9 22 5 (bs l) Try.underlying9 Try.underlying22 Try.underlying5
  refine ⟨some ⟨W.heap.size, 0, none⟩, grownCap W (bs l).size 0 5, Lib.bytesWorld W 5 (bs l), ?_, ?_, ?_⟩
  · rw [hr, bs_size]
  · refine ⟨by rw [← bs_size]; exact hg, hm, (fun e => by cases e), fun h0 => ⟨W.heap.size, 0, rfl, by rw [Lib.bytesWorld_size]; omega, fun j x hj => ?_⟩⟩
    have hlt := (List.getElem?_eq_some_iff.1 hj).1
    have := Lib.bytesWorld_cell W 5 (bs l) j (by rw [bs_size]; exact hlt)
    rw [Nat.zero_add, this]
    have e : (bs l).data.toList.getD j 0 = x := by simp [bs, hj]
    rw [e]
  · exact ⟨rfl, rfl, rfl, by rw [Lib.bytesWorld_size]; omega, fun k hk => Lib.bytesWorld_at_old W 5 (bs l) k hk⟩
end Go.Proofs.Ythjbmlgjlndihaa
