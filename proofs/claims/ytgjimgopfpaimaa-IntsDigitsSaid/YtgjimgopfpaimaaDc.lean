/- Plain facts on texts of numbers: a text is its number's own, just if it is whole. -/
import Derived.Test.YtgjimgopfpaimaaDb
namespace Go.Proofs.Ytgjimgopfpaimaa
open Go.RowKit

def sgnL (m : Bool) : List UInt8 := if m then [45] else []
theorem split_sgn (l : List UInt8) : l = sgnL (minusB l) ++ digsOf l := by
  unfold sgnL digsOf
  cases h : minusB l
  · simp
  · obtain ⟨r, rfl⟩ := (minus_cons l).1 h
    simp
theorem dvals_cons (c : UInt8) (r : List UInt8) : dvals (c :: r) = (dvals r) ++ [(c.toNat : Int) - 48] := by simp [dvals]
theorem dvals_len (bs : List UInt8) : (dvals bs).length = bs.length := by simp [dvals]
theorem high_len (ds : List Int) : (highL ds).length = ds.length := by simp [highL]

theorem text_is (l : List UInt8) (k : Nat) (ha : (digsOf l).all digB = true) (hk : k ≤ (dvals (digsOf l)).length) (hv : valD ((dvals (digsOf l)).take k) = valD (dvals (digsOf l))) (hn : Norm ((dvals (digsOf l)).take k)) :
    (textL (minusB l && decide (0 < k)) ((dvals (digsOf l)).take k) = l ↔ parseArg l = false) := by
  have hl := split_sgn l
  have hD := dvals_digs _ ha
  unfold parseArg
  generalize digsOf l = body at *
  generalize minusB l = m at *
  rw [dvals_len] at hk
  cases body with
  | nil =>
    have h0 : k = 0 := by simpa using hk
    subst h0
    rw [hl]
    cases m <;> simp [textL, dvals, sgnL, wholeL]
  | cons c r =>
    have hc := dig_of (List.all_eq_true.1 ha c (by simp))
    by_cases hz : c = 48
    · subst hz
      cases r with
      | nil =>
        have h0 : valD ((dvals [48]).take k) = 0 := by rw [hv]; decide
        have h1 := norm_zero (digs_take hD k) hn h0
        have h2 : ∀ mm, textL mm ((dvals [48]).take k) = [48] := by intro mm; rw [h1]; rfl
        rw [h2, hl]
        cases m <;> decide
      | cons e t =>
        have hw : wholeL (48 :: e :: t) = false := by simp [wholeL]
        rw [hw]
        simp only [Bool.not_false, Bool.true_or, Bool.true_eq_false, iff_false]
        intro he
        have hlen := congrArg List.length he
        conv at hlen => rhs; rw [hl]
        by_cases h1 : (dvals (48 :: e :: t)).take k = []
        · rw [h1] at hlen
          simp [textL] at hlen
          omega
        · have hkl : k < (48 :: e :: t).length := by
            rcases Nat.lt_or_ge k (48 :: e :: t).length with h | h
            · exact h
            · rw [List.take_of_length_le (by rw [dvals_len]; exact h), dvals_cons] at hn
              exfalso
              apply hn
              rw [last_snoc]
              decide
          unfold textL at hlen
          rw [if_neg h1, List.length_append, List.length_append, high_len, List.length_take] at hlen
          have : (if (m && decide (0 < k)) = true then ([45] : List UInt8) else []).length ≤ (sgnL m).length := by
            cases m <;> simp [sgnL]
            split <;> simp
          omega
    · have hcn : (c.toNat : Int) - 48 ≠ 0 := by
        intro e
        apply hz
        apply UInt8.toNat_inj.1
        show c.toNat = 48
        omega
      have hN : Norm (dvals (c :: r)) := by unfold Norm; rw [dvals_cons, last_snoc]; exact hcn
      have hne : dvals (c :: r) ≠ [] := by rw [dvals_cons]; simp
      have hkl : k = (c :: r).length := by
        rcases Nat.lt_or_ge k (c :: r).length with h | h
        · have e1 := valD_lt (digs_take hD k)
          have e2 := norm_ge hD hN hne
          rw [dvals_len] at e2
          have e3 := ten_mono (show ((dvals (c :: r)).take k).length ≤ (c :: r).length - 1 by rw [List.length_take]; omega)
          omega
        · omega
      rw [List.take_of_length_le (by rw [dvals_len]; omega)]
      have hk0 : decide (0 < k) = true := by rw [hkl]; simp
      have ht : textL (m && decide (0 < k)) (dvals (c :: r)) = l := by
        unfold textL
        rw [if_neg hne, high_dvals _ ha, hk0, Bool.and_true]
        rw [hl]
        rfl
      have hw : wholeL (c :: r) = true := by
        unfold wholeL
        rw [ha]
        simp [hz]
      have hb : ((c :: r) == ([48] : List UInt8)) = false := by simp [hz]
      rw [ht, hw, hb]
      simp

theorem text_val (l : List UInt8) (k : Nat) (ha : (digsOf l).all digB = true) (hv : valD ((dvals (digsOf l)).take k) = valD (dvals (digsOf l))) :
    (if (minusB l && decide (0 < k)) then -valD ((dvals (digsOf l)).take k) else valD ((dvals (digsOf l)).take k)) = parseN (minusB l) (digsOf l) := by
  unfold parseN
  rw [← valD_dvals _ ha, hv]
  cases minusB l
  · simp
  · rcases Nat.eq_zero_or_pos k with h | h
    · subst h
      simp [valD] at hv
      rw [← hv]
      simp
    · simp [h]
end Go.Proofs.Ytgjimgopfpaimaa
