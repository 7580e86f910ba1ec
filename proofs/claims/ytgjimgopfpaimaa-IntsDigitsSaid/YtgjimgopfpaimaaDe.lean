/- IntsDigits: of any number and any text the law's call answers true. -/
import Derived.Test.YtgjimgopfpaimaaDd
namespace Go.Proofs.Ytgjimgopfpaimaa
open Go.RowKit

theorem dig_exist : ∀ (b N : Nat), N < b → ∃ ds, Digs ds ∧ Norm ds ∧ valD ds = N
  | 0, _, h => absurd h (by omega)
  | b + 1, N, h => by
    by_cases h0 : N = 0
    · exact ⟨[], digs_nil, by simp [Norm], by simp [valD, h0]⟩
    · obtain ⟨ds, h1, h2, h3⟩ := dig_exist b (N / 10) (by omega)
      refine ⟨((N : Int) % 10) :: ds, ?_, ?_, ?_⟩
      · intro x hx
        rcases List.mem_cons.1 hx with rfl | hx
        · omega
        · exact h1 x hx
      · cases ds with
        | nil => simp [valD] at h3; simp [Norm]; omega
        | cons e t => simpa [Norm] using h2
      · simp only [valD, h3]; omega

theorem byteD_nat (d : Int) (h0 : 0 ≤ d) (h9 : d ≤ 9) : ((byteD d).toNat : Int) = 48 + d := by
  unfold byteD
  rw [UInt8.toNat_ofNat']
  omega
theorem high_all (ds : List Int) (h : Digs ds) : (highL ds).all digB = true := by
  rw [List.all_eq_true]
  intro c hc
  obtain ⟨d, hd, rfl⟩ := List.mem_map.1 hc
  have h1 := h d (by simpa using hd)
  have := byteD_nat d h1.1 h1.2
  simp [digB]; omega
theorem dvals_high (ds : List Int) (h : Digs ds) : dvals (highL ds) = ds := by
  unfold dvals highL
  rw [← List.map_reverse, List.reverse_reverse, List.map_map]
  conv => rhs; rw [← List.map_id ds]
  apply List.map_congr_left
  intro d hd
  have h1 := h d hd
  have := byteD_nat d h1.1 h1.2
  simp only [Function.comp_def, id]
  omega
theorem head_digit (l : List UInt8) (h : l.all digB = true) : minusB l = false := by
  cases l with
  | nil => rfl
  | cons c r =>
    have := dig_of (List.all_eq_true.1 h c (by simp))
    have hc : c ≠ 45 := by intro e; subst e; revert this; decide
    simp [minusB, hc]

/-- Digits are read as their number. -/
theorem parse_digL (x : Int) (hf : fitsB x = true) : parseV (digL x) = x ∧ parseE (digL x) = 0 := by
  obtain ⟨ds, hd, hn, hv⟩ := dig_exist (x.natAbs + 1) x.natAbs (by omega)
  have ht : textL (decide (x < 0)) ds = digL x := by
    refine text_digL _ ds x hd hn ?_ ?_
    · intro e he
      subst he
      simp [valD] at hv
      simp at e
      omega
    · by_cases h : x < 0
      · simp [h]; omega
      · simp [h]; omega
  by_cases hne : ds = []
  · subst hne
    simp [valD] at hv
    have : x = 0 := by omega
    subst this
    rw [← ht]
    decide
  · have hb : digsOf (digL x) = highL ds ∧ minusB (digL x) = decide (x < 0) := by
      rw [← ht]
      unfold textL
      rw [if_neg hne]
      by_cases h : x < 0
      · simp [h, digsOf, minusB]
      · simp only [h, decide_false, Bool.false_eq_true, if_false, List.nil_append]
        have := head_digit _ (high_all ds hd)
        exact ⟨by simp [digsOf, this], this⟩
    have hw : wholeL (highL ds) = true := by
      unfold wholeL
      rw [high_all ds hd]
      have : highL ds ≠ [] := by simp [highL, hne]
      have hh : (highL ds).headD 0 ≠ 48 := by
        intro e
        obtain ⟨i, d, rfl⟩ : ∃ i d, ds = i ++ [d] := ⟨ds.dropLast, ds.getLast hne, (List.dropLast_concat_getLast hne).symm⟩
        rw [highL_snoc] at e
        simp at e
        have h9 := hd d (by simp)
        have := byteD_nat d h9.1 h9.2
        rw [e] at this
        have hl := hn
        unfold Norm at hl
        rw [last_snoc] at hl
        apply hl
        have e48 : ((48 : UInt8).toNat : Int) = 48 := rfl
        omega
      simp [this]
      exact .inr (by simpa using hh)
    have hz : (highL ds == ([48] : List UInt8)) = false ∨ minusB (digL x) = false := by
      by_cases h : highL ds = [48]
      · have h1 := dvals_high ds hd
        rw [h] at h1
        have : ds = [0] := by rw [← h1]; decide
        subst this
        exact absurd hn (by simp [Norm])
      · exact .inl (by simp [h])
    have hpa : parseArg (digL x) = false := by
      unfold parseArg
      rw [hb.1, hw]
      rcases hz with h | h <;> simp [h]
    have hpn : parseN (minusB (digL x)) (digsOf (digL x)) = x := by
      rw [hb.1, hb.2]
      unfold parseN
      have h2 := valD_dvals (highL ds) (high_all ds hd)
      rw [dvals_high ds hd, hv] at h2
      rw [← h2]
      by_cases h : x < 0
      · simp [h]; omega
      · simp [h]; omega
    unfold parseV parseE
    rw [hpa, hpn]
    simp [hf, room_ok hf]

set_option maxHeartbeats 800000 in
theorem refDigits_any (n : Int) (w : World) (hf : fitsB n = true) :
    Calls Try.prog 20 #[.int .i64 n] w fun e w' => e = .returned (.string ⟨(digL n).toArray⟩) ∧ Below w.heap.size w w' := by
  have HF := Lib.hid hf
  clear hf
  go_enter Try.func20, Try.ntmps20
  go_wp2_with fail
  refine (of_any _ _ HF.out).mono ?_
  rintro e w1 ⟨⟨v, rfl, hv⟩, hb1⟩
  obtain ⟨m, A, k, c, ds, rfl, hI, _, _, hk, hd, hno, hm, hx⟩ := hv
  have TX := Lib.hid (text_any 19 m A k c ds w1 hI hk (by omega) hd)
  rw [text_digL m ds n hd hno (fun e he => by have := hm e; have := hI.1; subst he; simp at this; omega) hx] at TX
  have HB1 := Lib.hid hb1
  clear hb1 hI hk hd hno hm hx
  go_wp2_with fail
  refine TX.out.mono ?_
  rintro e w2 ⟨rfl, hb2⟩
  have HB2 := Lib.hid hb2
  clear hb2
  go_wp2
  go_ret
  exact ⟨rfl, bnext HB1.out HB2.out⟩
end Go.Proofs.Ytgjimgopfpaimaa
