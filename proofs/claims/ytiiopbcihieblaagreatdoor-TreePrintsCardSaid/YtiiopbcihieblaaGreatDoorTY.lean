/- Carried over from an earlier seat. -/
import Derived.Test.YtiiopbcihieblaaGreatDoorTX
import Derived.StillTailTactics
namespace Go.Proofs.YtiiopbcihieblaaGreatDoor
set_option maxRecDepth 100000
set_option maxRecDepth 100000
open Go.RowKit Go.Sort

set_option maxHeartbeats 800000 in
theorem truth_any (w : World) (B b : Nat) (bs : Bs) (n : Int) (h : WB w B b bs) (hl : bs.length + (if n = 0 then ([102, 97, 108, 115, 101] : Bs) else [116, 114, 117, 101]).length ≤ MX) :
    Calls Tryz.prog 83 #[.pointer (some ⟨b, 0, none⟩), .int .i64 n] w (WPost B b (bs ++ (if n = 0 then [102, 97, 108, 115, 101] else [116, 114, 117, 101])) w) := by
  by_cases hn : n = 0
  · rw [if_pos hn] at hl ⊢
    have S1 := Lib.hid (str_lit w B b bs [102, 97, 108, 115, 101] h (by unfold MX at hl; simpa using hl))
    have hb : (n == 0) = true := by simpa using hn
    clear hn h hl
    go_enter Tryz.func83, Tryz.ntmps83
    go_wp2_with fail
    refine S1.out.mono ?_
    rintro e w1 ⟨rfl, hw⟩
    have HW := Lib.hid hw
    clear hw
    go_wp2
    go_end0
    exact ⟨rfl, HW.out⟩
  · rw [if_neg hn] at hl ⊢
    have S2 := Lib.hid (str_lit w B b bs [116, 114, 117, 101] h (by unfold MX at hl; simpa using hl))
    have hb : (n == 0) = false := by simpa using hn
    clear hn h hl
    go_enter Tryz.func83, Tryz.ntmps83
    go_wp2_with fail
    refine S2.out.mono ?_
    rintro e w1 ⟨rfl, hw⟩
    have HW := Lib.hid hw
    clear hw
    go_wp2
    go_end0
    exact ⟨rfl, HW.out⟩
theorem flat_next (f : UInt8 → Bs) (l : Bs) (k : Nat) {c : UInt8} (h : l[k]? = some c) : (l.take (k + 1)).flatMap f = (l.take k).flatMap f ++ f c := by
  rw [take_snoc l k h, List.flatMap_append]; simp
theorem flat_le (f : UInt8 → Bs) (l : Bs) (k : Nat) : ((l.take k).flatMap f).length ≤ (l.flatMap f).length := by
  have := congrArg (fun m => (List.flatMap f m).length) (List.take_append_drop k l).symm
  simp only [List.flatMap_append, List.length_append] at this
  omega
theorem WB.drew {w : World} {B b : Nat} {bs : Bs} (h : WB w B b bs) : WB w.drew B b bs := h.next (Below.drew (Below.refl _ _))
theorem WK.drew (B b : Nat) (w : World) : WK B b w w.drew := ⟨Below.drew (Below.refl _ _), (Lib.OthersKept.refl _ _ w).drew⟩
set_option maxHeartbeats 3200000 in
theorem wtxt_any (w : World) (B b : Nat) (bs : Bs) (s : ByteArray) (h : WB w B b bs) (hl : bs.length + (qT s.toList).length ≤ MX) :
    Calls Tryz.prog 85 #[.pointer (some ⟨b, 0, none⟩), .string s] w (WPost B b (bs ++ qT s.toList) w) := by
  have HL := Lib.hid (show bs.length + 1 + (s.toList.flatMap qC).length + 1 ≤ MX by unfold qT at hl; simp only [List.length_cons, List.length_append, List.length_nil] at hl; omega)
  have S1 := Lib.hid (byte_any w B b bs 39 h (by have := HL.out; unfold MX at this; omega))
  have hsz : s.size ≤ 140737488355328 := by
    have h1 : s.toList.length ≤ (s.toList.flatMap qC).length := by
      rw [List.length_flatMap]
      have : ∀ l : Bs, l.length ≤ (l.map fun c => (qC c).length).sum := fun l => by
        induction l with
        | nil => simp
        | cons c l ih => simp only [List.map_cons, List.sum_cons, List.length_cons]; have : 1 ≤ (qC c).length := by unfold qC; split <;> simp
                         omega
      exact this _
    have := HL.out
    rw [toList_size] at h1
    unfold MX at this; omega
  have TK := Lib.hid (fun k => flat_le qC s.toList k)
  clear h hl
  go_enter Tryz.func85, Tryz.ntmps85
  go_wp2_with fail
  refine S1.out.mono ?_
  rintro e w0 ⟨rfl, hw⟩
  have HW := Lib.hid hw
  clear hw S1
  go_wp2
  go_loopw [4, 11] (fun _ i wr => ∃ k : Nat, k ≤ s.size ∧ i = .int .i64 k ∧ Hid (WB wr B b (bs ++ [39] ++ (s.toList.take k).flatMap qC)) ∧ Hid (WK B b w wr)) (fun _ i _ => s.size - (intOf i).toNat)
  case atStart => exact ⟨0, by omega, rfl, Lib.hid (by simpa using HW.out.1), Lib.hid HW.out.2⟩
  case round =>
    obtain ⟨k, hk, rfl, hWB, hK⟩ := hrel
    by_cases hlt : k < s.size
    · have NX := Lib.hid (flat_next qC s.toList k (toList_at s k hlt))
      have TN := Lib.hid (TK.out (k + 1))
      have k0 : (0 : Int) ≤ (k : Int) := by omega
      have k1 : (k : Int) < (s.size : Int) := by omega
      obtain ⟨c, hc⟩ : ∃ c, c = s[k]'hlt := ⟨_, rfl⟩
      rw [← hc] at NX
      by_cases hq : c = 39 ∨ c = 92
      · have QC := Lib.hid (show qC c = [92, c] from if_pos hq)
        have S2 := Lib.hid (byte_any wr B b _ 92 hWB.out (by
          have h1 := TN.out
          rw [NX.out, QC.out] at h1
          have h2 := HL.out
          simp only [List.length_append] at h1 ⊢
          unfold MX at h2; simp only [List.length_cons, List.length_nil] at h1 ⊢; omega))
        have S3 := Lib.hid (fun (X : World) (hX : WB X B b (bs ++ [39] ++ (s.toList.take k).flatMap qC ++ [92])) => byte_any X B b _ c hX (by
          have h1 := TN.out
          rw [NX.out, QC.out] at h1
          have h2 := HL.out
          simp only [List.length_append] at h1 ⊢
          unfold MX at h2; simp only [List.length_cons, List.length_nil] at h1 ⊢; omega))
        have hcond : (((s[k]'hlt).toNat : Int) == 39) = true ∨ ((((s[k]'hlt).toNat : Int) == 39) = false ∧ (((s[k]'hlt).toNat : Int) == 92) = true) := by
          rw [← hc]
          rcases hq with rfl | rfl
          · left; rfl
          · right; exact ⟨rfl, rfl⟩
        have HC := Lib.hid hc
        clear hq hc
        rcases hcond with e1 | ⟨e1, e2⟩
        all_goals
          go_wp2_with fail
          refine S2.out.mono ?_
          rintro e w2 ⟨rfl, hw⟩
          have HW2 := Lib.hid hw
          clear hw S2
          go_upto_region 6 with fail
          go_still_tail 6, (by kernel_rfl)
          change wpList _ _ _ _ _ w2.drew
          rw [← HC.out]
          go_wp2_with fail
          refine (S3.out _ HW2.out.1.drew).mono ?_
          rintro e w3 ⟨rfl, hw⟩
          have HW3 := Lib.hid hw
          clear hw S3
          go_wp2
          go_roundw
          case rel => exact ⟨k + 1, by omega, by go_num, Lib.hid (by rw [NX.out, QC.out]; have := HW3.out.1; simpa using this), Lib.hid (((hK.out.trans HW2.out.2).trans (WK.drew _ _ _)).trans HW3.out.2)⟩
          case measure => simp [intOf]; omega
      · have QC := Lib.hid (show qC c = [c] from if_neg hq)
        have S3 := Lib.hid (byte_any _ B b _ c hWB.out.drew (by
          have h1 := TN.out
          rw [NX.out, QC.out] at h1
          have h2 := HL.out
          simp only [List.length_append] at h1 ⊢
          unfold MX at h2; simp only [List.length_cons, List.length_nil] at h1 ⊢; omega))
        have e1 : (((s[k]'hlt).toNat : Int) == 39) = false := by
          rw [← hc]; refine beq_eq_false_iff_ne.2 fun h => hq (.inl ?_)
          exact UInt8.toNat_inj.1 (by have : c.toNat = 39 := by omega
                                      exact this)
        have e2 : (((s[k]'hlt).toNat : Int) == 92) = false := by
          rw [← hc]; refine beq_eq_false_iff_ne.2 fun h => hq (.inr ?_)
          exact UInt8.toNat_inj.1 (by have : c.toNat = 92 := by omega
                                      exact this)
        have HC := Lib.hid hc
        clear hq hc
        go_upto_region 6 with fail
        go_still_tail 6, (by kernel_rfl)
        change wpList _ _ _ _ _ wr.drew
        rw [← HC.out]
        go_wp2_with fail
        refine S3.out.mono ?_
        rintro e w3 ⟨rfl, hw⟩
        have HW3 := Lib.hid hw
        clear hw S3
        go_wp2
        go_roundw
        case rel => exact ⟨k + 1, by omega, by go_num, Lib.hid (by rw [NX.out, QC.out]; have := HW3.out.1; simpa using this), Lib.hid ((hK.out.trans (WK.drew _ _ _)).trans HW3.out.2)⟩
        case measure => simp [intOf]; omega
    · have ALL := Lib.hid (show s.toList.take k = s.toList from List.take_of_length_le (by rw [toList_size]; omega))
      have S3 := Lib.hid (byte_any wr B b _ 39 hWB.out (by
        rw [ALL.out]
        have h2 := HL.out
        simp only [List.length_append, List.length_cons, List.length_nil]
        unfold MX at h2; omega))
      rw [ALL.out] at S3
      go_wp2_with fail
      refine S3.out.mono ?_
      rintro e w3 ⟨rfl, hw⟩
      have HW3 := Lib.hid hw
      clear hw S3
      go_wp2
      go_end0
      exact ⟨rfl, by have := HW3.out.1; simpa [qT] using this, hK.out.trans HW3.out.2⟩
end Go.Proofs.YtiiopbcihieblaaGreatDoor

