/- Contract of ints.read at any string of digits: the number, or that 64 bits have no room for it. -/
import Derived.Test.YtgjimgopfpaimaaE
namespace Go.Proofs.Ytgjimgopfpaimaa
open Go.RowKit

def valStep (n : Nat) (c : UInt8) : Nat := n * 10 + (c.toNat - 48)
/-- The number that digits tell. -/
def valL (l : List UInt8) : Nat := l.foldl valStep 0
def Big : Nat := 18446744073709551616
theorem big_eq : Big = 18446744073709551616 := rfl

theorem foldl_ge (l : List UInt8) : ∀ n, n ≤ l.foldl valStep n := by
  induction l with
  | nil => intro n; exact Nat.le_refl _
  | cons c r ih => intro n; exact Nat.le_trans (by unfold valStep; omega) (ih (valStep n c))

theorem mulTen (n : Nat) (hn : n < Big) (w : World) :
    Calls Try.prog 46 #[.int .u64 (n : Int), .int .u64 10] w fun e w' => e = .returned (.tuple #[.int .u64 ((n * 10 / Big : Nat) : Int), .int .u64 ((n * 10 % Big : Nat) : Int)]) ∧ w = w' :=
  mul64_any n 10 hn (by decide) w

theorem val_take (s : ByteArray) (k : Nat) (hk : k < s.size) : valL (s.toList.take (k + 1)) = valStep (valL (s.toList.take k)) (s[k]'hk) := by
  have hl : k < s.toList.length := by rw [ByteArray.toList_eq]; simpa using hk
  have e : s.toList[k]'hl = s[k]'hk := by simp only [ByteArray.toList_eq]; simp; rfl
  rw [List.take_succ_eq_append_getElem hl, e]
  simp [valL, List.foldl_append]

theorem val_take_le (s : ByteArray) (k : Nat) : valL (s.toList.take k) ≤ valL s.toList := by
  conv => rhs; rw [← List.take_append_drop k s.toList]
  unfold valL
  rw [List.foldl_append]
  exact foldl_ge _ _

theorem addDigit (n c : Nat) (hc : 48 ≤ c) (W : World) : (callFunc 42 #[.int .u64 ((n * 10 % Big : Nat) : Int), .int .u64 ((c : Int) - 48), .int .u64 0]).run Try.prog W = .ok (.value (.tuple #[.int .u64 (((n * 10 % Big + (c - 48)) % Big : Nat) : Int), .int .u64 (((n * 10 % Big + (c - 48)) / Big : Nat) : Int)])) W := by
  rw [add64_any _ _ 0 W (by omega) (by omega) (by omega) (by omega)]
  simp only [Big]
  rw [show ((n * 10 % 18446744073709551616 : Nat) : Int) + ((c : Int) - 48) + 0 = ((n * 10 % 18446744073709551616 + (c - 48) : Nat) : Int) from by omega]
  congr 6

set_option maxHeartbeats 1000000 in
theorem read_ok (s : ByteArray) (w : World) (hn : DigsTo s s.size) (hv0 : valL s.toList < Big) :
    Calls Try.prog 33 #[.string s] w fun e w' => e = .returned (.tuple #[.int .u64 (valL s.toList), .bool true]) ∧ Below w.heap.size w w' := by
  have HN := Lib.hid hn
  have H0 := Lib.hid hv0
  clear hn hv0
  go_enter Try.func33, Try.ntmps33
  go_wp2
  go_loopw [4] (fun v w' => ∃ (pos n : Nat), w' = w.iter s pos ∧ pos ≤ s.size ∧ v = .int .u64 n ∧ Hid (n = valL (s.toList.take pos)) ∧ Hid (n < Big)) (fun _ w' => s.size - w'.iterPos w.heap.size)
  case atStart => exact ⟨0, 0, rfl, by omega, rfl, Lib.hid (by simp [valL]), Lib.hid (by simp [Big])⟩
  case round =>
    obtain ⟨pos, n, rfl, hp, rfl, hv, hbig⟩ := hrel
    by_cases hlt : pos < s.size
    · have hb := HN.out pos hlt hlt
      have hb' : 48 ≤ (s[pos]'hlt).toNat ∧ (s[pos]'hlt).toNat ≤ 57 := by simpa [digB] using hb
      have hnx := fun ty => run_next_ascii (P := Try.prog) w s pos ty hlt (by omega)
      have HV := Lib.hid (val_take s pos hlt)
      have HT := Lib.hid (val_take_le s (pos + 1))
      clear hb
      have HM := Lib.hid (mulTen n hbig.out)
      unfold valStep at HV
      generalize (s[pos]'hlt).toNat = c at *
      have HA := Lib.hid (addDigit n c hb'.1)
      by_cases hB : n * 10 + (c - 48) < Big
      · have HF := Lib.hid hB
        have HV2 : Hid (n * 10 + (c - 48) = valL (s.toList.take (pos + 1))) := Lib.hid (by rw [HV.out, hv.out])
        have e1 : n * 10 / Big = 0 := by unfold Big at *; omega
        have e2 : n * 10 % Big = n * 10 := by unfold Big at *; omega
        have e3 : (n * 10 + (c - 48)) / Big = 0 := by unfold Big at *; omega
        have e4 : (n * 10 + (c - 48)) % Big = n * 10 + (c - 48) := by unfold Big at *; omega
        rw [e2] at HA HM
        rw [e1] at HM
        rw [e3, e4] at HA
        clear e1 e2 e3 e4 hB HV
        generalize n * 10 = lo at HA HM HF HV2
        have ha := HA.out
        clear HA
        generalize lo + (c - 48) = sum at ha HF HV2
        go_wp2_with (go_at_call 46; refine (HM.out _).mono ?_; rintro e w' ⟨rfl, rfl⟩)
        go_roundw
        case rel => exact ⟨pos + 1, sum, rfl, by omega, rfl, HV2, HF⟩
        case measure => simp; omega
      · exact absurd (Nat.lt_of_le_of_lt HT.out H0.out) (by rw [HV.out, ← hv.out]; exact hB)
    · have hnx := fun ty => run_next_end (P := Try.prog) w s pos ty hlt
      have HE : Hid (n = valL s.toList) := Lib.hid (by
        rw [hv.out, List.take_of_length_le]
        rw [ByteArray.toList_eq]
        show s.size ≤ pos
        omega)
      go_wp2
      go_ret2
      exact ⟨ret_int_bool (by rw [HE.out]), below_iter _ _ _⟩

set_option maxHeartbeats 1000000 in
theorem read_no (s : ByteArray) (w : World) (hn : DigsTo s s.size) (hv0 : ¬ valL s.toList < Big) :
    Calls Try.prog 33 #[.string s] w fun e w' => e = .returned (.tuple #[.int .u64 0, .bool false]) ∧ Below w.heap.size w w' := by
  have HN := Lib.hid hn
  have H0 := Lib.hid hv0
  clear hn hv0
  go_enter Try.func33, Try.ntmps33
  go_wp2
  go_loopw [4] (fun v w' => ∃ (pos n : Nat), w' = w.iter s pos ∧ pos ≤ s.size ∧ v = .int .u64 n ∧ Hid (n = valL (s.toList.take pos)) ∧ Hid (n < Big)) (fun _ w' => s.size - w'.iterPos w.heap.size)
  case atStart => exact ⟨0, 0, rfl, by omega, rfl, Lib.hid (by simp [valL]), Lib.hid (by simp [Big])⟩
  case round =>
    obtain ⟨pos, n, rfl, hp, rfl, hv, hbig⟩ := hrel
    by_cases hlt : pos < s.size
    · have hb := HN.out pos hlt hlt
      have hb' : 48 ≤ (s[pos]'hlt).toNat ∧ (s[pos]'hlt).toNat ≤ 57 := by simpa [digB] using hb
      have hnx := fun ty => run_next_ascii (P := Try.prog) w s pos ty hlt (by omega)
      have HV := Lib.hid (val_take s pos hlt)
      have HT := Lib.hid (val_take_le s (pos + 1))
      clear hb
      have HM := Lib.hid (mulTen n hbig.out)
      unfold valStep at HV
      generalize (s[pos]'hlt).toNat = c at *
      have HA := Lib.hid (addDigit n c hb'.1)
      by_cases hB : n * 10 + (c - 48) < Big
      · have HF := Lib.hid hB
        have HV2 : Hid (n * 10 + (c - 48) = valL (s.toList.take (pos + 1))) := Lib.hid (by rw [HV.out, hv.out])
        have e1 : n * 10 / Big = 0 := by unfold Big at *; omega
        have e2 : n * 10 % Big = n * 10 := by unfold Big at *; omega
        have e3 : (n * 10 + (c - 48)) / Big = 0 := by unfold Big at *; omega
        have e4 : (n * 10 + (c - 48)) % Big = n * 10 + (c - 48) := by unfold Big at *; omega
        rw [e2] at HA HM
        rw [e1] at HM
        rw [e3, e4] at HA
        clear e1 e2 e3 e4 hB HV
        generalize n * 10 = lo at HA HM HF HV2
        have ha := HA.out
        clear HA
        generalize lo + (c - 48) = sum at ha HF HV2
        go_wp2_with (go_at_call 46; refine (HM.out _).mono ?_; rintro e w' ⟨rfl, rfl⟩)
        go_roundw
        case rel => exact ⟨pos + 1, sum, rfl, by omega, rfl, HV2, HF⟩
        case measure => simp; omega
      · have HO : Hid (n * 10 / Big ≠ 0 ∨ n * 10 / Big = 0 ∧ (n * 10 % Big + (c - 48)) / Big ≠ 0) := Lib.hid (by unfold Big at *; omega)
        clear HV hB
        generalize n * 10 % Big = lo at HA HM HO
        generalize n * 10 / Big = hi at HM HO
        have ha := HA.out
        clear HA
        generalize (lo + (c - 48)) / Big = ca at ha HO
        generalize (lo + (c - 48)) % Big = sum at ha
        rcases HO.out with h1 | ⟨h1, h2⟩
        · have t1 : ((hi : Int) != 0) = true := by rw [bne_iff_ne]; omega
          clear h1
          go_wp2_with (go_at_call 46; refine (HM.out _).mono ?_; rintro e w' ⟨rfl, rfl⟩)
          go_ret2
          exact ⟨rfl, below_iter _ _ _⟩
        · subst h1
          have t2 : ((ca : Int) != 0) = true := by rw [bne_iff_ne]; omega
          clear h2
          go_wp2_with (go_at_call 46; refine (HM.out _).mono ?_; rintro e w' ⟨rfl, rfl⟩)
          go_ret2
          exact ⟨rfl, below_iter _ _ _⟩
    · exact absurd (by
        have := hbig.out
        rw [hv.out, List.take_of_length_le] at this
        · exact this
        · rw [ByteArray.toList_eq]
          show s.size ≤ pos
          omega) H0.out
end Go.Proofs.Ytgjimgopfpaimaa
