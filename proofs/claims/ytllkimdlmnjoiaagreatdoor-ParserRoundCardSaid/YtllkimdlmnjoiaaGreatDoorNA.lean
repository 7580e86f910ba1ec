/- Carried over from an earlier seat. -/
import Derived.Test.YtllkimdlmnjoiaaGreatDoorVG
namespace Go.Proofs.YtllkimdlmnjoiaaGreatDoor
set_option maxRecDepth 100000
set_option maxRecDepth 100000
set_option maxRecDepth 100000
open Go.RowKit

def letB (c : Nat) : Bool := (decide (97 ≤ c) && decide (c ≤ 122)) || (decide (65 ≤ c) && decide (c ≤ 90)) || decide (c = 95)
def nmC (k c : Nat) : Bool := letB c || (decide (48 ≤ c) && decide (c ≤ 57) && decide (0 < k))
def byt (s : ByteArray) (j : Nat) : Nat := if h : j < s.size then (s[j]'h).toNat else 0
def nmAll (s : ByteArray) (k : Nat) : Bool := (List.range k).all fun j => nmC j (byt s j)
/-- Is it a name? -/
def nameB (s : ByteArray) : Bool := decide (1 ≤ s.size) && decide (s.size ≤ 40) && nmAll s s.size
theorem nmAll_next {s : ByteArray} {k : Nat} (h : nmAll s k = true) (hc : nmC k (byt s k) = true) : nmAll s (k + 1) = true := by
  unfold nmAll at *
  rw [List.range_succ, List.all_append, h]
  simp [hc]
theorem name_not {s : ByteArray} {k : Nat} (hk : k < s.size) (hc : nmC k (byt s k) = false) : nameB s = false := by
  have : nmAll s s.size = false := by
    unfold nmAll
    rw [List.all_eq_false]
    exact ⟨k, List.mem_range.2 hk, by simp [hc]⟩
  unfold nameB
  rw [this]; simp
theorem byt_at {s : ByteArray} {k : Nat} (hk : k < s.size) : byt s k = (s[k]'hk).toNat := by unfold byt; rw [dif_pos hk]

set_option maxHeartbeats 1600000 in
theorem name_any (s : ByteArray) (w : World) : Calls Tryz.prog 70 #[.string s] w fun e w' => e = .returned (.bool (nameB s)) ∧ w = w' := by
  by_cases h1 : s.size < 1
  · have HV : Hid (nameB s = false) := Lib.hid (by unfold nameB; simp; omega)
    have h2 : (s.size : Int) < 1 := by omega
    clear h1
    go_enter Tryz.func70, Tryz.ntmps70
    go_wp2
    go_ret
    exact ⟨by rw [HV.out]; rfl, rfl⟩
  · by_cases h4 : 40 < s.size
    · have HV : Hid (nameB s = false) := Lib.hid (by unfold nameB; simp; omega)
      have h2 : ¬ (s.size : Int) < 1 := by omega
      have h3 : (40 : Int) < (s.size : Int) := by omega
      clear h1 h4
      go_enter Tryz.func70, Tryz.ntmps70
      go_wp2
      go_ret
      exact ⟨by rw [HV.out]; rfl, rfl⟩
    · have h2 : ¬ (s.size : Int) < 1 := by omega
      have h3 : ¬ (40 : Int) < (s.size : Int) := by omega
      have HL : Hid (1 ≤ s.size ∧ s.size ≤ 40) := Lib.hid (by omega)
      go_enter Tryz.func70, Tryz.ntmps70
      go_wp2
      go_loopw [15] (fun i wr => ∃ k : Nat, k ≤ s.size ∧ i = .int .i64 k ∧ wr = w ∧ Hid (nmAll s k = true)) (fun i _ => s.size - (intOf i).toNat)
      case atStart => exact ⟨0, by omega, rfl, rfl, Lib.hid rfl⟩
      case round =>
        obtain ⟨k, hk, rfl, rfl, hA⟩ := hrel
        by_cases hT : k < s.size
        · have HY := Lib.hid (fun h => nmAll_next (k := k) hA.out h)
          have HN := Lib.hid (fun h => name_not (k := k) hT h)
          rw [byt_at hT] at HY HN
          generalize hcc : (s[k]'hT).toNat = c at HY HN
          have hlt : c < 256 := by rw [← hcc]; exact (s[k]'hT).toNat_lt
          have k0 : (0 : Int) ≤ (k : Int) := by omega
          have k1 : (k : Int) < (s.size : Int) := by omega
          rcases (by omega : c < 48 ∨ (48 ≤ c ∧ c ≤ 57 ∧ k = 0) ∨ (48 ≤ c ∧ c ≤ 57 ∧ 0 < k) ∨ (58 ≤ c ∧ c ≤ 64) ∨ (65 ≤ c ∧ c ≤ 90) ∨ (91 ≤ c ∧ c ≤ 94) ∨ c = 95 ∨ c = 96 ∨ (97 ≤ c ∧ c ≤ 122) ∨ 122 < c) with h | h | h | h | h | h | h | h | h | h
          · have a97 : ¬ ((97 : Int) ≤ (c : Int)) := by omega
            have a65 : ¬ ((65 : Int) ≤ (c : Int)) := by omega
            have a48 : ¬ ((48 : Int) ≤ (c : Int)) := by omega
            have b122 : ((c : Int) ≤ 122) := by omega
            have b90 : ((c : Int) ≤ 90) := by omega
            have b57 : ((c : Int) ≤ 57) := by omega
            have e95 : ((c : Int) == 95) = false := by simp; omega
            have hv : nmC k c = false := by unfold nmC letB; simp; omega
            have HV := Lib.hid (HN.out hv)
            have HCC := Lib.hid hcc
            clear h hv HY HN
            subst hcc
            go_wp2
            go_ret
            exact ⟨by rw [HV.out]; rfl, rfl⟩
          · have a97 : ¬ ((97 : Int) ≤ (c : Int)) := by omega
            have a65 : ¬ ((65 : Int) ≤ (c : Int)) := by omega
            have a48 : ((48 : Int) ≤ (c : Int)) := by omega
            have b122 : ((c : Int) ≤ 122) := by omega
            have b90 : ((c : Int) ≤ 90) := by omega
            have b57 : ((c : Int) ≤ 57) := by omega
            have e95 : ((c : Int) == 95) = false := by simp; omega
            have z0 : ¬ (0 : Int) < (k : Int) := by omega
            have hv : nmC k c = false := by unfold nmC letB; simp; omega
            have HV := Lib.hid (HN.out hv)
            have HCC := Lib.hid hcc
            clear h hv HY HN
            subst hcc
            go_wp2
            go_ret
            exact ⟨by rw [HV.out]; rfl, rfl⟩
          · have a97 : ¬ ((97 : Int) ≤ (c : Int)) := by omega
            have a65 : ¬ ((65 : Int) ≤ (c : Int)) := by omega
            have a48 : ((48 : Int) ≤ (c : Int)) := by omega
            have b122 : ((c : Int) ≤ 122) := by omega
            have b90 : ((c : Int) ≤ 90) := by omega
            have b57 : ((c : Int) ≤ 57) := by omega
            have e95 : ((c : Int) == 95) = false := by simp; omega
            have z0 : (0 : Int) < (k : Int) := by omega
            have hv : nmC k c = true := by unfold nmC letB; simp; omega
            have HV := Lib.hid (HY.out hv)
            have HCC := Lib.hid hcc
            clear h hv HY HN
            subst hcc
            go_wp2
            go_roundw
            case rel => exact ⟨k + 1, by omega, by go_num, trivial, HV⟩
            case measure => simp [intOf]; omega
          · have a97 : ¬ ((97 : Int) ≤ (c : Int)) := by omega
            have a65 : ¬ ((65 : Int) ≤ (c : Int)) := by omega
            have a48 : ((48 : Int) ≤ (c : Int)) := by omega
            have b122 : ((c : Int) ≤ 122) := by omega
            have b90 : ((c : Int) ≤ 90) := by omega
            have b57 : ¬ ((c : Int) ≤ 57) := by omega
            have e95 : ((c : Int) == 95) = false := by simp; omega
            have hv : nmC k c = false := by unfold nmC letB; simp; omega
            have HV := Lib.hid (HN.out hv)
            have HCC := Lib.hid hcc
            clear h hv HY HN
            subst hcc
            go_wp2
            go_ret
            exact ⟨by rw [HV.out]; rfl, rfl⟩
          · have a97 : ¬ ((97 : Int) ≤ (c : Int)) := by omega
            have a65 : ((65 : Int) ≤ (c : Int)) := by omega
            have a48 : ((48 : Int) ≤ (c : Int)) := by omega
            have b122 : ((c : Int) ≤ 122) := by omega
            have b90 : ((c : Int) ≤ 90) := by omega
            have b57 : ¬ ((c : Int) ≤ 57) := by omega
            have e95 : ((c : Int) == 95) = false := by simp; omega
            have hv : nmC k c = true := by unfold nmC letB; simp; omega
            have HV := Lib.hid (HY.out hv)
            have HCC := Lib.hid hcc
            clear h hv HY HN
            subst hcc
            go_wp2
            go_roundw
            case rel => exact ⟨k + 1, by omega, by go_num, trivial, HV⟩
            case measure => simp [intOf]; omega
          · have a97 : ¬ ((97 : Int) ≤ (c : Int)) := by omega
            have a65 : ((65 : Int) ≤ (c : Int)) := by omega
            have a48 : ((48 : Int) ≤ (c : Int)) := by omega
            have b122 : ((c : Int) ≤ 122) := by omega
            have b90 : ¬ ((c : Int) ≤ 90) := by omega
            have b57 : ¬ ((c : Int) ≤ 57) := by omega
            have e95 : ((c : Int) == 95) = false := by simp; omega
            have hv : nmC k c = false := by unfold nmC letB; simp; omega
            have HV := Lib.hid (HN.out hv)
            have HCC := Lib.hid hcc
            clear h hv HY HN
            subst hcc
            go_wp2
            go_ret
            exact ⟨by rw [HV.out]; rfl, rfl⟩
          · have a97 : ¬ ((97 : Int) ≤ (c : Int)) := by omega
            have a65 : ((65 : Int) ≤ (c : Int)) := by omega
            have a48 : ((48 : Int) ≤ (c : Int)) := by omega
            have b122 : ((c : Int) ≤ 122) := by omega
            have b90 : ¬ ((c : Int) ≤ 90) := by omega
            have b57 : ¬ ((c : Int) ≤ 57) := by omega
            have e95 : ((c : Int) == 95) = true := by simp; omega
            have hv : nmC k c = true := by unfold nmC letB; simp; omega
            have HV := Lib.hid (HY.out hv)
            have HCC := Lib.hid hcc
            clear h hv HY HN
            subst hcc
            go_wp2
            go_roundw
            case rel => exact ⟨k + 1, by omega, by go_num, trivial, HV⟩
            case measure => simp [intOf]; omega
          · have a97 : ¬ ((97 : Int) ≤ (c : Int)) := by omega
            have a65 : ((65 : Int) ≤ (c : Int)) := by omega
            have a48 : ((48 : Int) ≤ (c : Int)) := by omega
            have b122 : ((c : Int) ≤ 122) := by omega
            have b90 : ¬ ((c : Int) ≤ 90) := by omega
            have b57 : ¬ ((c : Int) ≤ 57) := by omega
            have e95 : ((c : Int) == 95) = false := by simp; omega
            have hv : nmC k c = false := by unfold nmC letB; simp; omega
            have HV := Lib.hid (HN.out hv)
            have HCC := Lib.hid hcc
            clear h hv HY HN
            subst hcc
            go_wp2
            go_ret
            exact ⟨by rw [HV.out]; rfl, rfl⟩
          · have a97 : ((97 : Int) ≤ (c : Int)) := by omega
            have a65 : ((65 : Int) ≤ (c : Int)) := by omega
            have a48 : ((48 : Int) ≤ (c : Int)) := by omega
            have b122 : ((c : Int) ≤ 122) := by omega
            have b90 : ¬ ((c : Int) ≤ 90) := by omega
            have b57 : ¬ ((c : Int) ≤ 57) := by omega
            have e95 : ((c : Int) == 95) = false := by simp; omega
            have hv : nmC k c = true := by unfold nmC letB; simp; omega
            have HV := Lib.hid (HY.out hv)
            have HCC := Lib.hid hcc
            clear h hv HY HN
            subst hcc
            go_wp2
            go_roundw
            case rel => exact ⟨k + 1, by omega, by go_num, trivial, HV⟩
            case measure => simp [intOf]; omega
          · have a97 : ((97 : Int) ≤ (c : Int)) := by omega
            have a65 : ((65 : Int) ≤ (c : Int)) := by omega
            have a48 : ((48 : Int) ≤ (c : Int)) := by omega
            have b122 : ¬ ((c : Int) ≤ 122) := by omega
            have b90 : ¬ ((c : Int) ≤ 90) := by omega
            have b57 : ¬ ((c : Int) ≤ 57) := by omega
            have e95 : ((c : Int) == 95) = false := by simp; omega
            have hv : nmC k c = false := by unfold nmC letB; simp; omega
            have HV := Lib.hid (HN.out hv)
            have HCC := Lib.hid hcc
            clear h hv HY HN
            subst hcc
            go_wp2
            go_ret
            exact ⟨by rw [HV.out]; rfl, rfl⟩
        · obtain rfl : k = s.size := by omega
          have HV : Hid (nameB s = true) := Lib.hid (by unfold nameB; rw [hA.out]; have := HL.out; simp; omega)
          go_wp2
          go_ret
          exact ⟨by rw [HV.out]; rfl, rfl⟩

set_option maxHeartbeats 1600000 in
theorem refName_any (s : ByteArray) (w : World) (hs : s.size ≤ 140737488355328) : Calls Tryz.prog 38 #[.string s] w fun e w' => e = .returned (.bool (nameB s)) ∧ w = w' := by
  go_enter Tryz.func38, Tryz.ntmps38
  go_wp2
  go_loopw [3] (fun i wr => ∃ k : Nat, k ≤ s.size ∧ i = .int .i64 k ∧ wr = w ∧ Hid (nmAll s k = true)) (fun i _ => s.size - (intOf i).toNat)
  case atStart => exact ⟨0, by omega, rfl, rfl, Lib.hid rfl⟩
  case round =>
    obtain ⟨k, hk, rfl, rfl, hA⟩ := hrel
    by_cases hT : k < s.size
    · have HY := Lib.hid (fun h => nmAll_next (k := k) hA.out h)
      have HN := Lib.hid (fun h => name_not (k := k) hT h)
      rw [byt_at hT] at HY HN
      generalize hcc : (s[k]'hT).toNat = c at HY HN
      have hlt : c < 256 := by rw [← hcc]; exact (s[k]'hT).toNat_lt
      have k0 : (0 : Int) ≤ (k : Int) := by omega
      have k1 : (k : Int) < (s.size : Int) := by omega
      rcases (by omega : c < 48 ∨ (48 ≤ c ∧ c ≤ 57 ∧ k = 0) ∨ (48 ≤ c ∧ c ≤ 57 ∧ 0 < k) ∨ (58 ≤ c ∧ c ≤ 64) ∨ (65 ≤ c ∧ c ≤ 90) ∨ (91 ≤ c ∧ c ≤ 94) ∨ c = 95 ∨ c = 96 ∨ (97 ≤ c ∧ c ≤ 122) ∨ 122 < c) with h | h | h | h | h | h | h | h | h | h
      · have a97 : ¬ ((97 : Int) ≤ (c : Int)) := by omega
        have a65 : ¬ ((65 : Int) ≤ (c : Int)) := by omega
        have a48 : ((c : Int) < 48) := by omega
        have b122 : ((c : Int) ≤ 122) := by omega
        have b90 : ((c : Int) ≤ 90) := by omega
        have b57 : ¬ ((57 : Int) < (c : Int)) := by omega
        have e95 : ((c : Int) == 95) = false := by simp; omega
        have hv : nmC k c = false := by unfold nmC letB; simp; omega
        have HV := Lib.hid (HN.out hv)
        clear h hv HY HN
        subst hcc
        by_cases hk0 : k = 0
        · have z0 : ((k : Int) == 0) = true := by simp; omega
          clear hk0
          go_wp2
          go_ret
          exact ⟨by rw [HV.out]; rfl, rfl⟩
        · have z0 : ((k : Int) == 0) = false := by simp; omega
          clear hk0
          go_wp2
          go_ret
          exact ⟨by rw [HV.out]; rfl, rfl⟩
      · have a97 : ¬ ((97 : Int) ≤ (c : Int)) := by omega
        have a65 : ¬ ((65 : Int) ≤ (c : Int)) := by omega
        have a48 : ¬ ((c : Int) < 48) := by omega
        have b122 : ((c : Int) ≤ 122) := by omega
        have b90 : ((c : Int) ≤ 90) := by omega
        have b57 : ¬ ((57 : Int) < (c : Int)) := by omega
        have e95 : ((c : Int) == 95) = false := by simp; omega
        have z0 : ((k : Int) == 0) = true := by simp; omega
        have hv : nmC k c = false := by unfold nmC letB; simp; omega
        have HV := Lib.hid (HN.out hv)
        clear h hv HY HN
        subst hcc
        go_wp2
        go_ret
        exact ⟨by rw [HV.out]; rfl, rfl⟩
      · have a97 : ¬ ((97 : Int) ≤ (c : Int)) := by omega
        have a65 : ¬ ((65 : Int) ≤ (c : Int)) := by omega
        have a48 : ¬ ((c : Int) < 48) := by omega
        have b122 : ((c : Int) ≤ 122) := by omega
        have b90 : ((c : Int) ≤ 90) := by omega
        have b57 : ¬ ((57 : Int) < (c : Int)) := by omega
        have e95 : ((c : Int) == 95) = false := by simp; omega
        have z0 : ((k : Int) == 0) = false := by simp; omega
        have hv : nmC k c = true := by unfold nmC letB; simp; omega
        have HV := Lib.hid (HY.out hv)
        clear h hv HY HN
        subst hcc
        go_wp2
        go_roundw
        case rel => exact ⟨k + 1, by omega, by go_num, trivial, HV⟩
        case measure => simp [intOf]; omega
      · have a97 : ¬ ((97 : Int) ≤ (c : Int)) := by omega
        have a65 : ¬ ((65 : Int) ≤ (c : Int)) := by omega
        have a48 : ¬ ((c : Int) < 48) := by omega
        have b122 : ((c : Int) ≤ 122) := by omega
        have b90 : ((c : Int) ≤ 90) := by omega
        have b57 : ((57 : Int) < (c : Int)) := by omega
        have e95 : ((c : Int) == 95) = false := by simp; omega
        have hv : nmC k c = false := by unfold nmC letB; simp; omega
        have HV := Lib.hid (HN.out hv)
        clear h hv HY HN
        subst hcc
        by_cases hk0 : k = 0
        · have z0 : ((k : Int) == 0) = true := by simp; omega
          clear hk0
          go_wp2
          go_ret
          exact ⟨by rw [HV.out]; rfl, rfl⟩
        · have z0 : ((k : Int) == 0) = false := by simp; omega
          clear hk0
          go_wp2
          go_ret
          exact ⟨by rw [HV.out]; rfl, rfl⟩
      · have a97 : ¬ ((97 : Int) ≤ (c : Int)) := by omega
        have a65 : ((65 : Int) ≤ (c : Int)) := by omega
        have a48 : ¬ ((c : Int) < 48) := by omega
        have b122 : ((c : Int) ≤ 122) := by omega
        have b90 : ((c : Int) ≤ 90) := by omega
        have b57 : ((57 : Int) < (c : Int)) := by omega
        have e95 : ((c : Int) == 95) = false := by simp; omega
        have hv : nmC k c = true := by unfold nmC letB; simp; omega
        have HV := Lib.hid (HY.out hv)
        clear h hv HY HN
        subst hcc
        go_wp2
        go_roundw
        case rel => exact ⟨k + 1, by omega, by go_num, trivial, HV⟩
        case measure => simp [intOf]; omega
      · have a97 : ¬ ((97 : Int) ≤ (c : Int)) := by omega
        have a65 : ((65 : Int) ≤ (c : Int)) := by omega
        have a48 : ¬ ((c : Int) < 48) := by omega
        have b122 : ((c : Int) ≤ 122) := by omega
        have b90 : ¬ ((c : Int) ≤ 90) := by omega
        have b57 : ((57 : Int) < (c : Int)) := by omega
        have e95 : ((c : Int) == 95) = false := by simp; omega
        have hv : nmC k c = false := by unfold nmC letB; simp; omega
        have HV := Lib.hid (HN.out hv)
        clear h hv HY HN
        subst hcc
        by_cases hk0 : k = 0
        · have z0 : ((k : Int) == 0) = true := by simp; omega
          clear hk0
          go_wp2
          go_ret
          exact ⟨by rw [HV.out]; rfl, rfl⟩
        · have z0 : ((k : Int) == 0) = false := by simp; omega
          clear hk0
          go_wp2
          go_ret
          exact ⟨by rw [HV.out]; rfl, rfl⟩
      · have a97 : ¬ ((97 : Int) ≤ (c : Int)) := by omega
        have a65 : ((65 : Int) ≤ (c : Int)) := by omega
        have a48 : ¬ ((c : Int) < 48) := by omega
        have b122 : ((c : Int) ≤ 122) := by omega
        have b90 : ¬ ((c : Int) ≤ 90) := by omega
        have b57 : ((57 : Int) < (c : Int)) := by omega
        have e95 : ((c : Int) == 95) = true := by simp; omega
        have hv : nmC k c = true := by unfold nmC letB; simp; omega
        have HV := Lib.hid (HY.out hv)
        clear h hv HY HN
        subst hcc
        go_wp2
        go_roundw
        case rel => exact ⟨k + 1, by omega, by go_num, trivial, HV⟩
        case measure => simp [intOf]; omega
      · have a97 : ¬ ((97 : Int) ≤ (c : Int)) := by omega
        have a65 : ((65 : Int) ≤ (c : Int)) := by omega
        have a48 : ¬ ((c : Int) < 48) := by omega
        have b122 : ((c : Int) ≤ 122) := by omega
        have b90 : ¬ ((c : Int) ≤ 90) := by omega
        have b57 : ((57 : Int) < (c : Int)) := by omega
        have e95 : ((c : Int) == 95) = false := by simp; omega
        have hv : nmC k c = false := by unfold nmC letB; simp; omega
        have HV := Lib.hid (HN.out hv)
        clear h hv HY HN
        subst hcc
        by_cases hk0 : k = 0
        · have z0 : ((k : Int) == 0) = true := by simp; omega
          clear hk0
          go_wp2
          go_ret
          exact ⟨by rw [HV.out]; rfl, rfl⟩
        · have z0 : ((k : Int) == 0) = false := by simp; omega
          clear hk0
          go_wp2
          go_ret
          exact ⟨by rw [HV.out]; rfl, rfl⟩
      · have a97 : ((97 : Int) ≤ (c : Int)) := by omega
        have a65 : ((65 : Int) ≤ (c : Int)) := by omega
        have a48 : ¬ ((c : Int) < 48) := by omega
        have b122 : ((c : Int) ≤ 122) := by omega
        have b90 : ¬ ((c : Int) ≤ 90) := by omega
        have b57 : ((57 : Int) < (c : Int)) := by omega
        have e95 : ((c : Int) == 95) = false := by simp; omega
        have hv : nmC k c = true := by unfold nmC letB; simp; omega
        have HV := Lib.hid (HY.out hv)
        clear h hv HY HN
        subst hcc
        go_wp2
        go_roundw
        case rel => exact ⟨k + 1, by omega, by go_num, trivial, HV⟩
        case measure => simp [intOf]; omega
      · have a97 : ((97 : Int) ≤ (c : Int)) := by omega
        have a65 : ((65 : Int) ≤ (c : Int)) := by omega
        have a48 : ¬ ((c : Int) < 48) := by omega
        have b122 : ¬ ((c : Int) ≤ 122) := by omega
        have b90 : ¬ ((c : Int) ≤ 90) := by omega
        have b57 : ((57 : Int) < (c : Int)) := by omega
        have e95 : ((c : Int) == 95) = false := by simp; omega
        have hv : nmC k c = false := by unfold nmC letB; simp; omega
        have HV := Lib.hid (HN.out hv)
        clear h hv HY HN
        subst hcc
        by_cases hk0 : k = 0
        · have z0 : ((k : Int) == 0) = true := by simp; omega
          clear hk0
          go_wp2
          go_ret
          exact ⟨by rw [HV.out]; rfl, rfl⟩
        · have z0 : ((k : Int) == 0) = false := by simp; omega
          clear hk0
          go_wp2
          go_ret
          exact ⟨by rw [HV.out]; rfl, rfl⟩
    · obtain rfl : k = s.size := by omega
      by_cases h1 : 1 ≤ s.size
      · by_cases h2 : s.size ≤ 40
        · have HV : Hid (nameB s = true) := Lib.hid (by unfold nameB; rw [hA.out]; simp; omega)
          have g1 : (1 : Int) ≤ (s.size : Int) := by omega
          have g2 : (s.size : Int) ≤ 40 := by omega
          clear h1 h2
          go_wp2
          go_ret
          exact ⟨by rw [HV.out]; rfl, rfl⟩
        · have HV : Hid (nameB s = false) := Lib.hid (by unfold nameB; simp; omega)
          have g1 : (1 : Int) ≤ (s.size : Int) := by omega
          have g2 : ¬ (s.size : Int) ≤ 40 := by omega
          clear h1 h2
          go_wp2
          go_ret
          exact ⟨by rw [HV.out]; rfl, rfl⟩
      · have HV : Hid (nameB s = false) := Lib.hid (by unfold nameB; simp; omega)
        have g1 : ¬ (1 : Int) ≤ (s.size : Int) := by omega
        clear h1
        go_wp2
        go_ret
        exact ⟨by rw [HV.out]; rfl, rfl⟩
end Go.Proofs.YtllkimdlmnjoiaaGreatDoor
namespace Go.Proofs.YtllkimdlmnjoiaaGreatDoor
set_option maxRecDepth 100000
set_option maxRecDepth 100000
set_option maxRecDepth 100000
open Go.RowKit Go.Sort
set_option maxRecDepth 100000

end Go.Proofs.YtllkimdlmnjoiaaGreatDoor




