/- Contracts of ints.Least and ints.Greatest (by slices.Min and slices.Max) over a slice of numbers of 64 bits. -/
import Derived.Test.YtgjimgopfpaimaaC
import Derived.Lib.MinMax
namespace Go.Proofs.Ytgjimgopfpaimaa
open Go.RowKit

/-- m is one of the first k of l, and none of them is less. -/
def IsMin (l : List Int) (k : Nat) (m : Int) : Prop := (∃ i, i < k ∧ l.getD i 0 = m) ∧ ∀ i, i < k → m ≤ l.getD i 0
/-- m is one of the first k of l, and none of them is greater. -/
def IsMax (l : List Int) (k : Nat) (m : Int) : Prop := (∃ i, i < k ∧ l.getD i 0 = m) ∧ ∀ i, i < k → l.getD i 0 ≤ m
def SomeMin (l : List Int) (k : Nat) (e : Ending) : Prop := ∃ m, e = .returned (.int .i64 m) ∧ IsMin l k m
def SomeMax (l : List Int) (k : Nat) (e : Ending) : Prop := ∃ m, e = .returned (.int .i64 m) ∧ IsMax l k m
def SomeMinB (l : List Int) (k : Nat) (e : Ending) : Prop := ∃ m, e = .returned (.tuple #[.int .i64 m, .bool true]) ∧ IsMin l k m
def SomeMaxB (l : List Int) (k : Nat) (e : Ending) : Prop := ∃ m, e = .returned (.tuple #[.int .i64 m, .bool true]) ∧ IsMax l k m

theorem min_one (l : List Int) : IsMin l 1 (l.getD 0 0) := by
  refine ⟨⟨0, by omega, rfl⟩, fun i hi => ?_⟩
  obtain rfl : i = 0 := by omega
  exact Int.le_refl _
theorem min_next (l : List Int) (k : Nat) (m : Int) (h : IsMin l k m) : IsMin l (k + 1) (min m (l.getD k 0)) := by
  obtain ⟨⟨i, hi, he⟩, ha⟩ := h
  constructor
  · by_cases hm : min m (l.getD k 0) = m
    · exact ⟨i, by omega, by rw [hm]; exact he⟩
    · exact ⟨k, by omega, by omega⟩
  · intro j hj
    by_cases hjk : j = k
    · subst hjk; omega
    · have := ha j (by omega); omega

set_option maxHeartbeats 400000 in
theorem min_any (A : Option Addr) (B n c : Nat) (l : List Int) (w : World) (h : Ints w B A n l) (h0 : 0 < n) :
    Calls Try.prog 40 #[.slice A n c] w fun e w' => SomeMin l n e ∧ w = w' := by
  obtain ⟨hl, hn, hfit, hcell⟩ := h
  have HL := Lib.hid hl
  have HC := Lib.hid hcell
  clear hl hcell hfit
  obtain ⟨b, off, rfl, hb, hc⟩ := HC.out (by omega)
  have hc0 := hc 0 h0
  rw [Nat.add_zero] at hc0
  have HS := Lib.hid (min_one l)
  generalize l.getD 0 0 = x0 at hc0 HS
  have HC2 := Lib.hid hc
  clear hc HC
  go_enter Try.func40, Try.ntmps40
  go_wp2
  go_loop [3, 4] (fun m i => ∃ (k : Nat) (z : Int), k ≤ n ∧ 1 ≤ k ∧ i = .int .i64 k ∧ m = .int .i64 z ∧ Hid (IsMin l k z)) (fun _ i => n - (intOf i).toNat)
  case atStart => exact ⟨1, _, by omega, by omega, rfl, rfl, HS⟩
  case round =>
    obtain ⟨k, z, hk, hk1, rfl, rfl, hr⟩ := hrel
    clear hc0
    by_cases hlt : k < n
    · have hck := HC2.out k hlt
      have hnx := Lib.hid (min_next l k z hr.out)
      generalize l.getD k 0 = x at hck hnx
      go_wp2
      go_round
      case rel => exact ⟨k + 1, min z x, by omega, by omega, by go_num, rfl, hnx⟩
      case measure => simp [intOf]; omega
    · go_wp2
      go_ret
      obtain rfl : k = n := by omega
      exact ⟨⟨z, rfl, hr.out⟩, rfl⟩

theorem max_one (l : List Int) : IsMax l 1 (l.getD 0 0) := by
  refine ⟨⟨0, by omega, rfl⟩, fun i hi => ?_⟩
  obtain rfl : i = 0 := by omega
  exact Int.le_refl _
theorem max_next (l : List Int) (k : Nat) (m : Int) (h : IsMax l k m) : IsMax l (k + 1) (max m (l.getD k 0)) := by
  obtain ⟨⟨i, hi, he⟩, ha⟩ := h
  constructor
  · by_cases hm : max m (l.getD k 0) = m
    · exact ⟨i, by omega, by rw [hm]; exact he⟩
    · exact ⟨k, by omega, by omega⟩
  · intro j hj
    by_cases hjk : j = k
    · subst hjk; omega
    · have := ha j (by omega); omega

set_option maxHeartbeats 400000 in
theorem max_any (A : Option Addr) (B n c : Nat) (l : List Int) (w : World) (h : Ints w B A n l) (h0 : 0 < n) :
    Calls Try.prog 41 #[.slice A n c] w fun e w' => SomeMax l n e ∧ w = w' := by
  obtain ⟨hl, hn, hfit, hcell⟩ := h
  have HL := Lib.hid hl
  have HC := Lib.hid hcell
  clear hl hcell hfit
  obtain ⟨b, off, rfl, hb, hc⟩ := HC.out (by omega)
  have hc0 := hc 0 h0
  rw [Nat.add_zero] at hc0
  have HS := Lib.hid (max_one l)
  generalize l.getD 0 0 = x0 at hc0 HS
  have HC2 := Lib.hid hc
  clear hc HC
  go_enter Try.func41, Try.ntmps41
  go_wp2
  go_loop [3, 4] (fun m i => ∃ (k : Nat) (z : Int), k ≤ n ∧ 1 ≤ k ∧ i = .int .i64 k ∧ m = .int .i64 z ∧ Hid (IsMax l k z)) (fun _ i => n - (intOf i).toNat)
  case atStart => exact ⟨1, _, by omega, by omega, rfl, rfl, HS⟩
  case round =>
    obtain ⟨k, z, hk, hk1, rfl, rfl, hr⟩ := hrel
    clear hc0
    by_cases hlt : k < n
    · have hck := HC2.out k hlt
      have hnx := Lib.hid (max_next l k z hr.out)
      generalize l.getD k 0 = x at hck hnx
      go_wp2
      go_round
      case rel => exact ⟨k + 1, max z x, by omega, by omega, by go_num, rfl, hnx⟩
      case measure => simp [intOf]; omega
    · go_wp2
      go_ret
      obtain rfl : k = n := by omega
      exact ⟨⟨z, rfl, hr.out⟩, rfl⟩

set_option maxHeartbeats 400000 in
theorem least_none (A : Option Addr) (c : Nat) (w : World) :
    Calls Try.prog 21 #[.slice A 0 c] w fun e w' => e = .returned (.tuple #[.int .i64 0, .bool false]) ∧ w = w' := by
  go_enter Try.func21, Try.ntmps21
  go_wp2
  go_ret2
  exact ⟨rfl, rfl⟩

set_option maxHeartbeats 400000 in
theorem least_some (A : Option Addr) (B n c : Nat) (l : List Int) (w : World) (h : Ints w B A n l) (h0 : 0 < n) :
    Calls Try.prog 21 #[.slice A n c] w fun e w' => SomeMinB l n e ∧ w = w' := by
  have H := Lib.hid h
  have hne : ((n : Int) == 0) = false := by simp; omega
  clear h
  go_enter Try.func21, Try.ntmps21
  go_wp2_with fail
  refine (min_any _ _ _ _ _ _ H.out h0).mono ?_
  rintro e w' ⟨⟨m, rfl, hm⟩, rfl⟩
  have HM := Lib.hid hm
  clear hm
  go_wp2
  go_ret2
  exact ⟨⟨m, rfl, HM.out⟩, rfl⟩

set_option maxHeartbeats 400000 in
theorem greatest_none (A : Option Addr) (c : Nat) (w : World) :
    Calls Try.prog 22 #[.slice A 0 c] w fun e w' => e = .returned (.tuple #[.int .i64 0, .bool false]) ∧ w = w' := by
  go_enter Try.func22, Try.ntmps22
  go_wp2
  go_ret2
  exact ⟨rfl, rfl⟩

set_option maxHeartbeats 400000 in
theorem greatest_some (A : Option Addr) (B n c : Nat) (l : List Int) (w : World) (h : Ints w B A n l) (h0 : 0 < n) :
    Calls Try.prog 22 #[.slice A n c] w fun e w' => SomeMaxB l n e ∧ w = w' := by
  have H := Lib.hid h
  have hne : ((n : Int) == 0) = false := by simp; omega
  clear h
  go_enter Try.func22, Try.ntmps22
  go_wp2_with fail
  refine (max_any _ _ _ _ _ _ H.out h0).mono ?_
  rintro e w' ⟨⟨m, rfl, hm⟩, rfl⟩
  have HM := Lib.hid hm
  clear hm
  go_wp2
  go_ret2
  exact ⟨⟨m, rfl, HM.out⟩, rfl⟩
end Go.Proofs.Ytgjimgopfpaimaa
