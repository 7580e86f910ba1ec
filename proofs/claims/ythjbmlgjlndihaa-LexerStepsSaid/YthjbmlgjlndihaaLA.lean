/- Bytes of a query: blanks, letters, digits, signs; where blanks end, where a word ends. -/
import Derived.Test.YthjbmlgjlndihaaZIA
namespace Go.Proofs.Ythjbmlgjlndihaa
set_option maxRecDepth 100000
open Go.RowKit

abbrev Bs := List UInt8
def blankB (c : UInt8) : Bool := c == 32 || c == 9 || c == 10 || c == 13
def letB (c : UInt8) : Bool := decide (97 ≤ c.toNat ∧ c.toNat ≤ 122) || decide (65 ≤ c.toNat ∧ c.toNat ≤ 90) || decide (c.toNat = 95)
def signB (c : UInt8) : Bool := c == 46 || c == 40 || c == 41 || c == 44 || c == 91 || c == 93
def wordB (c : UInt8) : Bool := letB c || digB c

theorem byte_eq (c d : UInt8) : (c == d) = decide (c.toNat = d.toNat) := by
  rw [Bool.eq_iff_iff, beq_iff_eq, decide_eq_true_iff, ← UInt8.toNat_inj]
theorem blank_eq (c : UInt8) : blankB c = (decide (c.toNat = 32) || decide (c.toNat = 9) || decide (c.toNat = 10) || decide (c.toNat = 13)) := by
  unfold blankB
  simp only [byte_eq]
  rfl
set_option maxHeartbeats 800000 in
theorem blank_any (c : UInt8) (w : World) : Calls Try.prog 28 #[.int .u8 (c.toNat : Int)] w fun e w' => e = .returned (.bool (blankB c)) ∧ w = w' := by
  have hc := c.toNat_lt
  have H1 := Lib.hid (blank_eq c)
  generalize blankB c = b at H1
  generalize hn : c.toNat = n at hc H1
  clear hn
  go_enter Try.func28, Try.ntmps28
  by_cases h32 : n = 32
  · subst h32
    go_wp2
    go_ret
    exact ⟨by rw [H1.out]; rfl, rfl⟩
  · have e32 : ((n : Int) == 32) = false := by simp; omega
    by_cases h9 : n = 9
    · subst h9
      go_wp2
      go_ret
      exact ⟨by rw [H1.out]; rfl, rfl⟩
    · have e9 : ((n : Int) == 9) = false := by simp; omega
      by_cases h10 : n = 10
      · subst h10
        go_wp2
        go_ret
        exact ⟨by rw [H1.out]; rfl, rfl⟩
      · have e10 : ((n : Int) == 10) = false := by simp; omega
        by_cases h13 : n = 13
        · subst h13
          go_wp2
          go_ret
          exact ⟨by rw [H1.out]; rfl, rfl⟩
        · have e13 : ((n : Int) == 13) = false := by simp; omega
          have R : Hid ((decide (n = 32) || decide (n = 9) || decide (n = 10) || decide (n = 13)) = false) := Lib.hid (by simp; omega)
          clear h32 h9 h10 h13
          go_wp2
          go_ret
          exact ⟨by rw [H1.out, R.out]; rfl, rfl⟩
theorem sign_eq (c : UInt8) : signB c = (decide (c.toNat = 46) || decide (c.toNat = 40) || decide (c.toNat = 41) || decide (c.toNat = 44) || decide (c.toNat = 91) || decide (c.toNat = 93)) := by
  unfold signB
  simp only [byte_eq]
  rfl
set_option maxHeartbeats 800000 in
theorem sign_any (c : UInt8) (w : World) : Calls Try.prog 16 #[.int .u8 (c.toNat : Int)] w fun e w' => e = .returned (.bool (signB c)) ∧ w = w' := by
  have hc := c.toNat_lt
  have H1 := Lib.hid (sign_eq c)
  generalize signB c = b at H1
  generalize hn : c.toNat = n at hc H1
  clear hn
  go_enter Try.func16, Try.ntmps16
  by_cases h46 : n = 46
  · subst h46
    go_wp2
    go_ret
    exact ⟨by rw [H1.out]; rfl, rfl⟩
  · have e46 : ((n : Int) == 46) = false := by simp; omega
    by_cases h40 : n = 40
    · subst h40
      go_wp2
      go_ret
      exact ⟨by rw [H1.out]; rfl, rfl⟩
    · have e40 : ((n : Int) == 40) = false := by simp; omega
      by_cases h41 : n = 41
      · subst h41
        go_wp2
        go_ret
        exact ⟨by rw [H1.out]; rfl, rfl⟩
      · have e41 : ((n : Int) == 41) = false := by simp; omega
        by_cases h44 : n = 44
        · subst h44
          go_wp2
          go_ret
          exact ⟨by rw [H1.out]; rfl, rfl⟩
        · have e44 : ((n : Int) == 44) = false := by simp; omega
          by_cases h91 : n = 91
          · subst h91
            go_wp2
            go_ret
            exact ⟨by rw [H1.out]; rfl, rfl⟩
          · have e91 : ((n : Int) == 91) = false := by simp; omega
            by_cases h93 : n = 93
            · subst h93
              go_wp2
              go_ret
              exact ⟨by rw [H1.out]; rfl, rfl⟩
            · have e93 : ((n : Int) == 93) = false := by simp; omega
              have R : Hid ((decide (n = 46) || decide (n = 40) || decide (n = 41) || decide (n = 44) || decide (n = 91) || decide (n = 93)) = false) := Lib.hid (by simp; omega)
              clear h46 h40 h41 h44 h91 h93
              go_wp2
              go_ret
              exact ⟨by rw [H1.out, R.out]; rfl, rfl⟩

set_option maxHeartbeats 800000 in
theorem digit_any (c : UInt8) (w : World) : Calls Try.prog 31 #[.int .u8 (c.toNat : Int)] w fun e w' => e = .returned (.bool (digB c)) ∧ w = w' := by
  have hc := c.toNat_lt
  have H1 : Hid (digB c = decide (48 ≤ c.toNat ∧ c.toNat ≤ 57)) := Lib.hid rfl
  generalize digB c = b at H1
  generalize hn : c.toNat = n at hc H1
  clear hn
  go_enter Try.func31, Try.ntmps31
  by_cases h1 : 48 ≤ n
  · by_cases h2 : n ≤ 57
    · have R : Hid (decide (48 ≤ n ∧ n ≤ 57) = true) := Lib.hid (by simp; omega)
      go_wp2
      go_ret
      exact ⟨by rw [H1.out, R.out]; try (simp; try omega), rfl⟩
    · have R : Hid (decide (48 ≤ n ∧ n ≤ 57) = false) := Lib.hid (by simp; omega)
      go_wp2
      go_ret
      exact ⟨by rw [H1.out, R.out]; try (simp; try omega), rfl⟩
  · have R : Hid (decide (48 ≤ n ∧ n ≤ 57) = false) := Lib.hid (by simp; omega)
    go_wp2
    go_ret
    exact ⟨by rw [H1.out, R.out]; try (simp; try omega), rfl⟩

set_option maxHeartbeats 1600000 in
theorem letter_any (c : UInt8) (w : World) : Calls Try.prog 29 #[.int .u8 (c.toNat : Int)] w fun e w' => e = .returned (.bool (letB c)) ∧ w = w' := by
  have hc := c.toNat_lt
  have H1 : Hid (letB c = (decide (97 ≤ c.toNat ∧ c.toNat ≤ 122) || decide (65 ≤ c.toNat ∧ c.toNat ≤ 90) || decide (c.toNat = 95))) := Lib.hid rfl
  generalize letB c = b at H1
  generalize hn : c.toNat = n at hc H1
  clear hn
  go_enter Try.func29, Try.ntmps29
  by_cases h1 : 97 ≤ n
  · by_cases h2 : n ≤ 122
    · have R : Hid ((decide (97 ≤ n ∧ n ≤ 122) || decide (65 ≤ n ∧ n ≤ 90) || decide (n = 95)) = true) := Lib.hid (by simp; omega)
      go_wp2
      go_ret
      exact ⟨by rw [H1.out, R.out]; rfl, rfl⟩
    · have h3 : 65 ≤ n := by omega
      have h4 : ¬ n ≤ 90 := by omega
      have h5 : ((n : Int) == 95) = false := by simp; omega
      have R : Hid ((decide (97 ≤ n ∧ n ≤ 122) || decide (65 ≤ n ∧ n ≤ 90) || decide (n = 95)) = false) := Lib.hid (by simp; omega)
      go_wp2
      go_ret
      exact ⟨by rw [H1.out, R.out]; rfl, rfl⟩
  · by_cases h3 : 65 ≤ n
    · by_cases h4 : n ≤ 90
      · have R : Hid ((decide (97 ≤ n ∧ n ≤ 122) || decide (65 ≤ n ∧ n ≤ 90) || decide (n = 95)) = true) := Lib.hid (by simp; omega)
        go_wp2
        go_ret
        exact ⟨by rw [H1.out, R.out]; rfl, rfl⟩
      · by_cases h5 : n = 95
        · subst h5
          have R : Hid ((decide (97 ≤ 95 ∧ 95 ≤ 122) || decide (65 ≤ 95 ∧ 95 ≤ 90) || decide (95 = 95)) = true) := Lib.hid (by decide)
          go_wp2
          go_ret
          exact ⟨by rw [H1.out, R.out]; rfl, rfl⟩
        · have h6 : ((n : Int) == 95) = false := by simp; omega
          have R : Hid ((decide (97 ≤ n ∧ n ≤ 122) || decide (65 ≤ n ∧ n ≤ 90) || decide (n = 95)) = false) := Lib.hid (by simp; omega)
          go_wp2
          go_ret
          exact ⟨by rw [H1.out, R.out]; rfl, rfl⟩
    · have h6 : ((n : Int) == 95) = false := by simp; omega
      have R : Hid ((decide (97 ≤ n ∧ n ≤ 122) || decide (65 ≤ n ∧ n ≤ 90) || decide (n = 95)) = false) := Lib.hid (by simp; omega)
      go_wp2
      go_ret
      exact ⟨by rw [H1.out, R.out]; rfl, rfl⟩
end Go.Proofs.Ythjbmlgjlndihaa
