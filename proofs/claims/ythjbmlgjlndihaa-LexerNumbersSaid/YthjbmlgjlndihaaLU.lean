/- A number's digits. -/
import Derived.Test.YthjbmlgjlndihaaLN
import Derived.Laws.IdiomStrings
namespace Go.Proofs.Ythjbmlgjlndihaa
set_option maxRecDepth 100000
open Go.RowKit Go.Sort

def dB (d : Nat) : UInt8 := UInt8.ofNat (48 + d)
theorem dB_nat (d : Nat) (h : d < 10) : (dB d).toNat = 48 + d := by unfold dB; simp; omega
def decN (n : Nat) : Bs := if _h : n = 0 then [] else decN (n / 10) ++ [dB (n % 10)]
decreasing_by omega
theorem decN_zero : decN 0 = [] := by rw [decN]; simp
theorem decN_pos (n : Nat) (h : 0 < n) : decN n = decN (n / 10) ++ [dB (n % 10)] := by rw [decN, dif_neg (by omega)]
theorem decN_len : ∀ (k n : Nat), n < 10 ^ k → (decN n).length ≤ k
  | 0, n, h => by obtain rfl : n = 0 := by simpa using h
                  rw [decN_zero]; simp
  | k + 1, n, h => by
    by_cases h0 : n = 0
    · subst h0; rw [decN_zero]; simp
    · rw [decN_pos n (by omega), List.length_append]
      have := decN_len k (n / 10) (by rw [Nat.pow_succ] at h; omega)
      simp; omega
def decI (n : Int) : Bs := if n = 0 then [48] else if n < 0 then 45 :: decN n.natAbs else decN n.natAbs
theorem bs_app (a b : Bs) : bs a ++ bs b = bs (a ++ b) := by
  apply ByteArray.ext
  simp [bs]
theorem conv_one (W : World) (d : Nat) (z : Int) (hd : d < 10) (hz : z = 48 + (d : Int)) : (convert 22 9 (.slice (some ⟨W.heap.size, 0, none⟩) 1 1)).run Try.prog (W.alloc (.cells #[.int .u8 z] 5)) = .ok (.string (bs [dB d])) (W.alloc (.cells #[.int .u8 z] 5)) := by
  have h1 := (brow_one W (dB d)).conv 9 Try.underlying9
  have h2 : ((dB d).toNat : Int) = z := by rw [dB_nat d hd, hz]; omega
  unfold u8v at h1
  rw [h2] at h1
  exact h1
theorem decN_len19 (n : Nat) (h : n ≤ 9223372036854775808) : (decN n).length ≤ 19 := decN_len 19 n (by omega)
theorem decN_ne (n : Nat) (h : 0 < n) : decN n ≠ [] := by rw [decN_pos n h]; simp

set_option maxHeartbeats 1600000 in
theorem digits_pos (n : Nat) (h0 : 0 < n) (h : n ≤ 9223372036854775807) (w : World) :
    Calls Try.prog 15 #[.int .i64 ((n : Int))] w fun e w' => e = .returned (.string (bs (decN n))) ∧ Below w.heap.size w w' := by
  have hL := decN_len19 n (by omega)
  have hne : (((n : Int)) == 0) = false := by simp; omega
  generalize hG : decN n = G at hL
  have HG := Lib.hid hG
  clear hG
  go_enter Try.func15, Try.ntmps15
  go_wp2
  go_loopw [3, 4] (fun v i wr => ∃ (acc : Bs) (m : Nat), v = .string (bs acc) ∧ i = .int .i64 ((m : Int)) ∧ m ≤ 9223372036854775807 ∧ acc.length ≤ 19 ∧ Hid (decN m ++ acc = G) ∧ Hid (Below w.heap.size w wr)) (fun _ i _ => (RowKit.intOf i).natAbs)
  case atStart => exact ⟨[], n, rfl, rfl, h, by simp, Lib.hid (by rw [List.append_nil]; exact HG.out), Lib.hid (Below.refl _ _)⟩
  case round =>
    obtain ⟨acc, m, rfl, rfl, hm, hac, hv, hbel⟩ := hrel
    have HZ := Lib.hid (bs_size acc)
    by_cases hT : m = 0
    · have HE : Hid (acc = G) := Lib.hid (by have := hv.out; rw [hT, decN_zero, List.nil_append] at this; exact this)
      have hneq : (((m : Int)) != 0) = false := by simp; omega
      clear hT
      have hz2 : (bs acc).size ≤ 19 := by rw [bs_size]; exact hac
      clear hv
      skip
      go_wp2
      go_ret
      exact ⟨by rw [HE.out]; rfl, hbel.out⟩
    · have HS : Hid (decN (m / 10) ++ (dB (m % 10) :: acc) = G) := Lib.hid (by rw [← hv.out, decN_pos m (by omega), List.append_assoc]; rfl)
      have HA : Hid ((dB (m % 10) :: acc).length ≤ 19) := Lib.hid (by
        have h1 := congrArg List.length HS.out
        rw [List.length_append] at h1
        omega)
      have e1 : ((m : Int)).tmod 10 = ((m % 10 : Nat) : Int) := by rfl
      have e2 : ((m : Int)).tdiv 10 = ((m / 10 : Nat) : Int) := by rfl
      have hq : m / 10 < m := by omega
      have hd10 : m % 10 < 10 := by omega
      have hneq : (((m : Int)) != 0) = true := by simp; omega
      have HC := Lib.hid (fun W z => conv_one W (m % 10) z hd10)
      have HAP := Lib.hid (bs_app [dB (m % 10)] acc)
      have hz2 : (bs acc).size ≤ 19 := by rw [bs_size]; exact hac
      have hz1 : (bs [dB (m % 10)]).size = 1 := by rw [bs_size]; rfl
      generalize bs [dB (m % 10)] = S1 at HC HAP hz1
      generalize bs acc = S0 at HAP hz2 HZ ⊢
      have hsz : S1.size + S0.size ≤ 9223372036854775807 := by omega
      have HRX : Hid (∃ (acc' : Bs), S1 ++ S0 = bs acc' ∧ acc'.length ≤ 19 ∧ decN (m / 10) ++ acc' = G) := Lib.hid ⟨_, HAP.out, HA.out, HS.out⟩
      clear HS HA HAP hv HZ hz1
      generalize m % 10 = D at e1 hd10 HC
      generalize m / 10 = M at e2 hq HRX
      have HM : Hid (M < m) := Lib.hid hq
      have HM2 : Hid (m ≤ 9223372036854775807) := Lib.hid hm
      have HX : Hid (((m : Int) : Int).natAbs = m) := Lib.hid (by omega)
      generalize ((m : Int) : Int) = X at e1 e2 hneq HX ⊢
      skip
      have hcv := HC.out wr (48 + (D : Int)) rfl
      go_wp2
      go_roundw
      case rel =>
        obtain ⟨acc', q1, q2, q3⟩ := HRX.out
        exact ⟨acc', M, by rw [q1], rfl, by have := HM.out; have := HM2.out; omega, q2, Lib.hid q3, Lib.hid (hbel.out.alloc hbel.out.size _)⟩
      case measure => simp [RowKit.intOf]; have h1 := HM.out; have h2 := HX.out; omega

set_option maxHeartbeats 1600000 in
theorem digits_neg (n : Nat) (h0 : 0 < n) (h : n ≤ 9223372036854775808) (w : World) :
    Calls Try.prog 15 #[.int .i64 (-(n : Int))] w fun e w' => e = .returned (.string (bs (45 :: decN n))) ∧ Below w.heap.size w w' := by
  have hL := decN_len19 n (by omega)
  have hne : ((-(n : Int)) == 0) = false := by simp; omega
  generalize hG : decN n = G at hL
  have HG := Lib.hid hG
  clear hG
  go_enter Try.func15, Try.ntmps15
  go_wp2
  go_loopw [3, 4] (fun v i wr => ∃ (acc : Bs) (m : Nat), v = .string (bs acc) ∧ i = .int .i64 (-(m : Int)) ∧ m ≤ 9223372036854775808 ∧ acc.length ≤ 19 ∧ Hid (decN m ++ acc = G) ∧ Hid (Below w.heap.size w wr)) (fun _ i _ => (RowKit.intOf i).natAbs)
  case atStart => exact ⟨[], n, rfl, rfl, h, by simp, Lib.hid (by rw [List.append_nil]; exact HG.out), Lib.hid (Below.refl _ _)⟩
  case round =>
    obtain ⟨acc, m, rfl, rfl, hm, hac, hv, hbel⟩ := hrel
    have HZ := Lib.hid (bs_size acc)
    by_cases hT : m = 0
    · have HE : Hid (acc = G) := Lib.hid (by have := hv.out; rw [hT, decN_zero, List.nil_append] at this; exact this)
      have hneq : ((-(m : Int)) != 0) = false := by simp; omega
      clear hT
      have hz2 : (bs acc).size ≤ 19 := by rw [bs_size]; exact hac
      clear hv
      have hap : (⟨#[45]⟩ : ByteArray) ++ bs acc = bs (45 :: acc) := bs_app [45] acc
      go_wp2
      go_ret
      exact ⟨by rw [HE.out]; rfl, hbel.out⟩
    · have HS : Hid (decN (m / 10) ++ (dB (m % 10) :: acc) = G) := Lib.hid (by rw [← hv.out, decN_pos m (by omega), List.append_assoc]; rfl)
      have HA : Hid ((dB (m % 10) :: acc).length ≤ 19) := Lib.hid (by
        have h1 := congrArg List.length HS.out
        rw [List.length_append] at h1
        omega)
      have e1 : (-(m : Int)).tmod 10 = -((m % 10 : Nat) : Int) := by rw [Int.neg_tmod]; rfl
      have e2 : (-(m : Int)).tdiv 10 = -((m / 10 : Nat) : Int) := by rw [Int.neg_tdiv]; rfl
      have hq : m / 10 < m := by omega
      have hd10 : m % 10 < 10 := by omega
      have hneq : ((-(m : Int)) != 0) = true := by simp; omega
      have HC := Lib.hid (fun W z => conv_one W (m % 10) z hd10)
      have HAP := Lib.hid (bs_app [dB (m % 10)] acc)
      have hz2 : (bs acc).size ≤ 19 := by rw [bs_size]; exact hac
      have hz1 : (bs [dB (m % 10)]).size = 1 := by rw [bs_size]; rfl
      generalize bs [dB (m % 10)] = S1 at HC HAP hz1
      generalize bs acc = S0 at HAP hz2 HZ ⊢
      have hsz : S1.size + S0.size ≤ 9223372036854775807 := by omega
      have HRX : Hid (∃ (acc' : Bs), S1 ++ S0 = bs acc' ∧ acc'.length ≤ 19 ∧ decN (m / 10) ++ acc' = G) := Lib.hid ⟨_, HAP.out, HA.out, HS.out⟩
      clear HS HA HAP hv HZ hz1
      generalize m % 10 = D at e1 hd10 HC
      generalize m / 10 = M at e2 hq HRX
      have HM : Hid (M < m) := Lib.hid hq
      have HM2 : Hid (m ≤ 9223372036854775808) := Lib.hid hm
      have HX : Hid ((-(m : Int) : Int).natAbs = m) := Lib.hid (by omega)
      generalize (-(m : Int) : Int) = X at e1 e2 hneq HX ⊢
      by_cases hD : D = 0
      · subst hD
        have hcv := HC.out wr 48 rfl
        go_wp2
        go_roundw
        case rel =>
          obtain ⟨acc', q1, q2, q3⟩ := HRX.out
          exact ⟨acc', M, by rw [q1], rfl, by have := HM.out; have := HM2.out; omega, q2, Lib.hid q3, Lib.hid (hbel.out.alloc hbel.out.size _)⟩
        case measure => simp [RowKit.intOf]; have h1 := HM.out; have h2 := HX.out; omega
      · have hDn : -(D : Int) < 0 := by omega
        have hcv := HC.out wr (48 + (D : Int)) rfl
        go_wp2
        go_roundw
        case rel =>
          obtain ⟨acc', q1, q2, q3⟩ := HRX.out
          exact ⟨acc', M, by rw [q1], rfl, by have := HM.out; have := HM2.out; omega, q2, Lib.hid q3, Lib.hid (hbel.out.alloc hbel.out.size _)⟩
        case measure => simp [RowKit.intOf]; have h1 := HM.out; have h2 := HX.out; omega
end Go.Proofs.Ythjbmlgjlndihaa
