/- Carried over from an earlier seat. -/
import Derived.Test.YtebkkjfeikpfgaaBXA
namespace Go.Proofs.Ytebkkjfeikpfgaa
set_option maxRecDepth 100000
open Go.RowKit

def letB (c : Nat) : Bool := (decide (97 ≤ c) && decide (c ≤ 122)) || (decide (65 ≤ c) && decide (c ≤ 90)) || decide (c = 95)
def nmC (k c : Nat) : Bool := letB c || (decide (48 ≤ c) && decide (c ≤ 57) && decide (0 < k))
def byt (s : ByteArray) (j : Nat) : Nat := if h : j < s.size then (s[j]'h).toNat else 0
def nmAll (s : ByteArray) (k : Nat) : Bool := (List.range k).all fun j => nmC j (byt s j)
/-- Is it a name? -/
def nameB (s : ByteArray) : Bool := decide (1 ≤ s.size) && decide (s.size ≤ 40) && nmAll s s.size
theorem nmAll_next {s : ByteArray} {k : Nat} (h : nmAll s k = true) (hc : nmC k (byt s k) = true) : nmAll s (k + 1) = true := by
  unfold nmAll at *
  rw [List.range_succ, List.all_append, h]
  simp [hc]
theorem name_not {s : ByteArray} {k : Nat} (hk : k < s.size) (hc : nmC k (byt s k) = false) : nameB s = false := by
  have : nmAll s s.size = false := by
    unfold nmAll
    rw [List.all_eq_false]
    exact ⟨k, List.mem_range.2 hk, by simp [hc]⟩
  unfold nameB
  rw [this]; simp
theorem byt_at {s : ByteArray} {k : Nat} (hk : k < s.size) : byt s k = (s[k]'hk).toNat := by unfold byt; rw [dif_pos hk]

set_option maxHeartbeats 1600000 in
theorem name_any (s : ByteArray) (w : World) : Calls Try.prog 81 #[.string s] w fun e w' => e = .returned (.bool (nameB s)) ∧ w = w' := by
  by_cases h1 : s.size < 1
  · have HV : Hid (nameB s = false) := Lib.hid (by unfold nameB; simp; omega)
    have h2 : (s.size : Int) < 1 := by omega
    clear h1
    go_enter Try.func81, Try.ntmps81
    go_wp2
    go_ret
    exact ⟨by rw [HV.out]; rfl, rfl⟩
  · by_cases h4 : 40 < s.size
    · have HV : Hid (nameB s = false) := Lib.hid (by unfold nameB; simp; omega)
      have h2 : ¬ (s.size : Int) < 1 := by omega
      have h3 : (40 : Int) < (s.size : Int) := by omega
      clear h1 h4
      go_enter Try.func81, Try.ntmps81
      go_wp2
      go_ret
      exact ⟨by rw [HV.out]; rfl, rfl⟩
    · have h2 : ¬ (s.size : Int) < 1 := by omega
      have h3 : ¬ (40 : Int) < (s.size : Int) := by omega
      have HL : Hid (1 ≤ s.size ∧ s.size ≤ 40) := Lib.hid (by omega)
      go_enter Try.func81, Try.ntmps81
      go_wp2
      go_loopw [15] (fun i wr => ∃ k : Nat, k ≤ s.size ∧ i = .int .i64 k ∧ wr = w ∧ Hid (nmAll s k = true)) (fun i _ => s.size - (intOf i).toNat)
      case atStart => exact ⟨0, by omega, rfl, rfl, Lib.hid rfl⟩
      case round =>
        obtain ⟨k, hk, rfl, rfl, hA⟩ := hrel
        by_cases hT : k < s.size
        · have HY := Lib.hid (fun h => nmAll_next (k := k) hA.out h)
          have HN := Lib.hid (fun h => name_not (k := k) hT h)
          rw [byt_at hT] at HY HN
          generalize hcc : (s[k]'hT).toNat = c at HY HN
          have hlt : c < 256 := by rw [← hcc]; exact (s[k]'hT).toNat_lt
          have k0 : (0 : Int) ≤ (k : Int) := by omega
          have k1 : (k : Int) < (s.size : Int) := by omega
          rcases (by omega : c < 48 ∨ (48 ≤ c ∧ c ≤ 57 ∧ k = 0) ∨ (48 ≤ c ∧ c ≤ 57 ∧ 0 < k) ∨ (58 ≤ c ∧ c ≤ 64) ∨ (65 ≤ c ∧ c ≤ 90) ∨ (91 ≤ c ∧ c ≤ 94) ∨ c = 95 ∨ c = 96 ∨ (97 ≤ c ∧ c ≤ 122) ∨ 122 < c) with h | h | h | h | h | h | h | h | h | h
          · have a97 : ¬ ((97 : Int) ≤ (c : Int)) := by omega
            have a65 : ¬ ((65 : Int) ≤ (c : Int)) := by omega
            have a48 : ¬ ((48 : Int) ≤ (c : Int)) := by omega
            have b122 : ((c : Int) ≤ 122) := by omega
            have b90 : ((c : Int) ≤ 90) := by omega
            have b57 : ((c : Int) ≤ 57) := by omega
            have e95 : ((c : Int) == 95) = false := by simp; omega
            have hv : nmC k c = false := by unfold nmC letB; simp; omega
            have HV := Lib.hid (HN.out hv)
            have HCC := Lib.hid hcc
            clear h hv HY HN
            subst hcc
            go_wp2
            go_ret
            exact ⟨by rw [HV.out]; rfl, rfl⟩
          · have a97 : ¬ ((97 : Int) ≤ (c : Int)) := by omega
            have a65 : ¬ ((65 : Int) ≤ (c : Int)) := by omega
            have a48 : ((48 : Int) ≤ (c : Int)) := by omega
            have b122 : ((c : Int) ≤ 122) := by omega
            have b90 : ((c : Int) ≤ 90) := by omega
            have b57 : ((c : Int) ≤ 57) := by omega
            have e95 : ((c : Int) == 95) = false := by simp; omega
            have z0 : ¬ (0 : Int) < (k : Int) := by omega
            have hv : nmC k c = false := by unfold nmC letB; simp; omega
            have HV := Lib.hid (HN.out hv)
            have HCC := Lib.hid hcc
            clear h hv HY HN
            subst hcc
            go_wp2
            go_ret
            exact ⟨by rw [HV.out]; rfl, rfl⟩
          · have a97 : ¬ ((97 : Int) ≤ (c : Int)) := by omega
            have a65 : ¬ ((65 : Int) ≤ (c : Int)) := by omega
            have a48 : ((48 : Int) ≤ (c : Int)) := by omega
            have b122 : ((c : Int) ≤ 122) := by omega
            have b90 : ((c : Int) ≤ 90) := by omega
            have b57 : ((c : Int) ≤ 57) := by omega
            have e95 : ((c : Int) == 95) = false := by simp; omega
            have z0 : (0 : Int) < (k : Int) := by omega
            have hv : nmC k c = true := by unfold nmC letB; simp; omega
            have HV := Lib.hid (HY.out hv)
            have HCC := Lib.hid hcc
            clear h hv HY HN
            subst hcc
            go_wp2
            go_roundw
            case rel => exact ⟨k + 1, by omega, by go_num, trivial, HV⟩
            case measure => simp [intOf]; omega
          · have a97 : ¬ ((97 : Int) ≤ (c : Int)) := by omega
            have a65 : ¬ ((65 : Int) ≤ (c : Int)) := by omega
            have a48 : ((48 : Int) ≤ (c : Int)) := by omega
            have b122 : ((c : Int) ≤ 122) := by omega
            have b90 : ((c : Int) ≤ 90) := by omega
            have b57 : ¬ ((c : Int) ≤ 57) := by omega
            have e95 : ((c : Int) == 95) = false := by simp; omega
            have hv : nmC k c = false := by unfold nmC letB; simp; omega
            have HV := Lib.hid (HN.out hv)
            have HCC := Lib.hid hcc
            clear h hv HY HN
            subst hcc
            go_wp2
            go_ret
            exact ⟨by rw [HV.out]; rfl, rfl⟩
          · have a97 : ¬ ((97 : Int) ≤ (c : Int)) := by omega
            have a65 : ((65 : Int) ≤ (c : Int)) := by omega
            have a48 : ((48 : Int) ≤ (c : Int)) := by omega
            have b122 : ((c : Int) ≤ 122) := by omega
            have b90 : ((c : Int) ≤ 90) := by omega
            have b57 : ¬ ((c : Int) ≤ 57) := by omega
            have e95 : ((c : Int) == 95) = false := by simp; omega
            have hv : nmC k c = true := by unfold nmC letB; simp; omega
            have HV := Lib.hid (HY.out hv)
            have HCC := Lib.hid hcc
            clear h hv HY HN
            subst hcc
            go_wp2
            go_roundw
            case rel => exact ⟨k + 1, by omega, by go_num, trivial, HV⟩
            case measure => simp [intOf]; omega
          · have a97 : ¬ ((97 : Int) ≤ (c : Int)) := by omega
            have a65 : ((65 : Int) ≤ (c : Int)) := by omega
            have a48 : ((48 : Int) ≤ (c : Int)) := by omega
            have b122 : ((c : Int) ≤ 122) := by omega
            have b90 : ¬ ((c : Int) ≤ 90) := by omega
            have b57 : ¬ ((c : Int) ≤ 57) := by omega
            have e95 : ((c : Int) == 95) = false := by simp; omega
            have hv : nmC k c = false := by unfold nmC letB; simp; omega
            have HV := Lib.hid (HN.out hv)
            have HCC := Lib.hid hcc
            clear h hv HY HN
            subst hcc
            go_wp2
            go_ret
            exact ⟨by rw [HV.out]; rfl, rfl⟩
          · have a97 : ¬ ((97 : Int) ≤ (c : Int)) := by omega
            have a65 : ((65 : Int) ≤ (c : Int)) := by omega
            have a48 : ((48 : Int) ≤ (c : Int)) := by omega
            have b122 : ((c : Int) ≤ 122) := by omega
            have b90 : ¬ ((c : Int) ≤ 90) := by omega
            have b57 : ¬ ((c : Int) ≤ 57) := by omega
            have e95 : ((c : Int) == 95) = true := by simp; omega
            have hv : nmC k c = true := by unfold nmC letB; simp; omega
            have HV := Lib.hid (HY.out hv)
            have HCC := Lib.hid hcc
            clear h hv HY HN
            subst hcc
            go_wp2
            go_roundw
            case rel => exact ⟨k + 1, by omega, by go_num, trivial, HV⟩
            case measure => simp [intOf]; omega
          · have a97 : ¬ ((97 : Int) ≤ (c : Int)) := by omega
            have a65 : ((65 : Int) ≤ (c : Int)) := by omega
            have a48 : ((48 : Int) ≤ (c : Int)) := by omega
            have b122 : ((c : Int) ≤ 122) := by omega
            have b90 : ¬ ((c : Int) ≤ 90) := by omega
            have b57 : ¬ ((c : Int) ≤ 57) := by omega
            have e95 : ((c : Int) == 95) = false := by simp; omega
            have hv : nmC k c = false := by unfold nmC letB; simp; omega
            have HV := Lib.hid (HN.out hv)
            have HCC := Lib.hid hcc
            clear h hv HY HN
            subst hcc
            go_wp2
            go_ret
            exact ⟨by rw [HV.out]; rfl, rfl⟩
          · have a97 : ((97 : Int) ≤ (c : Int)) := by omega
            have a65 : ((65 : Int) ≤ (c : Int)) := by omega
            have a48 : ((48 : Int) ≤ (c : Int)) := by omega
            have b122 : ((c : Int) ≤ 122) := by omega
            have b90 : ¬ ((c : Int) ≤ 90) := by omega
            have b57 : ¬ ((c : Int) ≤ 57) := by omega
            have e95 : ((c : Int) == 95) = false := by simp; omega
            have hv : nmC k c = true := by unfold nmC letB; simp; omega
            have HV := Lib.hid (HY.out hv)
            have HCC := Lib.hid hcc
            clear h hv HY HN
            subst hcc
            go_wp2
            go_roundw
            case rel => exact ⟨k + 1, by omega, by go_num, trivial, HV⟩
            case measure => simp [intOf]; omega
          · have a97 : ((97 : Int) ≤ (c : Int)) := by omega
            have a65 : ((65 : Int) ≤ (c : Int)) := by omega
            have a48 : ((48 : Int) ≤ (c : Int)) := by omega
            have b122 : ¬ ((c : Int) ≤ 122) := by omega
            have b90 : ¬ ((c : Int) ≤ 90) := by omega
            have b57 : ¬ ((c : Int) ≤ 57) := by omega
            have e95 : ((c : Int) == 95) = false := by simp; omega
            have hv : nmC k c = false := by unfold nmC letB; simp; omega
            have HV := Lib.hid (HN.out hv)
            have HCC := Lib.hid hcc
            clear h hv HY HN
            subst hcc
            go_wp2
            go_ret
            exact ⟨by rw [HV.out]; rfl, rfl⟩
        · obtain rfl : k = s.size := by omega
          have HV : Hid (nameB s = true) := Lib.hid (by unfold nameB; rw [hA.out]; have := HL.out; simp; omega)
          go_wp2
          go_ret
          exact ⟨by rw [HV.out]; rfl, rfl⟩

end Go.Proofs.Ytebkkjfeikpfgaa
namespace Go.Proofs.Ytebkkjfeikpfgaa
set_option maxRecDepth 100000
open Go.RowKit Go.Sort
set_option maxRecDepth 100000

def singB (t : V) : Bool := decide (t.k = 1) || decide (t.k = 2) || decide (t.k = 3)
def plainB (t : V) : Bool := (singB t || (decide (t.k = 6) && t.l.all singB)) && okV 12 t

set_option maxHeartbeats 1600000 in
theorem single_any (w : World) (t : V) (A : Option Addr) (c : Nat) (A' : Option Addr) (c' : Nat) : Calls Try.prog 92 #[vl t A c A' c'] w fun e w' => e = .returned (.bool (singB t)) ∧ Below w.heap.size w w' := by
  unfold vl
  by_cases h1 : t.k = 1
  · have b1 : (t.k == 1) = true := by simp [h1]
    have HV : Hid (singB t = true) := Lib.hid (by unfold singB; simp [h1])
    clear h1
    go_enter Try.func92, Try.ntmps92
    go_wp2
    go_ret
    exact ⟨by rw [HV.out]; rfl, below_new _ _⟩
  · have b1 : (t.k == 1) = false := by simp [h1]
    by_cases h2 : t.k = 2
    · have b2 : (t.k == 2) = true := by simp [h2]
      have HV : Hid (singB t = true) := Lib.hid (by unfold singB; simp [h2])
      clear h1 h2
      go_enter Try.func92, Try.ntmps92
      go_wp2
      go_ret
      exact ⟨by rw [HV.out]; rfl, below_new _ _⟩
    · have b2 : (t.k == 2) = false := by simp [h2]
      by_cases h3 : t.k = 3
      · have b3 : (t.k == 3) = true := by simp [h3]
        have HV : Hid (singB t = true) := Lib.hid (by unfold singB; simp [h3])
        clear h1 h2 h3
        go_enter Try.func92, Try.ntmps92
        go_wp2
        go_ret
        exact ⟨by rw [HV.out]; rfl, below_new _ _⟩
      · have b3 : (t.k == 3) = false := by simp [h3]
        have HV : Hid (singB t = false) := Lib.hid (by unfold singB; simp [h1, h2, h3])
        clear h1 h2 h3
        go_enter Try.func92, Try.ntmps92
        go_wp2
        go_ret
        exact ⟨by rw [HV.out]; rfl, below_new _ _⟩

set_option maxHeartbeats 1600000 in
theorem notSingle_any (w : World) (d : Nat) (t : V) (A : Option Addr) (c : Nat) (A' : Option Addr) (c' : Nat) (_r : Rd w 0 w.heap.size d t A c A' c') : Calls Try.prog 97 #[vl t A c A' c'] w fun e w' => e = .returned (.bool (!singB t)) ∧ Below w.heap.size w w' := by
  unfold vl
  go_enter Try.func97, Try.ntmps97
  go_wp2_with fail
  refine (single_any _ t A c A' c').mono ?_
  rintro e w1 ⟨rfl, hb1⟩
  have HB := Lib.hid (bnext (below_new _ _) hb1)
  clear hb1
  go_wp2
  go_ret
  exact ⟨by rfl, HB.out⟩

set_option maxHeartbeats 1600000 in
theorem indexSingle (w : World) (d : Nat) (A : Option Addr) (c : Nat) (l : List V) (h : Rw w 0 w.heap.size d A c l) :
    Calls Try.prog 100 #[.slice A l.length c, .func (.func 97) #[] #[]] w fun e w' => e = .returned (.int .i64 (idxP (fun x => !singB x) l 0)) ∧ Below w.heap.size w w' := by
  generalize hp0 : (fun x : V => !singB x) = p
  have HC : Hid (∀ (w : World) (d : Nat) (t : V) (A : Option Addr) (c : Nat) (A' : Option Addr) (c' : Nat), Rd w 0 w.heap.size d t A c A' c' → Calls Try.prog 97 #[vl t A c A' c'] w fun e w' => e = .returned (.bool (p t)) ∧ Below w.heap.size w w') := Lib.hid (by subst hp0; exact notSingle_any)
  have H1 := Lib.hid h
  have b1 := h.big
  clear hp0 h
  go_enter Try.func100, Try.ntmps100
  go_wp2
  go_loopw [8] (fun i wr => ∃ k : Nat, k ≤ l.length ∧ i = .int .i64 k ∧ Hid (Below w.heap.size w wr) ∧ Hid (idxP p (l.drop k) k = idxP p l 0)) (fun i _ => l.length - (intOf i).toNat)
  case atStart => exact ⟨0, by omega, rfl, Lib.hid (Below.refl _ _), Lib.hid (by simp)⟩
  case round =>
    obtain ⟨k, hk, rfl, hbel, hr⟩ := hrel
    by_cases hlt : k < l.length
    · obtain ⟨b, off, x, A1, c1, A2, c2, rfl, _, hb, hx, q, rx⟩ := (H1.out.next hbel.out).elem hlt
      obtain ⟨q0, q1, q2, q3, q4⟩ := q
      have RX := Lib.hid rx
      have Y := Lib.hid (idxP_yes p l k hx)
      have N := Lib.hid (idxP_no p l k hx)
      clear rx hx
      go_wp2_with fail
      refine (HC.out _ _ x _ _ _ _ RX.out).mono ?_
      rintro e w1 ⟨rfl, hb1⟩
      have HB := Lib.hid (bnext hbel.out hb1)
      clear hb1
      cases hp : p x
      · go_wp2
        go_roundw
        case rel => exact ⟨k + 1, by omega, by go_num, HB, Lib.hid (by rw [← hr.out, N.out hp])⟩
        case measure => simp [intOf]; omega
      · go_wp2
        go_ret
        exact ⟨by rw [← hr.out, Y.out hp]; rfl, HB.out⟩
    · have OUT := Lib.hid (idxP_out p l k k (by omega))
      go_wp2
      go_ret
      exact ⟨by rw [← hr.out, OUT.out]; rfl, hbel.out⟩

set_option maxHeartbeats 800000 in
theorem containsSingle (w : World) (d : Nat) (A : Option Addr) (c : Nat) (l : List V) (h : Rw w 0 w.heap.size d A c l) :
    Calls Try.prog 98 #[.slice A l.length c, .func (.func 97) #[] #[]] w fun e w' => e = .returned (.bool (!l.all singB)) ∧ Below w.heap.size w w' := by
  have CT := Lib.hid (indexSingle w d A c l h)
  have R := Lib.hid (idxP_range (fun x => !singB x) l 0)
  clear h
  go_enter Try.func98, Try.ntmps98
  go_wp2_with fail
  refine CT.out.mono ?_
  rintro e w1 ⟨rfl, hb1⟩
  have HB := Lib.hid hb1
  clear hb1
  go_wp2
  go_ret
  refine ⟨?_, HB.out⟩
  rw [← any_not]
  show Ending.returned (.bool (decide (0 ≤ idxP (fun x => !singB x) l 0))) = _
  rcases R.out with ⟨e, a⟩ | ⟨e1, e2, a⟩
  · rw [a, e]; rfl
  · rw [a, decide_eq_true (by omega)]
end Go.Proofs.Ytebkkjfeikpfgaa

