/- What may be a property's value: contracts of graph.Plain, and of the document's Plain. -/
import Derived.Test.YtciipggccjiaiaaVG
import Derived.Test.YtciipggccjiaiaaVJ
namespace Go.Proofs.Ytciipggccjiaiaa
open Go.RowKit Go.Sort
set_option maxRecDepth 100000

def singB (t : V) : Bool := decide (t.k = 1) || decide (t.k = 2) || decide (t.k = 3)
def plainB (t : V) : Bool := (singB t || (decide (t.k = 6) && t.l.all singB)) && okV 12 t

set_option maxHeartbeats 1600000 in
theorem single_any (w : World) (t : V) (A : Option Addr) (c : Nat) (A' : Option Addr) (c' : Nat) : Calls Try.prog 37 #[vl t A c A' c'] w fun e w' => e = .returned (.bool (singB t)) ∧ Below w.heap.size w w' := by
  unfold vl
  by_cases h1 : t.k = 1
  · have b1 : (t.k == 1) = true := by simp [h1]
    have HV : Hid (singB t = true) := Lib.hid (by unfold singB; simp [h1])
    clear h1
    go_enter Try.func37, Try.ntmps37
    go_wp2
    go_ret
    exact ⟨by rw [HV.out]; rfl, below_new _ _⟩
  · have b1 : (t.k == 1) = false := by simp [h1]
    by_cases h2 : t.k = 2
    · have b2 : (t.k == 2) = true := by simp [h2]
      have HV : Hid (singB t = true) := Lib.hid (by unfold singB; simp [h2])
      clear h1 h2
      go_enter Try.func37, Try.ntmps37
      go_wp2
      go_ret
      exact ⟨by rw [HV.out]; rfl, below_new _ _⟩
    · have b2 : (t.k == 2) = false := by simp [h2]
      by_cases h3 : t.k = 3
      · have b3 : (t.k == 3) = true := by simp [h3]
        have HV : Hid (singB t = true) := Lib.hid (by unfold singB; simp [h3])
        clear h1 h2 h3
        go_enter Try.func37, Try.ntmps37
        go_wp2
        go_ret
        exact ⟨by rw [HV.out]; rfl, below_new _ _⟩
      · have b3 : (t.k == 3) = false := by simp [h3]
        have HV : Hid (singB t = false) := Lib.hid (by unfold singB; simp [h1, h2, h3])
        clear h1 h2 h3
        go_enter Try.func37, Try.ntmps37
        go_wp2
        go_ret
        exact ⟨by rw [HV.out]; rfl, below_new _ _⟩

set_option maxHeartbeats 1600000 in
theorem notSingle_any (w : World) (d : Nat) (t : V) (A : Option Addr) (c : Nat) (A' : Option Addr) (c' : Nat) (_r : Rd w 0 w.heap.size d t A c A' c') : Calls Try.prog 55 #[vl t A c A' c'] w fun e w' => e = .returned (.bool (!singB t)) ∧ Below w.heap.size w w' := by
  unfold vl
  go_enter Try.func55, Try.ntmps55
  go_wp2_with fail
  refine (single_any _ t A c A' c').mono ?_
  rintro e w1 ⟨rfl, hb1⟩
  have HB := Lib.hid (bnext (below_new _ _) hb1)
  clear hb1
  go_wp2
  go_ret
  exact ⟨by rfl, HB.out⟩

set_option maxHeartbeats 1600000 in
theorem indexSingle (w : World) (d : Nat) (A : Option Addr) (c : Nat) (l : List V) (h : Rw w 0 w.heap.size d A c l) :
    Calls Try.prog 71 #[.slice A l.length c, .func (.func 55) #[] #[]] w fun e w' => e = .returned (.int .i64 (idxP (fun x => !singB x) l 0)) ∧ Below w.heap.size w w' := by
  generalize hp0 : (fun x : V => !singB x) = p
  have HC : Hid (∀ (w : World) (d : Nat) (t : V) (A : Option Addr) (c : Nat) (A' : Option Addr) (c' : Nat), Rd w 0 w.heap.size d t A c A' c' → Calls Try.prog 55 #[vl t A c A' c'] w fun e w' => e = .returned (.bool (p t)) ∧ Below w.heap.size w w') := Lib.hid (by subst hp0; exact notSingle_any)
  have H1 := Lib.hid h
  have b1 := h.big
  clear hp0 h
  go_enter Try.func71, Try.ntmps71
  go_wp2
  go_loopw [8] (fun i wr => ∃ k : Nat, k ≤ l.length ∧ i = .int .i64 k ∧ Hid (Below w.heap.size w wr) ∧ Hid (idxP p (l.drop k) k = idxP p l 0)) (fun i _ => l.length - (intOf i).toNat)
  case atStart => exact ⟨0, by omega, rfl, Lib.hid (Below.refl _ _), Lib.hid (by simp)⟩
  case round =>
    obtain ⟨k, hk, rfl, hbel, hr⟩ := hrel
    by_cases hlt : k < l.length
    · obtain ⟨b, off, x, A1, c1, A2, c2, rfl, _, hb, hx, q, rx⟩ := (H1.out.next hbel.out).elem hlt
      obtain ⟨q0, q1, q2, q3, q4⟩ := q
      have RX := Lib.hid rx
      have Y := Lib.hid (idxP_yes p l k hx)
      have N := Lib.hid (idxP_no p l k hx)
      clear rx hx
      go_wp2_with fail
      refine (HC.out _ _ x _ _ _ _ RX.out).mono ?_
      rintro e w1 ⟨rfl, hb1⟩
      have HB := Lib.hid (bnext hbel.out hb1)
      clear hb1
      cases hp : p x
      · go_wp2
        go_roundw
        case rel => exact ⟨k + 1, by omega, by go_num, HB, Lib.hid (by rw [← hr.out, N.out hp])⟩
        case measure => simp [intOf]; omega
      · go_wp2
        go_ret
        exact ⟨by rw [← hr.out, Y.out hp]; rfl, HB.out⟩
    · have OUT := Lib.hid (idxP_out p l k k (by omega))
      go_wp2
      go_ret
      exact ⟨by rw [← hr.out, OUT.out]; rfl, hbel.out⟩

set_option maxHeartbeats 800000 in
theorem containsSingle (w : World) (d : Nat) (A : Option Addr) (c : Nat) (l : List V) (h : Rw w 0 w.heap.size d A c l) :
    Calls Try.prog 56 #[.slice A l.length c, .func (.func 55) #[] #[]] w fun e w' => e = .returned (.bool (!l.all singB)) ∧ Below w.heap.size w w' := by
  have CT := Lib.hid (indexSingle w d A c l h)
  have R := Lib.hid (idxP_range (fun x => !singB x) l 0)
  clear h
  go_enter Try.func56, Try.ntmps56
  go_wp2_with fail
  refine CT.out.mono ?_
  rintro e w1 ⟨rfl, hb1⟩
  have HB := Lib.hid hb1
  clear hb1
  go_wp2
  go_ret
  refine ⟨?_, HB.out⟩
  rw [← any_not]
  show Ending.returned (.bool (decide (0 ≤ idxP (fun x => !singB x) l 0))) = _
  rcases R.out with ⟨e, a⟩ | ⟨e1, e2, a⟩
  · rw [a, e]; rfl
  · rw [a, decide_eq_true (by omega)]
end Go.Proofs.Ytciipggccjiaiaa
