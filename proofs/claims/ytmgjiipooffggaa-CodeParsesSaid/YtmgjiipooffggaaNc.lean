/- Is one none? The function that Rows asks with; ContainsFunc with it. -/
import Derived.Test.YtmgjiipooffggaaKc
namespace Go.Proofs.Ytmgjiipooffggaa
set_option maxRecDepth 100000
open Go.RowKit

set_option maxHeartbeats 800000 in
theorem refused_any (w : World) (d : Nat) (x : At) (hx : x.In w d) : Calls Try.prog 29 #[x.v] w fun e w' => e = .returned (.bool (!okV 12 x.t)) ∧ Below w.heap.size w w' := by
  have b0 := below_new w (.cells #[.int .i64 x.t.k, .int .i64 x.t.n, .string x.t.s, .slice x.A x.t.l.length x.c, .slice x.A' x.t.m.length x.c'] 24)
  have IV := Lib.hid (isValue_at _ d x (hx.next b0))
  have B0 := Lib.hid b0
  clear hx b0
  generalize okV 12 x.t = b at *
  unfold At.v at *
  go_enter Try.func29, Try.ntmps29
  go_wp2_with fail
  refine IV.out.mono ?_
  rintro e w1 ⟨rfl, hb⟩
  have HB := Lib.hid (bnext B0.out hb)
  clear hb IV
  cases b
  · go_wp2
    go_ret
    exact ⟨rfl, HB.out⟩
  · go_wp2
    go_ret
    exact ⟨rfl, HB.out⟩

set_option maxHeartbeats 1600000 in
theorem indexNot (w : World) (d : Nat) (A : Option Addr) (c : Nat) (l : List V) (h : Rw w 0 w.heap.size d A c l) :
    Calls Try.prog 48 #[.slice A l.length c, .func (.func 29) #[] #[]] w fun e w' => e = .returned (.int .i64 (idxP (fun x => !okV 12 x) l 0)) ∧ Below w.heap.size w w' := by
  have H1 := Lib.hid h
  have b1 := h.big
  clear h
  obtain ⟨p, hp⟩ : ∃ p : V → Bool, p = fun x => !okV 12 x := ⟨_, rfl⟩
  rw [← hp]
  have HC : Hid (∀ (w : World) (d : Nat) (x : At), x.In w d → Calls Try.prog 29 #[x.v] w fun e w' => e = .returned (.bool (p x.t)) ∧ Below w.heap.size w w') := Lib.hid (fun w d x hx => by rw [hp]; exact refused_any w d x hx)
  clear hp
  go_enter Try.func48, Try.ntmps48
  go_wp2
  go_loopw [8] (fun i wr => ∃ k : Nat, k ≤ l.length ∧ i = .int .i64 k ∧ Hid (Below w.heap.size w wr) ∧ Hid (idxP p (l.drop k) k = idxP p l 0)) (fun i _ => l.length - (intOf i).toNat)
  case atStart => exact ⟨0, by omega, rfl, Lib.hid (Below.refl _ _), Lib.hid (by simp)⟩
  case round =>
    obtain ⟨k, hk, rfl, hbel, hr⟩ := hrel
    by_cases hlt : k < l.length
    · obtain ⟨b, off, x, A1, c1, A2, c2, rfl, _, hb, hx, q, rx⟩ := (H1.out.next hbel.out).elem hlt
      obtain ⟨q0, q1, q2, q3, q4⟩ := q
      have RX := Lib.hid rx
      have Y := Lib.hid (idxP_yes p l k hx)
      have N := Lib.hid (idxP_no p l k hx)
      clear rx hx
      go_wp2_with fail
      refine (HC.out _ _ ⟨x, A1, c1, A2, c2⟩ RX.out).mono ?_
      rintro e w1 ⟨rfl, hb1⟩
      have HB := Lib.hid (bnext hbel.out hb1)
      clear hb1
      cases hp : p x
      · go_wp2
        go_roundw
        case rel => exact ⟨k + 1, by omega, by go_num, HB, Lib.hid (by rw [← hr.out, N.out hp])⟩
        case measure => simp [intOf]; omega
      · go_wp2
        go_ret
        exact ⟨by rw [← hr.out, Y.out hp]; rfl, HB.out⟩
    · have OUT := Lib.hid (idxP_out p l k k (by omega))
      go_wp2
      go_ret
      exact ⟨by rw [← hr.out, OUT.out]; rfl, hbel.out⟩

set_option maxHeartbeats 800000 in
theorem containsNot (w : World) (d : Nat) (A : Option Addr) (c : Nat) (l : List V) (h : Rw w 0 w.heap.size d A c l) :
    Calls Try.prog 30 #[.slice A l.length c, .func (.func 29) #[] #[]] w fun e w' => e = .returned (.bool (l.any fun x => !okV 12 x)) ∧ Below w.heap.size w w' := by
  have CT := Lib.hid (indexNot w d A c l h)
  have R := Lib.hid (idxP_range (fun x => !okV 12 x) l 0)
  clear h
  go_enter Try.func30, Try.ntmps30
  go_wp2_with fail
  refine CT.out.mono ?_
  rintro e w1 ⟨rfl, hb1⟩
  have HB := Lib.hid hb1
  clear hb1
  go_wp2
  go_ret
  refine ⟨?_, HB.out⟩
  show Ending.returned (.bool (decide (0 ≤ idxP (fun x => !okV 12 x) l 0))) = _
  rcases R.out with ⟨e, a⟩ | ⟨e1, e2, a⟩
  · rw [a, e]; rfl
  · rw [a, decide_eq_true (by omega)]
end Go.Proofs.Ytmgjiipooffggaa
