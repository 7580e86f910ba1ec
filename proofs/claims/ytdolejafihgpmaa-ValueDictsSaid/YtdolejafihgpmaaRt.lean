/- Contract of the document's SameRows. -/
import Derived.Test.YtdolejafihgpmaaRs
namespace Go.Proofs.Ytdolejafihgpmaa
open Go.RowKit Go.Sort

/-- Two rows whose items compare as equal, one by one. -/
def sameL : List V → List V → Bool
  | [], [] => true
  | x :: r, y :: t => (cmpV 12 x y == 0) && sameL r t
  | _, _ => false
theorem sameL_len : ∀ l l' : List V, l.length ≠ l'.length → sameL l l' = false
  | [], [], h => absurd rfl h
  | [], _ :: _, _ => rfl
  | _ :: _, [], _ => rfl
  | x :: r, y :: t, h => by
    simp only [List.length_cons] at h
    simp [sameL, sameL_len r t (by omega)]
theorem sameL_next (l l' : List V) (k : Nat) {x y : V} (hx : l[k]? = some x) (hy : l'[k]? = some y) :
    sameL (l.drop k) (l'.drop k) = ((cmpV 12 x y == 0) && sameL (l.drop (k + 1)) (l'.drop (k + 1))) := by
  obtain ⟨h1, rfl⟩ := List.getElem?_eq_some_iff.mp hx
  obtain ⟨h2, rfl⟩ := List.getElem?_eq_some_iff.mp hy
  rw [List.drop_eq_getElem_cons h1, List.drop_eq_getElem_cons h2]
  rfl

set_option maxHeartbeats 1600000 in
theorem sameRows_any (w : World) (d d' : Nat) (A : Option Addr) (c : Nat) (l : List V) (A' : Option Addr) (c' : Nat) (l' : List V)
    (h : Rw w 0 w.heap.size d A c l) (h' : Rw w 0 w.heap.size d' A' c' l') :
    Calls Try.prog 30 #[.slice A l.length c, .slice A' l'.length c'] w fun e w' => e = .returned (.bool (sameL l l')) ∧ Below w.heap.size w w' := by
  have H1 := Lib.hid h
  have H2 := Lib.hid h'
  have b1 := h.big
  have b2 := h'.big
  clear h h'
  go_enter Try.func30, Try.ntmps30
  by_cases hlen : l.length = l'.length
  · go_wp2
    go_loopw [5] (fun i wr => ∃ k : Nat, k ≤ l.length ∧ i = .int .i64 k ∧ Hid (Below w.heap.size w wr) ∧ Hid (sameL (l.drop k) (l'.drop k) = sameL l l')) (fun i _ => l.length - (intOf i).toNat)
    case atStart => exact ⟨0, by omega, rfl, Lib.hid (Below.refl _ _), Lib.hid (by simp)⟩
    case round =>
      obtain ⟨k, hk, rfl, hbel, hrr⟩ := hrel
      by_cases hlt : k < l.length
      · have hlt' : k < l'.length := by omega
        obtain ⟨b, off, x, A1, c1, A2, c2, rfl, _, hb, hx, q, rx⟩ := (H1.out.next hbel.out).elem hlt
        obtain ⟨b', off', y, D1, e1, D2, e2, rfl, _, hb', hy, p, ry⟩ := (H2.out.next hbel.out).elem hlt'
        obtain ⟨q0, q1, q2, q3, q4⟩ := q
        obtain ⟨p0, p1, p2, p3, p4⟩ := p
        have cQ := Lib.hid (refSame_regrown rx ry)
        have NX := Lib.hid (sameL_next l l' k hx hy)
        clear rx ry hx hy
        replace q0 := cell_regrown q0
        replace q1 := cell_regrown q1
        replace q2 := cell_regrown q2
        replace q3 := cell_regrown q3
        replace q4 := cell_regrown q4
        replace p0 := cell_regrown p0
        replace p1 := cell_regrown p1
        replace p2 := cell_regrown p2
        replace p3 := cell_regrown p3
        replace p4 := cell_regrown p4
        have i0 : (0 : Int) ≤ (k : Int) := by omega
        have i1 : (k : Int) < (l.length : Int) := by omega
        have i2 : (k : Int) < (l'.length : Int) := by omega
        go_wp2_with fail
        refine wp_region_quiet_below (by kernel_rfl) (by kernel_rfl) ?_
        repeat (first | go_big_quiet_step (exact cQ.out _ _) | quiet_step (exact cQ.out _ _))
        refine wpQuiet_nil ?_
        intro _ hw'
        obtain ⟨⟨dq, osq⟩, hw''⟩ := hw'
        subst hw''
        have HB := Lib.hid (bnext hbel.out (below_regrown wr dq osq))
        clear q0 q1 q2 q3 q4 p0 p1 p2 p3 p4
        cases hne : (cmpV 12 x y == 0)
        · go_wp2
          go_ret
          exact ⟨by rw [← hrr.out, NX.out, hne]; rfl, HB.out⟩
        · go_wp2
          go_roundw
          case rel => exact ⟨k + 1, by omega, by go_num, HB, Lib.hid (by rw [← hrr.out, NX.out, hne]; rfl)⟩
          case measure => simp [intOf]; omega
      · obtain rfl : k = l.length := by omega
        have T := Lib.hid (show sameL (l.drop l.length) (l'.drop l.length) = true by rw [List.drop_length, hlen, List.drop_length]; rfl)
        go_wp2
        go_ret
        exact ⟨by rw [← hrr.out, T.out]; rfl, hbel.out⟩
  · have SN := Lib.hid (sameL_len l l' hlen)
    go_wp2
    go_ret
    exact ⟨by rw [SN.out]; rfl, Below.refl _ _⟩
end Go.Proofs.Ytdolejafihgpmaa
