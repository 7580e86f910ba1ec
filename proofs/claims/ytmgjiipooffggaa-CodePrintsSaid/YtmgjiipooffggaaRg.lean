/- How many values there are, and how long their texts. -/
import Derived.Test.YtmgjiipooffggaaKc
namespace Go.Proofs.Ytmgjiipooffggaa
set_option maxRecDepth 100000
open Go.RowKit
set_option maxHeartbeats 1600000 in
theorem many_len (w : World) (d : Nat) (A : Option Addr) (c : Nat) (l : List V) (h : Rw w 0 w.heap.size d A c l) :
    Calls Try.prog 24 #[.slice A l.length c, .int .i64 300] w fun e w' => ∃ n : Int, e = .returned (.int .i64 n) ∧ (n < 300 → (l.length : Int) ≤ n ∧ ∀ z ∈ l, okV 12 z = true → (cntV 12 z : Int) ≤ n) ∧ Below w.heap.size w w' := by
  have H := Lib.hid h
  have hbl := h.big
  clear h
  go_enter Try.func24, Try.ntmps24
  go_wp2
  go_loopw [5, 6] (fun u i wr => ∃ (k : Nat) (y : Int), k ≤ l.length ∧ i = .int .i64 k ∧ u = .int .i64 y ∧ (k : Int) ≤ y ∧ y ≤ 9223372036854775000 ∧ Hid (y < 300 → ∀ z ∈ l.take k, okV 12 z = true → (cntV 12 z : Int) ≤ y) ∧ Hid (Below w.heap.size w wr)) (fun _ i _ => l.length - (intOf i).toNat)
  case atStart => exact ⟨0, 0, by omega, rfl, rfl, by omega, by omega, Lib.hid (fun _ z hz => by simp at hz), Lib.hid (Below.refl _ _)⟩
  case round =>
    obtain ⟨k, y, hk, rfl, rfl, hx0, hx1, hyc, hbel⟩ := hrel
    by_cases hlt : k < l.length
    · by_cases hm : y < 300
      · obtain ⟨b, off, z, A1, e1, A2, e2, rfl, _, hb, hzz, q, rz⟩ := (H.out.next hbel.out).elem hlt
        obtain ⟨q0, q1, q2, q3, q4⟩ := q
        have RZ := Lib.hid rz
        have TN := Lib.hid (take_next l k hzz)
        clear rz hzz
        have i1 : IntKind.i64.wrap (300 - y) = 300 - y := IntWalk.i64_in _ (by omega)
        have k0 : (0 : Int) ≤ (k : Int) := by omega
        have k2 : (k : Int) < (l.length : Int) := by omega
        have CA : Hid (Calls Try.prog 39 #[(⟨z, A1, e1, A2, e2⟩ : At).v, .int .i64 (300 - y)] wr fun e w' => ∃ c : Int, e = .returned (.int .i64 c) ∧ 1 ≤ c ∧ c ≤ 300 * 7036874417770 ∧ (c < 300 - y → okV 12 z = true → (cntV 12 z : Int) = c) ∧ Below wr.heap.size wr w') := by
          by_cases oz : okV 12 z = true
          · refine Lib.hid ((cnt_any 12 _ d ⟨z, A1, e1, A2, e2⟩ (300 - y) (by omega) (by omega) (by omega) RZ.out oz).mono ?_)
            rintro e w2 ⟨c, he, hc0, hc1, hcc, hbc⟩
            exact ⟨c, he, hc0, by push_cast at hc1; omega, fun h1 _ => (hcc h1).symm, hbc⟩
          · refine Lib.hid ((all_any d _ ⟨z, A1, e1, A2, e2⟩ (300 - y) (by omega) (by omega) RZ.out).mono ?_)
            rintro e w2 ⟨c, he, hc0, hc1, hbc⟩
            exact ⟨c, he, hc0, by omega, fun _ h => absurd h oz, hbc⟩
        go_wp2_with fail
        refine CA.out.mono ?_
        rintro e w2 ⟨c, rfl, hc0, hc1, hcc, hbc⟩
        have BB := Lib.hid (bnext hbel.out hbc)
        have HCC := Lib.hid hcc
        clear hbc hcc i1 q0 q1 q2 q3 q4 CA
        have i2 : IntKind.i64.wrap (y + c) = y + c := IntWalk.i64_in _ (by omega)
        go_wp2
        go_roundw
        case rel => exact ⟨k + 1, y + c, by omega, by go_num, rfl, by omega, by omega, Lib.hid (fun hlt' u hu ou => by
          rw [TN.out, List.mem_append] at hu
          rcases hu with hu | hu
          · have := hyc.out hm u hu ou; omega
          · have hu' : u = z := by simpa using hu
            subst hu'
            have := HCC.out (by omega) ou; omega), BB⟩
        case measure => simp [intOf]; omega
      · have hm' : 300 ≤ y := by omega
        go_wp2
        go_ret
        exact ⟨y, rfl, (fun h => by omega), hbel.out⟩
    · have HE := Lib.hid (show y < 300 → (l.length : Int) ≤ y ∧ ∀ z ∈ l, okV 12 z = true → (cntV 12 z : Int) ≤ y from fun h => ⟨by omega, by have := hyc.out h; rw [List.take_of_length_le (by omega)] at this; exact this⟩)
      go_wp2
      go_ret
      exact ⟨y, rfl, HE.out, hbel.out⟩
/-- Is it more than is looked at? If not, no text of it is long. -/
theorem lots_len (w : World) (d : Nat) (A : Option Addr) (c : Nat) (l : List V) (h : Rw w 0 w.heap.size d A c l) : Calls Try.prog 10 #[.slice A l.length c] w fun e w' => ∃ b : Bool, e = .returned (.bool b) ∧ Below w.heap.size w w' ∧ (b = false → l.length ≤ 300 ∧ ∀ z ∈ l, okV 12 z = true → (txt 12 z).length ≤ 30000) := by
  have IZ : Hid (∀ z ∈ l, intsOk 12 z) := Lib.hid (fun z hz => by
    obtain ⟨k, hk, hzk⟩ := List.getElem_of_mem hz
    obtain ⟨b, off, z2, A1, e1, A2, e2, _, _, _, hzz, _, rz⟩ := h.elem hk
    have : z2 = z := by
      rw [List.getElem?_eq_getElem hk, hzk] at hzz
      injection hzz with hzz; exact hzz.symm
    subst this
    exact ints_of_rd _ _ _ _ _ _ _ rz)
  have MC := Lib.hid (many_len w d A c l h)
  clear h
  go_enter Try.func10, Try.ntmps10
  go_wp2_with fail
  refine MC.out.mono ?_
  rintro e w1 ⟨n, rfl, hn, hb⟩
  have HB := Lib.hid hb
  have HN := Lib.hid hn
  clear hb hn
  go_wp2
  go_ret
  refine ⟨_, rfl, HB.out, fun h => ?_⟩
  have h' : n < 300 := by
    have : decide (300 ≤ n) = false := h
    simpa using this
  have h1 := HN.out h'
  refine ⟨by omega, fun z hz ho => ?_⟩
  have h2 := h1.2 z hz ho
  have h3 := txt_len 12 z ho (IZ.out z hz)
  omega
end Go.Proofs.Ytmgjiipooffggaa
