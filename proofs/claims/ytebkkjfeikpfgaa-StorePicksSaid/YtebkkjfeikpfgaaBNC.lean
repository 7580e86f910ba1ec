/- Carried over from an earlier seat. -/
import Derived.Test.YtebkkjfeikpfgaaBNA
import Derived.Test.YtebkkjfeikpfgaaBVRr
namespace Go.Proofs.Ytebkkjfeikpfgaa
set_option maxRecDepth 100000
open Go.RowKit Go.Sort
set_option maxRecDepth 100000

set_option maxHeartbeats 1600000 in
theorem rowSingle_any (w : World) (d : Nat) (x : At) (hx : x.In w d) : Calls Try.prog 93 #[x.v] w fun e w' => e = .returned (.bool (decide (x.t.k = 6) && x.t.l.all singB)) ∧ Below w.heap.size w w' := by
  obtain ⟨d0, rfl⟩ := hx.pos
  have HX := Lib.hid hx
  clear hx
  by_cases h6 : x.t.k = 6
  · have b6 : (x.t.k == 6) = true := by simp [h6]
    have HV : Hid ((decide (x.t.k = 6) && x.t.l.all singB) = x.t.l.all singB) := Lib.hid (by simp [h6])
    clear h6
    go_enter Try.func93, Try.ntmps93
    go_upto_region 1 with fail
    have bx := Bx.new w x
    generalize hW : World.alloc w _ = W at bx
    have HB := Lib.hid (show Below w.heap.size w W by rw [← hW]; exact below_new _ _)
    clear hW
    obtain ⟨a0, a1, a2, a3, a4, _⟩ := bx
    go_wp2_with fail
    refine (containsSingle W d0 x.A x.c x.t.l (HX.out.next HB.out).2.1).mono ?_
    rintro e w1 ⟨rfl, hb1⟩
    have B1 := Lib.hid (bnext HB.out hb1)
    clear hb1 a0 a1 a2 a3 a4
    go_wp2
    go_ret
    exact ⟨by rw [HV.out]; rfl, B1.out⟩
  · have b6 : (x.t.k == 6) = false := by simp [h6]
    have HV : Hid ((decide (x.t.k = 6) && x.t.l.all singB) = false) := Lib.hid (by simp [h6])
    clear h6
    go_enter Try.func93, Try.ntmps93
    go_upto_region 1 with fail
    have bx := Bx.new w x
    generalize hW : World.alloc w _ = W at bx
    have HB := Lib.hid (show Below w.heap.size w W by rw [← hW]; exact below_new _ _)
    clear hW
    obtain ⟨a0, a1, a2, a3, a4, _⟩ := bx
    go_wp2
    go_ret
    exact ⟨by rw [HV.out]; rfl, HB.out⟩

set_option maxHeartbeats 1600000 in
theorem plain_any (w : World) (d : Nat) (x : At) (hx : x.In w d) : Calls Try.prog 87 #[x.v] w fun e w' => e = .returned (.bool (plainB x.t)) ∧ Below w.heap.size w w' := by
  have HX := Lib.hid hx
  clear hx
  go_enter Try.func87, Try.ntmps87
  go_upto_region 1 with fail
  have bx := Bx.new w x
  generalize hW : World.alloc w _ = W at bx
  have HB := Lib.hid (show Below w.heap.size w W by rw [← hW]; exact below_new _ _)
  clear hW
  have BX := Lib.hid bx
  obtain ⟨a0, a1, a2, a3, a4, _⟩ := bx
  go_wp2_with fail
  refine (single_any W x.t x.A x.c x.A' x.c').mono ?_
  rintro e w1 ⟨rfl, hb1⟩
  have B1 := Lib.hid (bnext HB.out hb1)
  have BX1 := Lib.hid (BX.out.next hb1)
  clear hb1 a0 a1 a2 a3 a4 BX
  obtain ⟨a0, a1, a2, a3, a4, _⟩ := BX1.out
  cases hs : singB x.t
  · go_wp2_with fail
    refine (rowSingle_any w1 d x (HX.out.next B1.out)).mono ?_
    rintro e w2 ⟨rfl, hb2⟩
    have B2 := Lib.hid (bnext B1.out hb2)
    have BX2 := Lib.hid (BX1.out.next hb2)
    clear hb2 a0 a1 a2 a3 a4 BX1
    obtain ⟨a0, a1, a2, a3, a4, _⟩ := BX2.out
    have HV : Hid (plainB x.t = ((decide (x.t.k = 6) && x.t.l.all singB) && okV 12 x.t)) := Lib.hid (by unfold plainB; rw [hs]; rfl)
    clear hs
    generalize (decide (x.t.k = 6) && x.t.l.all singB) = b at HV
    cases b
    · go_wp2
      go_ret
      exact ⟨by rw [HV.out]; rfl, B2.out⟩
    · go_wp2_with fail
      refine (check_any w2 d x.t x.A x.c x.A' x.c' (HX.out.next B2.out)).mono ?_
      rintro e w3 ⟨rfl, hb3⟩
      have B3 := Lib.hid (bnext B2.out hb3)
      clear hb3 a0 a1 a2 a3 a4
      generalize okV 12 x.t = o at HV
      cases o
      all_goals
        go_wp2
        go_ret
        exact ⟨by rw [HV.out]; rfl, B3.out⟩
  · go_wp2_with fail
    refine (check_any w1 d x.t x.A x.c x.A' x.c' (HX.out.next B1.out)).mono ?_
    rintro e w3 ⟨rfl, hb3⟩
    have B3 := Lib.hid (bnext B1.out hb3)
    have HV : Hid (plainB x.t = okV 12 x.t) := Lib.hid (by unfold plainB; rw [hs]; rfl)
    clear hb3 a0 a1 a2 a3 a4 hs
    generalize okV 12 x.t = o at HV
    cases o
    all_goals
      go_wp2
      go_ret
      exact ⟨by rw [HV.out]; rfl, B3.out⟩

theorem ok_kind {r : Nat} {t : V} (h : okV (r + 1) t = true) : 1 ≤ t.k ∧ (t.k ≤ 3 → t.l = []) := by
  have hf : fitsV t = true := by
    unfold okV at h
    simp only [Bool.and_eq_true] at h
    exact h.1.1.1
  unfold fitsV noItems at hf
  by_cases h1 : t.k = 1
  · rw [if_pos h1] at hf
    simp at hf
    exact ⟨by omega, fun _ => hf.2.1⟩
  · rw [if_neg h1] at hf
    by_cases h2 : t.k = 2
    · rw [if_pos h2] at hf
      simp at hf
      exact ⟨by omega, fun _ => hf.2.1⟩
    · rw [if_neg h2] at hf
      by_cases h3 : t.k = 3
      · rw [if_pos h3] at hf
        simp at hf
        exact ⟨by omega, fun _ => hf.2.1⟩
      · rw [if_neg h3] at hf
        by_cases h4 : t.k = 4 ∨ t.k = 5
        · exact ⟨by omega, fun _ => by omega⟩
        · rw [if_neg h4] at hf
          by_cases h6 : t.k = 6 ∨ t.k = 8
          · exact ⟨by omega, fun _ => by omega⟩
          · rw [if_neg h6] at hf
            by_cases h7 : t.k = 7
            · exact ⟨by omega, fun _ => by omega⟩
            · rw [if_neg h7] at hf
              cases hf
def low3 (x : V) : Bool := decide (x.k ≤ 3)
theorem plain_ref {t : V} (h : okV 12 t = true) : plainB t = (decide (t.k ≤ 3 ∨ t.k = 6) && t.l.all low3) := by
  obtain ⟨k1, kl⟩ := ok_kind (r := 11) h
  unfold plainB
  rw [h, Bool.and_true]
  have hs : ∀ x ∈ t.l, singB x = low3 x := fun x hx => by
    have := (ok_kind (r := 10) (((ok_parts 11 t).1 h).2.1 x hx)).1
    unfold singB low3
    by_cases h3 : x.k ≤ 3
    · have : x.k = 1 ∨ x.k = 2 ∨ x.k = 3 := by omega
      rcases this with e | e | e <;> simp [e]
    · simp [h3]; omega
  have ha : t.l.all singB = t.l.all low3 := by
    rw [Bool.eq_iff_iff, List.all_eq_true, List.all_eq_true]
    exact ⟨fun h x hx => by rw [← hs x hx]; exact h x hx, fun h x hx => by rw [hs x hx]; exact h x hx⟩
  rw [ha]
  by_cases h3 : t.k ≤ 3
  · have e : singB t = true := by
      unfold singB
      have : t.k = 1 ∨ t.k = 2 ∨ t.k = 3 := by omega
      rcases this with e | e | e <;> simp [e]
    rw [e, kl h3]
    simp [h3]
  · have e : singB t = false := by unfold singB; simp; omega
    rw [e]
    simp [h3]

set_option maxHeartbeats 1600000 in
theorem refPlain_any (w : World) (d : Nat) (x : At) (hx : x.In w d) : Calls Try.prog 50 #[x.v] w fun e w' => e = .returned (.bool (plainB x.t)) ∧ Below w.heap.size w w' := by
  obtain ⟨d0, rfl⟩ := hx.pos
  have HX := Lib.hid hx
  clear hx
  go_enter Try.func50, Try.ntmps50
  go_upto_region 1 with fail
  have bx := Bx.new w x
  generalize hW : World.alloc w _ = W at bx
  have HB := Lib.hid (show Below w.heap.size w W by rw [← hW]; exact below_new _ _)
  clear hW
  have BX := Lib.hid bx
  obtain ⟨a0, a1, a2, a3, a4, _⟩ := bx
  go_wp2_with fail
  refine (refCheck_at W (d0 + 1) x (HX.out.next HB.out)).mono ?_
  rintro e w1 ⟨rfl, hb1⟩
  have B1 := Lib.hid (bnext HB.out hb1)
  have BX1 := Lib.hid (BX.out.next hb1)
  clear hb1 a0 a1 a2 a3 a4 BX
  obtain ⟨a0, a1, a2, a3, a4, _⟩ := BX1.out
  cases ho : okV 12 x.t
  · have HV : Hid (plainB x.t = false) := Lib.hid (by unfold plainB; rw [ho]; simp)
    have hE : errI false = 2 := rfl
    rw [hE]
    clear ho
    go_wp2
    go_ret
    exact ⟨by rw [HV.out]; rfl, B1.out⟩
  · have HP := Lib.hid (plain_ref ho)
    have hbig := HX.out.2.1.big
    have hE : errI true = 0 := rfl
    rw [hE]
    clear ho
    by_cases h3 : x.t.k ≤ 3 ∨ x.t.k = 6
    · have HP2 : Hid (plainB x.t = x.t.l.all low3) := Lib.hid (by rw [HP.out, decide_eq_true h3]; rfl)
      have hg : (3 < x.t.k ∧ (x.t.k == 6) = true) ∨ ¬ 3 < x.t.k := by
        rcases h3 with h | h
        · exact .inr (by omega)
        · exact .inl ⟨by omega, by simp [h]⟩
      clear h3 HP
      rcases hg with ⟨g1, g2⟩ | g1
      all_goals
        go_wp2_with fail
        go_loopw [4] (fun i wr => ∃ k : Nat, k ≤ x.t.l.length ∧ i = .int .i64 k ∧ wr = w1 ∧ Hid ((x.t.l.take k).all low3 = true)) (fun i _ => x.t.l.length - (intOf i).toNat)
        case atStart => exact ⟨0, by omega, rfl, rfl, Lib.hid rfl⟩
        case round =>
          obtain ⟨k, hk, rfl, rfl, hA⟩ := hrel
          by_cases hlt : k < x.t.l.length
          · obtain ⟨b, off, y, A1, c1, A2, c2, eA, _, hb, hy, q, ry⟩ := (HX.out.next B1.out).2.1.elem hlt
            obtain ⟨q0, q1, q2, q3, q4⟩ := q
            rw [eA] at a3
            have k0 : (0 : Int) ≤ (k : Int) := by omega
            have k1 : (k : Int) < (x.t.l.length : Int) := by omega
            have HY := Lib.hid hy
            by_cases hy3 : 3 < y.k
            · have HV : Hid (plainB x.t = false) := Lib.hid (by rw [HP2.out, List.all_eq_false]; exact ⟨y, List.mem_of_getElem? hy, by unfold low3; simp; omega⟩)
              clear hy ry
              go_wp2
              go_ret
              exact ⟨by rw [HV.out]; rfl, B1.out⟩
            · have HN : Hid ((x.t.l.take (k + 1)).all low3 = true) := Lib.hid (by
                obtain ⟨h1, e1⟩ := List.getElem?_eq_some_iff.1 hy
                rw [List.take_succ_eq_append_getElem h1, e1, List.all_append, hA.out]
                simp [low3]; omega)
              clear hy ry
              go_wp2
              go_roundw
              case rel => exact ⟨k + 1, by omega, by go_num, trivial, HN⟩
              case measure => simp [intOf]; omega
          · obtain rfl : k = x.t.l.length := by omega
            have HV : Hid (plainB x.t = true) := Lib.hid (by rw [HP2.out, ← List.take_length (l := x.t.l)]; exact hA.out)
            go_wp2
            go_ret
            exact ⟨by rw [HV.out]; rfl, B1.out⟩
    · have HV : Hid (plainB x.t = false) := Lib.hid (by rw [HP.out, decide_eq_false h3]; rfl)
      have g1 : 3 < x.t.k := by omega
      have g2 : (x.t.k == 6) = false := by simp; omega
      clear h3 HP
      go_wp2
      go_ret
      exact ⟨by rw [HV.out]; rfl, B1.out⟩
end Go.Proofs.Ytebkkjfeikpfgaa

