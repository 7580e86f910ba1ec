/- Carried over from an earlier seat. -/
import Derived.Test.YtllkimdlmnjoiaaGreatDoorPJ
import Derived.Test.YtllkimdlmnjoiaaGreatDoorVRr
import Derived.Deep.Cut
namespace Go.Proofs.YtllkimdlmnjoiaaGreatDoor
set_option maxRecDepth 100000
set_option maxRecDepth 100000
set_option maxRecDepth 100000
set_option maxRecDepth 100000
open Go.RowKit Go.Sort

theorem fits_v1 (t : P) (h : t.k = 1) : fitsP t = (((t.v.length : Int) == 1) && ((t.p.length : Int) == 0)) := by
  rw [show ((t.v.length : Int) == 1) = (t.v.length == 1) from nat_beq _ 1, show ((t.p.length : Int) == 0) = (t.p.length == 0) from nat_beq _ 0]; unfold fitsP; rw [h]; simp [fitsN]
theorem fits_v2 (t : P) (h : t.k = 2) : fitsP t = (((t.v.length : Int) == 1) && ((t.p.length : Int) == 0)) := by
  rw [show ((t.v.length : Int) == 1) = (t.v.length == 1) from nat_beq _ 1, show ((t.p.length : Int) == 0) = (t.p.length == 0) from nat_beq _ 0]; unfold fitsP; rw [h]; simp [fitsN]
theorem fits_v3 (t : P) (h : t.k = 3) : fitsP t = (((t.v.length : Int) == 1) && ((t.p.length : Int) == 0)) := by
  rw [show ((t.v.length : Int) == 1) = (t.v.length == 1) from nat_beq _ 1, show ((t.p.length : Int) == 0) = (t.p.length == 0) from nat_beq _ 0]; unfold fitsP; rw [h]; simp [fitsN]
theorem fits_v4 (t : P) (h : t.k = 4) : fitsP t = (((t.v.length : Int) == 1) && ((t.p.length : Int) == 0)) := by
  rw [show ((t.v.length : Int) == 1) = (t.v.length == 1) from nat_beq _ 1, show ((t.p.length : Int) == 0) = (t.p.length == 0) from nat_beq _ 0]; unfold fitsP; rw [h]; simp [fitsN]
theorem fits_v5 (t : P) (h : t.k = 5) : fitsP t = (((t.v.length : Int) == 1) && ((t.p.length : Int) == 0)) := by
  rw [show ((t.v.length : Int) == 1) = (t.v.length == 1) from nat_beq _ 1, show ((t.p.length : Int) == 0) = (t.p.length == 0) from nat_beq _ 0]; unfold fitsP; rw [h]; simp [fitsN]
theorem fits_v6 (t : P) (h : t.k = 6) : fitsP t = (((t.v.length : Int) == 1) && ((t.p.length : Int) == 0)) := by
  rw [show ((t.v.length : Int) == 1) = (t.v.length == 1) from nat_beq _ 1, show ((t.p.length : Int) == 0) = (t.p.length == 0) from nat_beq _ 0]; unfold fitsP; rw [h]; simp [fitsN]
theorem fits_v7 (t : P) (h : t.k = 7) : fitsP t = (((t.v.length : Int) == 2) && ((t.p.length : Int) == 0)) := by
  rw [show ((t.v.length : Int) == 2) = (t.v.length == 2) from nat_beq _ 2, show ((t.p.length : Int) == 0) = (t.p.length == 0) from nat_beq _ 0]; unfold fitsP; rw [h]; simp [fitsN]
theorem fits_v8 (t : P) (h : t.k = 8) : fitsP t = (((t.v.length : Int) == 2) && ((t.p.length : Int) == 0)) := by
  rw [show ((t.v.length : Int) == 2) = (t.v.length == 2) from nat_beq _ 2, show ((t.p.length : Int) == 0) = (t.p.length == 0) from nat_beq _ 0]; unfold fitsP; rw [h]; simp [fitsN]
theorem fits_v9 (t : P) (h : t.k = 9) : fitsP t = (((t.v.length : Int) == 2) && ((t.p.length : Int) == 0)) := by
  rw [show ((t.v.length : Int) == 2) = (t.v.length == 2) from nat_beq _ 2, show ((t.p.length : Int) == 0) = (t.p.length == 0) from nat_beq _ 0]; unfold fitsP; rw [h]; simp [fitsN]
theorem fits_v10 (t : P) (h : t.k = 10) : fitsP t = (decide ((t.v.length : Int) ≤ 1000) && ((t.p.length : Int) == 0)) := by
  rw [show ((t.p.length : Int) == 0) = (t.p.length == 0) from nat_beq _ 0, show decide ((t.v.length : Int) ≤ 1000) = decide (t.v.length ≤ 1000) from by rw [decide_eq_decide]; omega]; unfold fitsP; rw [h]; simp [fitsN]
theorem fits_v11 (t : P) (h : t.k = 11) : fitsP t = (decide ((t.v.length : Int) ≤ 1000) && ((t.p.length : Int) == 0)) := by
  rw [show ((t.p.length : Int) == 0) = (t.p.length == 0) from nat_beq _ 0, show decide ((t.v.length : Int) ≤ 1000) = decide (t.v.length ≤ 1000) from by rw [decide_eq_decide]; omega]; unfold fitsP; rw [h]; simp [fitsN]
theorem fits_v12 (t : P) (h : t.k = 12) : fitsP t = (((t.v.length : Int) == 0) && ((t.p.length : Int) == 1)) := by
  rw [show ((t.v.length : Int) == 0) = (t.v.length == 0) from nat_beq _ 0, show ((t.p.length : Int) == 1) = (t.p.length == 1) from nat_beq _ 1]; unfold fitsP; rw [h]; simp [fitsN]
theorem fits_v13 (t : P) (h : t.k = 13) : fitsP t = (((t.v.length : Int) == 0) && (decide (2 ≤ (t.p.length : Int)) && decide ((t.p.length : Int) ≤ 1000))) := by
  rw [show ((t.v.length : Int) == 0) = (t.v.length == 0) from nat_beq _ 0, show decide (2 ≤ (t.p.length : Int)) = decide (2 ≤ t.p.length) from by rw [decide_eq_decide]; omega, show decide ((t.p.length : Int) ≤ 1000) = decide (t.p.length ≤ 1000) from by rw [decide_eq_decide]; omega]; unfold fitsP; rw [h]; simp [fitsN]
theorem fits_v14 (t : P) (h : t.k = 14) : fitsP t = (((t.v.length : Int) == 0) && (decide (2 ≤ (t.p.length : Int)) && decide ((t.p.length : Int) ≤ 1000))) := by
  rw [show ((t.v.length : Int) == 0) = (t.v.length == 0) from nat_beq _ 0, show decide (2 ≤ (t.p.length : Int)) = decide (2 ≤ t.p.length) from by rw [decide_eq_decide]; omega, show decide ((t.p.length : Int) ≤ 1000) = decide (t.p.length ≤ 1000) from by rw [decide_eq_decide]; omega]; unfold fitsP; rw [h]; simp [fitsN]
theorem fits_none (t : P) (h : t.k < 1 ∨ 14 < t.k) : fitsP t = false := by unfold fitsP fitsN; repeat (rw [if_neg (by omega)])

theorem all_next {α : Type} (p : α → Bool) (l : List α) (k : Nat) {x : α} (hx : l[k]? = some x) : (l.take (k + 1)).all p = ((l.take k).all p && p x) := by
  obtain ⟨h1, e1⟩ := List.getElem?_eq_some_iff.1 hx
  rw [List.take_succ_eq_append_getElem h1, e1, List.all_append]; simp
theorem all_stop {α : Type} (p : α → Bool) (l : List α) (k : Nat) {x : α} (hx : l[k]? = some x) (h : p x = false) : l.all p = false := by
  rw [List.all_eq_false]; exact ⟨x, List.mem_of_getElem? hx, by simp [h]⟩

def RightOk (r : Nat) : Prop :=
  ∀ (w : World) (d : Nat) (x : Pt) (lev : Int), lev = 13 - r → r ≤ 12 → x.In w d →
    Calls Tryz.prog 83 #[x.val, .int .i64 lev] w fun e w' => e = .returned (.bool (okP r x.t)) ∧ Below w.heap.size w w'

set_option maxHeartbeats 6400000 in
theorem right_step (r : Nat) (ih : ∀ s, r = s + 1 → RightOk s) : RightOk r := by
  intro w d x lev hlev hr hx
  obtain ⟨d', rfl⟩ := hx.pos
  obtain ⟨n, rv⟩ := hx.2.1
  have RV := Lib.hid rv
  have RP := Lib.hid hx.2.2
  have hbv := rv.big
  have hbp := hx.2.2.big
  have IH := Lib.hid ih
  have HLEV := Lib.hid (And.intro hlev hr)
  clear hx rv ih hlev hr
  unfold Pt.val
  go_enter Tryz.func83, Tryz.ntmps83
  go_upto_region 1 with fail
  have k1 := BP.new w x
  generalize hW : World.alloc w _ = W
  have K1 : Hid (BP W w.heap.size x) := Lib.hid (by rw [← hW]; exact k1)
  have HB : Hid (Below w.heap.size w W) := Lib.hid (by rw [← hW]; exact below_new _ _)
  obtain ⟨a0, a1, a2, _⟩ := K1.out
  clear hW k1
  go_upto_region 4 with fail
  iterate 10 (first | go_says fail | go_values | go_skip | go_guarded | go_step | go_upon | go_back)
  go_cut [7] from 11 (fun s7 wx => s7 = .bool (fitsP x.t) ∧ wx = W)
  case first =>
    by_cases hk : x.t.k < 1 ∨ 14 < x.t.k
    · have F := Lib.hid (fits_none x.t hk)
      have n1 : (x.t.k == 1) = false := beq_eq_false_iff_ne.2 (by omega)
      have n2 : (x.t.k == 2) = false := beq_eq_false_iff_ne.2 (by omega)
      have n3 : (x.t.k == 3) = false := beq_eq_false_iff_ne.2 (by omega)
      have n4 : (x.t.k == 4) = false := beq_eq_false_iff_ne.2 (by omega)
      have n5 : (x.t.k == 5) = false := beq_eq_false_iff_ne.2 (by omega)
      have n6 : (x.t.k == 6) = false := beq_eq_false_iff_ne.2 (by omega)
      have n7 : (x.t.k == 7) = false := beq_eq_false_iff_ne.2 (by omega)
      have n8 : (x.t.k == 8) = false := beq_eq_false_iff_ne.2 (by omega)
      have n9 : (x.t.k == 9) = false := beq_eq_false_iff_ne.2 (by omega)
      have n10 : (x.t.k == 10) = false := beq_eq_false_iff_ne.2 (by omega)
      have n11 : (x.t.k == 11) = false := beq_eq_false_iff_ne.2 (by omega)
      have n12 : (x.t.k == 12) = false := beq_eq_false_iff_ne.2 (by omega)
      have n13 : (x.t.k == 13) = false := beq_eq_false_iff_ne.2 (by omega)
      have n14 : (x.t.k == 14) = false := beq_eq_false_iff_ne.2 (by omega)
      clear hk
      go_wp2_with fail
      go_meet
      exact ⟨by rw [F.out], rfl⟩
    · obtain h | h | h | h | h | h | h | h | h | h | h | h | h | h : x.t.k = 1 ∨ x.t.k = 2 ∨ x.t.k = 3 ∨ x.t.k = 4 ∨ x.t.k = 5 ∨ x.t.k = 6 ∨ x.t.k = 7 ∨ x.t.k = 8 ∨ x.t.k = 9 ∨ x.t.k = 10 ∨ x.t.k = 11 ∨ x.t.k = 12 ∨ x.t.k = 13 ∨ x.t.k = 14 := by omega
      · have F := Lib.hid (fits_v1 x.t h)
        have n1 : (x.t.k == 1) = true := by rw [h]; rfl
        clear h hk
        cases h1 : ((x.t.v.length : Int) == 1) <;> cases h2 : ((x.t.p.length : Int) == 0)
        all_goals
          rw [h1, h2] at F
          go_wp2_with fail
          go_meet
          exact ⟨by rw [F.out]; first | rfl | (simp only [h1, h2]; rfl), rfl⟩
      · have F := Lib.hid (fits_v2 x.t h)
        have n1 : (x.t.k == 1) = false := by rw [h]; rfl
        have n2 : (x.t.k == 2) = true := by rw [h]; rfl
        clear h hk
        cases h1 : ((x.t.v.length : Int) == 1) <;> cases h2 : ((x.t.p.length : Int) == 0)
        all_goals
          rw [h1, h2] at F
          go_wp2_with fail
          go_meet
          exact ⟨by rw [F.out]; first | rfl | (simp only [h1, h2]; rfl), rfl⟩
      · have F := Lib.hid (fits_v3 x.t h)
        have n1 : (x.t.k == 1) = false := by rw [h]; rfl
        have n2 : (x.t.k == 2) = false := by rw [h]; rfl
        have n3 : (x.t.k == 3) = true := by rw [h]; rfl
        clear h hk
        cases h1 : ((x.t.v.length : Int) == 1) <;> cases h2 : ((x.t.p.length : Int) == 0)
        all_goals
          rw [h1, h2] at F
          go_wp2_with fail
          go_meet
          exact ⟨by rw [F.out]; first | rfl | (simp only [h1, h2]; rfl), rfl⟩
      · have F := Lib.hid (fits_v4 x.t h)
        have n1 : (x.t.k == 1) = false := by rw [h]; rfl
        have n2 : (x.t.k == 2) = false := by rw [h]; rfl
        have n3 : (x.t.k == 3) = false := by rw [h]; rfl
        have n4 : (x.t.k == 4) = true := by rw [h]; rfl
        clear h hk
        cases h1 : ((x.t.v.length : Int) == 1) <;> cases h2 : ((x.t.p.length : Int) == 0)
        all_goals
          rw [h1, h2] at F
          go_wp2_with fail
          go_meet
          exact ⟨by rw [F.out]; first | rfl | (simp only [h1, h2]; rfl), rfl⟩
      · have F := Lib.hid (fits_v5 x.t h)
        have n1 : (x.t.k == 1) = false := by rw [h]; rfl
        have n2 : (x.t.k == 2) = false := by rw [h]; rfl
        have n3 : (x.t.k == 3) = false := by rw [h]; rfl
        have n4 : (x.t.k == 4) = false := by rw [h]; rfl
        have n5 : (x.t.k == 5) = true := by rw [h]; rfl
        clear h hk
        cases h1 : ((x.t.v.length : Int) == 1) <;> cases h2 : ((x.t.p.length : Int) == 0)
        all_goals
          rw [h1, h2] at F
          go_wp2_with fail
          go_meet
          exact ⟨by rw [F.out]; first | rfl | (simp only [h1, h2]; rfl), rfl⟩
      · have F := Lib.hid (fits_v6 x.t h)
        have n1 : (x.t.k == 1) = false := by rw [h]; rfl
        have n2 : (x.t.k == 2) = false := by rw [h]; rfl
        have n3 : (x.t.k == 3) = false := by rw [h]; rfl
        have n4 : (x.t.k == 4) = false := by rw [h]; rfl
        have n5 : (x.t.k == 5) = false := by rw [h]; rfl
        have n6 : (x.t.k == 6) = true := by rw [h]; rfl
        clear h hk
        cases h1 : ((x.t.v.length : Int) == 1) <;> cases h2 : ((x.t.p.length : Int) == 0)
        all_goals
          rw [h1, h2] at F
          go_wp2_with fail
          go_meet
          exact ⟨by rw [F.out]; first | rfl | (simp only [h1, h2]; rfl), rfl⟩
      · have F := Lib.hid (fits_v7 x.t h)
        have n1 : (x.t.k == 1) = false := by rw [h]; rfl
        have n2 : (x.t.k == 2) = false := by rw [h]; rfl
        have n3 : (x.t.k == 3) = false := by rw [h]; rfl
        have n4 : (x.t.k == 4) = false := by rw [h]; rfl
        have n5 : (x.t.k == 5) = false := by rw [h]; rfl
        have n6 : (x.t.k == 6) = false := by rw [h]; rfl
        have n7 : (x.t.k == 7) = true := by rw [h]; rfl
        clear h hk
        cases h1 : ((x.t.v.length : Int) == 2) <;> cases h2 : ((x.t.p.length : Int) == 0)
        all_goals
          rw [h1, h2] at F
          go_wp2_with fail
          go_meet
          exact ⟨by rw [F.out]; first | rfl | (simp only [h1, h2]; rfl), rfl⟩
      · have F := Lib.hid (fits_v8 x.t h)
        have n1 : (x.t.k == 1) = false := by rw [h]; rfl
        have n2 : (x.t.k == 2) = false := by rw [h]; rfl
        have n3 : (x.t.k == 3) = false := by rw [h]; rfl
        have n4 : (x.t.k == 4) = false := by rw [h]; rfl
        have n5 : (x.t.k == 5) = false := by rw [h]; rfl
        have n6 : (x.t.k == 6) = false := by rw [h]; rfl
        have n7 : (x.t.k == 7) = false := by rw [h]; rfl
        have n8 : (x.t.k == 8) = true := by rw [h]; rfl
        clear h hk
        cases h1 : ((x.t.v.length : Int) == 2) <;> cases h2 : ((x.t.p.length : Int) == 0)
        all_goals
          rw [h1, h2] at F
          go_wp2_with fail
          go_meet
          exact ⟨by rw [F.out]; first | rfl | (simp only [h1, h2]; rfl), rfl⟩
      · have F := Lib.hid (fits_v9 x.t h)
        have n1 : (x.t.k == 1) = false := by rw [h]; rfl
        have n2 : (x.t.k == 2) = false := by rw [h]; rfl
        have n3 : (x.t.k == 3) = false := by rw [h]; rfl
        have n4 : (x.t.k == 4) = false := by rw [h]; rfl
        have n5 : (x.t.k == 5) = false := by rw [h]; rfl
        have n6 : (x.t.k == 6) = false := by rw [h]; rfl
        have n7 : (x.t.k == 7) = false := by rw [h]; rfl
        have n8 : (x.t.k == 8) = false := by rw [h]; rfl
        have n9 : (x.t.k == 9) = true := by rw [h]; rfl
        clear h hk
        cases h1 : ((x.t.v.length : Int) == 2) <;> cases h2 : ((x.t.p.length : Int) == 0)
        all_goals
          rw [h1, h2] at F
          go_wp2_with fail
          go_meet
          exact ⟨by rw [F.out]; first | rfl | (simp only [h1, h2]; rfl), rfl⟩
      · have F := Lib.hid (fits_v10 x.t h)
        have n1 : (x.t.k == 1) = false := by rw [h]; rfl
        have n2 : (x.t.k == 2) = false := by rw [h]; rfl
        have n3 : (x.t.k == 3) = false := by rw [h]; rfl
        have n4 : (x.t.k == 4) = false := by rw [h]; rfl
        have n5 : (x.t.k == 5) = false := by rw [h]; rfl
        have n6 : (x.t.k == 6) = false := by rw [h]; rfl
        have n7 : (x.t.k == 7) = false := by rw [h]; rfl
        have n8 : (x.t.k == 8) = false := by rw [h]; rfl
        have n9 : (x.t.k == 9) = false := by rw [h]; rfl
        have n10 : (x.t.k == 10) = true := by rw [h]; rfl
        clear h hk
        cases h1 : decide ((x.t.v.length : Int) ≤ 1000) <;> cases h2 : ((x.t.p.length : Int) == 0)
        all_goals
          rw [h1, h2] at F
          go_wp2_with fail
          go_meet
          exact ⟨by rw [F.out]; first | rfl | (simp only [h1, h2]; rfl), rfl⟩
      · have F := Lib.hid (fits_v11 x.t h)
        have n1 : (x.t.k == 1) = false := by rw [h]; rfl
        have n2 : (x.t.k == 2) = false := by rw [h]; rfl
        have n3 : (x.t.k == 3) = false := by rw [h]; rfl
        have n4 : (x.t.k == 4) = false := by rw [h]; rfl
        have n5 : (x.t.k == 5) = false := by rw [h]; rfl
        have n6 : (x.t.k == 6) = false := by rw [h]; rfl
        have n7 : (x.t.k == 7) = false := by rw [h]; rfl
        have n8 : (x.t.k == 8) = false := by rw [h]; rfl
        have n9 : (x.t.k == 9) = false := by rw [h]; rfl
        have n10 : (x.t.k == 10) = false := by rw [h]; rfl
        have n11 : (x.t.k == 11) = true := by rw [h]; rfl
        clear h hk
        cases h1 : decide ((x.t.v.length : Int) ≤ 1000) <;> cases h2 : ((x.t.p.length : Int) == 0)
        all_goals
          rw [h1, h2] at F
          go_wp2_with fail
          go_meet
          exact ⟨by rw [F.out]; first | rfl | (simp only [h1, h2]; rfl), rfl⟩
      · have F := Lib.hid (fits_v12 x.t h)
        have n1 : (x.t.k == 1) = false := by rw [h]; rfl
        have n2 : (x.t.k == 2) = false := by rw [h]; rfl
        have n3 : (x.t.k == 3) = false := by rw [h]; rfl
        have n4 : (x.t.k == 4) = false := by rw [h]; rfl
        have n5 : (x.t.k == 5) = false := by rw [h]; rfl
        have n6 : (x.t.k == 6) = false := by rw [h]; rfl
        have n7 : (x.t.k == 7) = false := by rw [h]; rfl
        have n8 : (x.t.k == 8) = false := by rw [h]; rfl
        have n9 : (x.t.k == 9) = false := by rw [h]; rfl
        have n10 : (x.t.k == 10) = false := by rw [h]; rfl
        have n11 : (x.t.k == 11) = false := by rw [h]; rfl
        have n12 : (x.t.k == 12) = true := by rw [h]; rfl
        clear h hk
        cases h1 : ((x.t.v.length : Int) == 0) <;> cases h2 : ((x.t.p.length : Int) == 1)
        all_goals
          rw [h1, h2] at F
          go_wp2_with fail
          go_meet
          exact ⟨by rw [F.out]; first | rfl | (simp only [h1, h2]; rfl), rfl⟩
      · have F := Lib.hid (fits_v13 x.t h)
        have n1 : (x.t.k == 1) = false := by rw [h]; rfl
        have n2 : (x.t.k == 2) = false := by rw [h]; rfl
        have n3 : (x.t.k == 3) = false := by rw [h]; rfl
        have n4 : (x.t.k == 4) = false := by rw [h]; rfl
        have n5 : (x.t.k == 5) = false := by rw [h]; rfl
        have n6 : (x.t.k == 6) = false := by rw [h]; rfl
        have n7 : (x.t.k == 7) = false := by rw [h]; rfl
        have n8 : (x.t.k == 8) = false := by rw [h]; rfl
        have n9 : (x.t.k == 9) = false := by rw [h]; rfl
        have n10 : (x.t.k == 10) = false := by rw [h]; rfl
        have n11 : (x.t.k == 11) = false := by rw [h]; rfl
        have n12 : (x.t.k == 12) = false := by rw [h]; rfl
        have n13 : (x.t.k == 13) = true := by rw [h]; rfl
        clear h hk
        cases h1 : ((x.t.v.length : Int) == 0) <;> cases h2 : decide (2 ≤ (x.t.p.length : Int)) <;> cases h3 : decide ((x.t.p.length : Int) ≤ 1000)
        all_goals
          rw [h1, h2, h3] at F
          go_wp2_with fail
          go_meet
          exact ⟨by rw [F.out]; first | rfl | (simp only [h1, h2, h3]; rfl), rfl⟩
      · have F := Lib.hid (fits_v14 x.t h)
        have n1 : (x.t.k == 1) = false := by rw [h]; rfl
        have n2 : (x.t.k == 2) = false := by rw [h]; rfl
        have n3 : (x.t.k == 3) = false := by rw [h]; rfl
        have n4 : (x.t.k == 4) = false := by rw [h]; rfl
        have n5 : (x.t.k == 5) = false := by rw [h]; rfl
        have n6 : (x.t.k == 6) = false := by rw [h]; rfl
        have n7 : (x.t.k == 7) = false := by rw [h]; rfl
        have n8 : (x.t.k == 8) = false := by rw [h]; rfl
        have n9 : (x.t.k == 9) = false := by rw [h]; rfl
        have n10 : (x.t.k == 10) = false := by rw [h]; rfl
        have n11 : (x.t.k == 11) = false := by rw [h]; rfl
        have n12 : (x.t.k == 12) = false := by rw [h]; rfl
        have n13 : (x.t.k == 13) = false := by rw [h]; rfl
        have n14 : (x.t.k == 14) = true := by rw [h]; rfl
        clear h hk
        cases h1 : ((x.t.v.length : Int) == 0) <;> cases h2 : decide (2 ≤ (x.t.p.length : Int)) <;> cases h3 : decide ((x.t.p.length : Int) ≤ 1000)
        all_goals
          rw [h1, h2, h3] at F
          go_wp2_with fail
          go_meet
          exact ⟨by rw [F.out]; first | rfl | (simp only [h1, h2, h3]; rfl), rfl⟩
  case rest =>
    obtain ⟨rfl, rfl⟩ := hcut
    clear a0 a1 a2
    cases hf : fitsP x.t
    · have FIN := Lib.hid (show okP r x.t = false by cases r with | zero => rfl | succ r => exact okP_0 r x.t hf)
      clear hf
      go_wp2
      go_ret
      exact ⟨by rw [FIN.out]; rfl, HB.out⟩
    · cases r with
      | zero =>
        have hl : 12 < lev := by have := HLEV.out.1; omega
        clear hf
        go_wp2
        go_ret
        exact ⟨by rfl, HB.out⟩
      | succ r =>
        have hl : lev ≤ 12 := by have := HLEV.out.1; omega
        have hl0 : 1 ≤ lev := by have := HLEV.out; omega
        have HF := Lib.hid hf
        clear hf
        go_wp2
        go_loopw [8] (fun i wr => ∃ k : Nat, k ≤ x.t.v.length ∧ i = .int .i64 k ∧ Hid ((x.t.v.take k).all (okV 12) = true) ∧ Hid (Below wc.heap.size wc wr)) (fun i _ => x.t.v.length - (intOf i).toNat)
        case atStart => exact ⟨0, by omega, rfl, Lib.hid (by simp), Lib.hid (Below.refl _ _)⟩
        case round =>
          obtain ⟨k, hk, rfl, hall, hbel⟩ := hrel
          by_cases hlt : k < x.t.v.length
          · obtain ⟨a0, a1, a2, _⟩ := K1.out.next hbel.out
            obtain ⟨b, off, z, A1, c1, A2, c2, eA, _, hb, hz, q, rz⟩ := (RV.out.next (bnext HB.out hbel.out)).elem hlt
            rw [eA] at a1
            obtain ⟨q0, q1, q2, q3, q4⟩ := q
            have RZ := Lib.hid rz
            have NX := Lib.hid (all_next (okV 12) x.t.v k hz)
            have ST := Lib.hid (all_stop (okV 12) x.t.v k hz)
            have i0 : (0 : Int) ≤ (k : Int) := by omega
            have i2 : (k : Int) < (x.t.v.length : Int) := by omega
            clear rz hz eA
            go_wp2_with fail
            refine (refCheck_at _ n ⟨z, A1, c1, A2, c2⟩ RZ.out).mono ?_
            rintro e w1 ⟨rfl, hb1⟩
            have HB1 := Lib.hid (bnext hbel.out hb1)
            clear hb1 a0 a1 a2 q0 q1 q2 q3 q4
            cases hq : okV 12 z
            · have FIN := Lib.hid (show okP (r + 1) x.t = false by have := ST.out hq; simp [okP, this])
              clear hq
              go_wp2
              go_ret
              exact ⟨by rw [FIN.out]; rfl, bnext HB.out HB1.out⟩
            · have HQ := Lib.hid hq
              clear hq
              go_wp2
              go_roundw
              case rel => exact ⟨k + 1, by omega, by go_num, Lib.hid (by rw [NX.out, hall.out, HQ.out]; rfl), HB1⟩
              case measure => simp [intOf]; omega
          · have ALL := Lib.hid (show x.t.v.all (okV 12) = true by have := hall.out; rwa [List.take_of_length_le (by omega)] at this)
            have B0 := Lib.hid (bnext HB.out hbel.out)
            have K2 := Lib.hid (K1.out.next hbel.out)
            clear hall hbel
            go_wp2
            obtain ⟨wo, hwo⟩ : ∃ q, q = wr := ⟨_, rfl⟩
            subst hwo
            go_loopw [10] (fun i wr => ∃ k : Nat, k ≤ x.t.p.length ∧ i = .int .i64 k ∧ Hid ((x.t.p.take k).all (okP r) = true) ∧ Hid (Below wo.heap.size wo wr)) (fun i _ => x.t.p.length - (intOf i).toNat)
            case atStart => exact ⟨0, by omega, rfl, Lib.hid (by simp), Lib.hid (Below.refl _ _)⟩
            case round =>
              obtain ⟨k, hk, rfl, hall, hbel⟩ := hrel
              by_cases hlt : k < x.t.p.length
              · obtain ⟨a0, a1, a2, _⟩ := K2.out.next hbel.out
                obtain ⟨b, off, z, eA, _, hb, hz, q, rz⟩ := (RP.out.next (bnext B0.out hbel.out)).elem hlt
                rw [eA] at a2
                obtain ⟨q0, q1, q2⟩ := q
                have RZ := Lib.hid rz
                have NX := Lib.hid (all_next (okP r) x.t.p k hz)
                have ST := Lib.hid (all_stop (okP r) x.t.p k hz)
                have i0 : (0 : Int) ≤ (k : Int) := by omega
                have i2 : (k : Int) < (x.t.p.length : Int) := by omega
                have i3 : IntKind.i64.wrap (lev + 1) = lev + 1 := IntWalk.i64_in _ (by omega)
                clear rz hz eA
                go_wp2_with fail
                refine (IH.out r rfl _ d' z (lev + 1) (by have := HLEV.out.1; omega) (by have := HLEV.out.2; omega) RZ.out).mono ?_
                rintro e w1 ⟨rfl, hb1⟩
                have HB1 := Lib.hid (bnext hbel.out hb1)
                clear hb1 a0 a1 a2 q0 q1 q2 i3
                cases hq : okP r z.t
                · have FIN := Lib.hid (show okP (r + 1) x.t = false by have := ST.out hq; simp [okP, this])
                  clear hq
                  go_wp2
                  go_ret
                  exact ⟨by rw [FIN.out]; rfl, bnext B0.out HB1.out⟩
                · have HQ := Lib.hid hq
                  clear hq
                  go_wp2
                  go_roundw
                  case rel => exact ⟨k + 1, by omega, by go_num, Lib.hid (by rw [NX.out, hall.out, HQ.out]; rfl), HB1⟩
                  case measure => simp [intOf]; omega
              · have FIN := Lib.hid (show okP (r + 1) x.t = true by have h := hall.out; rw [List.take_of_length_le (by omega)] at h; show (fitsP x.t && x.t.v.all (okV 12) && x.t.p.all (okP r)) = true; rw [HF.out, ALL.out, h]; rfl)
                go_wp2
                go_ret
                exact ⟨by rw [FIN.out]; rfl, bnext B0.out hbel.out⟩
theorem right_p : ∀ r, RightOk r
  | 0 => right_step 0 (fun _ h => by omega)
  | r + 1 => right_step (r + 1) (fun s h => by obtain rfl : r = s := by omega
                                               exact right_p r)
set_option maxHeartbeats 800000 in
theorem refPCheck (w : World) (d : Nat) (x : Pt) (hx : x.In w d) :
    Calls Tryz.prog 59 #[x.val] w fun e w' => e = .returned (.int .i64 (errI (okP 12 x.t))) ∧ Below w.heap.size w w' := by
  have b0 := below_new w (.cells #[.int .i64 x.t.k, .slice x.A x.t.v.length x.c, .slice x.A' x.t.p.length x.c'] 80)
  have CK := Lib.hid (right_p 12 _ d x 1 (by omega) (by omega) (hx.next b0))
  have B0 := Lib.hid b0
  clear hx b0
  generalize okP 12 x.t = b at *
  unfold Pt.val at *
  go_enter Tryz.func59, Tryz.ntmps59
  go_wp2_with fail
  refine CK.out.mono ?_
  rintro e w1 ⟨rfl, hb1⟩
  have HB := Lib.hid (bnext B0.out hb1)
  clear hb1
  cases b
  · go_wp2
    go_ret
    exact ⟨by rfl, HB.out⟩
  · go_wp2
    go_ret
    exact ⟨by rfl, HB.out⟩
end Go.Proofs.YtllkimdlmnjoiaaGreatDoor




