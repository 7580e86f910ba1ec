/- Carried over from an earlier seat. -/
import Derived.Test.YtllkimdlmnjoiaaGreatDoorPA
namespace Go.Proofs.YtllkimdlmnjoiaaGreatDoor
set_option maxRecDepth 100000
set_option maxRecDepth 100000
set_option maxRecDepth 100000
set_option maxRecDepth 100000
open Go.RowKit Go.Sort

/-- As many values and predicates as its kind has. -/
def fitsN (k : Int) (v n : Nat) : Bool :=
  if 1 ≤ k ∧ k ≤ 6 then v == 1 && n == 0 else if 7 ≤ k ∧ k ≤ 9 then v == 2 && n == 0 else if 10 ≤ k ∧ k ≤ 11 then decide (v ≤ 1000) && n == 0
  else if k = 12 then v == 0 && n == 1 else if 13 ≤ k ∧ k ≤ 14 then v == 0 && (decide (2 ≤ n) && decide (n ≤ 1000)) else false
def fitsP (t : P) : Bool := fitsN t.k t.v.length t.p.length
/-- The three cells of a box. -/
theorem BP.new3 (w : World) (k : Int) (v n : Nat) (A : Option Addr) (c : Nat) (A' : Option Addr) (c' : Nat) :
    (w.alloc (.cells #[.int .i64 k, .slice A v c, .slice A' n c'] 80)).cell? ⟨w.heap.size, 0, none⟩ = some (.int .i64 k) ∧ (w.alloc (.cells #[.int .i64 k, .slice A v c, .slice A' n c'] 80)).cell? ⟨w.heap.size, 1, none⟩ = some (.slice A v c) ∧ (w.alloc (.cells #[.int .i64 k, .slice A v c, .slice A' n c'] 80)).cell? ⟨w.heap.size, 2, none⟩ = some (.slice A' n c') := by
  refine ⟨?_, ?_, ?_⟩ <;> (rw [World.cell?_alloc_at _ _ _ _ rfl]; rfl)
theorem nat_beq (a : Nat) (b : Nat) : ((a : Int) == (b : Int)) = (a == b) := by
  by_cases h : a = b
  · subst h; simp
  · rw [beq_eq_false_iff_ne.2 h, beq_eq_false_iff_ne.2 (by omega)]

set_option maxHeartbeats 4000000 in
theorem pfits_1 (w : World) (v n : Nat) (A : Option Addr) (c : Nat) (A' : Option Addr) (c' : Nat) :
    Calls Tryz.prog 149 #[.agg #[.int .i64 1, .slice A v c, .slice A' n c']] w fun e w' => e = .returned (.bool (fitsN 1 v n)) ∧ Below w.heap.size w w' := by
  have e1 : fitsN 1 v n = (((v : Int) == 1) && ((n : Int) == 0)) := by
    rw [show ((v : Int) == 1) = (v == 1) from nat_beq v 1, show ((n : Int) == 0) = (n == 0) from nat_beq n 0]; simp [fitsN]
  rw [e1]; clear e1
  cases h1 : ((v : Int) == 1) <;> cases h2 : ((n : Int) == 0)
  all_goals
    go_enter Tryz.func149, Tryz.ntmps149
    go_upto_region 1 with fail
    have bx := BP.new3 w 1 v n A c A' c'
    have hb := below_new w (.cells #[.int .i64 1, .slice A v c, .slice A' n c'] 80)
    generalize hW : World.alloc w _ = W at bx hb
    obtain ⟨c0, c1, c2⟩ := bx
    clear hW
    go_quiet (fail)
    go_wp2
    go_ret
    exact ⟨by first | rfl | (simp only [h1, h2]; rfl), hb.trans (below_drewN _ _ _)⟩
set_option maxHeartbeats 4000000 in
theorem pfits_2 (w : World) (v n : Nat) (A : Option Addr) (c : Nat) (A' : Option Addr) (c' : Nat) :
    Calls Tryz.prog 149 #[.agg #[.int .i64 2, .slice A v c, .slice A' n c']] w fun e w' => e = .returned (.bool (fitsN 2 v n)) ∧ Below w.heap.size w w' := by
  have e1 : fitsN 2 v n = (((v : Int) == 1) && ((n : Int) == 0)) := by
    rw [show ((v : Int) == 1) = (v == 1) from nat_beq v 1, show ((n : Int) == 0) = (n == 0) from nat_beq n 0]; simp [fitsN]
  rw [e1]; clear e1
  cases h1 : ((v : Int) == 1) <;> cases h2 : ((n : Int) == 0)
  all_goals
    go_enter Tryz.func149, Tryz.ntmps149
    go_upto_region 1 with fail
    have bx := BP.new3 w 2 v n A c A' c'
    have hb := below_new w (.cells #[.int .i64 2, .slice A v c, .slice A' n c'] 80)
    generalize hW : World.alloc w _ = W at bx hb
    obtain ⟨c0, c1, c2⟩ := bx
    clear hW
    go_quiet (fail)
    go_wp2
    go_ret
    exact ⟨by first | rfl | (simp only [h1, h2]; rfl), hb.trans (below_drewN _ _ _)⟩
set_option maxHeartbeats 4000000 in
theorem pfits_3 (w : World) (v n : Nat) (A : Option Addr) (c : Nat) (A' : Option Addr) (c' : Nat) :
    Calls Tryz.prog 149 #[.agg #[.int .i64 3, .slice A v c, .slice A' n c']] w fun e w' => e = .returned (.bool (fitsN 3 v n)) ∧ Below w.heap.size w w' := by
  have e1 : fitsN 3 v n = (((v : Int) == 1) && ((n : Int) == 0)) := by
    rw [show ((v : Int) == 1) = (v == 1) from nat_beq v 1, show ((n : Int) == 0) = (n == 0) from nat_beq n 0]; simp [fitsN]
  rw [e1]; clear e1
  cases h1 : ((v : Int) == 1) <;> cases h2 : ((n : Int) == 0)
  all_goals
    go_enter Tryz.func149, Tryz.ntmps149
    go_upto_region 1 with fail
    have bx := BP.new3 w 3 v n A c A' c'
    have hb := below_new w (.cells #[.int .i64 3, .slice A v c, .slice A' n c'] 80)
    generalize hW : World.alloc w _ = W at bx hb
    obtain ⟨c0, c1, c2⟩ := bx
    clear hW
    go_quiet (fail)
    go_wp2
    go_ret
    exact ⟨by first | rfl | (simp only [h1, h2]; rfl), hb.trans (below_drewN _ _ _)⟩
set_option maxHeartbeats 4000000 in
theorem pfits_4 (w : World) (v n : Nat) (A : Option Addr) (c : Nat) (A' : Option Addr) (c' : Nat) :
    Calls Tryz.prog 149 #[.agg #[.int .i64 4, .slice A v c, .slice A' n c']] w fun e w' => e = .returned (.bool (fitsN 4 v n)) ∧ Below w.heap.size w w' := by
  have e1 : fitsN 4 v n = (((v : Int) == 1) && ((n : Int) == 0)) := by
    rw [show ((v : Int) == 1) = (v == 1) from nat_beq v 1, show ((n : Int) == 0) = (n == 0) from nat_beq n 0]; simp [fitsN]
  rw [e1]; clear e1
  cases h1 : ((v : Int) == 1) <;> cases h2 : ((n : Int) == 0)
  all_goals
    go_enter Tryz.func149, Tryz.ntmps149
    go_upto_region 1 with fail
    have bx := BP.new3 w 4 v n A c A' c'
    have hb := below_new w (.cells #[.int .i64 4, .slice A v c, .slice A' n c'] 80)
    generalize hW : World.alloc w _ = W at bx hb
    obtain ⟨c0, c1, c2⟩ := bx
    clear hW
    go_quiet (fail)
    go_wp2
    go_ret
    exact ⟨by first | rfl | (simp only [h1, h2]; rfl), hb.trans (below_drewN _ _ _)⟩
set_option maxHeartbeats 4000000 in
theorem pfits_5 (w : World) (v n : Nat) (A : Option Addr) (c : Nat) (A' : Option Addr) (c' : Nat) :
    Calls Tryz.prog 149 #[.agg #[.int .i64 5, .slice A v c, .slice A' n c']] w fun e w' => e = .returned (.bool (fitsN 5 v n)) ∧ Below w.heap.size w w' := by
  have e1 : fitsN 5 v n = (((v : Int) == 1) && ((n : Int) == 0)) := by
    rw [show ((v : Int) == 1) = (v == 1) from nat_beq v 1, show ((n : Int) == 0) = (n == 0) from nat_beq n 0]; simp [fitsN]
  rw [e1]; clear e1
  cases h1 : ((v : Int) == 1) <;> cases h2 : ((n : Int) == 0)
  all_goals
    go_enter Tryz.func149, Tryz.ntmps149
    go_upto_region 1 with fail
    have bx := BP.new3 w 5 v n A c A' c'
    have hb := below_new w (.cells #[.int .i64 5, .slice A v c, .slice A' n c'] 80)
    generalize hW : World.alloc w _ = W at bx hb
    obtain ⟨c0, c1, c2⟩ := bx
    clear hW
    go_quiet (fail)
    go_wp2
    go_ret
    exact ⟨by first | rfl | (simp only [h1, h2]; rfl), hb.trans (below_drewN _ _ _)⟩
set_option maxHeartbeats 4000000 in
theorem pfits_6 (w : World) (v n : Nat) (A : Option Addr) (c : Nat) (A' : Option Addr) (c' : Nat) :
    Calls Tryz.prog 149 #[.agg #[.int .i64 6, .slice A v c, .slice A' n c']] w fun e w' => e = .returned (.bool (fitsN 6 v n)) ∧ Below w.heap.size w w' := by
  have e1 : fitsN 6 v n = (((v : Int) == 1) && ((n : Int) == 0)) := by
    rw [show ((v : Int) == 1) = (v == 1) from nat_beq v 1, show ((n : Int) == 0) = (n == 0) from nat_beq n 0]; simp [fitsN]
  rw [e1]; clear e1
  cases h1 : ((v : Int) == 1) <;> cases h2 : ((n : Int) == 0)
  all_goals
    go_enter Tryz.func149, Tryz.ntmps149
    go_upto_region 1 with fail
    have bx := BP.new3 w 6 v n A c A' c'
    have hb := below_new w (.cells #[.int .i64 6, .slice A v c, .slice A' n c'] 80)
    generalize hW : World.alloc w _ = W at bx hb
    obtain ⟨c0, c1, c2⟩ := bx
    clear hW
    go_quiet (fail)
    go_wp2
    go_ret
    exact ⟨by first | rfl | (simp only [h1, h2]; rfl), hb.trans (below_drewN _ _ _)⟩
set_option maxHeartbeats 4000000 in
theorem pfits_7 (w : World) (v n : Nat) (A : Option Addr) (c : Nat) (A' : Option Addr) (c' : Nat) :
    Calls Tryz.prog 149 #[.agg #[.int .i64 7, .slice A v c, .slice A' n c']] w fun e w' => e = .returned (.bool (fitsN 7 v n)) ∧ Below w.heap.size w w' := by
  have e1 : fitsN 7 v n = (((v : Int) == 2) && ((n : Int) == 0)) := by
    rw [show ((v : Int) == 2) = (v == 2) from nat_beq v 2, show ((n : Int) == 0) = (n == 0) from nat_beq n 0]; simp [fitsN]
  rw [e1]; clear e1
  cases h1 : ((v : Int) == 2) <;> cases h2 : ((n : Int) == 0)
  all_goals
    go_enter Tryz.func149, Tryz.ntmps149
    go_upto_region 1 with fail
    have bx := BP.new3 w 7 v n A c A' c'
    have hb := below_new w (.cells #[.int .i64 7, .slice A v c, .slice A' n c'] 80)
    generalize hW : World.alloc w _ = W at bx hb
    obtain ⟨c0, c1, c2⟩ := bx
    clear hW
    go_quiet (fail)
    go_wp2
    go_ret
    exact ⟨by first | rfl | (simp only [h1, h2]; rfl), hb.trans (below_drewN _ _ _)⟩
set_option maxHeartbeats 4000000 in
theorem pfits_8 (w : World) (v n : Nat) (A : Option Addr) (c : Nat) (A' : Option Addr) (c' : Nat) :
    Calls Tryz.prog 149 #[.agg #[.int .i64 8, .slice A v c, .slice A' n c']] w fun e w' => e = .returned (.bool (fitsN 8 v n)) ∧ Below w.heap.size w w' := by
  have e1 : fitsN 8 v n = (((v : Int) == 2) && ((n : Int) == 0)) := by
    rw [show ((v : Int) == 2) = (v == 2) from nat_beq v 2, show ((n : Int) == 0) = (n == 0) from nat_beq n 0]; simp [fitsN]
  rw [e1]; clear e1
  cases h1 : ((v : Int) == 2) <;> cases h2 : ((n : Int) == 0)
  all_goals
    go_enter Tryz.func149, Tryz.ntmps149
    go_upto_region 1 with fail
    have bx := BP.new3 w 8 v n A c A' c'
    have hb := below_new w (.cells #[.int .i64 8, .slice A v c, .slice A' n c'] 80)
    generalize hW : World.alloc w _ = W at bx hb
    obtain ⟨c0, c1, c2⟩ := bx
    clear hW
    go_quiet (fail)
    go_wp2
    go_ret
    exact ⟨by first | rfl | (simp only [h1, h2]; rfl), hb.trans (below_drewN _ _ _)⟩
set_option maxHeartbeats 4000000 in
theorem pfits_9 (w : World) (v n : Nat) (A : Option Addr) (c : Nat) (A' : Option Addr) (c' : Nat) :
    Calls Tryz.prog 149 #[.agg #[.int .i64 9, .slice A v c, .slice A' n c']] w fun e w' => e = .returned (.bool (fitsN 9 v n)) ∧ Below w.heap.size w w' := by
  have e1 : fitsN 9 v n = (((v : Int) == 2) && ((n : Int) == 0)) := by
    rw [show ((v : Int) == 2) = (v == 2) from nat_beq v 2, show ((n : Int) == 0) = (n == 0) from nat_beq n 0]; simp [fitsN]
  rw [e1]; clear e1
  cases h1 : ((v : Int) == 2) <;> cases h2 : ((n : Int) == 0)
  all_goals
    go_enter Tryz.func149, Tryz.ntmps149
    go_upto_region 1 with fail
    have bx := BP.new3 w 9 v n A c A' c'
    have hb := below_new w (.cells #[.int .i64 9, .slice A v c, .slice A' n c'] 80)
    generalize hW : World.alloc w _ = W at bx hb
    obtain ⟨c0, c1, c2⟩ := bx
    clear hW
    go_quiet (fail)
    go_wp2
    go_ret
    exact ⟨by first | rfl | (simp only [h1, h2]; rfl), hb.trans (below_drewN _ _ _)⟩
set_option maxHeartbeats 4000000 in
theorem pfits_10 (w : World) (v n : Nat) (A : Option Addr) (c : Nat) (A' : Option Addr) (c' : Nat) :
    Calls Tryz.prog 149 #[.agg #[.int .i64 10, .slice A v c, .slice A' n c']] w fun e w' => e = .returned (.bool (fitsN 10 v n)) ∧ Below w.heap.size w w' := by
  have e1 : fitsN 10 v n = (decide ((v : Int) ≤ 1000) && ((n : Int) == 0)) := by
    rw [show ((n : Int) == 0) = (n == 0) from nat_beq n 0, show decide ((v : Int) ≤ 1000) = decide (v ≤ 1000) from by rw [decide_eq_decide]; omega]; simp [fitsN]
  rw [e1]; clear e1
  cases h1 : decide ((v : Int) ≤ 1000) <;> cases h2 : ((n : Int) == 0)
  all_goals
    go_enter Tryz.func149, Tryz.ntmps149
    go_upto_region 1 with fail
    have bx := BP.new3 w 10 v n A c A' c'
    have hb := below_new w (.cells #[.int .i64 10, .slice A v c, .slice A' n c'] 80)
    generalize hW : World.alloc w _ = W at bx hb
    obtain ⟨c0, c1, c2⟩ := bx
    clear hW
    go_quiet (fail)
    go_wp2
    go_ret
    exact ⟨by first | rfl | (simp only [h1, h2]; rfl), hb.trans (below_drewN _ _ _)⟩
set_option maxHeartbeats 4000000 in
theorem pfits_11 (w : World) (v n : Nat) (A : Option Addr) (c : Nat) (A' : Option Addr) (c' : Nat) :
    Calls Tryz.prog 149 #[.agg #[.int .i64 11, .slice A v c, .slice A' n c']] w fun e w' => e = .returned (.bool (fitsN 11 v n)) ∧ Below w.heap.size w w' := by
  have e1 : fitsN 11 v n = (decide ((v : Int) ≤ 1000) && ((n : Int) == 0)) := by
    rw [show ((n : Int) == 0) = (n == 0) from nat_beq n 0, show decide ((v : Int) ≤ 1000) = decide (v ≤ 1000) from by rw [decide_eq_decide]; omega]; simp [fitsN]
  rw [e1]; clear e1
  cases h1 : decide ((v : Int) ≤ 1000) <;> cases h2 : ((n : Int) == 0)
  all_goals
    go_enter Tryz.func149, Tryz.ntmps149
    go_upto_region 1 with fail
    have bx := BP.new3 w 11 v n A c A' c'
    have hb := below_new w (.cells #[.int .i64 11, .slice A v c, .slice A' n c'] 80)
    generalize hW : World.alloc w _ = W at bx hb
    obtain ⟨c0, c1, c2⟩ := bx
    clear hW
    go_quiet (fail)
    go_wp2
    go_ret
    exact ⟨by first | rfl | (simp only [h1, h2]; rfl), hb.trans (below_drewN _ _ _)⟩
set_option maxHeartbeats 4000000 in
theorem pfits_12 (w : World) (v n : Nat) (A : Option Addr) (c : Nat) (A' : Option Addr) (c' : Nat) :
    Calls Tryz.prog 149 #[.agg #[.int .i64 12, .slice A v c, .slice A' n c']] w fun e w' => e = .returned (.bool (fitsN 12 v n)) ∧ Below w.heap.size w w' := by
  have e1 : fitsN 12 v n = (((v : Int) == 0) && ((n : Int) == 1)) := by
    rw [show ((v : Int) == 0) = (v == 0) from nat_beq v 0, show ((n : Int) == 1) = (n == 1) from nat_beq n 1]; simp [fitsN]
  rw [e1]; clear e1
  cases h1 : ((v : Int) == 0) <;> cases h2 : ((n : Int) == 1)
  all_goals
    go_enter Tryz.func149, Tryz.ntmps149
    go_upto_region 1 with fail
    have bx := BP.new3 w 12 v n A c A' c'
    have hb := below_new w (.cells #[.int .i64 12, .slice A v c, .slice A' n c'] 80)
    generalize hW : World.alloc w _ = W at bx hb
    obtain ⟨c0, c1, c2⟩ := bx
    clear hW
    go_quiet (fail)
    go_wp2
    go_ret
    exact ⟨by first | rfl | (simp only [h1, h2]; rfl), hb.trans (below_drewN _ _ _)⟩
set_option maxHeartbeats 4000000 in
theorem pfits_13 (w : World) (v n : Nat) (A : Option Addr) (c : Nat) (A' : Option Addr) (c' : Nat) :
    Calls Tryz.prog 149 #[.agg #[.int .i64 13, .slice A v c, .slice A' n c']] w fun e w' => e = .returned (.bool (fitsN 13 v n)) ∧ Below w.heap.size w w' := by
  have e1 : fitsN 13 v n = (((v : Int) == 0) && (decide (2 ≤ (n : Int)) && decide ((n : Int) ≤ 1000))) := by
    rw [show ((v : Int) == 0) = (v == 0) from nat_beq v 0, show decide (2 ≤ (n : Int)) = decide (2 ≤ n) from by rw [decide_eq_decide]; omega, show decide ((n : Int) ≤ 1000) = decide (n ≤ 1000) from by rw [decide_eq_decide]; omega]; simp [fitsN]
  rw [e1]; clear e1
  cases h1 : ((v : Int) == 0) <;> cases h2 : decide (2 ≤ (n : Int)) <;> cases h3 : decide ((n : Int) ≤ 1000)
  all_goals
    go_enter Tryz.func149, Tryz.ntmps149
    go_upto_region 1 with fail
    have bx := BP.new3 w 13 v n A c A' c'
    have hb := below_new w (.cells #[.int .i64 13, .slice A v c, .slice A' n c'] 80)
    generalize hW : World.alloc w _ = W at bx hb
    obtain ⟨c0, c1, c2⟩ := bx
    clear hW
    go_quiet (fail)
    go_wp2
    go_ret
    exact ⟨by first | rfl | (simp only [h1, h2]; rfl), hb.trans (below_drewN _ _ _)⟩
set_option maxHeartbeats 4000000 in
theorem pfits_14 (w : World) (v n : Nat) (A : Option Addr) (c : Nat) (A' : Option Addr) (c' : Nat) :
    Calls Tryz.prog 149 #[.agg #[.int .i64 14, .slice A v c, .slice A' n c']] w fun e w' => e = .returned (.bool (fitsN 14 v n)) ∧ Below w.heap.size w w' := by
  have e1 : fitsN 14 v n = (((v : Int) == 0) && (decide (2 ≤ (n : Int)) && decide ((n : Int) ≤ 1000))) := by
    rw [show ((v : Int) == 0) = (v == 0) from nat_beq v 0, show decide (2 ≤ (n : Int)) = decide (2 ≤ n) from by rw [decide_eq_decide]; omega, show decide ((n : Int) ≤ 1000) = decide (n ≤ 1000) from by rw [decide_eq_decide]; omega]; simp [fitsN]
  rw [e1]; clear e1
  cases h1 : ((v : Int) == 0) <;> cases h2 : decide (2 ≤ (n : Int)) <;> cases h3 : decide ((n : Int) ≤ 1000)
  all_goals
    go_enter Tryz.func149, Tryz.ntmps149
    go_upto_region 1 with fail
    have bx := BP.new3 w 14 v n A c A' c'
    have hb := below_new w (.cells #[.int .i64 14, .slice A v c, .slice A' n c'] 80)
    generalize hW : World.alloc w _ = W at bx hb
    obtain ⟨c0, c1, c2⟩ := bx
    clear hW
    go_quiet (fail)
    go_wp2
    go_ret
    exact ⟨by first | rfl | (simp only [h1, h2]; rfl), hb.trans (below_drewN _ _ _)⟩
set_option maxHeartbeats 4000000 in
theorem pfits_no (w : World) (k : Int) (v n : Nat) (A : Option Addr) (c : Nat) (A' : Option Addr) (c' : Nat) (hk : k < 1 ∨ 14 < k) :
    Calls Tryz.prog 149 #[.agg #[.int .i64 k, .slice A v c, .slice A' n c']] w fun e w' => e = .returned (.bool (fitsN k v n)) ∧ Below w.heap.size w w' := by
  have e1 : fitsN k v n = false := by unfold fitsN; repeat (rw [if_neg (by omega)])
  rw [e1]; clear e1
  have n1 : (k == 1) = false := beq_eq_false_iff_ne.2 (by omega)
  have n2 : (k == 2) = false := beq_eq_false_iff_ne.2 (by omega)
  have n3 : (k == 3) = false := beq_eq_false_iff_ne.2 (by omega)
  have n4 : (k == 4) = false := beq_eq_false_iff_ne.2 (by omega)
  have n5 : (k == 5) = false := beq_eq_false_iff_ne.2 (by omega)
  have n6 : (k == 6) = false := beq_eq_false_iff_ne.2 (by omega)
  have n7 : (k == 7) = false := beq_eq_false_iff_ne.2 (by omega)
  have n8 : (k == 8) = false := beq_eq_false_iff_ne.2 (by omega)
  have n9 : (k == 9) = false := beq_eq_false_iff_ne.2 (by omega)
  have n10 : (k == 10) = false := beq_eq_false_iff_ne.2 (by omega)
  have n11 : (k == 11) = false := beq_eq_false_iff_ne.2 (by omega)
  have n12 : (k == 12) = false := beq_eq_false_iff_ne.2 (by omega)
  have n13 : (k == 13) = false := beq_eq_false_iff_ne.2 (by omega)
  have n14 : (k == 14) = false := beq_eq_false_iff_ne.2 (by omega)
  clear hk
  go_enter Tryz.func149, Tryz.ntmps149
  go_upto_region 1 with fail
  have bx := BP.new3 w k v n A c A' c'
  have hb := below_new w (.cells #[.int .i64 k, .slice A v c, .slice A' n c'] 80)
  generalize hW : World.alloc w _ = W at bx hb
  obtain ⟨c0, c1, c2⟩ := bx
  clear hW
  go_quiet (fail)
  go_wp2
  go_ret
  exact ⟨rfl, hb.trans (below_drewN _ _ _)⟩
theorem pfits_any (w : World) (x : Pt) : Calls Tryz.prog 149 #[x.val] w fun e w' => e = .returned (.bool (fitsP x.t)) ∧ Below w.heap.size w w' := by
  unfold Pt.val fitsP
  generalize x.t.v.length = v
  generalize x.t.p.length = n
  by_cases hk : x.t.k < 1 ∨ 14 < x.t.k
  · exact pfits_no w _ v n _ _ _ _ hk
  · obtain h | h | h | h | h | h | h | h | h | h | h | h | h | h : x.t.k = 1 ∨ x.t.k = 2 ∨ x.t.k = 3 ∨ x.t.k = 4 ∨ x.t.k = 5 ∨ x.t.k = 6 ∨ x.t.k = 7 ∨ x.t.k = 8 ∨ x.t.k = 9 ∨ x.t.k = 10 ∨ x.t.k = 11 ∨ x.t.k = 12 ∨ x.t.k = 13 ∨ x.t.k = 14 := by omega
    · rw [h]; exact pfits_1 w v n _ _ _ _
    · rw [h]; exact pfits_2 w v n _ _ _ _
    · rw [h]; exact pfits_3 w v n _ _ _ _
    · rw [h]; exact pfits_4 w v n _ _ _ _
    · rw [h]; exact pfits_5 w v n _ _ _ _
    · rw [h]; exact pfits_6 w v n _ _ _ _
    · rw [h]; exact pfits_7 w v n _ _ _ _
    · rw [h]; exact pfits_8 w v n _ _ _ _
    · rw [h]; exact pfits_9 w v n _ _ _ _
    · rw [h]; exact pfits_10 w v n _ _ _ _
    · rw [h]; exact pfits_11 w v n _ _ _ _
    · rw [h]; exact pfits_12 w v n _ _ _ _
    · rw [h]; exact pfits_13 w v n _ _ _ _
    · rw [h]; exact pfits_14 w v n _ _ _ _
end Go.Proofs.YtllkimdlmnjoiaaGreatDoor




