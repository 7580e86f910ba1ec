/- Carried over from an earlier seat. -/
import Derived.Test.YtllkimdlmnjoiaaGreatDoorVE
namespace Go.Proofs.YtllkimdlmnjoiaaGreatDoor
set_option maxRecDepth 100000
set_option maxRecDepth 100000
set_option maxRecDepth 100000
set_option maxRecDepth 100000
set_option maxRecDepth 100000
open Go.RowKit

def noItems (t : V) : Bool := t.l.length == 0 && t.m.length == 0
def fitsV (t : V) : Bool :=
  if t.k = 1 then (t.n == 0 || t.n == 1) && t.s.toList.isEmpty && noItems t
  else if t.k = 2 then t.s.toList.isEmpty && noItems t
  else if t.k = 3 then t.n == 0 && decide (t.s.size ≤ 1000) && noItems t
  else if t.k = 4 ∨ t.k = 5 then decide (0 ≤ t.n) && t.s.toList.isEmpty && noItems t
  else if t.k = 6 ∨ t.k = 8 then t.n == 0 && t.s.toList.isEmpty && decide (t.l.length ≤ 1000) && t.m.length == 0
  else if t.k = 7 then t.n == 0 && t.s.toList.isEmpty && decide (t.l.length ≤ 1000) && t.m.length == t.l.length
  else false

def FitsPost (t : V) (w : World) (e : Ending) (w' : World) : Prop := e = .returned (.bool (fitsV t)) ∧ Below w.heap.size w w'

set_option maxHeartbeats 4000000 in
set_option maxRecDepth 100000 in
theorem fits_54_1 (w : World) (n : Int) (s : ByteArray) (l m : List V) (A : Option Addr) (c : Nat) (A' : Option Addr) (c' : Nat) :
    Calls Tryz.prog 144 #[.agg #[.int .i64 1, .int .i64 n, .string s, .slice A l.length c, .slice A' m.length c']] w (FitsPost (.mk 1 n s l m) w) := by
  go_enter Tryz.func144, Tryz.ntmps144
  go_wp2
  all_goals
    go_ret
    refine ⟨?_, below_new _ _⟩
    simp_all [fitsV, noItems, V.k, V.n, V.s, V.l, V.m]
    try (rw [Bool.eq_iff_iff]; simp)
    try omega
set_option maxHeartbeats 4000000 in
set_option maxRecDepth 100000 in
theorem fits_54_2 (w : World) (n : Int) (s : ByteArray) (l m : List V) (A : Option Addr) (c : Nat) (A' : Option Addr) (c' : Nat) :
    Calls Tryz.prog 144 #[.agg #[.int .i64 2, .int .i64 n, .string s, .slice A l.length c, .slice A' m.length c']] w (FitsPost (.mk 2 n s l m) w) := by
  go_enter Tryz.func144, Tryz.ntmps144
  go_wp2
  all_goals
    go_ret
    refine ⟨?_, below_new _ _⟩
    simp_all [fitsV, noItems, V.k, V.s, V.l, V.m]
    try (rw [Bool.eq_iff_iff]; simp)
    try omega
set_option maxHeartbeats 4000000 in
set_option maxRecDepth 100000 in
theorem fits_54_3 (w : World) (n : Int) (s : ByteArray) (l m : List V) (A : Option Addr) (c : Nat) (A' : Option Addr) (c' : Nat) :
    Calls Tryz.prog 144 #[.agg #[.int .i64 3, .int .i64 n, .string s, .slice A l.length c, .slice A' m.length c']] w (FitsPost (.mk 3 n s l m) w) := by
  by_cases hc : s.size ≤ 1000
  · skip
    have d1 : decide (s.size ≤ 1000) = true := decide_eq_true (by omega)
    have d2 : decide ((s.size : Int) ≤ 1000) = true := decide_eq_true (by omega)
    have d3 : ((s.size : Int) ≤ 1000) := by omega
    go_enter Tryz.func144, Tryz.ntmps144
    go_wp2
    all_goals
      go_ret
      refine ⟨?_, below_new _ _⟩
      simp_all [fitsV, noItems, V.k, V.n, V.s, V.l, V.m]
      try (rw [Bool.eq_iff_iff]; simp)
      try omega
  · have hF : fitsV (.mk 3 n s l m) = false := by simp [fitsV, V.k, V.n, V.s, hc]
    unfold FitsPost; rw [hF]; clear hF
    have d1 : decide (s.size ≤ 1000) = false := decide_eq_false (by omega)
    have d2 : decide ((s.size : Int) ≤ 1000) = false := decide_eq_false (by omega)
    have d3 : ¬ ((s.size : Int) ≤ 1000) := by omega
    go_enter Tryz.func144, Tryz.ntmps144
    go_wp2
    all_goals
      go_ret
      exact ⟨rfl, below_new _ _⟩
set_option maxHeartbeats 4000000 in
set_option maxRecDepth 100000 in
theorem fits_54_4 (w : World) (n : Int) (s : ByteArray) (l m : List V) (A : Option Addr) (c : Nat) (A' : Option Addr) (c' : Nat) :
    Calls Tryz.prog 144 #[.agg #[.int .i64 4, .int .i64 n, .string s, .slice A l.length c, .slice A' m.length c']] w (FitsPost (.mk 4 n s l m) w) := by
  by_cases hc : 0 ≤ n
  · skip
    have d1 : decide (0 ≤ n) = true := decide_eq_true (by omega)
    go_enter Tryz.func144, Tryz.ntmps144
    go_wp2
    all_goals
      go_ret
      refine ⟨?_, below_new _ _⟩
      simp_all [fitsV, noItems, V.k, V.n, V.s, V.l, V.m]
      try (rw [Bool.eq_iff_iff]; simp)
      try omega
  · have hF : fitsV (.mk 4 n s l m) = false := by simp [fitsV, V.k, V.n, V.s, hc]
    unfold FitsPost; rw [hF]; clear hF
    have d1 : decide (0 ≤ n) = false := decide_eq_false (by omega)
    go_enter Tryz.func144, Tryz.ntmps144
    go_wp2
    all_goals
      go_ret
      exact ⟨rfl, below_new _ _⟩
set_option maxHeartbeats 4000000 in
set_option maxRecDepth 100000 in
theorem fits_54_5 (w : World) (n : Int) (s : ByteArray) (l m : List V) (A : Option Addr) (c : Nat) (A' : Option Addr) (c' : Nat) :
    Calls Tryz.prog 144 #[.agg #[.int .i64 5, .int .i64 n, .string s, .slice A l.length c, .slice A' m.length c']] w (FitsPost (.mk 5 n s l m) w) := by
  by_cases hc : 0 ≤ n
  · skip
    have d1 : decide (0 ≤ n) = true := decide_eq_true (by omega)
    go_enter Tryz.func144, Tryz.ntmps144
    go_wp2
    all_goals
      go_ret
      refine ⟨?_, below_new _ _⟩
      simp_all [fitsV, noItems, V.k, V.n, V.s, V.l, V.m]
      try (rw [Bool.eq_iff_iff]; simp)
      try omega
  · have hF : fitsV (.mk 5 n s l m) = false := by simp [fitsV, V.k, V.n, V.s, hc]
    unfold FitsPost; rw [hF]; clear hF
    have d1 : decide (0 ≤ n) = false := decide_eq_false (by omega)
    go_enter Tryz.func144, Tryz.ntmps144
    go_wp2
    all_goals
      go_ret
      exact ⟨rfl, below_new _ _⟩
set_option maxHeartbeats 4000000 in
set_option maxRecDepth 100000 in
theorem fits_54_6 (w : World) (n : Int) (s : ByteArray) (l m : List V) (A : Option Addr) (c : Nat) (A' : Option Addr) (c' : Nat) :
    Calls Tryz.prog 144 #[.agg #[.int .i64 6, .int .i64 n, .string s, .slice A l.length c, .slice A' m.length c']] w (FitsPost (.mk 6 n s l m) w) := by
  by_cases hc : l.length ≤ 1000
  · skip
    have d1 : decide (l.length ≤ 1000) = true := decide_eq_true (by omega)
    have d2 : decide ((l.length : Int) ≤ 1000) = true := decide_eq_true (by omega)
    have d3 : ((l.length : Int) ≤ 1000) := by omega
    go_enter Tryz.func144, Tryz.ntmps144
    go_wp2
    all_goals
      go_ret
      refine ⟨?_, below_new _ _⟩
      simp_all [fitsV, V.k, V.n, V.s, V.l, V.m]
      try (rw [Bool.eq_iff_iff]; simp)
      try omega
  · have hF : fitsV (.mk 6 n s l m) = false := by simp [fitsV, V.k, V.n, V.s, V.l, V.m, hc]
    unfold FitsPost; rw [hF]; clear hF
    have d4 : ((l.length : Int) == 0) = false := beq_eq_false_iff_ne.2 (by omega)
    have d1 : decide (l.length ≤ 1000) = false := decide_eq_false (by omega)
    have d2 : decide ((l.length : Int) ≤ 1000) = false := decide_eq_false (by omega)
    have d3 : ¬ ((l.length : Int) ≤ 1000) := by omega
    go_enter Tryz.func144, Tryz.ntmps144
    go_wp2
    all_goals
      go_ret
      exact ⟨rfl, below_new _ _⟩
set_option maxHeartbeats 4000000 in
set_option maxRecDepth 100000 in
theorem fits_54_7 (w : World) (n : Int) (s : ByteArray) (l m : List V) (A : Option Addr) (c : Nat) (A' : Option Addr) (c' : Nat) :
    Calls Tryz.prog 144 #[.agg #[.int .i64 7, .int .i64 n, .string s, .slice A l.length c, .slice A' m.length c']] w (FitsPost (.mk 7 n s l m) w) := by
  by_cases hc : l.length ≤ 1000
  · skip
    have d1 : decide (l.length ≤ 1000) = true := decide_eq_true (by omega)
    have d2 : decide ((l.length : Int) ≤ 1000) = true := decide_eq_true (by omega)
    have d3 : ((l.length : Int) ≤ 1000) := by omega
    go_enter Tryz.func144, Tryz.ntmps144
    go_wp2
    all_goals
      go_ret
      refine ⟨?_, below_new _ _⟩
      simp_all [fitsV, V.k, V.n, V.s, V.l, V.m]
      try (rw [Bool.eq_iff_iff]; simp)
      try omega
  · have hF : fitsV (.mk 7 n s l m) = false := by simp [fitsV, V.k, V.n, V.s, V.l, V.m, hc]
    unfold FitsPost; rw [hF]; clear hF
    have d4 : ((l.length : Int) == 0) = false := beq_eq_false_iff_ne.2 (by omega)
    have d1 : decide (l.length ≤ 1000) = false := decide_eq_false (by omega)
    have d2 : decide ((l.length : Int) ≤ 1000) = false := decide_eq_false (by omega)
    have d3 : ¬ ((l.length : Int) ≤ 1000) := by omega
    go_enter Tryz.func144, Tryz.ntmps144
    go_wp2
    all_goals
      go_ret
      exact ⟨rfl, below_new _ _⟩
set_option maxHeartbeats 4000000 in
set_option maxRecDepth 100000 in
theorem fits_54_8 (w : World) (n : Int) (s : ByteArray) (l m : List V) (A : Option Addr) (c : Nat) (A' : Option Addr) (c' : Nat) :
    Calls Tryz.prog 144 #[.agg #[.int .i64 8, .int .i64 n, .string s, .slice A l.length c, .slice A' m.length c']] w (FitsPost (.mk 8 n s l m) w) := by
  by_cases hc : l.length ≤ 1000
  · skip
    have d1 : decide (l.length ≤ 1000) = true := decide_eq_true (by omega)
    have d2 : decide ((l.length : Int) ≤ 1000) = true := decide_eq_true (by omega)
    have d3 : ((l.length : Int) ≤ 1000) := by omega
    go_enter Tryz.func144, Tryz.ntmps144
    go_wp2
    all_goals
      go_ret
      refine ⟨?_, below_new _ _⟩
      simp_all [fitsV, V.k, V.n, V.s, V.l, V.m]
      try (rw [Bool.eq_iff_iff]; simp)
      try omega
  · have hF : fitsV (.mk 8 n s l m) = false := by simp [fitsV, V.k, V.n, V.s, V.l, V.m, hc]
    unfold FitsPost; rw [hF]; clear hF
    have d4 : ((l.length : Int) == 0) = false := beq_eq_false_iff_ne.2 (by omega)
    have d1 : decide (l.length ≤ 1000) = false := decide_eq_false (by omega)
    have d2 : decide ((l.length : Int) ≤ 1000) = false := decide_eq_false (by omega)
    have d3 : ¬ ((l.length : Int) ≤ 1000) := by omega
    go_enter Tryz.func144, Tryz.ntmps144
    go_wp2
    all_goals
      go_ret
      exact ⟨rfl, below_new _ _⟩
set_option maxHeartbeats 4000000 in
set_option maxRecDepth 100000 in
theorem fits_54_no (w : World) (k n : Int) (s : ByteArray) (l m : List V) (A : Option Addr) (c : Nat) (A' : Option Addr) (c' : Nat)
    (h1 : (k == 1) = false) (h2 : (k == 2) = false) (h3 : (k == 3) = false) (h4 : (k == 4) = false) (h5 : (k == 5) = false) (h6 : (k == 6) = false) (h7 : (k == 7) = false) (h8 : (k == 8) = false) :
    Calls Tryz.prog 144 #[.agg #[.int .i64 k, .int .i64 n, .string s, .slice A l.length c, .slice A' m.length c']] w (FitsPost (.mk k n s l m) w) := by
  have hF : fitsV (.mk k n s l m) = false := by simp_all [fitsV, V.k]
  unfold FitsPost; rw [hF]; clear hF
  go_enter Tryz.func144, Tryz.ntmps144
  go_wp2
  all_goals
    go_ret
    exact ⟨rfl, below_new _ _⟩
theorem fits_54 (w : World) (t : V) (A : Option Addr) (c : Nat) (A' : Option Addr) (c' : Nat) : Calls Tryz.prog 144 #[vl t A c A' c'] w (FitsPost t w) := by
  obtain ⟨k, n, s, l, m⟩ := t
  show Calls Tryz.prog 144 #[.agg #[.int .i64 k, .int .i64 n, .string s, .slice A l.length c, .slice A' m.length c']] w _
  by_cases h1 : k = 1
  · subst h1; exact fits_54_1 w n s l m A c A' c'
  by_cases h2 : k = 2
  · subst h2; exact fits_54_2 w n s l m A c A' c'
  by_cases h3 : k = 3
  · subst h3; exact fits_54_3 w n s l m A c A' c'
  by_cases h4 : k = 4
  · subst h4; exact fits_54_4 w n s l m A c A' c'
  by_cases h5 : k = 5
  · subst h5; exact fits_54_5 w n s l m A c A' c'
  by_cases h6 : k = 6
  · subst h6; exact fits_54_6 w n s l m A c A' c'
  by_cases h7 : k = 7
  · subst h7; exact fits_54_7 w n s l m A c A' c'
  by_cases h8 : k = 8
  · subst h8; exact fits_54_8 w n s l m A c A' c'
  exact fits_54_no w k n s l m A c A' c' (by simpa using h1) (by simpa using h2) (by simpa using h3) (by simpa using h4) (by simpa using h5) (by simpa using h6) (by simpa using h7) (by simpa using h8)
end Go.Proofs.YtllkimdlmnjoiaaGreatDoor






