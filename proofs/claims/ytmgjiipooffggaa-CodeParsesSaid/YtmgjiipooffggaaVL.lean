/- Carried over from the seat of layer 2. -/
import Derived.Test.YtmgjiipooffggaaVG
namespace Go.Proofs.Ytmgjiipooffggaa
set_option maxRecDepth 100000
open Go.RowKit

def zeroV : V := .mk 0 0 ⟨#[]⟩ [] []
end Go.Proofs.Ytmgjiipooffggaa

/- Carried over from the seat of layer 2. -/
namespace Go.Proofs.Ytmgjiipooffggaa
set_option maxRecDepth 100000
open Go.RowKit

def maxL (f : V → Nat) : List V → Nat
  | [] => 0
  | x :: r => max (f x) (maxL f r)
/-- How deep, at most r levels below it. -/
def depV : Nat → V → Nat
  | 0, _ => 1
  | r + 1, t => 1 + max (maxL (depV r) t.l) (maxL (depV r) t.m)
theorem maxL_append (f : V → Nat) (a b : List V) : maxL f (a ++ b) = max (maxL f a) (maxL f b) := by
  induction a with
  | nil => simp [maxL]
  | cons x r ih => simp only [List.cons_append, maxL, ih]; omega
theorem maxL_le (f : V → Nat) (n : Nat) (h : ∀ x, f x ≤ n) : ∀ l, maxL f l ≤ n
  | [] => by simp [maxL]
  | x :: r => by have := h x; have := maxL_le f n h r; simp only [maxL]; omega
theorem depV_le : ∀ r t, depV r t ≤ r + 1
  | 0, _ => by simp [depV]
  | r + 1, t => by
    have h1 := maxL_le (depV r) (r + 1) (depV_le r) t.l
    have h2 := maxL_le (depV r) (r + 1) (depV_le r) t.m
    simp only [depV]; omega
theorem depV_pos (r : Nat) (t : V) : 1 ≤ depV r t := by cases r <;> simp [depV] <;> omega

def Deepest (r : Nat) : Prop :=
  ∀ (w : World) (da : Nat) (a : V) (A : Option Addr) (c : Nat) (A' : Option Addr) (c' : Nat) (lev : Int), lev = 13 - r → r ≤ 12 → Rd w 0 w.heap.size da a A c A' c' →
    Calls Try.prog 38 #[vl a A c A' c', .int .i64 lev] w fun e w' => e = .returned (.int .i64 (lev - 1 + depV r a)) ∧ Below w.heap.size w w'

/-- The items, row by row. -/
def doneR (t : V) : Nat → List V
  | 0 => []
  | 1 => t.l
  | _ => t.l ++ t.m
theorem rows_at {w wr : World} {d : Nat} {t : V} {A : Option Addr} {c : Nat} {A' : Option Addr} {c' : Nat} {g : Nat} (q : Nat) (hq : q < 2) (h1 : Rw w 0 w.heap.size d A c t.l) (h2 : Rw w 0 w.heap.size d A' c' t.m)
    (c0 : wr.cell? ⟨g, 0, none⟩ = some (.slice A t.l.length c)) (c1 : wr.cell? ⟨g, 1, none⟩ = some (.slice A' t.m.length c')) :
    ∃ AR cR row, wr.cell? ⟨g, q, none⟩ = some (.slice AR row.length cR) ∧ Rw w 0 w.heap.size d AR cR row ∧ doneR t (q + 1) = doneR t q ++ row := by
  match q, hq with
  | 0, _ => exact ⟨A, c, t.l, c0, h1, rfl⟩
  | 1, _ => exact ⟨A', c', t.m, c1, h2, rfl⟩
theorem take_next {α : Type} (l : List α) (k : Nat) {x : α} (hx : l[k]? = some x) : l.take (k + 1) = l.take k ++ [x] := by
  obtain ⟨h1, e1⟩ := List.getElem?_eq_some_iff.1 hx
  rw [List.take_succ_eq_append_getElem h1, e1]
theorem maxL_step (f : V → Nat) (pre row : List V) (k : Nat) {x : V} (hx : row[k]? = some x) : (maxL f (pre ++ row.take (k + 1)) : Int) = max (maxL f (pre ++ row.take k) : Int) (f x) := by
  rw [take_next row k hx, ← List.append_assoc, maxL_append]
  simp only [maxL]
  omega
theorem maxL_full (r : Nat) (t : V) (q : Nat) (hq : q < 2) (row : List V) (hrow : doneR t (q + 1) = doneR t q ++ row) (k : Nat) (h : (12 : Int) < 12 - r + maxL (depV r) (doneR t q ++ row.take k)) : (maxL (depV r) (doneR t q ++ row.take k) : Int) = (depV (r + 1) t : Int) - 1 := by
  have hm := maxL_le (depV r) (r + 1) (depV_le r)
  have e1 : maxL (depV r) (doneR t q ++ row.take k) = r + 1 := by have := hm (doneR t q ++ row.take k); omega
  have e2 : maxL (depV r) (t.l ++ t.m) = r + 1 := by
    have h1 := hm (t.l ++ t.m)
    have h2 : maxL (depV r) (doneR t q ++ row.take k) ≤ maxL (depV r) (t.l ++ t.m) := by
      have h3 : maxL (depV r) (doneR t q ++ row.take k) ≤ maxL (depV r) (doneR t (q + 1)) := by
        rw [hrow, maxL_append, maxL_append]
        have : maxL (depV r) row = max (maxL (depV r) (row.take k)) (maxL (depV r) (row.drop k)) := by rw [← maxL_append, List.take_append_drop]
        omega
      have h4 : maxL (depV r) (doneR t (q + 1)) ≤ maxL (depV r) (t.l ++ t.m) := by
        match q, hq with
        | 0, _ => show maxL _ t.l ≤ _; rw [maxL_append]; omega
        | 1, _ => exact Nat.le_refl _
      omega
    omega
  rw [maxL_append] at e2
  simp only [depV]
  omega

set_option maxHeartbeats 3200000 in
theorem deepest_succ (r : Nat) (ih : Deepest r) : Deepest (r + 1) := by
  intro w da a A c A' c' lev hlev hr ra
  have hl : lev ≤ 12 := by omega
  have hl0 : 1 ≤ lev := by omega
  have HL := Lib.hid (show lev = 12 - r by omega)
  obtain ⟨da', rfl⟩ := ra.pos
  have RL := Lib.hid ra.2.1
  have RM := Lib.hid ra.2.2
  have IH := Lib.hid ih
  have hm := maxL_le (depV r) (r + 1) (depV_le r)
  have HM := Lib.hid hm
  clear hlev ra ih hm
  unfold vl
  go_enter Try.func38, Try.ntmps38
  go_wp2
  generalize hW : World.alloc (World.alloc _ _) _ = W
  have hb : Below w.heap.size w W := by rw [← hW]; exact below_new2 _ _ _
  have g0 : W.cell? ⟨w.heap.size + 1, 0, none⟩ = some (.slice A a.l.length c) := by rw [← hW]; simp
  have g1 : W.cell? ⟨w.heap.size + 1, 1, none⟩ = some (.slice A' a.m.length c') := by rw [← hW]; simp
  have hz : w.heap.size + 1 < W.heap.size := by rw [← hW]; simp
  have HB := Lib.hid hb
  have G0 := Lib.hid g0
  have G1 := Lib.hid g1
  clear hb hW g0 g1
  go_loopw [5, 17] (fun v i wr => ∃ q : Nat, q ≤ 2 ∧ i = .int .i64 q ∧ v = .int .i64 (lev + maxL (depV r) (doneR a q)) ∧ Hid (Below W.heap.size W wr)) (fun _ i _ => 2 - (intOf i).toNat)
  case atStart => exact ⟨0, by omega, rfl, by simp [doneR, maxL], Lib.hid (Below.refl _ _)⟩
  case round =>
    obtain ⟨q, hq, rfl, rfl, hbel⟩ := hrel
    by_cases hq2 : q < 2
    · obtain ⟨AR, cR, row, hcell, hrow, hdone⟩ := rows_at q hq2 RL.out RM.out (cell_below hbel.out G0.out hz) (cell_below hbel.out G1.out hz)
      have HR := Lib.hid hrow
      have HD := Lib.hid hdone
      have hbig := hrow.big
      clear hrow hdone
      have hq2i : (q : Int) < 2 := by omega
      go_wp2
      go_loopw [5, 23] (fun v i wx => ∃ k : Nat, k ≤ row.length ∧ i = .int .i64 k ∧ v = .int .i64 (lev + maxL (depV r) (doneR a q ++ row.take k)) ∧ Hid (Below W.heap.size W wx)) (fun _ i _ => row.length - (intOf i).toNat)
      case atStart => exact ⟨0, by omega, rfl, by simp, hbel⟩
      case round =>
        obtain ⟨k, hk, rfl, rfl, hbel2⟩ := hrel
        by_cases hlt : k < row.length
        · obtain ⟨b, off, x, A1, c1, A2, c2, rfl, _, hb, hx, qq, rx⟩ := (HR.out.next (bnext HB.out hbel2.out)).elem hlt
          obtain ⟨q0, q1, q2, q3, q4⟩ := qq
          have RX := Lib.hid rx
          have ST := Lib.hid (maxL_step (depV r) (doneR a q) row k hx)
          have FU := Lib.hid (maxL_full r a q hq2 row HD.out k)
          have hmx := HM.out (doneR a q ++ row.take k)
          have hdx := depV_le r x
          clear rx hx
          generalize hM : maxL (depV r) (doneR a q ++ row.take k) = M at ST FU hmx
          by_cases hov : 12 < lev + (M : Int)
          · have FIN := Lib.hid (show lev + (M : Int) = lev + ((depV (r + 1) a : Int) - 1) by rw [FU.out (by have := HL.out; omega)])
            go_wp2
            go_ret
            exact ⟨ret_int (by rw [FIN.out]; omega), bnext HB.out (bnext hbel2.out (below_new _ _))⟩
          · go_wp2_with fail
            refine (IH.out _ _ x _ _ _ _ (lev + 1) (by have := HL.out; omega) (by omega) (RX.out.next (below_new _ _))).mono ?_
            rintro e w1 ⟨rfl, hb1⟩
            have B2 := Lib.hid (bnext hbel2.out (bnext (below_new _ _) hb1))
            clear hb1
            go_wp2
            go_roundw
            case rel => exact ⟨k + 1, by omega, by go_num, congrArg (Value.int .i64) (by rw [ST.out]; split <;> omega), B2⟩
            case measure => simp [intOf]; omega
        · obtain rfl : k = row.length := by omega
          have E := Lib.hid (show doneR a q ++ row.take row.length = doneR a (q + 1) by rw [List.take_length, HD.out])
          go_wp2
          go_roundw
          case rel => exact ⟨q + 1, by omega, by go_num, congrArg (Value.int .i64) (by rw [E.out]), hbel2⟩
          case measure => simp [intOf]; omega
    · obtain rfl : q = 2 := by omega
      have E := Lib.hid (show (maxL (depV r) (doneR a 2) : Int) = (depV (r + 1) a : Int) - 1 by simp only [doneR, maxL_append, depV]; omega)
      go_wp2
      go_ret
      exact ⟨ret_int (by rw [E.out]; omega), bnext HB.out hbel.out⟩

set_option maxHeartbeats 3200000 in
theorem deepest_zero : Deepest 0 := by
  intro w da a A c A' c' lev hlev hr ra
  obtain rfl : lev = 13 := by omega
  obtain ⟨da', rfl⟩ := ra.pos
  have RL := Lib.hid ra.2.1
  have RM := Lib.hid ra.2.2
  clear hlev ra hr
  unfold vl
  go_enter Try.func38, Try.ntmps38
  go_wp2
  generalize hW : World.alloc (World.alloc _ _) _ = W
  have hb : Below w.heap.size w W := by rw [← hW]; exact below_new2 _ _ _
  have g0 : W.cell? ⟨w.heap.size + 1, 0, none⟩ = some (.slice A a.l.length c) := by rw [← hW]; simp
  have g1 : W.cell? ⟨w.heap.size + 1, 1, none⟩ = some (.slice A' a.m.length c') := by rw [← hW]; simp
  have hz : w.heap.size + 1 < W.heap.size := by rw [← hW]; simp
  have HB := Lib.hid hb
  have G0 := Lib.hid g0
  have G1 := Lib.hid g1
  clear hb hW g0 g1
  go_loopw [5, 17] (fun v i wr => ∃ q : Nat, q ≤ 2 ∧ i = .int .i64 q ∧ v = .int .i64 13 ∧ Hid (Below W.heap.size W wr)) (fun _ i _ => 2 - (intOf i).toNat)
  case atStart => exact ⟨0, by omega, rfl, rfl, Lib.hid (Below.refl _ _)⟩
  case round =>
    obtain ⟨q, hq, rfl, rfl, hbel⟩ := hrel
    by_cases hq2 : q < 2
    · obtain ⟨AR, cR, row, hcell, hrow, hdone⟩ := rows_at q hq2 RL.out RM.out (cell_below hbel.out G0.out hz) (cell_below hbel.out G1.out hz)
      have HR := Lib.hid hrow
      have hbig := hrow.big
      clear hrow hdone
      have hq2i : (q : Int) < 2 := by omega
      go_wp2
      go_loopw [5, 23] (fun v i wx => i = .int .i64 0 ∧ v = .int .i64 13 ∧ Hid (Below W.heap.size W wx)) (fun _ i _ => 0)
      case atStart => exact ⟨rfl, rfl, hbel⟩
      case round =>
        obtain ⟨rfl, rfl, hbel2⟩ := hrel
        by_cases hlt : 0 < row.length
        · obtain ⟨b, off, x, A1, c1, A2, c2, rfl, _, hb, hx, qq, rx⟩ := (HR.out.next (bnext HB.out hbel2.out)).elem hlt
          obtain ⟨q0, q1, q2, q3, q4⟩ := qq
          rw [Nat.zero_mul, Nat.add_zero] at q0 q1 q2 q3 q4
          clear rx hx
          go_wp2
          go_ret
          exact ⟨ret_int rfl, bnext HB.out (bnext hbel2.out (below_new _ _))⟩
        · obtain rfl : row = [] := List.eq_nil_of_length_eq_zero (by omega)
          go_wp2
          go_roundw
          case rel => exact ⟨q + 1, by omega, by go_num, rfl, hbel2⟩
          case measure => simp [intOf]; omega
    · obtain rfl : q = 2 := by omega
      go_wp2
      go_ret
      exact ⟨ret_int rfl, bnext HB.out hbel.out⟩

theorem deepest_any : ∀ r, Deepest r
  | 0 => deepest_zero
  | r + 1 => deepest_succ r (deepest_any r)

set_option maxHeartbeats 800000 in
theorem depth_any (w : World) (da : Nat) (a : V) (A : Option Addr) (c : Nat) (A' : Option Addr) (c' : Nat) (ra : Rd w 0 w.heap.size da a A c A' c') :
    Calls Try.prog 23 #[vl a A c A' c'] w fun e w' => e = .returned (.int .i64 (depV 12 a)) ∧ Below w.heap.size w w' := by
  have RA := Lib.hid (ra.next (below_new w (.cells #[.int .i64 a.k, .int .i64 a.n, .string a.s, .slice A a.l.length c, .slice A' a.m.length c'] 24)))
  clear ra
  unfold vl
  go_enter Try.func23, Try.ntmps23
  go_wp2_with fail
  refine (deepest_any 12 _ da a _ _ _ _ 1 (by omega) (by omega) RA.out).mono ?_
  rintro x w1 ⟨rfl, hb1⟩
  have HB := Lib.hid (bnext (below_new _ _) hb1)
  clear hb1
  go_wp2
  go_ret
  exact ⟨ret_int (by omega), HB.out⟩
end Go.Proofs.Ytmgjiipooffggaa

/- Carried over from the seat of layer 2. -/
namespace Go.Proofs.Ytmgjiipooffggaa
set_option maxRecDepth 100000
open Go.RowKit

theorem wrap_in (z : Int) : -9223372036854775808 ≤ wrap64 z ∧ wrap64 z ≤ 9223372036854775807 := by unfold wrap64; omega
def IntPost (w : World) (e : Ending) (w' : World) : Prop := ∃ c : Int, e = .returned (.int .i64 c) ∧ -9223372036854775808 ≤ c ∧ c ≤ 9223372036854775807 ∧ Below w.heap.size w w'
def CountOk (d : Nat) : Prop := ∀ (w : World) (t : V) (A : Option Addr) (c : Nat) (A' : Option Addr) (c' : Nat) (most : Int), -9223372036854775808 ≤ most → most ≤ 9223372036854775807 → Rd w 0 w.heap.size d t A c A' c' →
  Calls Try.prog 39 #[vl t A c A' c', .int .i64 most] w (IntPost w)

set_option maxHeartbeats 3200000 in
theorem count_succ (d : Nat) (ih : CountOk d) : CountOk (d + 1) := by
  intro w t A c A' c' most hm0 hm1 ra
  have hs1 := ra.1.s1
  have RL := Lib.hid ra.2.1
  have RM := Lib.hid ra.2.2
  have hbl := ra.2.1.big
  have hbm := ra.2.2.big
  have IH := Lib.hid ih
  clear ra ih
  unfold vl
  go_enter Try.func39, Try.ntmps39
  go_wp2
  have k1 := Box.new w t A c A' c'
  generalize hW : World.alloc w _ = W
  have K1 : Hid (Box W w.heap.size t A c A' c') := Lib.hid (by rw [← hW]; exact k1)
  have HB : Hid (Below w.heap.size w W) := Lib.hid (by rw [← hW]; exact below_new _ _)
  have hz : w.heap.size < W.heap.size := by rw [← hW]; simp
  clear hW k1
  go_loopw [5, 6] (fun u i wr => ∃ (k : Nat) (x : Int), k ≤ t.l.length ∧ i = .int .i64 k ∧ u = .int .i64 x ∧ -9223372036854775808 ≤ x ∧ x ≤ 9223372036854775807 ∧ Hid (Below W.heap.size W wr)) (fun _ i _ => t.l.length - (intOf i).toNat)
  case atStart => exact ⟨0, 1, by omega, rfl, rfl, by omega, by omega, Lib.hid (Below.refl _ _)⟩
  case round =>
    obtain ⟨k, x, hk, rfl, rfl, hx0, hx1, hbel⟩ := hrel
    obtain ⟨c0, c1, c2, c3, c4⟩ := K1.out.below hbel.out hz
    by_cases hlt : k < t.l.length
    · by_cases hm : x < most
      · obtain ⟨b, off, z, A1, e1, A2, e2, rfl, _, hb, hzz, q, rz⟩ := (RL.out.next (bnext HB.out hbel.out)).elem hlt
        obtain ⟨q0, q1, q2, q3, q4⟩ := q
        have RZ := Lib.hid rz
        clear rz hzz
        go_wp2_with fail
        refine (IH.out _ z _ _ _ _ _ (wrap_in _).1 (wrap_in _).2 RZ.out).mono ?_
        rintro e w2 ⟨c, rfl, hc0, hc1, hbc⟩
        have BB := Lib.hid (bnext hbel.out hbc)
        clear hbc
        go_wp2
        go_roundw
        case rel => exact ⟨k + 1, wrap64 (x + c), by omega, by go_num, rfl, (wrap_in _).1, (wrap_in _).2, BB⟩
        case measure => simp [intOf]; omega
      · have hm' : most ≤ x := by omega
        go_wp2
        clear c0 c1 c2 c3 c4
        go_loopw [5, 7] (fun u i wx => ∃ (k : Nat) (x : Int), k ≤ t.m.length ∧ i = .int .i64 k ∧ u = .int .i64 x ∧ -9223372036854775808 ≤ x ∧ x ≤ 9223372036854775807 ∧ Hid (Below W.heap.size W wx)) (fun _ i _ => t.m.length - (intOf i).toNat)
        case atStart => exact ⟨0, x, by omega, rfl, rfl, hx0, hx1, hbel⟩
        case round =>
          obtain ⟨k2, x2, hk2, rfl, rfl, hy0, hy1, hbel2⟩ := hrel
          obtain ⟨a0, a1, a2, a3, a4⟩ := K1.out.below hbel2.out hz
          by_cases hlt2 : k2 < t.m.length
          · by_cases hm2 : x2 < most
            · obtain ⟨b2, off2, z2, B1, e1, B2, e2, rfl, _, hb2, hzz2, q2, rz2⟩ := (RM.out.next (bnext HB.out hbel2.out)).elem hlt2
              obtain ⟨r0, r1, r2, r3, r4⟩ := q2
              have RZ := Lib.hid rz2
              clear rz2 hzz2
              go_wp2_with fail
              refine (IH.out _ z2 _ _ _ _ _ (wrap_in _).1 (wrap_in _).2 RZ.out).mono ?_
              rintro e w2 ⟨c, rfl, hc0, hc1, hbc⟩
              have BB := Lib.hid (bnext hbel2.out hbc)
              clear hbc
              go_wp2
              go_roundw
              case rel => exact ⟨k2 + 1, wrap64 (x2 + c), by omega, by go_num, rfl, (wrap_in _).1, (wrap_in _).2, BB⟩
              case measure => simp [intOf]; omega
            · have hm2' : most ≤ x2 := by omega
              go_wp2
              go_ret
              exact ⟨_, rfl, (wrap_in _).1, (wrap_in _).2, bnext HB.out hbel2.out⟩
          · go_wp2
            go_ret
            exact ⟨_, rfl, (wrap_in _).1, (wrap_in _).2, bnext HB.out hbel2.out⟩
    · go_wp2
      clear c0 c1 c2 c3 c4
      go_loopw [5, 7] (fun u i wx => ∃ (k : Nat) (x : Int), k ≤ t.m.length ∧ i = .int .i64 k ∧ u = .int .i64 x ∧ -9223372036854775808 ≤ x ∧ x ≤ 9223372036854775807 ∧ Hid (Below W.heap.size W wx)) (fun _ i _ => t.m.length - (intOf i).toNat)
      case atStart => exact ⟨0, x, by omega, rfl, rfl, hx0, hx1, hbel⟩
      case round =>
        obtain ⟨k2, x2, hk2, rfl, rfl, hy0, hy1, hbel2⟩ := hrel
        obtain ⟨a0, a1, a2, a3, a4⟩ := K1.out.below hbel2.out hz
        by_cases hlt2 : k2 < t.m.length
        · by_cases hm2 : x2 < most
          · obtain ⟨b2, off2, z2, B1, e1, B2, e2, rfl, _, hb2, hzz2, q2, rz2⟩ := (RM.out.next (bnext HB.out hbel2.out)).elem hlt2
            obtain ⟨r0, r1, r2, r3, r4⟩ := q2
            have RZ := Lib.hid rz2
            clear rz2 hzz2
            go_wp2_with fail
            refine (IH.out _ z2 _ _ _ _ _ (wrap_in _).1 (wrap_in _).2 RZ.out).mono ?_
            rintro e w2 ⟨c, rfl, hc0, hc1, hbc⟩
            have BB := Lib.hid (bnext hbel2.out hbc)
            clear hbc
            go_wp2
            go_roundw
            case rel => exact ⟨k2 + 1, wrap64 (x2 + c), by omega, by go_num, rfl, (wrap_in _).1, (wrap_in _).2, BB⟩
            case measure => simp [intOf]; omega
          · have hm2' : most ≤ x2 := by omega
            go_wp2
            go_ret
            exact ⟨_, rfl, (wrap_in _).1, (wrap_in _).2, bnext HB.out hbel2.out⟩
        · go_wp2
          go_ret
          exact ⟨_, rfl, (wrap_in _).1, (wrap_in _).2, bnext HB.out hbel2.out⟩

theorem count_any : ∀ d, CountOk d
  | 0 => fun _ _ _ _ _ _ _ _ _ h => h.elim
  | d + 1 => count_succ d (count_any d)

set_option maxHeartbeats 1600000 in
theorem many_any (w : World) (d : Nat) (A : Option Addr) (c : Nat) (l : List V) (h : Rw w 0 w.heap.size d A c l) (most : Int) (_hm0 : -9223372036854775808 ≤ most) (_hm1 : most ≤ 9223372036854775807) :
    Calls Try.prog 24 #[.slice A l.length c, .int .i64 most] w (IntPost w) := by
  have H := Lib.hid h
  have hbl := h.big
  clear h
  go_enter Try.func24, Try.ntmps24
  go_wp2
  go_loopw [5, 6] (fun u i wr => ∃ (k : Nat) (x : Int), k ≤ l.length ∧ i = .int .i64 k ∧ u = .int .i64 x ∧ -9223372036854775808 ≤ x ∧ x ≤ 9223372036854775807 ∧ Hid (Below w.heap.size w wr)) (fun _ i _ => l.length - (intOf i).toNat)
  case atStart => exact ⟨0, 0, by omega, rfl, rfl, by omega, by omega, Lib.hid (Below.refl _ _)⟩
  case round =>
    obtain ⟨k, x, hk, rfl, rfl, hx0, hx1, hbel⟩ := hrel
    by_cases hlt : k < l.length
    · by_cases hm : x < most
      · obtain ⟨b, off, z, A1, e1, A2, e2, rfl, _, hb, hzz, q, rz⟩ := (H.out.next hbel.out).elem hlt
        obtain ⟨q0, q1, q2, q3, q4⟩ := q
        have RZ := Lib.hid rz
        clear rz hzz
        go_wp2_with fail
        refine (count_any d _ z _ _ _ _ _ (wrap_in _).1 (wrap_in _).2 RZ.out).mono ?_
        rintro e w2 ⟨c, rfl, hc0, hc1, hbc⟩
        have BB := Lib.hid (bnext hbel.out hbc)
        clear hbc
        go_wp2
        go_roundw
        case rel => exact ⟨k + 1, wrap64 (x + c), by omega, by go_num, rfl, (wrap_in _).1, (wrap_in _).2, BB⟩
        case measure => simp [intOf]; omega
      · have hm' : most ≤ x := by omega
        go_wp2
        go_ret
        exact ⟨x, rfl, hx0, hx1, hbel.out⟩
    · go_wp2
      go_ret
      exact ⟨x, rfl, hx0, hx1, hbel.out⟩

def BoolPost (w : World) (e : Ending) (w' : World) : Prop := ∃ b : Bool, e = .returned (.bool b) ∧ Below w.heap.size w w'
end Go.Proofs.Ytmgjiipooffggaa

