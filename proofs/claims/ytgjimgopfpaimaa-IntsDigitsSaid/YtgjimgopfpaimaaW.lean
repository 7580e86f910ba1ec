/- The document's numbers of any greatness: contract of Plus, both signs the same. -/
import Derived.Test.YtgjimgopfpaimaaV
namespace Go.Proofs.Ytgjimgopfpaimaa
open Go.RowKit

theorem cell_kept {B : Nat} {w w' : World} (h : Below B w w') {p : Addr} {v : Value} (hp : p.block < B) (hc : w.cell? p = some v) : w'.cell? p = some v := (h.cell hp).trans hc
theorem frozen_kept {B : Nat} {w w' : World} (h : Below B w w') {p : Addr} {v : Bool} (hp : p.block < B) (hc : w.frozen? p = v) : w'.frozen? p = v := (h.frozen hp).trans hc

theorem below_drewN {B : Nat} {a w : World} (h : Below B a w) (q : Nat) : Below B a (w.drewN q) := ⟨h.os, h.tape, h.output, h.size, h.block⟩

/-- The world of Plus at its start: both numbers in structs of their own, and one for what it answers. -/
def plusW (w : World) (v0 v1 u0 u1 : Value) : World := ((w.alloc (.cells #[v0, v1] 46)).alloc (.cells #[u0, u1] 46)).alloc (.cells #[.bool false, .slice none 0 0] 46)
theorem plusW_size (w : World) (v0 v1 u0 u1 : Value) : (plusW w v0 v1 u0 u1).heap.size = w.heap.size + 3 := by simp [plusW]
theorem plusW_below (w : World) (v0 v1 u0 u1 : Value) : Below w.heap.size w (plusW w v0 v1 u0 u1) :=
  (((Below.refl _ _).alloc (Nat.le_refl _) _).alloc (by simp) _).alloc (by simp; omega) _
theorem plusW_cells (w : World) (v0 v1 u0 u1 : Value) :
    (plusW w v0 v1 u0 u1).cell? ⟨w.heap.size, 0, none⟩ = some v0 ∧ (plusW w v0 v1 u0 u1).cell? ⟨w.heap.size, 1, none⟩ = some v1 ∧
    (plusW w v0 v1 u0 u1).cell? ⟨w.heap.size + 1, 0, none⟩ = some u0 ∧ (plusW w v0 v1 u0 u1).cell? ⟨w.heap.size + 1, 1, none⟩ = some u1 ∧
    (plusW w v0 v1 u0 u1).cell? ⟨w.heap.size + 1 + 1, 0, none⟩ = some (.bool false) ∧ (plusW w v0 v1 u0 u1).cell? ⟨w.heap.size + 1 + 1, 1, none⟩ = some (.slice none 0 0) ∧
    (plusW w v0 v1 u0 u1).frozen? ⟨w.heap.size + 1 + 1, 0, none⟩ = false ∧ (plusW w v0 v1 u0 u1).frozen? ⟨w.heap.size + 1 + 1, 1, none⟩ = false := by
  unfold plusW
  refine ⟨?_, ?_, ?_, ?_, ?_, ?_, ?_, ?_⟩
  all_goals simp [go_sem]

theorem sign_zero (m : Bool) (k : Nat) (x : Int) (h : k = 0 → x = 0) : (if m then -x else x) = (if (m && decide (0 < k)) then -x else x) := by
  cases m
  · rfl
  · rcases Nat.eq_zero_or_pos k with h0 | h0
    · rw [h h0]; simp
    · simp [h0]

set_option maxHeartbeats 800000 in
set_option maxRecDepth 100000 in
theorem plus_same (m : Bool) (A1 A2 : Option Addr) (n1 n2 c1 c2 : Nat) (a b : List Int) (w : World) (h1 : Ints w w.heap.size A1 n1 a) (h2 : Ints w w.heap.size A2 n2 b) (ha : Digs a) (hb : Digs b) (K : Nat) (k1 : n1 ≤ K) (k2 : n2 ≤ K) (hK : K ≤ 10000) :
    Calls Try.prog 25 #[.agg #[.bool m, .slice A1 n1 c1], .agg #[.bool m, .slice A2 n2 c2]] w fun e w' => SomeNum w' (K + 1) e (if m then -(valD a + valD b) else valD a + valD b) ∧ Below w.heap.size w w' := by
  have H1 := Lib.hid h1
  have H2 := Lib.hid h2
  have HD1 := Lib.hid ha
  have HD2 := Lib.hid hb
  clear h1 h2 ha hb
  generalize hx : (if m then -(valD a + valD b) else valD a + valD b) = X
  have HX := Lib.hid hx
  clear hx
  go_enter Try.func25, Try.ntmps25
  go_wp2
  go_loopw [5, 6, 7] (fun v y i wr => ∃ (k : Nat) (c : Int) (ds : List Int), i = .int .i64 k ∧ y = .int .i64 c ∧ Hid (0 ≤ c ∧ c ≤ 1 ∧ k ≤ K + 1 ∧ (k = K + 1 → c = 0)) ∧ Hid (OwnInts wr (w.heap.size + 3) v ds) ∧ Hid (Digs ds) ∧ Hid (ds.length = k) ∧ Hid (valD ds + ten k * c = valD (a.take k) + valD (b.take k)) ∧ Hid (Below (w.heap.size + 3) (plusW w (.bool m) (.slice A1 n1 c1) (.bool m) (.slice A2 n2 c2)) wr)) (fun _ _ i _ => K + 2 - (intOf i).toNat)
  case atStart => exact ⟨0, 0, [], rfl, rfl, Lib.hid (by omega), Lib.hid (ownInts_nil _ _), Lib.hid digs_nil, Lib.hid rfl, Lib.hid (by simp [valD]), Lib.hid (Below.refl _ _)⟩
  case round =>
    obtain ⟨k, c, ds, rfl, rfl, hkc, ho, hd, hl, hv, hbel⟩ := hrel
    obtain ⟨p0, p1, q0, q1, r0, r1, f0, f1⟩ := plusW_cells w (.bool m) (.slice A1 n1 c1) (.bool m) (.slice A2 n2 c2)
    have p0 := cell_kept hbel.out (by show w.heap.size < _; omega) p0
    have p1 := cell_kept hbel.out (by show w.heap.size < _; omega) p1
    have q0 := cell_kept hbel.out (by simp) q0
    have q1 := cell_kept hbel.out (by simp) q1
    have r0 := cell_kept hbel.out (by simp) r0
    have r1 := cell_kept hbel.out (by simp) r1
    have f0 := frozen_kept hbel.out (by simp) f0
    have f1 := frozen_kept hbel.out (by simp) f1
    have hsz : w.heap.size + 3 ≤ wr.heap.size := by have := hbel.out.size; rwa [plusW_size] at this
    have J1 : Hid (Ints wr wr.heap.size A1 n1 a) := Lib.hid (((H1.out.below (plusW_below ..) (Nat.le_refl _)).below hbel.out (by omega)).more (by omega))
    have J2 : Hid (Ints wr wr.heap.size A2 n2 b) := Lib.hid (((H2.out.below (plusW_below ..) (Nat.le_refl _)).below hbel.out (by omega)).more (by omega))
    have c0 := hkc.out.1
    have c1' := hkc.out.2.1
    have hkK := hkc.out.2.2.1
    by_cases hT : k < n1 ∨ k < n2 ∨ 0 < c
    · have d1 := digs_getD HD1.out k
      have d2 := digs_getD HD2.out k
      have D1 : Hid (∀ q, Calls Try.prog 44 #[.slice A1 n1 c1, .int .i64 (k : Int)] (wr.drewN q) fun e w'' => e = .returned (.int .i64 (a.getD k 0)) ∧ ∃ m, w'' = wr.drewN m) := Lib.hid fun q => quiet_eq (digit_any A1 wr.heap.size n1 c1 a k (wr.drewN q) J1.out (by omega))
      have D2 : Hid (∀ q, Calls Try.prog 44 #[.slice A2 n2 c2, .int .i64 (k : Int)] (wr.drewN q) fun e w'' => e = .returned (.int .i64 (b.getD k 0)) ∧ ∃ m, w'' = wr.drewN m) := Lib.hid fun q => quiet_eq (digit_any A2 wr.heap.size n2 c2 b k (wr.drewN q) J2.out (by omega))
      have hkK' : k ≤ K := by
        rcases hT with h | h | h
        · omega
        · omega
        · have := hkc.out.2.2.2; omega
      have ST := Lib.hid (add_step a b ds k c (a.getD k 0 + b.getD k 0 + c) hl.out hv.out rfl)
      have Z1 : Hid (n1 ≤ k → a.getD k 0 = 0) := Lib.hid (fun h => by have := J1.out.1; simp [show a.length ≤ k by omega])
      have Z2 : Hid (n2 ≤ k → b.getD k 0 = 0) := Lib.hid (fun h => by have := J2.out.1; simp [show b.length ≤ k by omega])
      generalize a.getD k 0 = x at d1 D1 ST Z1
      generalize b.getD k 0 = y at d2 D2 ST Z2
      have t : (k < n1) ∨ (¬ k < n1 ∧ k < n2) ∨ (¬ k < n1 ∧ ¬ k < n2 ∧ 0 < c) := by omega
      clear hT
      rcases t with t1 | ⟨t1, t2⟩ | ⟨t1, t2, t3⟩
      all_goals
        go_wp2_with fail
        go_quiet ((go_at_call 44; first | with_reducible exact D1.out _ | with_reducible exact D2.out _))
        clear D1 D2
        go_wp2_with (at_builtin; refine append_ints rfl (.tmp 47) (.tmp 50) rfl (w.heap.size + 3) _ ds rfl (OwnInts.alloc ho.out _) (some ⟨wr.heap.size, 0, none⟩) (wr.heap.size + 1) 1 1 [(x + y + c) % 10] rfl (by simp) (Ints.one (wr.drewN nq) ((x + y + c) % 10) (by rw [fits_iff]; omega)) (by have := hl.out; omega) (by simp; omega) ?_; intro v1 w1 ho1 hg1; have O1 := Lib.hid ho1; have B1 : Hid (Below (w.heap.size + 3) (plusW w (.bool m) (.slice A1 n1 c1) (.bool m) (.slice A2 n2 c2)) w1) := Lib.hid (((below_drewN hbel.out nq).alloc (by simp; omega) _).grown hg1 (by simp; omega) (fun g e => (World.ownsRow.lt ho.out g e).1)); clear ho1 hg1)
        go_roundw
        case rel => exact ⟨k + 1, (x + y + c) / 10, ds ++ [(x + y + c) % 10], by go_num, rfl, Lib.hid (by have := Z1.out; have := Z2.out; omega), O1, Lib.hid (digs_snoc hd.out (by omega) (by omega)), Lib.hid (by have := hl.out; simp; omega), ST, B1⟩
        case measure => simp [intOf]; omega

    · have HV : Hid (valD ds = valD a + valD b) := Lib.hid (by
        have e := hv.out
        have e0 : c = 0 := by omega
        have l1 := J1.out.1
        have l2 := J2.out.1
        rw [e0, Int.mul_zero, Int.add_zero, valD_all (by omega), valD_all (by omega)] at e
        exact e)
      have t1 : ¬ k < n1 := by omega
      have t2 : ¬ k < n2 := by omega
      have t3 : ¬ 0 < c := by omega
      clear hT hv
      obtain ⟨A, cc, rfl, hc, hcm, hI, _⟩ := ho.out.form (by have := hl.out; omega) (digs_fits hd.out)
      have HI := Lib.hid hI
      have HCM := Lib.hid hcm
      clear hI hcm
      go_wp2_with fail
      refine (trim_any _ _ _ _ _ _ _ HI.out (Nat.le_refl _) hc HCM.out).mono ?_
      rintro e w1 ⟨⟨j, rfl, hk, hvk, hnk⟩, hb1⟩
      have HVK := Lib.hid hvk
      have HN := Lib.hid hnk
      have hb2 := hbel.out.trans (hb1.mono hsz)
      have r0 := cell_kept hb1 (by show w.heap.size + 1 + 1 < _; omega) r0
      have r1 := cell_kept hb1 (by show w.heap.size + 1 + 1 < _; omega) r1
      have f0 := frozen_kept hb1 (by show w.heap.size + 1 + 1 < _; omega) f0
      have f1 := frozen_kept hb1 (by show w.heap.size + 1 + 1 < _; omega) f1
      have I1 := Lib.hid (((HI.out.front j hk).below hb1 (Nat.le_refl _)).more hb1.size)
      have HB3 : Hid (Below w.heap.size w w1) := Lib.hid ((plusW_below ..).trans (hb2.mono (by omega)))
      clear hvk hnk hb1 hb2 p0 p1 q0 q1
      go_wp2
      refine bodyPost_ret (v := .agg #[.bool (m && decide (0 < j)), .slice A j cc]) (by simp [results, Try.results25, go_sem, r0, r1]) rfl ⟨⟨_, rfl, num_store _ r0 r1 I1.out (by omega) HCM.out (by have := hl.out; omega) (digs_take hd.out j) HN.out (by intro e; simp at e; exact e.2) ?_⟩, (HB3.out.setCell (by show w.heap.size ≤ w.heap.size + 1 + 1; omega) _).setCell (by show w.heap.size ≤ w.heap.size + 1 + 1; omega) _⟩
      rw [← HX.out, HVK.out, HV.out]
      exact sign_zero m j (valD a + valD b) (fun e => by
        have h1 := HVK.out
        rw [e] at h1
        rw [← HV.out, ← h1]
        rfl)
end Go.Proofs.Ytgjimgopfpaimaa
