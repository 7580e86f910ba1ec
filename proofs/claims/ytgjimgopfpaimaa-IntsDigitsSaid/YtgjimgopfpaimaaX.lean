/- The document's numbers of any greatness: contract of Plus, two signs. -/
import Derived.Test.YtgjimgopfpaimaaW
namespace Go.Proofs.Ytgjimgopfpaimaa
open Go.RowKit

/-- The world of Plus where the signs are two: each number once more in a struct of its own. -/
def plusW2 (w : World) (v0 v1 u0 u1 : Value) : World := ((plusW w v0 v1 u0 u1).alloc (.cells #[v0, v1] 46)).alloc (.cells #[u0, u1] 46)
theorem plusW2_eq (w : World) (v0 v1 u0 u1 : Value) : ((((w.alloc (.cells #[v0, v1] 46)).alloc (.cells #[u0, u1] 46)).alloc (.cells #[.bool false, .slice none 0 0] 46)).alloc (.cells #[v0, v1] 46)).alloc (.cells #[u0, u1] 46) = plusW2 w v0 v1 u0 u1 := rfl
theorem plusW2_size (w : World) (v0 v1 u0 u1 : Value) : (plusW2 w v0 v1 u0 u1).heap.size = w.heap.size + 5 := by simp [plusW2, plusW]
theorem plusW2_below (w : World) (v0 v1 u0 u1 : Value) : Below w.heap.size w (plusW2 w v0 v1 u0 u1) :=
  ((plusW_below ..).alloc (by rw [plusW_size]; omega) _).alloc (by simp [plusW_size]; omega) _
theorem plusW2_cells (w : World) (v0 v1 u0 u1 : Value) :
    (plusW2 w v0 v1 u0 u1).cell? ⟨w.heap.size, 0, none⟩ = some v0 ∧
    (plusW2 w v0 v1 u0 u1).cell? ⟨w.heap.size, 1, none⟩ = some v1 ∧
    (plusW2 w v0 v1 u0 u1).cell? ⟨w.heap.size + 1, 0, none⟩ = some u0 ∧
    (plusW2 w v0 v1 u0 u1).cell? ⟨w.heap.size + 1, 1, none⟩ = some u1 ∧
    (plusW2 w v0 v1 u0 u1).cell? ⟨w.heap.size + 1 + 1, 0, none⟩ = some (.bool false) ∧
    (plusW2 w v0 v1 u0 u1).cell? ⟨w.heap.size + 1 + 1, 1, none⟩ = some (.slice none 0 0) ∧
    (plusW2 w v0 v1 u0 u1).cell? ⟨w.heap.size + 1 + 1 + 1, 0, none⟩ = some v0 ∧
    (plusW2 w v0 v1 u0 u1).cell? ⟨w.heap.size + 1 + 1 + 1, 1, none⟩ = some v1 ∧
    (plusW2 w v0 v1 u0 u1).cell? ⟨w.heap.size + 1 + 1 + 1 + 1, 0, none⟩ = some u0 ∧
    (plusW2 w v0 v1 u0 u1).cell? ⟨w.heap.size + 1 + 1 + 1 + 1, 1, none⟩ = some u1 ∧
    (plusW2 w v0 v1 u0 u1).frozen? ⟨w.heap.size, 0, none⟩ = false ∧
    (plusW2 w v0 v1 u0 u1).frozen? ⟨w.heap.size, 1, none⟩ = false ∧
    (plusW2 w v0 v1 u0 u1).frozen? ⟨w.heap.size + 1, 0, none⟩ = false ∧
    (plusW2 w v0 v1 u0 u1).frozen? ⟨w.heap.size + 1, 1, none⟩ = false ∧
    (plusW2 w v0 v1 u0 u1).frozen? ⟨w.heap.size + 1 + 1, 0, none⟩ = false ∧
    (plusW2 w v0 v1 u0 u1).frozen? ⟨w.heap.size + 1 + 1, 1, none⟩ = false ∧
    (plusW2 w v0 v1 u0 u1).frozen? ⟨w.heap.size + 1 + 1 + 1, 0, none⟩ = false ∧
    (plusW2 w v0 v1 u0 u1).frozen? ⟨w.heap.size + 1 + 1 + 1, 1, none⟩ = false ∧
    (plusW2 w v0 v1 u0 u1).frozen? ⟨w.heap.size + 1 + 1 + 1 + 1, 0, none⟩ = false ∧
    (plusW2 w v0 v1 u0 u1).frozen? ⟨w.heap.size + 1 + 1 + 1 + 1, 1, none⟩ = false := by
  unfold plusW2 plusW
  refine ⟨?_, ?_, ?_, ?_, ?_, ?_, ?_, ?_, ?_, ?_, ?_, ?_, ?_, ?_, ?_, ?_, ?_, ?_, ?_, ?_⟩
  all_goals simp [go_sem]

set_option maxHeartbeats 1600000 in
set_option maxRecDepth 100000 in
theorem plus_lt (m : Bool) (A1 A2 : Option Addr) (n1 n2 c1 c2 : Nat) (a b : List Int) (w : World) (h1 : Ints w w.heap.size A1 n1 a) (h2 : Ints w w.heap.size A2 n2 b) (ha : Digs a) (hb : Digs b) (na : Norm a) (nb : Norm b) (K : Nat) (k1 : n1 ≤ K) (k2 : n2 ≤ K) (hK : K ≤ 10000) (hlt : valD a < valD b) :
    Calls Try.prog 25 #[.agg #[.bool m, .slice A1 n1 c1], .agg #[.bool !m, .slice A2 n2 c2]] w fun e w' => SomeNum w' (K + 1) e (if m then valD b - valD a else valD a - valD b) ∧ Below w.heap.size w w' := by
  have H1 := Lib.hid h1
  have H2 := Lib.hid h2
  have HD1 := Lib.hid ha
  have HD2 := Lib.hid hb
  have HN1 := Lib.hid na
  have HN2 := Lib.hid nb
  have HLT := Lib.hid hlt
  clear h1 h2 ha hb na nb hlt
  generalize hx : (if m then valD b - valD a else valD a - valD b) = X
  have HX := Lib.hid hx
  clear hx
  have hmm : (m == !m) = false := by cases m <;> rfl
  go_enter Try.func25, Try.ntmps25
  go_wp2_with fail
  have S := Lib.hid (size_any A1 A2 w.heap.size n1 n2 c1 c2 a b (plusW2 w (.bool m) (.slice A1 n1 c1) (.bool !m) (.slice A2 n2 c2)) (H1.out.below (plusW2_below ..) (Nat.le_refl _)) (H2.out.below (plusW2_below ..) (Nat.le_refl _)) (by rw [plusW2_size]; omega) HD1.out HD2.out HN1.out HN2.out (by omega) (by omega))
  rw [plusW2_eq]
  refine S.out.mono ?_
  rintro e w1 ⟨⟨r, rfl, hr⟩, hb⟩
  have hr0 : r < 0 := hr.2 HLT.out
  have HB := Lib.hid hb
  clear hr hb S
  obtain ⟨p0, p1, q0, q1, r0, r1, s0, s1, z0, z1, fp0, fp1, fq0, fq1, fr0, fr1, fs0, fs1, fz0, fz1⟩ := plusW2_cells w (.bool m) (.slice A1 n1 c1) (.bool !m) (.slice A2 n2 c2)
  have p0 := cell_kept HB.out (by show w.heap.size < _; rw [plusW2_size]; omega) p0
  have p1 := cell_kept HB.out (by show w.heap.size < _; rw [plusW2_size]; omega) p1
  have q0 := cell_kept HB.out (by show w.heap.size + 1 < _; rw [plusW2_size]; omega) q0
  have q1 := cell_kept HB.out (by show w.heap.size + 1 < _; rw [plusW2_size]; omega) q1
  have r0 := cell_kept HB.out (by show w.heap.size + 1 + 1 < _; rw [plusW2_size]; omega) r0
  have r1 := cell_kept HB.out (by show w.heap.size + 1 + 1 < _; rw [plusW2_size]; omega) r1
  have s0 := cell_kept HB.out (by show w.heap.size + 1 + 1 + 1 < _; rw [plusW2_size]; omega) s0
  have s1 := cell_kept HB.out (by show w.heap.size + 1 + 1 + 1 < _; rw [plusW2_size]; omega) s1
  have z0 := cell_kept HB.out (by show w.heap.size + 1 + 1 + 1 + 1 < _; rw [plusW2_size]; omega) z0
  have z1 := cell_kept HB.out (by show w.heap.size + 1 + 1 + 1 + 1 < _; rw [plusW2_size]; omega) z1
  have fp0 := frozen_kept HB.out (by show w.heap.size < _; rw [plusW2_size]; omega) fp0
  have fp1 := frozen_kept HB.out (by show w.heap.size < _; rw [plusW2_size]; omega) fp1
  have fq0 := frozen_kept HB.out (by show w.heap.size + 1 < _; rw [plusW2_size]; omega) fq0
  have fq1 := frozen_kept HB.out (by show w.heap.size + 1 < _; rw [plusW2_size]; omega) fq1
  have fr0 := frozen_kept HB.out (by show w.heap.size + 1 + 1 < _; rw [plusW2_size]; omega) fr0
  have fr1 := frozen_kept HB.out (by show w.heap.size + 1 + 1 < _; rw [plusW2_size]; omega) fr1
  have fs0 := frozen_kept HB.out (by show w.heap.size + 1 + 1 + 1 < _; rw [plusW2_size]; omega) fs0
  have fs1 := frozen_kept HB.out (by show w.heap.size + 1 + 1 + 1 < _; rw [plusW2_size]; omega) fs1
  have fz0 := frozen_kept HB.out (by show w.heap.size + 1 + 1 + 1 + 1 < _; rw [plusW2_size]; omega) fz0
  have fz1 := frozen_kept HB.out (by show w.heap.size + 1 + 1 + 1 + 1 < _; rw [plusW2_size]; omega) fz1
  have hsz : w.heap.size + 5 ≤ w1.heap.size := by have := HB.out.size; rwa [plusW2_size] at this
  have HB0 : Hid (Below w.heap.size w w1) := Lib.hid ((plusW2_below ..).trans (HB.out.mono (by rw [plusW2_size]; omega)))
  go_wp2
  obtain ⟨W2, hW2⟩ : ∃ W2, W2 = ((((w1.setCell ⟨w.heap.size + 1 + 1 + 1, 0, none⟩ (.bool !m)).setCell ⟨w.heap.size + 1 + 1 + 1, 1, none⟩ (.slice A2 n2 c2)).setCell ⟨w.heap.size + 1 + 1 + 1 + 1, 0, none⟩ (.bool m)).setCell ⟨w.heap.size + 1 + 1 + 1 + 1, 1, none⟩ (.slice A1 n1 c1)) := ⟨_, rfl⟩
  have hz2 : W2.heap.size = w1.heap.size := by rw [hW2]; simp
  have s0' : W2.cell? ⟨w.heap.size + 1 + 1 + 1, 0, none⟩ = some (.bool !m) := by rw [hW2]; simp [go_sem, s0]
  have s1' : W2.cell? ⟨w.heap.size + 1 + 1 + 1, 1, none⟩ = some (.slice A2 n2 c2) := by rw [hW2]; simp [go_sem, s1]
  have z1' : W2.cell? ⟨w.heap.size + 1 + 1 + 1 + 1, 1, none⟩ = some (.slice A1 n1 c1) := by rw [hW2]; simp [go_sem, z1]
  have r0' : W2.cell? ⟨w.heap.size + 1 + 1, 0, none⟩ = some (.bool false) := by rw [hW2]; simp [go_sem, r0]
  have r1' : W2.cell? ⟨w.heap.size + 1 + 1, 1, none⟩ = some (.slice none 0 0) := by rw [hW2]; simp [go_sem, r1]
  have fr0' : W2.frozen? ⟨w.heap.size + 1 + 1, 0, none⟩ = false := by rw [hW2]; simp [go_sem, fr0]
  have fr1' : W2.frozen? ⟨w.heap.size + 1 + 1, 1, none⟩ = false := by rw [hW2]; simp [go_sem, fr1]
  have HB0' : Hid (Below w.heap.size w W2) := Lib.hid (by rw [hW2]; exact (((HB0.out.setCell (by show w.heap.size ≤ w.heap.size + 1 + 1 + 1; omega) _).setCell (by show w.heap.size ≤ w.heap.size + 1 + 1 + 1; omega) _).setCell (by show w.heap.size ≤ w.heap.size + 1 + 1 + 1 + 1; omega) _).setCell (by show w.heap.size ≤ w.heap.size + 1 + 1 + 1 + 1; omega) _)
  rw [← hW2]
  have hsz' : w.heap.size + 5 ≤ W2.heap.size := by omega
  clear hW2 hz2 p0 p1 q0 q1 r0 r1 s0 s1 z0 z1 fp0 fp1 fq0 fq1 fr0 fr1 fs0 fs1 fz0 fz1 HB0 HB hsz
  go_loopw [5, 6, 11] (fun v y i wr => ∃ (k : Nat) (c : Int) (ds : List Int), i = .int .i64 k ∧ y = .int .i64 c ∧ Hid (0 ≤ c ∧ c ≤ 1 ∧ k ≤ n2) ∧ Hid (OwnInts wr (w.heap.size + 5) v ds) ∧ Hid (Digs ds) ∧ Hid (ds.length = k) ∧ Hid (valD ds = valD (b.take k) - valD (a.take k) + ten k * c) ∧ Hid (Below (w.heap.size + 5) W2 wr)) (fun _ _ i _ => n2 - (intOf i).toNat)
  case atStart => exact ⟨0, 0, [], rfl, rfl, Lib.hid (by omega), Lib.hid (ownInts_nil _ _), Lib.hid digs_nil, Lib.hid rfl, Lib.hid (by simp [valD]), Lib.hid (Below.refl _ _)⟩
  case round =>
    obtain ⟨k, c, ds, rfl, rfl, hkc, ho, hd, hl, hv, hbel⟩ := hrel
    have s0 := cell_kept hbel.out (by show w.heap.size + 1 + 1 + 1 < _; omega) s0'
    have s1 := cell_kept hbel.out (by show w.heap.size + 1 + 1 + 1 < _; omega) s1'
    have z1 := cell_kept hbel.out (by show w.heap.size + 1 + 1 + 1 + 1 < _; omega) z1'
    have r0 := cell_kept hbel.out (by show w.heap.size + 1 + 1 < _; omega) r0'
    have r1 := cell_kept hbel.out (by show w.heap.size + 1 + 1 < _; omega) r1'
    have fr0 := frozen_kept hbel.out (by show w.heap.size + 1 + 1 < _; omega) fr0'
    have fr1 := frozen_kept hbel.out (by show w.heap.size + 1 + 1 < _; omega) fr1'
    have hszr : w.heap.size + 5 ≤ wr.heap.size := by have := hbel.out.size; omega
    have I1 : Hid (Ints wr wr.heap.size A1 n1 a) := Lib.hid (((H1.out.below HB0'.out (Nat.le_refl _)).below hbel.out (by omega)).more (by omega))
    have I2 : Hid (Ints wr wr.heap.size A2 n2 b) := Lib.hid (((H2.out.below HB0'.out (Nat.le_refl _)).below hbel.out (by omega)).more (by omega))
    clear s0' s1' z1' r0' r1' fr0' fr1'
    have c0 := hkc.out.1
    have c1' := hkc.out.2.1
    have hkn := hkc.out.2.2
    by_cases hT : k < n2
    · obtain ⟨bb, off, hAe, hbb, hcc⟩ := I2.out.2.2.2 (by omega)
      have hck := hcc k hT
      clear hcc
      have d1 := digs_getD HD2.out k
      have d2 := digs_getD HD1.out k
      have D2 : Hid (∀ q, Calls Try.prog 44 #[.slice A1 n1 c1, .int .i64 (k : Int)] (wr.drewN q) fun e w'' => e = .returned (.int .i64 (a.getD k 0)) ∧ ∃ m, w'' = wr.drewN m) := Lib.hid fun q => quiet_eq (digit_any A1 wr.heap.size n1 c1 a k (wr.drewN q) I1.out (by omega))
      have ST := Lib.hid (fun c' x' => sub_step b a ds k c (b.getD k 0 - a.getD k 0 - c) c' x' hl.out hv.out rfl)
      generalize b.getD k 0 = x at d1 ST hck
      generalize a.getD k 0 = y at d2 D2 ST
      rw [hAe] at s1
      have hTi : (k : Int) < (n2 : Int) := by omega
      have HAE := Lib.hid hAe
      clear hAe
      go_wp2_with fail
      go_quiet ((go_at_call 44; exact D2.out _))
      clear D2
      by_cases hneg : x - y - c < 0
      · go_wp2_with (at_builtin; refine append_ints rfl (.tmp 91) (.tmp 93) rfl (w.heap.size + 5) _ ds rfl (OwnInts.alloc ho.out _) (some ⟨wr.heap.size, 0, none⟩) (wr.heap.size + 1) 1 1 [x - y - c + 10] rfl (by simp) (Ints.one (wr.drewN nq) (x - y - c + 10) (by rw [fits_iff]; omega)) (by have := hl.out; omega) (by simp; omega) ?_; intro v1 w1 ho1 hg1; have O1 := Lib.hid ho1; have B1 : Hid (Below (w.heap.size + 5) W2 w1) := Lib.hid (((below_drewN hbel.out nq).alloc (by simp; omega) _).grown hg1 (by simp; omega) (fun g e => (World.ownsRow.lt ho.out g e).1)); clear ho1 hg1)
        go_roundw
        case rel => exact ⟨k + 1, 1, ds ++ [x - y - c + 10], by go_num, rfl, Lib.hid (by omega), O1, Lib.hid (digs_snoc hd.out (by omega) (by omega)), Lib.hid (by have := hl.out; simp; omega), Lib.hid (ST.out 1 _ (by omega)), B1⟩
        case measure => simp [intOf]; omega
      · go_wp2_with (at_builtin; refine append_ints rfl (.tmp 91) (.tmp 93) rfl (w.heap.size + 5) _ ds rfl (OwnInts.alloc ho.out _) (some ⟨wr.heap.size, 0, none⟩) (wr.heap.size + 1) 1 1 [x - y - c] rfl (by simp) (Ints.one (wr.drewN nq) (x - y - c) (by rw [fits_iff]; omega)) (by have := hl.out; omega) (by simp; omega) ?_; intro v1 w1 ho1 hg1; have O1 := Lib.hid ho1; have B1 : Hid (Below (w.heap.size + 5) W2 w1) := Lib.hid (((below_drewN hbel.out nq).alloc (by simp; omega) _).grown hg1 (by simp; omega) (fun g e => (World.ownsRow.lt ho.out g e).1)); clear ho1 hg1)
        go_roundw
        case rel => exact ⟨k + 1, 0, ds ++ [x - y - c], by go_num, rfl, Lib.hid (by omega), O1, Lib.hid (digs_snoc hd.out (by omega) (by omega)), Lib.hid (by have := hl.out; simp; omega), Lib.hid (ST.out 0 _ (by omega)), B1⟩
        case measure => simp [intOf]; omega
    · have HV : Hid (valD ds = valD b - valD a) := Lib.hid (by
        have e := hv.out
        have l1 := H1.out.1
        have l2 := H2.out.1
        have e3 := hl.out
        have e4 := valD_lt hd.out
        have e6 := HLT.out
        have hle : a.length ≤ b.length := by
          rcases Nat.lt_or_ge b.length a.length with h | h
          · have := norm_len_lt HD2.out HD1.out HN1.out h; omega
          · exact h
        rw [valD_all (by omega), valD_all (by omega)] at e
        rw [e3] at e4
        have e5 := ten_pos k
        have : c = 0 := by
          rcases (show c = 0 ∨ c = 1 by omega) with h | h
          · exact h
          · rw [h, Int.mul_one] at e; omega
        rw [this, Int.mul_zero, Int.add_zero] at e
        exact e)
      clear hv
      obtain ⟨A, cc, rfl, hc, hcm, hI, _⟩ := ho.out.form (by have := hl.out; omega) (digs_fits hd.out)
      have HI := Lib.hid hI
      have HCM := Lib.hid hcm
      clear hI hcm
      go_wp2_with fail
      refine (trim_any _ _ _ _ _ _ _ HI.out (Nat.le_refl _) hc HCM.out).mono ?_
      rintro e w1 ⟨⟨j, rfl, hk, hvk, hnk⟩, hb1⟩
      have HVK := Lib.hid hvk
      have HN := Lib.hid hnk
      have r0 := cell_kept hb1 (by show w.heap.size + 1 + 1 < _; omega) r0
      have r1 := cell_kept hb1 (by show w.heap.size + 1 + 1 < _; omega) r1
      have fr0 := frozen_kept hb1 (by show w.heap.size + 1 + 1 < _; omega) fr0
      have fr1 := frozen_kept hb1 (by show w.heap.size + 1 + 1 < _; omega) fr1
      have K1 := Lib.hid (((HI.out.front j hk).below hb1 (Nat.le_refl _)).more hb1.size)
      have HB3 : Hid (Below w.heap.size w w1) := Lib.hid ((HB0'.out.trans (hbel.out.mono (by omega))).trans (hb1.mono (by omega)))
      clear hvk hnk hb1 s0 s1 z1
      go_wp2
      refine bodyPost_ret (v := .agg #[.bool ((!m) && decide (0 < j)), .slice A j cc]) (by simp [results, Try.results25, go_sem, r0, r1]) rfl ⟨⟨_, rfl, num_store _ r0 r1 K1.out (by omega) HCM.out (by have := hl.out; omega) (digs_take hd.out j) HN.out (by intro e; simp at e; exact e.2) ?_⟩, (HB3.out.setCell (by show w.heap.size ≤ w.heap.size + 1 + 1; omega) _).setCell (by show w.heap.size ≤ w.heap.size + 1 + 1; omega) _⟩
      rw [← HX.out, HVK.out, HV.out]
      have hs := sign_zero (!m) j (valD b - valD a) (fun e => by
        have h1 := HVK.out
        rw [e] at h1
        rw [← HV.out, ← h1]
        rfl)
      rw [← hs]
      cases m <;> simp <;> omega

set_option maxHeartbeats 1600000 in
set_option maxRecDepth 100000 in
theorem plus_ge (m : Bool) (A1 A2 : Option Addr) (n1 n2 c1 c2 : Nat) (a b : List Int) (w : World) (h1 : Ints w w.heap.size A1 n1 a) (h2 : Ints w w.heap.size A2 n2 b) (ha : Digs a) (hb : Digs b) (na : Norm a) (nb : Norm b) (K : Nat) (k1 : n1 ≤ K) (k2 : n2 ≤ K) (hK : K ≤ 10000) (hlt : ¬ valD a < valD b) :
    Calls Try.prog 25 #[.agg #[.bool m, .slice A1 n1 c1], .agg #[.bool !m, .slice A2 n2 c2]] w fun e w' => SomeNum w' (K + 1) e (if m then valD b - valD a else valD a - valD b) ∧ Below w.heap.size w w' := by
  have H1 := Lib.hid h1
  have H2 := Lib.hid h2
  have HD1 := Lib.hid ha
  have HD2 := Lib.hid hb
  have HN1 := Lib.hid na
  have HN2 := Lib.hid nb
  have HLT := Lib.hid hlt
  clear h1 h2 ha hb na nb hlt
  generalize hx : (if m then valD b - valD a else valD a - valD b) = X
  have HX := Lib.hid hx
  clear hx
  have hmm : (m == !m) = false := by cases m <;> rfl
  go_enter Try.func25, Try.ntmps25
  go_wp2_with fail
  have S := Lib.hid (size_any A1 A2 w.heap.size n1 n2 c1 c2 a b (plusW2 w (.bool m) (.slice A1 n1 c1) (.bool !m) (.slice A2 n2 c2)) (H1.out.below (plusW2_below ..) (Nat.le_refl _)) (H2.out.below (plusW2_below ..) (Nat.le_refl _)) (by rw [plusW2_size]; omega) HD1.out HD2.out HN1.out HN2.out (by omega) (by omega))
  rw [plusW2_eq]
  refine S.out.mono ?_
  rintro e w1 ⟨⟨r, rfl, hr⟩, hb⟩
  have hr0 : ¬ r < 0 := fun h => by have h1 := hr.1 h; have h2 := HLT.out; omega
  have HB := Lib.hid hb
  clear hr hb S
  obtain ⟨p0, p1, q0, q1, r0, r1, s0, s1, z0, z1, fp0, fp1, fq0, fq1, fr0, fr1, fs0, fs1, fz0, fz1⟩ := plusW2_cells w (.bool m) (.slice A1 n1 c1) (.bool !m) (.slice A2 n2 c2)
  have p0 := cell_kept HB.out (by show w.heap.size < _; rw [plusW2_size]; omega) p0
  have p1 := cell_kept HB.out (by show w.heap.size < _; rw [plusW2_size]; omega) p1
  have q0 := cell_kept HB.out (by show w.heap.size + 1 < _; rw [plusW2_size]; omega) q0
  have q1 := cell_kept HB.out (by show w.heap.size + 1 < _; rw [plusW2_size]; omega) q1
  have r0 := cell_kept HB.out (by show w.heap.size + 1 + 1 < _; rw [plusW2_size]; omega) r0
  have r1 := cell_kept HB.out (by show w.heap.size + 1 + 1 < _; rw [plusW2_size]; omega) r1
  have s0 := cell_kept HB.out (by show w.heap.size + 1 + 1 + 1 < _; rw [plusW2_size]; omega) s0
  have s1 := cell_kept HB.out (by show w.heap.size + 1 + 1 + 1 < _; rw [plusW2_size]; omega) s1
  have z0 := cell_kept HB.out (by show w.heap.size + 1 + 1 + 1 + 1 < _; rw [plusW2_size]; omega) z0
  have z1 := cell_kept HB.out (by show w.heap.size + 1 + 1 + 1 + 1 < _; rw [plusW2_size]; omega) z1
  have fp0 := frozen_kept HB.out (by show w.heap.size < _; rw [plusW2_size]; omega) fp0
  have fp1 := frozen_kept HB.out (by show w.heap.size < _; rw [plusW2_size]; omega) fp1
  have fq0 := frozen_kept HB.out (by show w.heap.size + 1 < _; rw [plusW2_size]; omega) fq0
  have fq1 := frozen_kept HB.out (by show w.heap.size + 1 < _; rw [plusW2_size]; omega) fq1
  have fr0 := frozen_kept HB.out (by show w.heap.size + 1 + 1 < _; rw [plusW2_size]; omega) fr0
  have fr1 := frozen_kept HB.out (by show w.heap.size + 1 + 1 < _; rw [plusW2_size]; omega) fr1
  have fs0 := frozen_kept HB.out (by show w.heap.size + 1 + 1 + 1 < _; rw [plusW2_size]; omega) fs0
  have fs1 := frozen_kept HB.out (by show w.heap.size + 1 + 1 + 1 < _; rw [plusW2_size]; omega) fs1
  have fz0 := frozen_kept HB.out (by show w.heap.size + 1 + 1 + 1 + 1 < _; rw [plusW2_size]; omega) fz0
  have fz1 := frozen_kept HB.out (by show w.heap.size + 1 + 1 + 1 + 1 < _; rw [plusW2_size]; omega) fz1
  have hsz : w.heap.size + 5 ≤ w1.heap.size := by have := HB.out.size; rwa [plusW2_size] at this
  have HB0 : Hid (Below w.heap.size w w1) := Lib.hid ((plusW2_below ..).trans (HB.out.mono (by rw [plusW2_size]; omega)))
  go_wp2
  obtain ⟨W2, hW2⟩ : ∃ W2, W2 = w1 := ⟨_, rfl⟩
  subst hW2
  have s0' := s0
  have s1' := s1
  have z1' := z1
  have r0' := r0
  have r1' := r1
  have fr0' := fr0
  have fr1' := fr1
  have HB0' := HB0
  have hsz' := hsz
  clear p0 p1 q0 q1 r0 r1 s0 s1 z0 z1 fp0 fp1 fq0 fq1 fr0 fr1 fs0 fs1 fz0 fz1 HB0 HB hsz
  go_loopw [5, 6, 11] (fun v y i wr => ∃ (k : Nat) (c : Int) (ds : List Int), i = .int .i64 k ∧ y = .int .i64 c ∧ Hid (0 ≤ c ∧ c ≤ 1 ∧ k ≤ n1) ∧ Hid (OwnInts wr (w.heap.size + 5) v ds) ∧ Hid (Digs ds) ∧ Hid (ds.length = k) ∧ Hid (valD ds = valD (a.take k) - valD (b.take k) + ten k * c) ∧ Hid (Below (w.heap.size + 5) W2 wr)) (fun _ _ i _ => n1 - (intOf i).toNat)
  case atStart => exact ⟨0, 0, [], rfl, rfl, Lib.hid (by omega), Lib.hid (ownInts_nil _ _), Lib.hid digs_nil, Lib.hid rfl, Lib.hid (by simp [valD]), Lib.hid (Below.refl _ _)⟩
  case round =>
    obtain ⟨k, c, ds, rfl, rfl, hkc, ho, hd, hl, hv, hbel⟩ := hrel
    have s0 := cell_kept hbel.out (by show w.heap.size + 1 + 1 + 1 < _; omega) s0'
    have s1 := cell_kept hbel.out (by show w.heap.size + 1 + 1 + 1 < _; omega) s1'
    have z1 := cell_kept hbel.out (by show w.heap.size + 1 + 1 + 1 + 1 < _; omega) z1'
    have r0 := cell_kept hbel.out (by show w.heap.size + 1 + 1 < _; omega) r0'
    have r1 := cell_kept hbel.out (by show w.heap.size + 1 + 1 < _; omega) r1'
    have fr0 := frozen_kept hbel.out (by show w.heap.size + 1 + 1 < _; omega) fr0'
    have fr1 := frozen_kept hbel.out (by show w.heap.size + 1 + 1 < _; omega) fr1'
    have hszr : w.heap.size + 5 ≤ wr.heap.size := by have := hbel.out.size; omega
    have I1 : Hid (Ints wr wr.heap.size A1 n1 a) := Lib.hid (((H1.out.below HB0'.out (Nat.le_refl _)).below hbel.out (by omega)).more (by omega))
    have I2 : Hid (Ints wr wr.heap.size A2 n2 b) := Lib.hid (((H2.out.below HB0'.out (Nat.le_refl _)).below hbel.out (by omega)).more (by omega))
    clear s0' s1' z1' r0' r1' fr0' fr1'
    have c0 := hkc.out.1
    have c1' := hkc.out.2.1
    have hkn := hkc.out.2.2
    by_cases hT : k < n1
    · obtain ⟨bb, off, hAe, hbb, hcc⟩ := I1.out.2.2.2 (by omega)
      have hck := hcc k hT
      clear hcc
      have d1 := digs_getD HD1.out k
      have d2 := digs_getD HD2.out k
      have D2 : Hid (∀ q, Calls Try.prog 44 #[.slice A2 n2 c2, .int .i64 (k : Int)] (wr.drewN q) fun e w'' => e = .returned (.int .i64 (b.getD k 0)) ∧ ∃ m, w'' = wr.drewN m) := Lib.hid fun q => quiet_eq (digit_any A2 wr.heap.size n2 c2 b k (wr.drewN q) I2.out (by omega))
      have ST := Lib.hid (fun c' x' => sub_step a b ds k c (a.getD k 0 - b.getD k 0 - c) c' x' hl.out hv.out rfl)
      generalize a.getD k 0 = x at d1 ST hck
      generalize b.getD k 0 = y at d2 D2 ST
      rw [hAe] at s1
      have hTi : (k : Int) < (n1 : Int) := by omega
      have HAE := Lib.hid hAe
      clear hAe
      go_wp2_with fail
      go_quiet ((go_at_call 44; exact D2.out _))
      clear D2
      by_cases hneg : x - y - c < 0
      · go_wp2_with (at_builtin; refine append_ints rfl (.tmp 91) (.tmp 93) rfl (w.heap.size + 5) _ ds rfl (OwnInts.alloc ho.out _) (some ⟨wr.heap.size, 0, none⟩) (wr.heap.size + 1) 1 1 [x - y - c + 10] rfl (by simp) (Ints.one (wr.drewN nq) (x - y - c + 10) (by rw [fits_iff]; omega)) (by have := hl.out; omega) (by simp; omega) ?_; intro v1 w1 ho1 hg1; have O1 := Lib.hid ho1; have B1 : Hid (Below (w.heap.size + 5) W2 w1) := Lib.hid (((below_drewN hbel.out nq).alloc (by simp; omega) _).grown hg1 (by simp; omega) (fun g e => (World.ownsRow.lt ho.out g e).1)); clear ho1 hg1)
        go_roundw
        case rel => exact ⟨k + 1, 1, ds ++ [x - y - c + 10], by go_num, rfl, Lib.hid (by omega), O1, Lib.hid (digs_snoc hd.out (by omega) (by omega)), Lib.hid (by have := hl.out; simp; omega), Lib.hid (ST.out 1 _ (by omega)), B1⟩
        case measure => simp [intOf]; omega
      · go_wp2_with (at_builtin; refine append_ints rfl (.tmp 91) (.tmp 93) rfl (w.heap.size + 5) _ ds rfl (OwnInts.alloc ho.out _) (some ⟨wr.heap.size, 0, none⟩) (wr.heap.size + 1) 1 1 [x - y - c] rfl (by simp) (Ints.one (wr.drewN nq) (x - y - c) (by rw [fits_iff]; omega)) (by have := hl.out; omega) (by simp; omega) ?_; intro v1 w1 ho1 hg1; have O1 := Lib.hid ho1; have B1 : Hid (Below (w.heap.size + 5) W2 w1) := Lib.hid (((below_drewN hbel.out nq).alloc (by simp; omega) _).grown hg1 (by simp; omega) (fun g e => (World.ownsRow.lt ho.out g e).1)); clear ho1 hg1)
        go_roundw
        case rel => exact ⟨k + 1, 0, ds ++ [x - y - c], by go_num, rfl, Lib.hid (by omega), O1, Lib.hid (digs_snoc hd.out (by omega) (by omega)), Lib.hid (by have := hl.out; simp; omega), Lib.hid (ST.out 0 _ (by omega)), B1⟩
        case measure => simp [intOf]; omega
    · have HV : Hid (valD ds = valD a - valD b) := Lib.hid (by
        have e := hv.out
        have l1 := H1.out.1
        have l2 := H2.out.1
        have e3 := hl.out
        have e4 := valD_lt hd.out
        have e6 := HLT.out
        have hle : b.length ≤ a.length := by
          rcases Nat.lt_or_ge a.length b.length with h | h
          · have := norm_len_lt HD1.out HD2.out HN2.out h; omega
          · exact h
        rw [valD_all (by omega), valD_all (by omega)] at e
        rw [e3] at e4
        have e5 := ten_pos k
        have : c = 0 := by
          rcases (show c = 0 ∨ c = 1 by omega) with h | h
          · exact h
          · rw [h, Int.mul_one] at e; omega
        rw [this, Int.mul_zero, Int.add_zero] at e
        exact e)
      clear hv
      obtain ⟨A, cc, rfl, hc, hcm, hI, _⟩ := ho.out.form (by have := hl.out; omega) (digs_fits hd.out)
      have HI := Lib.hid hI
      have HCM := Lib.hid hcm
      clear hI hcm
      go_wp2_with fail
      refine (trim_any _ _ _ _ _ _ _ HI.out (Nat.le_refl _) hc HCM.out).mono ?_
      rintro e w1 ⟨⟨j, rfl, hk, hvk, hnk⟩, hb1⟩
      have HVK := Lib.hid hvk
      have HN := Lib.hid hnk
      have r0 := cell_kept hb1 (by show w.heap.size + 1 + 1 < _; omega) r0
      have r1 := cell_kept hb1 (by show w.heap.size + 1 + 1 < _; omega) r1
      have fr0 := frozen_kept hb1 (by show w.heap.size + 1 + 1 < _; omega) fr0
      have fr1 := frozen_kept hb1 (by show w.heap.size + 1 + 1 < _; omega) fr1
      have K1 := Lib.hid (((HI.out.front j hk).below hb1 (Nat.le_refl _)).more hb1.size)
      have HB3 : Hid (Below w.heap.size w w1) := Lib.hid ((HB0'.out.trans (hbel.out.mono (by omega))).trans (hb1.mono (by omega)))
      clear hvk hnk hb1 s0 s1 z1
      go_wp2
      refine bodyPost_ret (v := .agg #[.bool ((m) && decide (0 < j)), .slice A j cc]) (by simp [results, Try.results25, go_sem, r0, r1]) rfl ⟨⟨_, rfl, num_store _ r0 r1 K1.out (by omega) HCM.out (by have := hl.out; omega) (digs_take hd.out j) HN.out (by intro e; simp at e; exact e.2) ?_⟩, (HB3.out.setCell (by show w.heap.size ≤ w.heap.size + 1 + 1; omega) _).setCell (by show w.heap.size ≤ w.heap.size + 1 + 1; omega) _⟩
      rw [← HX.out, HVK.out, HV.out]
      have hs := sign_zero (m) j (valD a - valD b) (fun e => by
        have h1 := HVK.out
        rw [e] at h1
        rw [← HV.out, ← h1]
        rfl)
      rw [← hs]
      cases m <;> simp <;> omega

/-- THE SUM of two numbers of any greatness. -/
theorem plus_num (K : Nat) (v1 v2 : Value) (x y : Int) (w : World) (h1 : NumV w K v1 x) (h2 : NumV w K v2 y) (hK : K ≤ 10000) :
    Calls Try.prog 25 #[v1, v2] w fun e w' => SomeNum w' (K + 1) e (x + y) ∧ Below w.heap.size w w' := by
  obtain ⟨m1, A1, n1, c1, a, rfl, i1, _, _, k1, d1, o1, _, rfl⟩ := h1
  obtain ⟨m2, A2, n2, c2, b, rfl, i2, _, _, k2, d2, o2, _, rfl⟩ := h2
  by_cases hm : m2 = m1
  · subst hm
    have := plus_same m2 A1 A2 n1 n2 c1 c2 a b w i1 i2 d1 d2 K k1 k2 hK
    rwa [show (if m2 then -(valD a + valD b) else valD a + valD b) = (if m2 then -valD a else valD a) + (if m2 then -valD b else valD b) from by cases m2 <;> simp <;> omega] at this
  · obtain rfl : m2 = !m1 := by cases m1 <;> cases m2 <;> simp at hm ⊢
    have e : (if m1 then valD b - valD a else valD a - valD b) = (if m1 then -valD a else valD a) + (if (!m1) then -valD b else valD b) := by cases m1 <;> simp <;> omega
    rw [← e]
    by_cases hlt : valD a < valD b
    · exact plus_lt m1 A1 A2 n1 n2 c1 c2 a b w i1 i2 d1 d2 o1 o2 K k1 k2 hK hlt
    · exact plus_ge m1 A1 A2 n1 n2 c1 c2 a b w i1 i2 d1 d2 o1 o2 K k1 k2 hK hlt

/-- A number that is not great has few digits. -/
theorem num_few {w : World} {K j : Nat} {v : Value} {x : Int} (h : NumV w K v x) (h1 : -(ten j) < x) (h2 : x < ten j) : NumV w j v x := by
  obtain ⟨m, A, n, c, ds, rfl, hI, hnc, hcm, hk, hd, hn, hm, rfl⟩ := h
  refine ⟨m, A, n, c, ds, rfl, hI, hnc, hcm, ?_, hd, hn, hm, rfl⟩
  rw [← hI.1]
  refine norm_short hd hn ?_
  cases m <;> simp at h1 h2 <;> omega
end Go.Proofs.Ytgjimgopfpaimaa
