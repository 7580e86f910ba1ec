/- The document's test, Test. -/
import Derived.Test.YtiiccefnfepccaaPK
namespace Go.Proofs.Ytiiccefnfepccaa
set_option maxRecDepth 100000
open Go.RowKit Go.Sort

theorem cmp_flip (a b : V) : (cmpV 12 a b == 0) = (cmpV 12 b a == 0) := by
  have h := (ord_cmpV 12).anti b a
  by_cases q : cmpV 12 b a = 0
  · rw [h, q]; rfl
  · rw [beq_eq_false_iff_ne.2 q, beq_eq_false_iff_ne.2 (by omega)]
theorem any_flip (l : List V) (v : V) : l.any (fun z => cmpV 12 z v == 0) = l.any (fun z => cmpV 12 v z == 0) := by
  congr 1; funext z; exact cmp_flip z v
theorem kind_all (l : List V) (v : V) : l.all (fun z => z.k == v.k) = !l.any (fun z => z.k != v.k) := by
  rw [List.any_eq_not_all_not, Bool.not_not]; congr 1; funext z; cases h : (z.k == v.k) <;> simp_all [bne]
theorem two_vals {t : P} (h : fitsP t = true) (h1 : 7 ≤ t.k) (h2 : t.k ≤ 9) : t.v.length = 2 := by
  unfold fitsP fitsN at h
  rw [if_neg (by omega), if_pos ⟨h1, h2⟩] at h
  simp at h; exact h.1

def TestOk (r : Nat) : Prop := ∀ (w : World) (d e : Nat) (x : Pt) (y : At), okP r x.t = true → x.In w d → y.In w e →
  Calls Try.prog 30 #[x.val, y.v] w fun a w' => a = .returned (.bool (holdV r y.t x.t)) ∧ Below w.heap.size w w'

set_option maxHeartbeats 12800000 in
theorem tst_succ (r : Nat) (ih : TestOk r) : TestOk (r + 1) := by
  intro w d e x y hok hx hy
  obtain ⟨d', rfl⟩ := hx.pos
  have ⟨n, rv⟩ := hx.2.1
  have RV := Lib.hid rv
  have RP := Lib.hid hx.2.2
  have HY := Lib.hid hy
  have IH := Lib.hid ih
  have hbv := rv.big
  have hbp := hx.2.2.big
  have hok' : fitsP x.t = true ∧ x.t.v.all (okV 12) = true ∧ x.t.p.all (okP r) = true := by simpa [okP, and_assoc] using hok
  have OP := Lib.hid (show ∀ z ∈ x.t.p, okP r z = true from List.all_eq_true.1 hok'.2.2)
  have FK := Lib.hid (fits_kind hok'.1)
  have FS := Lib.hid hok'.1
  clear hx hy ih hok hok' rv
  unfold Pt.val At.v
  go_enter Try.func30, Try.ntmps30
  go_upto_region 3 with fail
  generalize hW : World.alloc (World.alloc _ _) _ = W
  obtain ⟨k1, k2, hz, hb⟩ := boxesPV _ _ _ _ hW
  have K1 := Lib.hid k1
  have K2 := Lib.hid k2
  have HB := Lib.hid hb
  clear hz hb hW k1 k2
  go_wp2
  go_loopw [5, 6, 7] (fun s5 s6 i wr => ∃ (k : Nat) (b1 b2 : Bool), k ≤ x.t.v.length ∧ i = .int .i64 k ∧ s5 = .bool b1 ∧ s6 = .bool b2 ∧ Hid (b1 = (x.t.v.take k).any (fun z => cmpV 12 z y.t == 0)) ∧ Hid (b2 = (x.t.v.take k).all (fun z => z.k == y.t.k)) ∧ Hid (Below W.heap.size W wr)) (fun _ _ i _ => x.t.v.length - (intOf i).toNat)
  case atStart => exact ⟨0, false, true, by omega, rfl, rfl, rfl, Lib.hid (by simp), Lib.hid (by simp), Lib.hid (Below.refl _ _)⟩
  case round =>
    obtain ⟨k, b1, b2, hk, rfl, rfl, rfl, hb1, hb2, hbel⟩ := hrel
    by_cases hlt : k < x.t.v.length
    · obtain ⟨a0, a1, a2, _⟩ := K1.out.next hbel.out
      obtain ⟨y0, y1, y2, y3, y4, _⟩ := K2.out.next hbel.out
      obtain ⟨b, off, z, A1, c1, A2, c2, eA, _, hb, hz, q, rz⟩ := (RV.out.next (bnext HB.out hbel.out)).elem hlt
      rw [eA] at a1
      obtain ⟨q0, q1, q2, q3, q4⟩ := q
      have NA := Lib.hid (any_next (fun z => cmpV 12 z y.t == 0) x.t.v k hz)
      have NB := Lib.hid (all_next (fun z => z.k == y.t.k) x.t.v k hz)
      have C1 := Lib.hid (refSame_regrown rz ((HY.out.next HB.out).next hbel.out))
      have i0 : (0 : Int) ≤ (k : Int) := by omega
      have i2 : (k : Int) < (x.t.v.length : Int) := by omega
      have i4 : ((k : Int)).toNat = k := by omega
      clear rz hz eA
      cases b1
      all_goals
        go_upto_region 6 with fail
        replace a1 := cell_regrown a1
        replace y0 := cell_regrown y0
        replace y1 := cell_regrown y1
        replace y2 := cell_regrown y2
        replace y3 := cell_regrown y3
        replace y4 := cell_regrown y4
        replace q0 := cell_regrown q0
        replace q1 := cell_regrown q1
        replace q2 := cell_regrown q2
        replace q3 := cell_regrown q3
        replace q4 := cell_regrown q4
        refine wp_region_quiet_below (by kernel_rfl) (by kernel_rfl) ?_
        repeat (first | go_big_quiet_step (exact C1.out _ _) | quiet_step (exact C1.out _ _))
        refine wpQuiet_nil ?_
        intro _ hw'
        obtain ⟨⟨dq, osq⟩, hw''⟩ := hw'
        subst hw''
        have HB1 := Lib.hid (bnext hbel.out (below_regrown wr dq osq))
        replace a1 := a1 dq osq
        replace y0 := y0 dq osq
        replace q0 := q0 dq osq
        clear y1 y2 y3 y4 q1 q2 q3 q4 a0 a2
        generalize grow (redrawn wr dq) osq = w2 at *
        cases b2
        all_goals
          go_upto_region 7 with fail
          replace a1 := cell_regrown a1
          replace y0 := cell_regrown y0
          replace q0 := cell_regrown q0
          refine wp_region_quiet_below (by kernel_rfl) (by kernel_rfl) ?_
          repeat (first | go_big_quiet_step (fail) | quiet_step (fail))
          refine wpQuiet_nil ?_
          intro _ hw'
          obtain ⟨⟨dq2, osq2⟩, hw''⟩ := hw'
          subst hw''
          have HB2 := Lib.hid (bnext HB1.out (below_regrown w2 dq2 osq2))
          clear a1 y0 q0
          go_wp2
          go_roundw
          case rel => exact ⟨k + 1, _, _, by omega, by go_num, rfl, rfl, Lib.hid (by rw [NA.out, ← hb1.out]; rfl), Lib.hid (by rw [NB.out, ← hb2.out]; rfl), HB2⟩
          case measure => simp [intOf]; omega
    · have AN := Lib.hid (show b1 = x.t.v.any (fun z => cmpV 12 z y.t == 0) by have := hb1.out; rwa [List.take_of_length_le (by omega)] at this)
      have AL := Lib.hid (show b2 = x.t.v.all (fun z => z.k == y.t.k) by have := hb2.out; rwa [List.take_of_length_le (by omega)] at this)
      have B0 := Lib.hid (bnext HB.out hbel.out)
      have K3 := Lib.hid (K1.out.next hbel.out)
      have K4 := Lib.hid (K2.out.next hbel.out)
      obtain ⟨a0, a1, a2, _⟩ := K3.out
      clear hb1 hb2 hbel
      go_wp2
      clear a0 a1 a2
      obtain ⟨wo, hwo⟩ : ∃ q, q = wr := ⟨_, rfl⟩
      subst hwo
      go_loopw [8, 9, 10] (fun s8 s9 i wr => ∃ (k : Nat) (c1 c2 : Bool), k ≤ x.t.p.length ∧ i = .int .i64 k ∧ s8 = .bool c1 ∧ s9 = .bool c2 ∧ Hid (c1 = (x.t.p.take k).any (holdV r y.t)) ∧ Hid (c2 = (x.t.p.take k).all (holdV r y.t)) ∧ Hid (Below wo.heap.size wo wr)) (fun _ _ i _ => x.t.p.length - (intOf i).toNat)
      case atStart => exact ⟨0, false, true, by omega, rfl, rfl, rfl, Lib.hid (by simp), Lib.hid (by simp), Lib.hid (Below.refl _ _)⟩
      case round =>
        obtain ⟨k, c1, c2, hk, rfl, rfl, rfl, hc1, hc2, hbel⟩ := hrel
        obtain ⟨a0, a1, a2, _⟩ := K3.out.next hbel.out
        obtain ⟨y0, y1, y2, y3, y4, _⟩ := K4.out.next hbel.out
        by_cases hlt : k < x.t.p.length
        · obtain ⟨b, off, z, eA, _, hb, hz, q, rz⟩ := (RP.out.next (bnext B0.out hbel.out)).elem hlt
          rw [eA] at a2
          obtain ⟨q0, q1, q2⟩ := q
          have NA := Lib.hid (any_next (holdV r y.t) x.t.p k hz)
          have NB := Lib.hid (all_next (holdV r y.t) x.t.p k hz)
          have C1 := Lib.hid (of_regrown (fun X hX => IH.out X d' e z y (OP.out _ (List.mem_of_getElem? hz)) (Pd.next rz hX) (((HY.out.next B0.out).next hbel.out).next hX)))
          have i0 : (0 : Int) ≤ (k : Int) := by omega
          have i2 : (k : Int) < (x.t.p.length : Int) := by omega
          have i4 : ((k : Int)).toNat = k := by omega
          clear rz hz eA
          go_upto_region 13 with fail
          replace a2 := cell_regrown a2
          replace y0 := cell_regrown y0
          replace y1 := cell_regrown y1
          replace y2 := cell_regrown y2
          replace y3 := cell_regrown y3
          replace y4 := cell_regrown y4
          replace q0 := cell_regrown q0
          replace q1 := cell_regrown q1
          replace q2 := cell_regrown q2
          refine wp_region_quiet_below (by kernel_rfl) (by kernel_rfl) ?_
          repeat (first | go_big_quiet_step (exact C1.out _ _) | quiet_step (exact C1.out _ _))
          refine wpQuiet_nil ?_
          intro _ hw'
          obtain ⟨⟨dq, osq⟩, hw''⟩ := hw'
          subst hw''
          have HB1 := Lib.hid (bnext hbel.out (below_regrown wr dq osq))
          clear y0 y1 y2 y3 y4 q0 q1 q2 a0 a1 a2 i4
          cases c1 <;> cases c2
          all_goals
            go_wp2
            go_roundw
            case rel => exact ⟨k + 1, _, _, by omega, by go_num, rfl, rfl, Lib.hid (by rw [NA.out, ← hc1.out]; rfl), Lib.hid (by rw [NB.out, ← hc2.out]; rfl), HB1⟩
            case measure => simp [intOf]; omega
        · have ON := Lib.hid (show c1 = x.t.p.any (holdV r y.t) by have := hc1.out; rwa [List.take_of_length_le (by omega)] at this)
          have OL := Lib.hid (show c2 = x.t.p.all (holdV r y.t) by have := hc2.out; rwa [List.take_of_length_le (by omega)] at this)
          have B1 := Lib.hid (bnext B0.out hbel.out)
          clear hc1 hc2
          go_upto_region 16 with fail
          obtain h | h | h | h : (x.t.k = 1 ∨ x.t.k = 10) ∨ (x.t.k = 2 ∨ x.t.k = 11) ∨ (x.t.k = 12 ∨ x.t.k = 13 ∨ x.t.k = 14) ∨ (3 ≤ x.t.k ∧ x.t.k ≤ 9) := by have := FK.out; omega
          · rcases h with h | h
            · have FIN := Lib.hid (show holdV (r + 1) y.t x.t = b1 by rw [holdV, if_pos (by omega), ← any_flip, ← AN.out])
              have n1 : (x.t.k == 1) = true := by rw [h]; rfl
              clear h
              go_wp2
              go_ret
              exact ⟨by rw [FIN.out]; rfl, B1.out⟩
            · have FIN := Lib.hid (show holdV (r + 1) y.t x.t = b1 by rw [holdV, if_pos (by omega), ← any_flip, ← AN.out])
              have n1 : (x.t.k == 1) = false := by rw [h]; rfl
              have n10 : (x.t.k == 10) = true := by rw [h]; rfl
              clear h
              go_wp2
              go_ret
              exact ⟨by rw [FIN.out]; rfl, B1.out⟩
          · rcases h with h | h
            · have FIN := Lib.hid (show holdV (r + 1) y.t x.t = !b1 by rw [holdV, if_neg (by omega), if_pos (by omega), ← any_flip, ← AN.out])
              have n1 : (x.t.k == 1) = false := by rw [h]; rfl
              have n10 : (x.t.k == 10) = false := by rw [h]; rfl
              have n2 : (x.t.k == 2) = true := by rw [h]; rfl
              clear h
              go_wp2
              go_ret
              exact ⟨by rw [FIN.out]; rfl, B1.out⟩
            · have FIN := Lib.hid (show holdV (r + 1) y.t x.t = !b1 by rw [holdV, if_neg (by omega), if_pos (by omega), ← any_flip, ← AN.out])
              have n1 : (x.t.k == 1) = false := by rw [h]; rfl
              have n10 : (x.t.k == 10) = false := by rw [h]; rfl
              have n2 : (x.t.k == 2) = false := by rw [h]; rfl
              have n11 : (x.t.k == 11) = true := by rw [h]; rfl
              clear h
              go_wp2
              go_ret
              exact ⟨by rw [FIN.out]; rfl, B1.out⟩
          · rcases h with h | h | h
            · have FIN := Lib.hid (show holdV (r + 1) y.t x.t = !c2 by rw [holdV, if_neg (by omega), if_neg (by omega), if_pos h, any_notT, ← OL.out])
              have n1 : (x.t.k == 1) = false := by rw [h]; rfl
              have n10 : (x.t.k == 10) = false := by rw [h]; rfl
              have n2 : (x.t.k == 2) = false := by rw [h]; rfl
              have n11 : (x.t.k == 11) = false := by rw [h]; rfl
              have n12 : (x.t.k == 12) = true := by rw [h]; rfl
              clear h
              go_wp2
              go_ret
              exact ⟨by rw [FIN.out]; rfl, B1.out⟩
            · have FIN := Lib.hid (show holdV (r + 1) y.t x.t = c2 by rw [holdV, if_neg (by omega), if_neg (by omega), if_neg (by omega), if_pos h, any_notT, ← OL.out, Bool.not_not])
              have n1 : (x.t.k == 1) = false := by rw [h]; rfl
              have n10 : (x.t.k == 10) = false := by rw [h]; rfl
              have n2 : (x.t.k == 2) = false := by rw [h]; rfl
              have n11 : (x.t.k == 11) = false := by rw [h]; rfl
              have n12 : (x.t.k == 12) = false := by rw [h]; rfl
              have n13 : (x.t.k == 13) = true := by rw [h]; rfl
              clear h
              go_wp2
              go_ret
              exact ⟨by rw [FIN.out]; rfl, B1.out⟩
            · have FIN := Lib.hid (show holdV (r + 1) y.t x.t = c1 by rw [holdV, if_neg (by omega), if_neg (by omega), if_neg (by omega), if_neg (by omega), if_pos h, ← ON.out])
              have n1 : (x.t.k == 1) = false := by rw [h]; rfl
              have n10 : (x.t.k == 10) = false := by rw [h]; rfl
              have n2 : (x.t.k == 2) = false := by rw [h]; rfl
              have n11 : (x.t.k == 11) = false := by rw [h]; rfl
              have n12 : (x.t.k == 12) = false := by rw [h]; rfl
              have n13 : (x.t.k == 13) = false := by rw [h]; rfl
              have n14 : (x.t.k == 14) = true := by rw [h]; rfl
              clear h
              go_wp2
              go_ret
              exact ⟨by rw [FIN.out]; rfl, B1.out⟩
          · have FIN := Lib.hid (show holdV (r + 1) y.t x.t = (b2 && relI x.t.k (cmpV 12 y.t (hdV x.t.v)) (cmpV 12 y.t (ltV x.t.v))) by rw [holdV, if_neg (by omega), if_neg (by omega), if_neg (by omega), if_neg (by omega), if_neg (by omega)]; unfold standV; rw [← kind_all, ← AL.out])
            have n1 : (x.t.k == 1) = false := beq_eq_false_iff_ne.2 (by omega)
            have n10 : (x.t.k == 10) = false := beq_eq_false_iff_ne.2 (by omega)
            have n2 : (x.t.k == 2) = false := beq_eq_false_iff_ne.2 (by omega)
            have n11 : (x.t.k == 11) = false := beq_eq_false_iff_ne.2 (by omega)
            have n12 : (x.t.k == 12) = false := beq_eq_false_iff_ne.2 (by omega)
            have n13 : (x.t.k == 13) = false := beq_eq_false_iff_ne.2 (by omega)
            have n14 : (x.t.k == 14) = false := beq_eq_false_iff_ne.2 (by omega)
            cases b2
            · go_wp2
              go_ret
              exact ⟨by rw [FIN.out]; rfl, B1.out⟩
            · have hlen := stand_len FS.out h.1 h.2
              obtain ⟨b, off, z, A1, c1', A2, c2', eA, _, _, hz, q, rz⟩ := (RV.out.next B1.out).elem (k := 0) hlen
              have EH := Lib.hid (hdV_at hz)
              have H := Lib.hid h
              rw [eA] at a1
              simp only [Nat.zero_mul, Nat.add_zero] at q
              obtain ⟨q0, q1, q2, q3, q4⟩ := q
              have C1 := Lib.hid (of_regrown (fun X hX => refCmp_any X e n y.t z y.A y.c y.A' y.c' A1 c1' A2 c2' (Rd.next (HY.out.next B1.out) hX) (rz.next hX)))
              have TR := Lib.hid ((ord_cmpV 12).tri y.t z)
              have h1 : (0 : Int) < (x.t.v.length : Int) := by omega
              clear rz hz h
              go_upto_region 31 with fail
              replace a0 := cell_regrown a0
              replace a1 := cell_regrown a1
              replace y0 := cell_regrown y0
              replace y1 := cell_regrown y1
              replace y2 := cell_regrown y2
              replace y3 := cell_regrown y3
              replace y4 := cell_regrown y4
              replace q0 := cell_regrown q0
              replace q1 := cell_regrown q1
              replace q2 := cell_regrown q2
              replace q3 := cell_regrown q3
              replace q4 := cell_regrown q4
              refine wp_region_quiet_below (by kernel_rfl) (by kernel_rfl) ?_
              repeat (first | go_big_quiet_step (exact C1.out _ _) | quiet_step (exact C1.out _ _))
              refine wpQuiet_nil ?_
              intro _ hw'
              obtain ⟨⟨dq, osq⟩, hw''⟩ := hw'
              subst hw''
              have B2 := Lib.hid (bnext B1.out (below_regrown wr dq osq))
              replace a0 := a0 dq osq
              replace a1 := a1 dq osq
              replace y0 := y0 dq osq
              replace y1 := y1 dq osq
              replace y2 := y2 dq osq
              replace y3 := y3 dq osq
              replace y4 := y4 dq osq
              clear q0 q1 q2 q3 q4 a2 C1
              generalize grow (redrawn wr dq) osq = w2 at *
              rw [EH.out] at FIN
              generalize cmpV 12 y.t z = p at *
              obtain hk | hk | hk | hk | hk : x.t.k = 3 ∨ x.t.k = 4 ∨ x.t.k = 5 ∨ x.t.k = 6 ∨ (7 ≤ x.t.k ∧ x.t.k ≤ 9) := by have := H.out; omega
              · skip
                have m3 : (x.t.k == 3) = true := by rw [hk]; rfl
                rw [hk] at FIN
                clear hk
                rcases TR.out with h0 | h0 | h0
                all_goals
                  subst h0
                  go_wp2
                  go_ret
                  exact ⟨by rw [FIN.out]; rfl, B2.out⟩
              · skip
                have m3 : (x.t.k == 3) = false := by rw [hk]; rfl
                have m4 : (x.t.k == 4) = true := by rw [hk]; rfl
                rw [hk] at FIN
                clear hk
                rcases TR.out with h0 | h0 | h0
                all_goals
                  subst h0
                  go_wp2
                  go_ret
                  exact ⟨by rw [FIN.out]; rfl, B2.out⟩
              · skip
                have m3 : (x.t.k == 3) = false := by rw [hk]; rfl
                have m4 : (x.t.k == 4) = false := by rw [hk]; rfl
                have m5 : (x.t.k == 5) = true := by rw [hk]; rfl
                rw [hk] at FIN
                clear hk
                rcases TR.out with h0 | h0 | h0
                all_goals
                  subst h0
                  go_wp2
                  go_ret
                  exact ⟨by rw [FIN.out]; rfl, B2.out⟩
              · skip
                have m3 : (x.t.k == 3) = false := by rw [hk]; rfl
                have m4 : (x.t.k == 4) = false := by rw [hk]; rfl
                have m5 : (x.t.k == 5) = false := by rw [hk]; rfl
                have m6 : (x.t.k == 6) = true := by rw [hk]; rfl
                rw [hk] at FIN
                clear hk
                rcases TR.out with h0 | h0 | h0
                all_goals
                  subst h0
                  go_wp2
                  go_ret
                  exact ⟨by rw [FIN.out]; rfl, B2.out⟩
              · have hl2 := two_vals FS.out hk.1 hk.2
                obtain ⟨b', off', u, A3, c3, A4, c4, eA', _, _, hu, q, ru⟩ := (RV.out.next B2.out).elem (k := 1) (by omega)
                rw [eA] at eA'
                injection eA' with eA'
                injection eA' with e1 e2
                subst e1
                subst e2
                have EL := Lib.hid (show ltV x.t.v = u from ltV_at (by rw [hl2]; exact hu))
                simp only [Nat.one_mul] at q
                obtain ⟨q0, q1, q2, q3, q4⟩ := q
                have C1 := Lib.hid (of_regrown (fun X hX => refCmp_any X e n y.t u y.A y.c y.A' y.c' A3 c3 A4 c4 (Rd.next (HY.out.next B2.out) hX) (ru.next hX)))
                have TU := Lib.hid ((ord_cmpV 12).tri y.t u)
                have h2 : (1 : Int) < (x.t.v.length : Int) := by omega
                have m3 : (x.t.k == 3) = false := beq_eq_false_iff_ne.2 (by omega)
                have m4 : (x.t.k == 4) = false := beq_eq_false_iff_ne.2 (by omega)
                have m5 : (x.t.k == 5) = false := beq_eq_false_iff_ne.2 (by omega)
                have m6 : (x.t.k == 6) = false := beq_eq_false_iff_ne.2 (by omega)
                clear ru hu
                go_upto_region 41 with fail
                replace a0 := cell_regrown a0
                replace a1 := cell_regrown a1
                replace y0 := cell_regrown y0
                replace y1 := cell_regrown y1
                replace y2 := cell_regrown y2
                replace y3 := cell_regrown y3
                replace y4 := cell_regrown y4
                replace q0 := cell_regrown q0
                replace q1 := cell_regrown q1
                replace q2 := cell_regrown q2
                replace q3 := cell_regrown q3
                replace q4 := cell_regrown q4
                refine wp_region_quiet_below (by kernel_rfl) (by kernel_rfl) ?_
                repeat (first | go_big_quiet_step (exact C1.out _ _) | quiet_step (exact C1.out _ _))
                refine wpQuiet_nil ?_
                intro _ hw'
                obtain ⟨⟨dq2, osq2⟩, hw''⟩ := hw'
                subst hw''
                have B3 := Lib.hid (bnext B2.out (below_regrown w2 dq2 osq2))
                replace a0 := a0 dq2 osq2
                clear q0 q1 q2 q3 q4 a1 C1 y0 y1 y2 y3 y4
                generalize grow (redrawn w2 dq2) osq2 = w3 at *
                rw [EL.out] at FIN
                generalize cmpV 12 y.t u = q at *
                obtain hk | hk | hk : x.t.k = 7 ∨ x.t.k = 8 ∨ x.t.k = 9 := by omega
                · skip
                  have m7 : (x.t.k == 7) = true := by rw [hk]; rfl
                  rw [hk] at FIN
                  clear hk
                  rcases TR.out with h0 | h0 | h0 <;> rcases TU.out with h3 | h3 | h3
                  all_goals
                    subst h0
                    subst h3
                    go_wp2
                    go_ret
                    exact ⟨by rw [FIN.out]; rfl, B3.out⟩
                · skip
                  have m7 : (x.t.k == 7) = false := by rw [hk]; rfl
                  have m8 : (x.t.k == 8) = true := by rw [hk]; rfl
                  rw [hk] at FIN
                  clear hk
                  rcases TR.out with h0 | h0 | h0 <;> rcases TU.out with h3 | h3 | h3
                  all_goals
                    subst h0
                    subst h3
                    go_wp2
                    go_ret
                    exact ⟨by rw [FIN.out]; rfl, B3.out⟩
                · skip
                  have m7 : (x.t.k == 7) = false := by rw [hk]; rfl
                  have m8 : (x.t.k == 8) = false := by rw [hk]; rfl
                  rw [hk] at FIN
                  clear hk
                  rcases TR.out with h0 | h0 | h0 <;> rcases TU.out with h3 | h3 | h3
                  all_goals
                    subst h0
                    subst h3
                    go_wp2
                    go_ret
                    exact ⟨by rw [FIN.out]; rfl, B3.out⟩
theorem tst_any : ∀ r, TestOk r
  | 0 => fun _ _ _ _ _ h => by simp [okP] at h
  | r + 1 => tst_succ r (tst_any r)

set_option maxHeartbeats 1600000 in
theorem refPTest (w : World) (d e : Nat) (x : Pt) (y : At) (hx : x.In w d) (hy : y.In w e) :
    Calls Try.prog 15 #[x.val, y.v] w fun a w' => a = .returned (.bool (testV x.t y.t)) ∧ Below w.heap.size w w' := by
  have HX := Lib.hid hx
  have HY := Lib.hid hy
  clear hx hy
  unfold Pt.val At.v
  go_enter Try.func15, Try.ntmps15
  go_upto_region 1 with fail
  generalize hW : World.alloc (World.alloc _ _) _ = W
  obtain ⟨k1, k2, hz, hb⟩ := boxesPV _ _ _ _ hW
  have K1 := Lib.hid k1
  have K2 := Lib.hid k2
  have HB := Lib.hid hb
  obtain ⟨a0, a1, a2, _⟩ := k1
  clear hz hb hW k2
  go_wp2_with fail
  refine (right_p 12 W d x 1 (by omega) (by omega) (HX.out.next HB.out)).mono ?_
  rintro a w1 ⟨rfl, hb⟩
  have B1 := Lib.hid (bnext HB.out hb)
  clear a0 a1 a2
  obtain ⟨a0, a1, a2, _⟩ := K1.out.next hb
  obtain ⟨y0, y1, y2, y3, y4, _⟩ := K2.out.next hb
  clear hb
  cases hq : okP 12 x.t
  · go_wp2
    go_ret
    exact ⟨by unfold testV; rw [hq]; rfl, B1.out⟩
  · have CT := Lib.hid (tst_any 12 w1 d e x y hq (HX.out.next B1.out) (HY.out.next B1.out))
    go_wp2_with fail
    refine CT.out.mono ?_
    rintro a w2 ⟨rfl, hb⟩
    have B2 := Lib.hid (bnext B1.out hb)
    clear hb CT a0 a1 a2 y0 y1 y2 y3 y4
    go_wp2
    go_ret
    exact ⟨by unfold testV; rw [hq]; rfl, B2.out⟩
end Go.Proofs.Ytiiccefnfepccaa
