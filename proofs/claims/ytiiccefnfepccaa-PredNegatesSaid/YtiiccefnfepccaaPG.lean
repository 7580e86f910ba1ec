/- pred.negated. -/
import Derived.Test.YtiiccefnfepccaaPF
import Derived.Deep.Cut
namespace Go.Proofs.Ytiiccefnfepccaa
set_option maxRecDepth 100000
open Go.RowKit Go.Sort

/-- The other kind of two. -/
def opp (k : Int) : Int := if k = 1 then 2 else if k = 2 then 1 else if k = 10 then 11 else if k = 11 then 10 else if k = 13 then 14 else if k = 14 then 13 else 0
theorem opp_lit (k : Int) (h : k = 1 ∨ k = 2 ∨ k = 10 ∨ k = 11 ∨ k = 13 ∨ k = 14) (w : World) : Calls Try.prog 50 #[.int .i64 k] w fun e w' => e = .returned (.int .i64 (opp k)) ∧ w = w' := by
  rcases h with rfl | rfl | rfl | rfl | rfl | rfl
  all_goals
    go_enter Try.func50, Try.ntmps50
    go_wp2
    go_ret
    exact ⟨by first | rfl | rw [n1], rfl⟩

theorem opp_knd {k : Int} {v : List V} {p : List P} (_u : Unit) : Knd (.mk (opp k) v p) := by
  refine ⟨?_, ?_⟩
  all_goals
    show _ ≤ _
    simp only [P.k]
    unfold opp
    repeat' split
    all_goals omega
/-- What may be is its copy. -/
theorem copyV_ok : ∀ (r s : Nat) (t : V), okV r t = true → r ≤ s + 1 → copyV s t = t
  | 0, _, _, h, _ => by simp [okV] at h
  | r + 1, s, .mk k n q l m, h, hr => by
    have h' : (fitsV (.mk k n q l m) && l.all (okV r) && m.all (okV r) && (k != 7 || risesV l)) = true := h
    simp only [Bool.and_eq_true] at h'
    obtain ⟨⟨⟨_, hl⟩, hm⟩, _⟩ := h'
    cases s with
    | zero =>
      obtain rfl : r = 0 := by omega
      have e1 : l = [] := by
        cases l with
        | nil => rfl
        | cons a l => simp [okV] at hl
      have e2 : m = [] := by
        cases m with
        | nil => rfl
        | cons a l => simp [okV] at hm
      subst e1; subst e2; rfl
    | succ s =>
      have e1 : l.map (copyV s) = l := by
        rw [List.map_congr_left (g := id) (fun x hx => copyV_ok r s x (List.all_eq_true.1 hl x hx) (by omega)), List.map_id]
      have e2 : m.map (copyV s) = m := by
        rw [List.map_congr_left (g := id) (fun x hx => copyV_ok r s x (List.all_eq_true.1 hm x hx) (by omega)), List.map_id]
      show V.mk k n q (l.map (copyV s)) (m.map (copyV s)) = _
      rw [e1, e2]
theorem copyVs_ok {l : List V} (h : l.all (okV 12) = true) : l.map (copyV 12) = l := by
  rw [List.map_congr_left (g := id) (fun x hx => copyV_ok 12 12 x (List.all_eq_true.1 h x hx) (by omega)), List.map_id]
theorem copyP_ok : ∀ (r s : Nat) (t : P), okP r t = true → r ≤ s → copyP s t = t
  | 0, _, _, h, _ => by simp [okP] at h
  | r + 1, 0, _, _, hr => absurd hr (by omega)
  | r + 1, s + 1, .mk k v p, h, hr => by
    have h' : (fitsP (.mk k v p) && v.all (okV 12) && p.all (okP r)) = true := h
    simp only [Bool.and_eq_true] at h'
    have e2 : p.map (copyP s) = p := by
      rw [List.map_congr_left (g := id) (fun x hx => copyP_ok r s x (List.all_eq_true.1 h'.2 x hx) (by omega)), List.map_id]
    show P.mk k (v.map (copyV 12)) (p.map (copyP s)) = _
    rw [copyVs_ok h'.1.2, e2]
theorem okP_up : ∀ (r s : Nat) (t : P), okP r t = true → r ≤ s → okP s t = true
  | 0, _, _, h, _ => by simp [okP] at h
  | r + 1, 0, _, _, hr => absurd hr (by omega)
  | r + 1, s + 1, t, h, hr => by
    have h' : (fitsP t && t.v.all (okV 12) && t.p.all (okP r)) = true := h
    simp only [Bool.and_eq_true] at h'
    have e2 : t.p.all (okP s) = true := List.all_eq_true.2 (fun x hx => okP_up r s x (List.all_eq_true.1 h'.2 x hx) (by omega))
    show (fitsP t && t.v.all (okV 12) && t.p.all (okP s)) = true
    rw [h'.1.1, h'.1.2, e2]; rfl

/-- What holds where it does not. -/
def negP : Nat → P → P
  | 0, t => t
  | r + 1, t => if t.k = 1 ∨ t.k = 2 ∨ t.k = 10 ∨ t.k = 11 then .mk (opp t.k) t.v [] else if t.k = 13 ∨ t.k = 14 then .mk (opp t.k) [] (t.p.map (negP r))
    else if t.k = 12 then t.p.headD t else .mk 12 [] [t]
theorem one_pred {t : P} (h : fitsP t = true) (h1 : t.k = 12) : 0 < t.p.length := by
  unfold fitsP fitsN at h
  rw [h1] at h
  simp at h; omega
theorem headD_at {l : List P} {x y : P} (h : l[0]? = some y) : l.headD x = y := by
  cases l with
  | nil => simp at h
  | cons z r => simp at h; exact h
theorem pw_one {w : World} {lo d : Nat} {t : P} {A : Option Addr} {c : Nat} {A' : Option Addr} {c' : Nat} (rd : Pd w lo w.heap.size d t A c A' c') (hlo : lo ≤ w.heap.size) :
    Pw (w.alloc (.cells #[.int .i64 t.k, .slice A t.v.length c, .slice A' t.p.length c'] 25)) lo (w.alloc (.cells #[.int .i64 t.k, .slice A t.v.length c, .slice A' t.p.length c'] 25)).heap.size d (some ⟨w.heap.size, 0, none⟩) 1 [t] := by
  have cn := CellP.new w (.int .i64 t.k) (.slice A t.v.length c) (.slice A' t.p.length c')
  refine ⟨by simp, by unfold maxLen; omega, by simp, (fun e => by cases e), fun _ => ⟨w.heap.size, 0, rfl, hlo, by simp, fun j u hj => ?_⟩⟩
  cases j with
  | zero =>
    simp at hj
    subst hj
    exact ⟨A, c, A', c', ⟨cn.c0, cn.c1, cn.c2⟩, Pd.imp (Kept.of_below (below_new w _) (Nat.le_refl _)) (Nat.le_refl _) (by simp) (Nat.le_refl _) rd⟩
  | succ j => simp at hj
def NegOk (r : Nat) : Prop := ∀ (w : World) (d : Nat) (x : Pt), okP r x.t = true → r ≤ 12 → x.In w d → Calls Try.prog 31 #[x.val] w (NewP w (r + 14) (negP r x.t))

theorem New.moreP {w w' : World} {d d' : Nat} {t : P} {e : Ending} (h : NewP w d t e w') (hd : d ≤ d') : NewP w d' t e w' := by
  obtain ⟨A, c, A', c', h1, h2, h3, h4, h5⟩ := h
  exact ⟨A, c, A', c', h1, h2.more (Nat.le_refl _) (Nat.le_refl _) hd, h3, h4, h5⟩

set_option maxHeartbeats 6400000 in
theorem neg_succ (r : Nat) (ih : NegOk r) : NegOk (r + 1) := by
  intro w d x hok hr hx
  obtain ⟨d', rfl⟩ := hx.pos
  obtain ⟨n, rv⟩ := hx.2.1
  have RV := Lib.hid rv
  have RP := Lib.hid hx.2.2
  have HX := Lib.hid hx
  have hok' : fitsP x.t = true ∧ x.t.v.all (okV 12) = true ∧ x.t.p.all (okP r) = true := by simpa [okP, and_assoc] using hok
  have OK := Lib.hid hok
  have OV := Lib.hid hok'.2.1
  have OP := Lib.hid (show ∀ z ∈ x.t.p, okP r z = true from List.all_eq_true.1 hok'.2.2)
  have FK := Lib.hid (fits_kind hok'.1)
  have FS := Lib.hid hok'.1
  have MK : ∀ W, Hid (MakesP 31 #[] W (fun t => okP r t = true) (negP r) (r + 14)) := fun W => Lib.hid (fun X e z hz _ hzX => ih X e z hz (by omega) hzX)
  clear hx hok hok' rv
  unfold Pt.val
  go_enter Try.func31, Try.ntmps31
  go_upto_region 1 with fail
  generalize hY : World.alloc (World.alloc _ _) _ = Y
  obtain ⟨k1, k2, hz, hbY⟩ := boxesR _ _ _ _ _ _ hY
  have K1 := Lib.hid k1
  have K2 := Lib.hid k2
  have HB := Lib.hid hbY
  have hzz : w.heap.size + 1 < Y.heap.size := by rw [hz]; omega
  obtain ⟨a0, a1, a2, _⟩ := k1
  obtain ⟨s0, s1, s2, p0, p1, p2, hblk⟩ := k2
  have HBK := Lib.hid hblk
  clear hz hY hbY hblk
  by_cases h1 : x.t.k = 1 ∨ x.t.k = 2 ∨ x.t.k = 10 ∨ x.t.k = 11
  · have FIN := Lib.hid (show negP (r + 1) x.t = .mk (opp x.t.k) (x.t.v.map (copyV 12)) [] by rw [negP, if_pos h1, copyVs_ok OV.out])
    go_upto_if 5 with fail
    go_cut [5] from 3 (fun s5 wx => s5 = .bool true ∧ wx = Y)
    case first =>
      rcases h1 with h1 | h1 | h1 | h1
      · skip
        have n1 : (x.t.k == 1) = true := by rw [h1]; rfl
        have n2 : (x.t.k == 2) = false := by rw [h1]; rfl
        have n10 : (x.t.k == 10) = false := by rw [h1]; rfl
        have n11 : (x.t.k == 11) = false := by rw [h1]; rfl
        clear h1
        go_wp2_with fail
        go_meet
        exact ⟨by first | rfl | rw [n1], rfl⟩
      · skip
        have n1 : (x.t.k == 1) = false := by rw [h1]; rfl
        have n2 : (x.t.k == 2) = true := by rw [h1]; rfl
        have n10 : (x.t.k == 10) = false := by rw [h1]; rfl
        have n11 : (x.t.k == 11) = false := by rw [h1]; rfl
        clear h1
        go_wp2_with fail
        go_meet
        exact ⟨by first | rfl | rw [n1], rfl⟩
      · skip
        have n1 : (x.t.k == 1) = false := by rw [h1]; rfl
        have n2 : (x.t.k == 2) = false := by rw [h1]; rfl
        have n10 : (x.t.k == 10) = true := by rw [h1]; rfl
        have n11 : (x.t.k == 11) = false := by rw [h1]; rfl
        clear h1
        go_wp2_with fail
        go_meet
        exact ⟨by first | rfl | rw [n1], rfl⟩
      · skip
        have n1 : (x.t.k == 1) = false := by rw [h1]; rfl
        have n2 : (x.t.k == 2) = false := by rw [h1]; rfl
        have n10 : (x.t.k == 10) = false := by rw [h1]; rfl
        have n11 : (x.t.k == 11) = true := by rw [h1]; rfl
        clear h1
        go_wp2_with fail
        go_meet
        exact ⟨by first | rfl | rw [n1], rfl⟩
    case rest =>
      obtain ⟨rfl, rfl⟩ := hcut
      have OPP := Lib.hid (fun X => opp_lit x.t.k (by omega) X)
      have CV := Lib.hid (fun (X : World) (hX : Below wc.heap.size wc X) => eachV_any X n x.A x.c x.t.v ((RV.out.next HB.out).next hX))
      clear h1
      go_upto_region 6 with fail
      go_region_with (first
        | (go_at_call 50; (with_reducible refine (OPP.out _).mono ?_); rintro e w1 ⟨rfl, rfl⟩)
        | (go_at_call 51; (with_reducible refine (CV.out _ ?_).mono ?_); (focus exact (Below.refl _ _).drew); rintro e w1 ⟨D, e1, n1, rfl, rD, mD, hb1⟩; have hb1' : Below wc.heap.size wc w1 := (Below.refl _ _).drew.trans hb1; obtain ⟨x0, x1, x2, _⟩ := K1.out.next hb1'; obtain ⟨t0, t1, t2, g0, g1, g2, hblk⟩ := K2.out.below hb1' hzz; have RD := Lib.hid rD; have MD := Lib.hid mD; have B1 := Lib.hid hb1'; have HBK' := Lib.hid hblk; clear rD mD hb1 hb1' hblk))
      all_goals
        have HR := Lib.hid (ret_boxP HBK'.out (.int .i64 (opp x.t.k)) (.slice D x.t.v.length e1) (.slice none 0 0))
        clear a0 a1 a2 s0 s1 s2 p0 p1 p2 x0 x1 x2 t0 t1 t2 g0 g1 g2
        go_wp2_with fail
        obtain ⟨F, hF, ⟨r0, r1, r2, _⟩, hk, hs, hbel⟩ := HR.out
        rw [← hF]
        clear hF
        rw [FIN.out]
        exact bodyPost_ret (v := pl (.mk (opp x.t.k) (x.t.v.map (copyV 12)) []) D e1 none 0) (by simp [results, Try.results31, go_sem, r0, r1, r2]; exact ⟨rfl, by simp [P.v], rfl⟩) rfl (New.moreP (NewP.build (d := 0) (t := .mk (opp x.t.k) (x.t.v.map (copyV 12)) []) HB.out (by omega) hzz (opp_knd ()) RD.out MD.out (pw_nil _ _ _ _) (fun h => absurd h (by simp [P.p])) B1.out (Below.refl _ _) hk hs hbel) (by omega))
  · have FN1 : x.t.k ≠ 1 ∧ x.t.k ≠ 2 ∧ x.t.k ≠ 10 ∧ x.t.k ≠ 11 := by omega
    have n1 : (x.t.k == 1) = false := beq_eq_false_iff_ne.2 (by omega)
    have n2 : (x.t.k == 2) = false := beq_eq_false_iff_ne.2 (by omega)
    have n10 : (x.t.k == 10) = false := beq_eq_false_iff_ne.2 (by omega)
    have n11 : (x.t.k == 11) = false := beq_eq_false_iff_ne.2 (by omega)
    by_cases h2 : x.t.k = 13 ∨ x.t.k = 14
    · have FIN := Lib.hid (show negP (r + 1) x.t = .mk (opp x.t.k) [] (x.t.p.map (negP r)) by rw [negP, if_neg h1, if_pos h2])
      clear h1 FN1
      go_upto_if 17 with fail
      go_cut [17] from 3 (fun s17 wx => s17 = .bool true ∧ wx = Y)
      case first =>
        rcases h2 with h2 | h2
        · have n13 : (x.t.k == 13) = true := by rw [h2]; rfl
          clear h2
          go_wp2_with fail
          go_meet
          exact ⟨by first | rfl | rw [n13], rfl⟩
        · have n13 : (x.t.k == 13) = false := by rw [h2]; rfl
          have n14 : (x.t.k == 14) = true := by rw [h2]; rfl
          clear h2
          go_wp2_with fail
          go_meet
          exact ⟨by first | rfl | rw [n14], rfl⟩
      case rest =>
        obtain ⟨rfl, rfl⟩ := hcut
        have OPP := Lib.hid (fun X => opp_lit x.t.k (by omega) X)
        have CP := Lib.hid (fun (X : World) (hX : Below wc.heap.size wc X) => eachP_any 31 enters31 #[] (fun t => okP r t = true) (negP r) (r + 14) X (MK X).out d' x.A' x.c' x.t.p OP.out ((RP.out.next HB.out).next hX))
        clear h2
        go_upto_region 9 with fail
        go_region_with (first
          | (go_at_call 50; (with_reducible refine (OPP.out _).mono ?_); rintro e w1 ⟨rfl, rfl⟩)
          | (go_at_call 53; (with_reducible refine (CP.out _ ?_).mono ?_); (focus exact (Below.refl _ _).drew); rintro e w1 ⟨E, e2, rfl, rE, mE, hb1⟩; have hb1' : Below wc.heap.size wc w1 := (Below.refl _ _).drew.trans hb1; obtain ⟨x0, x1, x2, _⟩ := K1.out.next hb1'; obtain ⟨t0, t1, t2, g0, g1, g2, hblk⟩ := K2.out.below hb1' hzz; have RE := Lib.hid rE; have ME := Lib.hid mE; have B1 := Lib.hid hb1'; have HBK' := Lib.hid hblk; clear rE mE hb1 hb1' hblk))
        all_goals
          have HR := Lib.hid (ret_boxP HBK'.out (.int .i64 (opp x.t.k)) (.slice none 0 0) (.slice E x.t.p.length e2))
          clear a0 a1 a2 s0 s1 s2 p0 p1 p2 x0 x1 x2 t0 t1 t2 g0 g1 g2
          go_wp2_with fail
          obtain ⟨F, hF, ⟨r0, r1, r2, _⟩, hk, hs, hbel⟩ := HR.out
          rw [← hF]
          clear hF
          rw [FIN.out]
          exact bodyPost_ret (v := pl (.mk (opp x.t.k) [] (x.t.p.map (negP r))) none 0 E e2) (by simp [results, Try.results31, go_sem, r0, r1, r2]; exact ⟨rfl, rfl, by simp [P.p]⟩) rfl (New.moreP (NewP.build (W := wc) (w1 := wc) (n := 0) (t := .mk (opp x.t.k) [] (x.t.p.map (negP r))) HB.out (by omega) hzz (opp_knd ()) (rw_nil _ _ _ _) (fun h => absurd h (by simp [P.v])) RE.out ME.out (Below.refl _ _) B1.out hk hs hbel) (by omega))
    · have n13 : (x.t.k == 13) = false := beq_eq_false_iff_ne.2 (by omega)
      have n14 : (x.t.k == 14) = false := beq_eq_false_iff_ne.2 (by omega)
      by_cases h3 : x.t.k = 12
      · have n12 : (x.t.k == 12) = true := beq_iff_eq.2 h3
        have hlen : 0 < x.t.p.length := one_pred FS.out h3
        obtain ⟨b, off, z, eA, _, _, hzz', q, rz⟩ := (RP.out.next HB.out).elem (k := 0) hlen
        have HZ : Hid (x.t.p.headD x.t = z.t) := Lib.hid (headD_at hzz')
        have OZ := Lib.hid (OP.out _ (List.mem_of_getElem? hzz'))
        have FIN := Lib.hid (show negP (r + 1) x.t = copyP 12 z.t by rw [negP, if_neg h1, if_neg h2, if_pos h3, HZ.out, copyP_ok r 12 _ OZ.out (by omega)])
        simp only [Nat.zero_mul, Nat.add_zero] at q
        obtain ⟨q0, q1, q2⟩ := q
        have h01 : (0 : Int) < (x.t.p.length : Int) := by omega
        rw [eA] at a2
        have RZ := Lib.hid rz
        clear h1 h2 h3 FN1 eA hzz' rz
        go_wp2_with fail
        refine (copyP_any _ d' z RZ.out).mono ?_
        rintro e w1 ⟨D, e1, D', e2, rfl, rd, m1, m2, hb1⟩
        obtain ⟨t0, t1, t2, g0, g1, g2, hblk⟩ := K2.out.below hb1 hzz
        have HR := Lib.hid (ret_boxP hblk (.int .i64 (copyP 12 z.t).k) (.slice D (copyP 12 z.t).v.length e1) (.slice D' (copyP 12 z.t).p.length e2))
        have RD := Lib.hid rd
        have M1 := Lib.hid m1
        have M2 := Lib.hid m2
        have B1 := Lib.hid hb1
        clear rd m1 m2 hb1 hblk a0 a1 a2 s0 s1 s2 p0 p1 p2 q0 q1 q2 OZ HZ
        generalize copyP 12 z.t = t at *
        go_wp2
        obtain ⟨F, hF, ⟨r0, r1, r2, _⟩, hk, hs, hbel⟩ := HR.out
        rw [← hF]
        clear hF
        rw [FIN.out]
        exact bodyPost_ret (v := pl t D e1 D' e2) (by simp [results, Try.results31, go_sem, r0, r1, r2]) rfl (New.moreP (d := 13) (NewP.box HB.out (by omega) hzz RD.out M1.out M2.out B1.out hk hs hbel) (by omega))
      · have n12 : (x.t.k == 12) = false := beq_eq_false_iff_ne.2 h3
        have FIN := Lib.hid (show negP (r + 1) x.t = .mk 12 [] [copyP 12 x.t] by rw [negP, if_neg h1, if_neg h2, if_neg h3, copyP_ok (r + 1) 12 _ OK.out hr])
        clear h1 h2 h3 FN1
        go_wp2_with fail
        refine (copyP_any _ (d' + 1) x (HX.out.next HB.out)).mono ?_
        rintro e w1 ⟨D, e1, D', e2, rfl, rd, m1, m2, hb1⟩
        generalize copyP 12 x.t = t at *
        have cn := CellP.new w1 (.int .i64 t.k) (.slice D t.v.length e1) (.slice D' t.p.length e2)
        have hn := below_new w1 (.cells #[.int .i64 t.k, .slice D t.v.length e1, .slice D' t.p.length e2] 25)
        have k3 := K2.out.below (hb1.trans (hn.mono hb1.size)) hzz
        obtain ⟨t0, t1, t2, g0, g1, g2, hblk⟩ := k3
        have HR := Lib.hid (ret_boxP hblk (.int .i64 12) (.slice none 0 0) (.slice (some ⟨w1.heap.size, 0, none⟩) 1 1))
        have PO := Lib.hid (pw_one rd hb1.size)
        have MO := Lib.hid (show MineP (w1.alloc (.cells #[.int .i64 t.k, .slice D t.v.length e1, .slice D' t.p.length e2] 25)) (some ⟨w1.heap.size, 0, none⟩) [t].length from fun _ => ⟨_, rfl, cn.blk⟩)
        have B1 := Lib.hid (bnext hb1 hn)
        clear rd m1 m2 hb1 a0 a1 a2 s0 s1 s2 p0 p1 p2 cn hn hblk
        go_wp2
        obtain ⟨F, hF, ⟨r0, r1, r2, _⟩, hk, hs, hbel⟩ := HR.out
        rw [← hF]
        clear hF
        rw [FIN.out]
        exact bodyPost_ret (v := pl (.mk 12 [] [t]) none 0 (some ⟨w1.heap.size, 0, none⟩) 1) (by simp [results, Try.results31, go_sem, r0, r1, r2]; exact ⟨rfl, rfl, rfl⟩) rfl (New.moreP (d := 14) (NewP.build (W := Y) (w1 := Y) (n := 0) (d := 13) (t := .mk 12 [] [t]) HB.out (by omega) hzz ⟨by show (-9223372036854775808 : Int) ≤ 12; omega, by show (12 : Int) ≤ 9223372036854775807; omega⟩ (rw_nil _ _ _ _) (fun h => absurd h (by simp [P.v])) PO.out MO.out (Below.refl _ _) B1.out hk hs hbel) (by omega))
theorem neg_any : ∀ r, NegOk r
  | 0 => fun _ _ _ h => by simp [okP] at h
  | r + 1 => neg_succ r (neg_any r)
end Go.Proofs.Ytiiccefnfepccaa
