/- Carried over from an earlier seat. -/
import Derived.Test.YtebkkjfeikpfgaaBPc
import Derived.Test.YtebkkjfeikpfgaaBPd
namespace Go.Proofs.Ytebkkjfeikpfgaa
set_option maxRecDepth 100000
open Go.RowKit Go.ChangeShapes Go.WideShapes Go.ChangeAt Go.Deep Go.Sort
set_option maxRecDepth 100000

def GA.Sm (g : GA) : Prop := (∀ t ∈ g.vs, Go.Proofs.Ytebkkjfeikpfgaa.Sm t) ∧ ∀ t ∈ g.es, Go.Proofs.Ytebkkjfeikpfgaa.Sm t
theorem errG_c1 {vs es : List TA} (h : okThs 500 vs = false) : errG vs es = 50 := errG_no1 (by rw [h]; rfl)
theorem errG_c2 {vs es : List TA} (h : okThs 2000 es = false) : errG vs es = 50 := errG_no2 (by rw [h]; rfl)
theorem errG_c3 {vs es : List TA} (h : vs.any endT = true) : errG vs es = 50 := errG_no1 (by rw [h]; simp)
theorem errG_c4 {vs es : List TA} (h : es.any (looseB vs) = true) : errG vs es = 50 := errG_no2 (by rw [h]; simp)
theorem errG_c0 {vs es : List TA} (h1 : okThs 500 vs = true) (h2 : okThs 2000 es = true) (h3 : vs.any endT = false) (h4 : es.any (looseB vs) = false) : errG vs es = 0 := errG_yes (by rw [h1, h3]; rfl) (by rw [h2, h4]; rfl)
theorem any_at {α : Type} {p : α → Bool} {l : List α} {k : Nat} {x : α} (hx : l[k]? = some x) (h : p x = true) : l.any p = true := List.any_eq_true.2 ⟨x, List.mem_of_getElem? hx, h⟩
theorem any_take {α : Type} {p : α → Bool} {l : List α} {k : Nat} {x : α} (hx : l[k]? = some x) (h : p x = false) (h0 : (l.take k).any p = false) : (l.take (k + 1)).any p = false := by
  rw [List.take_add_one, hx]; simp [h0, h]
theorem any_whole {α : Type} {p : α → Bool} {l : List α} {k : Nat} (hk : l.length ≤ k) (h0 : (l.take k).any p = false) : l.any p = false := by
  rwa [List.take_of_length_le hk] at h0
theorem has_rg {w : World} {d : Nat} {A : Option Addr} {c : Nat} {ts : List TA} (h : TRow w d A c ts) (id : Int) (n : Nat) (os : Array Obj) : Calls Try.prog 27 #[.slice A ts.length c, .int .i64 id] (grow (redrawn w n) os) fun e w'' => e = .returned (.bool (ts.any (idB id))) ∧ ∃ p : Regrown, w'' = grow (redrawn w p.d) p.os :=
  Calls.regrown_of (refHas_any _ d A c ts (h.next (below_regrown w n os)) id)
structure K24 (w : World) (g : Nat) (v0 v1 : Value) : Prop where
  c0 : w.cell? ⟨g, 0, none⟩ = some v0
  c1 : w.cell? ⟨g, 1, none⟩ = some v1
  lt : g < w.heap.size
theorem K24.next {a b : World} {g : Nat} {v0 v1 : Value} (h : K24 a g v0 v1) (hb : Below a.heap.size a b) : K24 b g v0 v1 := ⟨cell_below hb h.c0 h.lt, cell_below hb h.c1 h.lt, Nat.lt_of_lt_of_le h.lt hb.size⟩
set_option maxHeartbeats 4000000 in
theorem refCheck_any (w : World) (d : Nat) (g : GA) (hg : g.In w d) (hsm : g.Sm) : Calls Try.prog 14 #[g.v] w fun e w' => e = .returned (.int .i64 (errG g.vs g.es)) ∧ Below w.heap.size w w' := by
  have HV := Lib.hid hg.v
  have HE := Lib.hid hg.e
  have bv := hg.v.big
  have be := hg.e.big
  have CV := Lib.hid (fun (W : World) (hb : Below w.heap.size w W) => refThings_any W d g.AV g.cV g.vs (hg.v.next hb) hsm.1 500 (by omega))
  have CE := Lib.hid (fun (W : World) (hb : Below w.heap.size w W) => refThings_any W d g.AE g.cE g.es (hg.e.next hb) hsm.2 2000 (by omega))
  clear hg hsm
  obtain ⟨AV, cV, vs, AE, cE, es⟩ := g
  simp only at HV HE bv be CV CE ⊢
  go_enter Try.func14, Try.ntmps14
  go_upto_region 1 with fail
  generalize hW : World.alloc w _ = W
  obtain ⟨z0, z1, hbW, hsW⟩ := box24 w _ _ W hW
  have HB := Lib.hid hbW
  have KK := Lib.hid (show K24 W w.heap.size (.slice AV vs.length cV) (.slice AE es.length cE) from ⟨z0, z1, by omega⟩)
  clear hW hbW hsW
  go_wp2_with fail
  refine (CV.out W HB.out).mono ?_
  rintro e w1 ⟨rfl, hb1⟩
  replace HB := Lib.hid (bnext HB.out hb1)
  replace KK := Lib.hid (KK.out.next hb1)
  clear hb1 z0 z1
  cases h1 : okThs 500 vs
  · have HF := Lib.hid (errG_c1 (es := es) h1)
    clear h1
    go_wp2
    go_ret
    exact ⟨by rw [HF.out]; rfl, HB.out⟩
  have H1 := Lib.hid h1
  clear h1
  obtain ⟨z0, z1, _⟩ := KK.out
  go_wp2_with fail
  refine (CE.out w1 HB.out).mono ?_
  rintro e w2 ⟨rfl, hb1⟩
  replace HB := Lib.hid (bnext HB.out hb1)
  replace KK := Lib.hid (KK.out.next hb1)
  clear hb1 z0 z1 CV CE
  cases h2 : okThs 2000 es
  · have HF := Lib.hid (errG_c2 (vs := vs) h2)
    clear h2
    go_wp2
    go_ret
    exact ⟨by rw [HF.out]; rfl, HB.out⟩
  have H2 := Lib.hid h2
  clear h2
  go_wp2
  replace HV := Lib.hid (HV.out.next HB.out)
  replace HE := Lib.hid (HE.out.next HB.out)
  go_loopw [3] (fun i wr => ∃ k : Nat, k ≤ vs.length ∧ i = .int .i64 k ∧ wr = w2 ∧ Hid ((vs.take k).any endT = false)) (fun i _ => vs.length - (intOf i).toNat)
  case atStart => exact ⟨0, by omega, rfl, rfl, Lib.hid (by simp)⟩
  case round =>
    obtain ⟨k, hk, rfl, rfl, hr⟩ := hrel
    obtain ⟨z0, z1, _⟩ := KK.out
    by_cases hlt : k < vs.length
    · obtain ⟨b, off, t, rfl, hb, ht, ⟨q0, q1, q2, q3, q4⟩, _⟩ := HV.out.elem hlt
      have YES := Lib.hid (fun h => errG_c3 (es := es) (any_at ht h))
      have NO := Lib.hid (fun h => any_take (p := endT) ht h hr.out)
      have HT : Hid (endT t = (decide (t.o ≠ 0) || decide (t.i ≠ 0))) := Lib.hid rfl
      have k0 : (0 : Int) ≤ (k : Int) := by omega
      have k1 : (k : Int) < (vs.length : Int) := by omega
      clear ht hr
      by_cases e1 : t.o = 0
      · have b1 : (t.o != 0) = false := by simp [e1]
        by_cases e2 : t.i = 0
        · have b2 : (t.i != 0) = false := by simp [e2]
          have N := Lib.hid (NO.out (by rw [HT.out]; simp [e1, e2]))
          clear e1 e2
          go_wp2
          go_roundw
          case rel => exact ⟨k + 1, by omega, by go_num, trivial, N⟩
          case measure => simp [intOf]; omega
        · have b2 : (t.i != 0) = true := by simp [e2]
          have Y := Lib.hid (YES.out (by rw [HT.out]; simp [e2]))
          clear e1 e2
          go_wp2
          go_ret
          exact ⟨by rw [Y.out]; rfl, HB.out⟩
      · have b1 : (t.o != 0) = true := by simp [e1]
        have Y := Lib.hid (YES.out (by rw [HT.out]; simp [e1]))
        clear e1
        go_wp2
        go_ret
        exact ⟨by rw [Y.out]; rfl, HB.out⟩
    · have H3 := Lib.hid (any_whole (by omega) hr.out)
      clear hr
      go_wp2
      clear z0 z1
      go_loopw [4] (fun i wx => ∃ k : Nat, k ≤ es.length ∧ i = .int .i64 k ∧ Hid (Below wr.heap.size wr wx) ∧ Hid ((es.take k).any (looseB vs) = false)) (fun i _ => es.length - (intOf i).toNat)
      case atStart => exact ⟨0, by omega, rfl, Lib.hid (Below.refl _ _), Lib.hid (by simp)⟩
      case round =>
        obtain ⟨k, hk, rfl, hbel, hr⟩ := hrel
        obtain ⟨z0, z1, _⟩ := KK.out.next hbel.out
        by_cases hlt : k < es.length
        · obtain ⟨b, off, t, rfl, hb, ht, ⟨q0, q1, q2, q3, q4⟩, _⟩ := (HE.out.next hbel.out).elem hlt
          have YES := Lib.hid (fun h => errG_c4 (vs := vs) (any_at ht h))
          have NO := Lib.hid (fun h => any_take (p := looseB vs) ht h hr.out)
          have HT : Hid (looseB vs t = (!vs.any (idB t.o) || !vs.any (idB t.i))) := Lib.hid rfl
          have k0 : (0 : Int) ≤ (k : Int) := by omega
          have k1 : (k : Int) < (es.length : Int) := by omega
          have C1 := Lib.hid (fun n os => has_rg (HV.out.next hbel.out) t.o n os)
          have C2 := Lib.hid (fun n os => has_rg (HV.out.next hbel.out) t.i n os)
          clear ht hr
          go_upto_region 11 with fail
          replace z0 := cell_regrown z0
          replace z1 := cell_regrown z1
          replace q0 := cell_regrown q0
          replace q1 := cell_regrown q1
          replace q2 := cell_regrown q2
          replace q3 := cell_regrown q3
          replace q4 := cell_regrown q4
          cases e1 : vs.any (idB t.o)
          · rw [e1] at C1
            have Y := Lib.hid (YES.out (by rw [HT.out, e1]; rfl))
            clear e1
            refine wp_region_quiet_below (by kernel_rfl) (by kernel_rfl) ?_
            repeat (first | go_big_quiet_step (with_reducible exact C1.out _ _) | quiet_step (with_reducible exact C1.out _ _))
            refine wpQuiet_nil ?_
            intro _ hw'
            obtain ⟨⟨dq, osq⟩, hw''⟩ := hw'
            subst hw''
            have BQ := Lib.hid (bnext hbel.out (below_regrown wr dq osq))
            clear z0 z1 q0 q1 q2 q3 q4 C1 C2
            go_wp2
            go_ret
            exact ⟨by rw [Y.out]; rfl, bnext HB.out BQ.out⟩
          · rw [e1] at C1
            have E1 := Lib.hid e1
            clear e1
            cases e2 : vs.any (idB t.i)
            · rw [e2] at C2
              have Y := Lib.hid (YES.out (by rw [HT.out, e2]; simp))
              clear e2
              refine wp_region_quiet_below (by kernel_rfl) (by kernel_rfl) ?_
              repeat (first | go_big_quiet_step (first | (with_reducible exact C1.out _ _) | (with_reducible exact C2.out _ _)) | quiet_step (first | (with_reducible exact C1.out _ _) | (with_reducible exact C2.out _ _)))
              refine wpQuiet_nil ?_
              intro _ hw'
              obtain ⟨⟨dq, osq⟩, hw''⟩ := hw'
              subst hw''
              have BQ := Lib.hid (bnext hbel.out (below_regrown wr dq osq))
              clear z0 z1 q0 q1 q2 q3 q4 C1 C2
              go_wp2
              go_ret
              exact ⟨by rw [Y.out]; rfl, bnext HB.out BQ.out⟩
            · rw [e2] at C2
              have N := Lib.hid (NO.out (by rw [HT.out, e2, E1.out]; rfl))
              clear e2
              refine wp_region_quiet_below (by kernel_rfl) (by kernel_rfl) ?_
              repeat (first | go_big_quiet_step (first | (with_reducible exact C1.out _ _) | (with_reducible exact C2.out _ _)) | quiet_step (first | (with_reducible exact C1.out _ _) | (with_reducible exact C2.out _ _)))
              refine wpQuiet_nil ?_
              intro _ hw'
              obtain ⟨⟨dq, osq⟩, hw''⟩ := hw'
              subst hw''
              have BQ := Lib.hid (bnext hbel.out (below_regrown wr dq osq))
              clear z0 z1 q0 q1 q2 q3 q4 C1 C2
              go_wp2
              go_roundw
              case rel => exact ⟨k + 1, by omega, by go_num, BQ, N⟩
              case measure => simp [intOf]; omega
        · have H4 := Lib.hid (any_whole (by omega) hr.out)
          have HF := Lib.hid (errG_c0 H1.out H2.out H3.out H4.out)
          go_wp2
          go_ret
          exact ⟨by rw [HF.out]; rfl, bnext HB.out hbel.out⟩
section
variable {H : Type} {enc : TypeId × Value → H} {W : World} {base : Nat} {spare : Nat → Bool} {held : Bool}
theorem prop_opensS (n : Nat) : ∀ (cs : List Value) (x : DataW H × List MemPlace), DataW.trod enc Try.prog W base spare held n 84 cs = some x → Sized x.1 84 → ∃ p : PA, cs = p.cs ∧ p.x.In W n ∧ p.key.size ≤ 140737488355328 := by
  intro cs x h hs
  obtain ⟨ys, m, hn, hx, hcl, hyl, hf⟩ := DataW.trod_struct Try.underlying84 h
  rw [cells39] at hcl
  match cs, hcl with
  | [v0, v1, v2, v3, v4, v5], _ =>
    have f0 := hf 0 _ rfl
    have f1 := hf 1 _ rfl
    match ys, hyl with
    | [y0, y1], _ =>
      have g0 : DataW.trod enc Try.prog W base spare held m 9 [v0] = some y0 := f0
      have g1 : DataW.trod enc Try.prog W base spare held m 82 [v1, v2, v3, v4, v5] = some y1 := f1
      subst hx
      have hw : ∀ q ∈ (DataW.agg [y0.1, y1.1] : DataW H).weights Try.prog 84, q ≤ 140737488351232 := hs
      simp only [DataW.weights, Try.underlying84] at hw
      have hw' : ∀ q ∈ DataW.weightsEach Try.prog [9, 82] [y0.1, y1.1], q ≤ 140737488351232 := hw
      simp only [DataW.weightsEach, List.mem_append] at hw'
      obtain ⟨s, e0, x2, _⟩ := DataW.trod_string Try.underlying9 g0
      have hsz : s.size ≤ 140737488355328 := by
        have := hw' s.data.toList.length (.inl (by rw [x2]; simp only [DataW.weights, List.mem_singleton]))
        have e : s.data.toList.length = s.size := Array.length_toList
        omega

      injection e0 with e0
      obtain ⟨t, A, c, A', c', e1, hr⟩ := value_opens m _ _ g1 (fun z hz => hw' z (by simp [hz]))
      refine ⟨⟨s, ⟨t, A, c, A', c'⟩⟩, ?_, Rd.more hr (Nat.le_refl _) (Nat.le_refl _) (by omega), hsz⟩
      rw [e0, e1]; rfl
theorem props_openS {n : Nat} {v : Value} {x : DataW H × List MemPlace} (h : DataW.trod enc Try.prog W base spare held (n + 1) 40 [v] = some x) (hs : Sized x.1 40) : ∃ A c l, v = .slice A (List.length (α := PA) l) c ∧ PRow W 0 n A c l ∧ ∀ p ∈ l, p.key.size ≤ 140737488355328 := by
  obtain ⟨A, c, l, e, h1, h2, h3, h4, h5, h6⟩ := rows_open Try.underlying40 cells39 bytes39 (by omega) (by omega) (fun cs (p : PA) => cs = p.cs ∧ p.x.In W n ∧ p.key.size ≤ 140737488355328) (fun cs a e => by rw [e.1]; rfl) (prop_opensS n) h hs
  refine ⟨A, c, l, e, ⟨h1, h2, by omega, h4, fun h0 => ?_, fun p hp => ?_⟩, fun p hp => ?_⟩
  · obtain ⟨b, off, e, hb, hc⟩ := h5 h0
    refine ⟨b, off, e, Nat.zero_le _, hb, fun j p hj => ?_⟩
    obtain ⟨cs, ⟨rfl, _⟩, hcs⟩ := hc j p hj
    exact ⟨hcs 0 _ rfl, hcs 1 _ rfl, hcs 2 _ rfl, hcs 3 _ rfl, hcs 4 _ rfl, hcs 5 _ rfl⟩
  · obtain ⟨cs, _, hi, _⟩ := h6 p hp
    exact hi
  · obtain ⟨cs, _, _, hi⟩ := h6 p hp
    exact hi
theorem thing_opensS (n : Nat) : ∀ (cs : List Value) (x : DataW H × List MemPlace), DataW.trod enc Try.prog W base spare held n 42 cs = some x → Sized x.1 42 → ∃ t : TA, cs = t.cs ∧ PRow W 0 n t.A t.c t.l ∧ TFld t ∧ Sm t := by
  intro cs x h hs
  obtain ⟨ys, m, hn, hx, hcl, hyl, hf⟩ := DataW.trod_struct Try.underlying42 h
  rw [cells34] at hcl
  match cs, hcl with
  | [v0, v1, v2, v3, v4], _ =>
    have f0 := hf 0 _ rfl
    have f1 := hf 1 _ rfl
    have f2 := hf 2 _ rfl
    have f3 := hf 3 _ rfl
    have f4 := hf 4 _ rfl
    match ys, hyl with
    | [y0, y1, y2, y3, y4], _ =>
      have g0 : DataW.trod enc Try.prog W base spare held m 3 [v0] = some y0 := f0
      have g1 : DataW.trod enc Try.prog W base spare held m 9 [v1] = some y1 := f1
      have g2 : DataW.trod enc Try.prog W base spare held m 3 [v2] = some y2 := f2
      have g3 : DataW.trod enc Try.prog W base spare held m 3 [v3] = some y3 := f3
      have g4 : DataW.trod enc Try.prog W base spare held m 40 [v4] = some y4 := f4
      subst hx
      have hw : ∀ q ∈ (DataW.agg [y0.1, y1.1, y2.1, y3.1, y4.1] : DataW H).weights Try.prog 42, q ≤ 140737488351232 := hs
      simp only [DataW.weights, Try.underlying42] at hw
      have hw' : ∀ q ∈ DataW.weightsEach Try.prog [3, 9, 3, 3, 40] [y0.1, y1.1, y2.1, y3.1, y4.1], q ≤ 140737488351232 := hw
      simp only [DataW.weightsEach, List.mem_append] at hw'
      obtain ⟨k, e0, _, k0⟩ := DataW.trod_int Try.underlying3 g0
      obtain ⟨s, e1, x2, _⟩ := DataW.trod_string Try.underlying9 g1
      have hsz : s.size ≤ 140737488355328 := by
        have := hw' s.data.toList.length (.inr (.inl (by rw [x2]; simp only [DataW.weights, List.mem_singleton])))
        have e : s.data.toList.length = s.size := Array.length_toList
        omega

      obtain ⟨o, e2, _, k2⟩ := DataW.trod_int Try.underlying3 g2
      obtain ⟨i, e3, _, k3⟩ := DataW.trod_int Try.underlying3 g3
      injection e0 with e0
      injection e1 with e1
      injection e2 with e2
      injection e3 with e3
      cases m with
      | zero => simp [DataW.trod] at g0
      | succ m =>
        obtain ⟨A, c, l, e4, r4, z4⟩ := props_openS g4 (fun z hz => hw' z (by simp [hz]))
        subst hn
        refine ⟨⟨k, s, o, i, A, c, l⟩, by rw [e0, e1, e2, e3, e4]; rfl, ⟨r4.le, r4.cap, r4.big, r4.nil, r4.at_, fun p hp => Rd.more (r4.vals p hp) (Nat.le_refl _) (Nat.le_refl _) (by omega)⟩, ⟨k0, k2, k3⟩, hsz, z4⟩
theorem things_openS {n : Nat} {v : Value} {x : DataW H × List MemPlace} (h : DataW.trod enc Try.prog W base spare held (n + 1) 22 [v] = some x) (hs : Sized x.1 22) : ∃ A c l, v = .slice A (List.length (α := TA) l) c ∧ TRow W n A c l ∧ (∀ t ∈ l, TFld t) ∧ ∀ t ∈ l, Sm t := by
  obtain ⟨A, c, l, e, h1, h2, h3, h4, h5, h6⟩ := rows_open Try.underlying22 cells34 bytes34 (by omega) (by omega) (fun cs (t : TA) => cs = t.cs ∧ PRow W 0 n t.A t.c t.l ∧ TFld t ∧ Sm t) (fun cs a e => by rw [e.1]; rfl) (thing_opensS n) h hs
  refine ⟨A, c, l, e, ⟨h1, by omega, fun h0 => ?_, fun t ht => ?_⟩, fun t ht => ?_, fun t ht => ?_⟩
  · obtain ⟨b, off, e, hb, hc⟩ := h5 h0
    refine ⟨b, off, e, hb, fun j t hj => ?_⟩
    obtain ⟨cs, ⟨rfl, _⟩, hcs⟩ := hc j t hj
    exact ⟨hcs 0 _ rfl, hcs 1 _ rfl, hcs 2 _ rfl, hcs 3 _ rfl, hcs 4 _ rfl⟩
  · obtain ⟨cs, _, hi, _⟩ := h6 t ht
    exact hi
  · obtain ⟨cs, _, _, hi, _⟩ := h6 t ht
    exact hi
  · obtain ⟨cs, _, _, _, hi⟩ := h6 t ht
    exact hi
theorem open_graphS {b0 : Nat} {v : Value} {d : DataW H} {ps : List MemPlace} (hv : Value.okWide Try.prog W .any b0 24 v) (h : DataW.Trod enc Try.prog W base spare held 24 v d ps) (hs : Sized d 24) : ∃ (g : GA) (n : Nat), v = g.v ∧ g.In W n ∧ g.Sm := by
  obtain ⟨cs, rfl, _⟩ := okWide_struct Try.underlying24 hv
  obtain ⟨n, hf⟩ := h
  obtain ⟨ys, m, hn, hx, hcl, hyl, hff⟩ := DataW.trod_struct Try.underlying24 hf
  rw [cells24g] at hcl
  have hcl' : cs.toList.length = 2 := hcl
  obtain ⟨cs, rfl⟩ : ∃ l : List Value, cs = l.toArray := ⟨cs.toList, by simp⟩
  match cs, hcl' with
  | [v0, v1], _ =>
    have f0 := hff 0 _ rfl
    have f1 := hff 1 _ rfl
    match ys, hyl with
    | [y0, y1], _ =>
      have g0 : DataW.trod enc Try.prog W base spare held m 22 [v0] = some y0 := f0
      have g1 : DataW.trod enc Try.prog W base spare held m 22 [v1] = some y1 := f1
      have hd : d = DataW.agg [y0.1, y1.1] := congrArg Prod.fst hx
      subst hd
      have hw : ∀ q ∈ (DataW.agg [y0.1, y1.1] : DataW H).weights Try.prog 24, q ≤ 140737488351232 := hs
      simp only [DataW.weights, Try.underlying24] at hw
      have hw' : ∀ q ∈ DataW.weightsEach Try.prog [22, 22] [y0.1, y1.1], q ≤ 140737488351232 := hw
      simp only [DataW.weightsEach, List.mem_append] at hw'
      cases m with
      | zero => simp [DataW.trod] at g0
      | succ m =>
        obtain ⟨A, c, l, e0, r0, t0, y0'⟩ := things_openS g0 (fun z hz => hw' z (by simp [hz]))
        obtain ⟨A', c', l', e1, r1, t1, y1'⟩ := things_openS g1 (fun z hz => hw' z (by simp [hz]))
        exact ⟨⟨A, c, l, A', c', l'⟩, m, by rw [e0, e1], ⟨r0, r1, t0, t1⟩, y0', y1'⟩
end
end Go.Proofs.Ytebkkjfeikpfgaa

