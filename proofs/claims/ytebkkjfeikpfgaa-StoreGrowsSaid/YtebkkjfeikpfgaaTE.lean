/- StoreGrows: the walk. -/
import Derived.Test.YtebkkjfeikpfgaaTD
import Derived.IntWalk
namespace Go.Proofs.Ytebkkjfeikpfgaa
open Go.RowKit Go.Sort
set_option maxRecDepth 100000
attribute [local go_sem ↓] Go.wp_at_zero Go.wp_at_succ

theorem rem_ix (a : Int) (m : Nat) (hm : 0 < m) : ∃ j : Nat, j < m ∧ (IntKind.u64.wrap a).tmod (m : Int) = (j : Int) := by
  have h0 : 0 ≤ IntKind.u64.wrap a := by unfold IntKind.wrap; simp [IntKind.signed, IntKind.bits]; omega
  generalize IntKind.u64.wrap a = u at h0
  rw [Int.tmod_eq_emod_of_nonneg h0]
  have h1 := Int.emod_nonneg u (show (m : Int) ≠ 0 by omega)
  have h2 := Int.emod_lt_of_pos u (show (0 : Int) < m by omega)
  exact ⟨(u % m).toNat, by omega, by omega⟩
theorem risG_snoc {z : TV} : ∀ (l : List TV), risG idLtV l = true → (∀ t, l.getLast? = some t → idLtV t z = true) → risG idLtV (l ++ [z]) = true
  | [], _, _ => rfl
  | [x], _, h => by
    have := h x rfl
    show (idLtV x z && risG idLtV [z]) = true
    rw [this]; rfl
  | x :: y :: r, h, h2 => by
    have h' : (idLtV x y && risG idLtV (y :: r)) = true := h
    rw [Bool.and_eq_true] at h'
    have ih := risG_snoc (y :: r) h'.2 (fun t ht => h2 t (by rw [List.getLast?_cons_cons]; exact ht))
    show (idLtV x y && risG idLtV ((y :: r) ++ [z])) = true
    rw [h'.1, ih]; rfl
theorem ok_grow {V E : List TV} (h : okGV V E = true) (hl : E.length ≤ 1900) {n o i : Int} (hn : ∀ t, E.getLast? = some t → t.id < n) (h0 : 0 ≤ n) (ho : V.any (idBV o) = true) (hi : V.any (idBV i) = true) : okGV V (E ++ [⟨n, ⟨#[122]⟩, o, i, []⟩]) = true := by
  obtain ⟨h1, h2, h3, h4⟩ := okGV_parts h
  obtain ⟨e1, e2, e3⟩ := okTVs_parts h3
  have z1 : okTV ⟨n, ⟨#[122]⟩, o, i, []⟩ = true := by
    unfold okTV
    rw [show nameB ⟨#[122]⟩ = true by decide]
    simp [h0, okPsK, risG]
  have z2 : looseV V ⟨n, ⟨#[122]⟩, o, i, []⟩ = false := by unfold looseV; rw [ho, hi]; rfl
  unfold okGV
  rw [h1, h2]
  have h5 : okTVs 2000 (E ++ [⟨n, ⟨#[122]⟩, o, i, []⟩]) = true := by
    unfold okTVs
    rw [risG_snoc E e3 (fun t ht => by simp [idLtV]; exact hn t ht), List.all_append, e2]
    simp [z1]; omega
  rw [h5, List.any_append, h4]
  simp [z2]
theorem grow_out (E : List TV) (z : TV) : spk (E ++ [z]) z.o 1 = spk E z.o 1 ++ [outO z] := by unfold spk; simp
theorem grow_in (E : List TV) (z : TV) : spk (E ++ [z]) z.i 2 = spk E z.i 2 ++ [inI z] := by unfold spk; simp
theorem grow_off (E : List TV) (z : TV) {id : Int} (h1 : id ≠ z.o) (h2 : id ≠ z.i) (way : Int) : spk (E ++ [z]) id way = spk E id way := by
  have e1 : (z.o == id) = false := beq_eq_false_iff_ne.2 (fun e => h1 e.symm)
  have e2 : (z.i == id) = false := beq_eq_false_iff_ne.2 (fun e => h2 e.symm)
  unfold spk
  rw [List.filter_append, List.filter_append]
  simp [e1, e2]
theorem wf_next {n : Int} (h0 : 0 ≤ n) (h1 : n ≤ 1152921504606846976) : WfI (n + 1) := by
  have e : IntKind.i64.min = -9223372036854775808 := by decide
  have e2 : IntKind.i64.max = 9223372036854775807 := by decide
  simp [WfI, Lit.wf, e]; omega
theorem last_tv (l : List TA) : (l.map TA.tv').getLast? = l.getLast?.map TA.tv' := List.getLast?_map
theorem HS.first {w0 : World} {gh : Nat} {v0 : Value} {X w' : World} {A' : Option Addr} {c' m : Nat} {l2 : List TA} (h : HS w0 gh v0 X none 0 []) (hg : X.grownBy w' (Value.ownBlock (.slice none 0 0))) (hown : TOwn w' (gh + 1) A' m c' l2) :
    HS w0 gh v0 (w'.setCell ⟨gh, 1, none⟩ (.slice A' m c')) A' c' l2 := by
  have := h.push (A' := A') (c' := c') (m := m) (l2 := l2) hg (by simpa using hown)
  simpa using this
set_option maxHeartbeats 32000000 in
theorem grows_law (w : World) (d0 : Nat) (g : GA) (a b id : Int) (hg : g.In w d0) (hsm : g.Sm) (hnE : g.AE = none → g.cE = 0) (_ha : WfI a) (_hb : WfI b) (hid : WfI id) : Calls Try.prog 9 #[g.v, .int .i64 a, .int .i64 b, .int .i64 id] w fun e w' => e = .returned (.bool true) ∧ Below w.heap.size w w' := by
  have G0 := Lib.hid hg
  have HSM := Lib.hid hsm
  have NE := Lib.hid hnE
  clear hg hsm hnE
  go_enter Try.func9, Try.ntmps9
  go_upto_region 1 with fail
  obtain ⟨W0, hW0⟩ : ∃ W0, W0 = w.alloc (.cells #[.slice g.AV g.vs.length g.cV, .slice g.AE g.es.length g.cE] 24) := ⟨_, rfl⟩
  have k0 := box24 w (.slice g.AV g.vs.length g.cV) (.slice g.AE g.es.length g.cE) W0 hW0.symm
  rw [← hW0]
  clear hW0
  have B := Lib.hid k0.2.2.1
  have K := Lib.hid (show K24 W0 w.heap.size (.slice g.AV g.vs.length g.cV) (.slice g.AE g.es.length g.cE) from ⟨k0.1, k0.2.1, by have := k0.2.2.2; omega⟩)
  clear k0
  have G := Lib.hid (G0.out.next B.out)
  clear G0
  obtain ⟨y0, y1, -⟩ := K.out
  go_wp2_with fail
  refine (much_any W0 d0 g G.out).mono ?_
  rintro e W1 ⟨mb, rfl, hb1⟩
  clear y0 y1
  replace G := Lib.hid (G.out.next hb1)
  replace K := Lib.hid (K.out.next hb1)
  replace B := Lib.hid (bnext B.out hb1)
  clear hb1
  cases mb
  case true =>
    go_wp2_with fail
    refine (known_any W1).mono ?_
    rintro e wk ⟨rfl, hbk⟩
    replace B := Lib.hid (bnext B.out hbk)
    clear hbk
    go_wp2
    go_ret
    exact ⟨rfl, B.out⟩
  obtain ⟨y0, y1, -⟩ := K.out
  go_wp2_with fail
  refine (refCheck_any W1 d0 g G.out HSM.out).mono ?_
  rintro e W2 ⟨rfl, hb1⟩
  clear y0 y1
  replace G := Lib.hid (G.out.next hb1)
  replace K := Lib.hid (K.out.next hb1)
  replace B := Lib.hid (bnext B.out hb1)
  clear hb1
  rcases errG_or g.vs g.es with ⟨hok, he⟩ | he
  case inr =>
    rw [he]
    clear he
    go_wp2_with fail
    refine (known_any W2).mono ?_
    rintro e wk ⟨rfl, hbk⟩
    replace B := Lib.hid (bnext B.out hbk)
    clear hbk
    go_wp2
    go_ret
    exact ⟨rfl, B.out⟩
  rw [he]
  have HOK := Lib.hid hok
  clear he hok
  obtain ⟨y0, y1, -⟩ := K.out
  by_cases hv : g.vs.length = 0
  case pos =>
    have e0 : ((g.vs.length : Int) == 0) = true := by rw [hv]; rfl
    have hv2 : (g.vs.length : Int) = 0 := by omega
    go_wp2_with fail
    refine (known_any W2).mono ?_
    rintro e wk ⟨rfl, hbk⟩
    replace B := Lib.hid (bnext B.out hbk)
    clear hbk
    go_wp2
    go_ret
    exact ⟨rfl, B.out⟩
  have e0 : ((g.vs.length : Int) == 0) = false := beq_eq_false_iff_ne.2 (by omega)
  by_cases hE : 1900 < g.es.length
  case pos =>
    have e1 : (1900 : Int) < (g.es.length : Int) := by omega
    go_wp2_with fail
    refine (known_any W2).mono ?_
    rintro e wk ⟨rfl, hbk⟩
    replace B := Lib.hid (bnext B.out hbk)
    clear hbk
    go_wp2
    go_ret
    exact ⟨rfl, B.out⟩
  have e1 : ¬ (1900 : Int) < (g.es.length : Int) := by omega
  obtain ⟨n, hn⟩ : ∃ n : Int, n = (match g.es.getLast? with | some t => t.id | none => 0) := ⟨_, rfl⟩
  have HN := Lib.hid hn
  clear hn
  go_upto_if 42 with fail
  go_cut [9] (fun s9 wx => s9 = .int .i64 n ∧ Hid (Below W2.heap.size W2 wx))
  case first =>
    by_cases h0 : 0 < g.es.length
    · obtain ⟨t, ht⟩ : ∃ t, g.es[g.es.length - 1]? = some t := ⟨_, List.getElem?_eq_getElem (by omega)⟩
      obtain ⟨bb, off, t', ex, hbb, ht', q5, -⟩ := G.out.e.elem (k := g.es.length - 1) (by omega)
      rw [ht] at ht'
      injection ht' with ht'
      subst ht'
      obtain ⟨q0, q1, q2, q3, q4⟩ := q5
      have HT : Hid (n = t.id) := Lib.hid (by rw [HN.out, List.getLast?_eq_getElem?, ht])
      rw [ex] at y1
      have hk : ((g.es.length - 1 : Nat) : Int) = (g.es.length : Int) - 1 := by omega
      have h1 : (0 : Int) < (g.es.length : Int) := by omega
      have h2 : (0 : Int) ≤ (g.es.length : Int) - 1 := by omega
      have h3 : ((g.es.length : Int) - 1).toNat = g.es.length - 1 := by omega
      have h4 : (g.es.length : Int) - 1 < (g.es.length : Int) := by omega
      clear ht hk
      go_wp2_with fail
      go_meet
      exact ⟨by rw [HT.out], Lib.hid (Below.refl _ _)⟩
    · have h1 : ¬ (0 : Int) < (g.es.length : Int) := by omega
      have HZ : Hid (n = 0) := Lib.hid (by rw [HN.out, List.eq_nil_of_length_eq_zero (show g.es.length = 0 by omega)]; rfl)
      go_wp2_with fail
      go_meet
      exact ⟨by rw [HZ.out], Lib.hid (Below.refl _ _)⟩
  case rest =>
    obtain ⟨rfl, HBW⟩ := hcut
    replace G := Lib.hid (G.out.next HBW.out)
    replace K := Lib.hid (K.out.next HBW.out)
    replace B := Lib.hid (bnext B.out HBW.out)
    clear HBW y0 y1
    obtain ⟨y0, y1, -⟩ := K.out
    by_cases hbig : 1152921504606846976 < n
    case pos =>
      go_wp2_with fail
      refine (known_any wc).mono ?_
      rintro e wk ⟨rfl, hbk⟩
      replace B := Lib.hid (bnext B.out hbk)
      clear hbk
      go_wp2
      go_ret
      exact ⟨rfl, B.out⟩
    have bv := G.out.v.big
    have n0 : 0 ≤ n := by
      rw [HN.out]
      split
      · rename_i t ht
        have h1 := HOK.out
        rw [okG_tv] at h1
        have h2 := (okTVs_parts (okGV_parts h1).2.2.1).2.1
        have h3 := List.all_eq_true.1 h2 t.tv' (List.mem_map_of_mem (List.mem_of_getLast? ht))
        unfold okTV at h3
        simp only [Bool.and_eq_true, decide_eq_true_eq] at h3
        exact h3.1
      · omega
    obtain ⟨ja, hja, ea⟩ := rem_ix a g.vs.length (by omega)
    obtain ⟨jb, hjb, eb⟩ := rem_ix b g.vs.length (by omega)
    obtain ⟨bb, off, ta, ex, hbb, hta, qa, -⟩ := G.out.v.elem hja
    obtain ⟨bb2, off2, tb, ex2, hbb2, htb, qb, -⟩ := G.out.v.elem hjb
    rw [ex] at ex2
    injection ex2 with ex2
    injection ex2 with ex3 ex4
    subst ex3 ex4
    have HTA := Lib.hid hta
    have HTB := Lib.hid htb
    have QB := Lib.hid qb
    have EX := Lib.hid ex
    have EB := Lib.hid eb
    have hwa : IntKind.i64.wrap (ja : Int) = (ja : Int) := IntWalk.i64_in _ (by omega)
    have HWB : Hid (IntKind.i64.wrap (jb : Int) = (jb : Int)) := Lib.hid (IntWalk.i64_in _ (by omega))
    have hw : IntKind.u64.wrap (g.vs.length : Int) = (g.vs.length : Int) := IntWalk.u64_in _ (by omega)
    have hne : ((g.vs.length : Int) = 0) = False := eq_false (by omega)
    have hja2 : (ja : Int) < (g.vs.length : Int) := Int.ofNat_lt.2 hja
    obtain ⟨q0, -⟩ := qa
    have yy := y0
    rw [ex] at yy
    clear hta htb ex eb y0 e0 e1
    go_upto_region 8 with fail
    replace yy := cell_regrown yy
    replace q0 := cell_regrown q0
    refine wp_region_quiet_below (by kernel_rfl) (by kernel_rfl) ?_
    repeat (first | go_big_quiet_step (fail) | quiet_step (fail))
    refine wpQuiet_nil ?_
    intro _ hw'
    obtain ⟨⟨dq, osq⟩, hw''⟩ := hw'
    subst hw''
    have hb1 := below_regrown wc dq osq
    generalize grow (redrawn wc dq) osq = X1 at hb1
    clear yy q0 ea hwa hja2
    replace G := Lib.hid (G.out.next hb1)
    replace K := Lib.hid (K.out.next hb1)
    replace B := Lib.hid (bnext B.out hb1)
    replace QB := Lib.hid (QB.out.next hb1 hbb)
    replace hbb := Nat.lt_of_lt_of_le hbb hb1.size
    clear hb1
    have eb := EB.out
    have hwb := HWB.out
    have hjb2 : (jb : Int) < (g.vs.length : Int) := Int.ofNat_lt.2 hjb
    obtain ⟨q0, -⟩ := QB.out
    have yy := K.out.c0
    rw [EX.out] at yy
    go_upto_region 9 with fail
    replace yy := cell_regrown yy
    replace q0 := cell_regrown q0
    refine wp_region_quiet_below (by kernel_rfl) (by kernel_rfl) ?_
    repeat (first | go_big_quiet_step (fail) | quiet_step (fail))
    refine wpQuiet_nil ?_
    intro _ hw'
    obtain ⟨⟨dq, osq⟩, hw''⟩ := hw'
    subst hw''
    have hb1 := below_regrown X1 dq osq
    generalize grow (redrawn X1 dq) osq = X2 at hb1
    clear yy q0 eb hwb hjb2 hw hne
    replace G := Lib.hid (G.out.next hb1)
    replace K := Lib.hid (K.out.next hb1)
    replace B := Lib.hid (bnext B.out hb1)
    clear hb1
    have WA := Lib.hid (G.out.fv ta (List.mem_of_getElem? HTA.out)).1
    have WB := Lib.hid (G.out.fv tb (List.mem_of_getElem? HTB.out)).1
    have OA : Hid ((g.vs.map TA.tv').any (idBV ta.id) = true) := Lib.hid (by rw [any_tv]; exact List.any_eq_true.2 ⟨ta, List.mem_of_getElem? HTA.out, by simp [idB]⟩)
    have OB : Hid ((g.vs.map TA.tv').any (idBV tb.id) = true) := Lib.hid (by rw [any_tv]; exact List.any_eq_true.2 ⟨tb, List.mem_of_getElem? HTB.out, by simp [idB]⟩)
    generalize ta.id = oa at WA OA ⊢
    generalize tb.id = ib at WB OB ⊢
    clear HTA HTB QB EX EB hbb hbb2 hja hjb
    obtain ⟨y0, y1, -⟩ := K.out
    go_upto_region 11 with fail
    have kh := K24'.new X2 (.slice g.AV g.vs.length g.cV) (.slice none 0 0)
    have HH : Hid (HS X2 X2.heap.size (.slice g.AV g.vs.length g.cV) (X2.alloc (.cells #[.slice g.AV g.vs.length g.cV, .slice none 0 0] 24)) none 0 []) := Lib.hid ⟨Nat.le_refl _, below_new _ _, kh, town_nil _ _⟩
    generalize X2.alloc (.cells #[.slice g.AV g.vs.length g.cV, .slice none 0 0] 24) = X3 at HH kh ⊢
    generalize X2.heap.size = gh at HH kh ⊢
    clear kh y0 y1
    have hb1 := HH.out.bel
    have GS := Lib.hid (fun (Y : World) (hY : Below X2.heap.size X2 Y) => G.out.next hY)
    have KS := Lib.hid (fun (Y : World) (hY : Below X2.heap.size X2 Y) => K.out.next hY)
    have BS := Lib.hid (fun (Y : World) (hY : Below X2.heap.size X2 Y) => bnext B.out hY)
    clear G K B hb1
    have G3 := Lib.hid (GS.out X3 HH.out.bel)
    have K3 := Lib.hid (KS.out X3 HH.out.bel)
    obtain ⟨y0, y1, -⟩ := K3.out
    obtain ⟨x0, x1, -⟩ := HH.out.box
    have hgl : gh + 1 ≤ X3.heap.size := HH.out.box.lt
    have be := G3.out.e.big
    go_upto_region 12 with (at_builtin; refine append_anyT rfl _ _ rfl (gh + 1) HH.out.own rfl rfl G3.out.e NE.out rfl (by simpa using be) hgl ?_; intro A2 c2 w2 hown2 hg2; rw [show ([] : List TA).length + g.es.length = g.es.length by simp] at hown2 ⊢; rw [List.nil_append] at hown2; obtain ⟨a0, a1⟩ := HH.out.after hg2; have HP := Lib.hid (HH.out.first hg2 hown2); clear hown2 hg2)

    generalize w2.setCell ⟨gh, 1, none⟩ (.slice A2 g.es.length c2) = X4 at HP ⊢
    have G4 := Lib.hid (GS.out X4 HP.out.bel)
    have K4 := Lib.hid (KS.out X4 HP.out.bel)
    have B4 := Lib.hid (BS.out X4 HP.out.bel)
    have HNN : Hid (0 ≤ n ∧ n ≤ 1152921504606846976) := Lib.hid ⟨n0, by omega⟩
    have HE9 : Hid (g.es.length ≤ 1900) := Lib.hid (by omega)
    clear G3 K3 HH hgl y0 y1 x0 x1 be
    have HY := Lib.hid (HP.out.next (below_new X4 (.cells #[.int .i64 (n + 1), .string ⟨#[122]⟩, .int .i64 oa, .int .i64 ib, .slice none 0 0] 42)))
    have TZ := Lib.hid (trow_box X4 d0 ⟨n + 1, ⟨#[122]⟩, oa, ib, none, 0, []⟩ (prow_nil _ _ _))
    have hgl : gh + 1 ≤ (X4.alloc (.cells #[.int .i64 (n + 1), .string ⟨#[122]⟩, .int .i64 oa, .int .i64 ib, .slice none 0 0] 42)).heap.size := HY.out.box.lt
    have hg4 : gh < X4.heap.size := HP.out.box.lt
    obtain ⟨x0, x1, -⟩ := HP.out.box
    have hn1 : IntKind.i64.wrap (n + 1) = n + 1 := IntWalk.i64_in _ (by omega)
    have HN1 := Lib.hid hn1
    go_upto_region 13 with (at_builtin; refine append_anyT rfl _ _ rfl (gh + 1) HY.out.own rfl rfl TZ.out (fun e => by cases e) rfl (by have := HE9.out; omega) hgl ?_; intro A3 c3 w3 hown3 hg3; obtain ⟨a0, a1⟩ := HY.out.after hg3; have HQ := Lib.hid (HY.out.push hg3 hown3); clear hown3 hg3)
    generalize w3.setCell ⟨gh, 1, none⟩ (.slice A3 (g.es.length + 1) c3) = X5 at HQ ⊢
    obtain ⟨l2, hl2⟩ : ∃ l2, l2 = g.es ++ [(⟨n + 1, ⟨#[122]⟩, oa, ib, none, 0, []⟩ : TA)] := ⟨_, rfl⟩
    rw [← hl2] at HQ
    have HL := Lib.hid hl2
    rw [show g.es.length + 1 = l2.length by rw [hl2]; simp]
    have H9 : Hid (l2.length ≤ 1901) := Lib.hid (by rw [hl2]; have := HE9.out; simp; omega)
    clear hl2 HP HY TZ hgl hg4 x0 x1 a0 a1 G4 K4 B4
    have G := Lib.hid (GS.out X5 HQ.out.bel)
    have K := Lib.hid (KS.out X5 HQ.out.bel)
    have B := Lib.hid (BS.out X5 HQ.out.bel)
    clear GS KS BS
    obtain ⟨y0, y1, -⟩ := K.out

    go_wp2_with fail
    refine (new_any X5 d0 g G.out).mono ?_
    rintro e X6 ⟨hb1, ⟨he, -⟩ | ⟨-, s1, vs1, es1, rfl, hs1, -, ee1⟩⟩
    · exact absurd ((okG_errG HOK.out).symm.trans he) (by decide)
    have EE1 := Lib.hid ee1
    clear ee1 y0 y1
    replace G := Lib.hid (G.out.next hb1)
    replace K := Lib.hid (K.out.next hb1)
    replace HQ := Lib.hid (HQ.out.next hb1)
    replace B := Lib.hid (bnext B.out hb1)
    clear hb1
    have S1 := Lib.hid hs1
    clear hs1
    have VT : Hid (∀ t ∈ l2, PRow X6 0 d0 t.A t.c t.l) := Lib.hid (fun t ht => by
      rw [HL.out] at ht
      rcases List.mem_append.1 ht with ht | ht
      · exact G.out.e.vals t ht
      · rw [List.mem_singleton] at ht
        subst ht
        exact prow_nil _ _ _)
    have FT : Hid (∀ t ∈ l2, TFld t) := Lib.hid (fun t ht => by
      rw [HL.out] at ht
      rcases List.mem_append.1 ht with ht | ht
      · exact G.out.fe t ht
      · rw [List.mem_singleton] at ht
        subst ht
        exact ⟨wf_next HNN.out.1 HNN.out.2, WA.out, WB.out⟩)
    have GH : Hid (GA.In ⟨g.AV, g.cV, g.vs, A3, c3, l2⟩ X6 d0) := Lib.hid ⟨G.out.v, HQ.out.own.row (by have := H9.out; omega) VT.out, G.out.fv, FT.out⟩
    have HLE : Hid (l2.map TA.tv' = g.es.map TA.tv' ++ [(⟨n + 1, ⟨#[122]⟩, oa, ib, []⟩ : TV)]) := Lib.hid (by rw [HL.out, List.map_append]; rfl)
    have OKH : Hid (okG g.vs l2 = true) := Lib.hid (by
      rw [okG_tv, HLE.out]
      refine ok_grow (by rw [← okG_tv]; exact HOK.out) (by rw [List.length_map]; exact HE9.out) (fun t ht => ?_) (by have := HNN.out; omega) OA.out OB.out
      rw [last_tv] at ht
      obtain ⟨u, hu, rfl⟩ := Option.map_eq_some_iff.1 ht
      have hq : n = u.id := by have := HN.out; rwa [hu] at this
      show u.id < n + 1
      omega)
    obtain ⟨x0, x1, -⟩ := HQ.out.box
    go_wp2_with fail
    refine (new_any X6 d0 ⟨g.AV, g.cV, g.vs, A3, c3, l2⟩ GH.out).mono ?_
    rintro e X7 ⟨hb1, ⟨he, -⟩ | ⟨-, s2, vs2, es2, rfl, hs2, -, ee2⟩⟩
    · exact absurd ((okG_errG OKH.out).symm.trans he) (by decide)
    have EE2 : Hid (es2.map TA.tv' = g.es.map TA.tv' ++ [(⟨n + 1, ⟨#[122]⟩, oa, ib, []⟩ : TV)]) := Lib.hid (by rw [← HLE.out]; exact ee2)
    clear ee2 x0 x1
    replace S1 := Lib.hid (S1.out.next hb1)
    replace B := Lib.hid (bnext B.out hb1)
    clear hb1
    have S2 := Lib.hid hs2
    clear hs2 GH VT FT OKH HQ G K HL HLE H9 HOK HN HE9 OA OB
    have FW := Lib.hid S1.out.few
    rw [EE1.out] at FW
    have A1 := Lib.hid (fun (W : World) (hW : Sto W s1 vs1 es1) (v way : Int) (hv : WfI v) (hw : WfI way) => around_any W (some ⟨s1, 0, none⟩) vs1 es1 (.inr ⟨s1, rfl, hW⟩) v way hv hw none 0 [] (lrow_nil _ _ _) (by simp))
    have A2 := Lib.hid (fun (W : World) (hW : Sto W s2 vs2 es2) (v way : Int) (hv : WfI v) (hw : WfI way) => around_any W (some ⟨s2, 0, none⟩) vs2 es2 (.inr ⟨s2, rfl, hW⟩) v way hv hw none 0 [] (lrow_nil _ _ _) (by simp))
    simp only [EE1.out, seen_base] at A1
    simp only [EE2.out, seen_base] at A2
    clear EE1 EE2
    generalize g.es.map TA.tv' = E at FW A1 A2
    have GO := Lib.hid (grow_out E ⟨n + 1, ⟨#[122]⟩, oa, ib, []⟩)
    have GI := Lib.hid (grow_in E ⟨n + 1, ⟨#[122]⟩, oa, ib, []⟩)
    have GF := Lib.hid (fun (v : Int) (h1 : v ≠ oa) (h2 : v ≠ ib) (way : Int) => grow_off E ⟨n + 1, ⟨#[122]⟩, oa, ib, []⟩ (id := v) h1 h2 way)
    have D1 := Lib.hid (fun (W : World) (hW : Sto W s1 vs1 es1) => A1.out W hW oa 1 WA.out (by decide))
    have D2 := Lib.hid (fun (W : World) (hW : Sto W s1 vs1 es1) => A1.out W hW ib 2 WB.out (by decide))
    have D3 := Lib.hid (fun (W : World) (hW : Sto W s1 vs1 es1) => A1.out W hW id 3 hid (by decide))
    have R1 := Lib.hid (fun (W : World) (hW : Sto W s2 vs2 es2) => A2.out W hW oa 1 WA.out (by decide))
    have R2 := Lib.hid (fun (W : World) (hW : Sto W s2 vs2 es2) => A2.out W hW ib 2 WB.out (by decide))
    have R3 := Lib.hid (fun (W : World) (hW : Sto W s2 vs2 es2) => A2.out W hW id 3 hid (by decide))
    rw [base_1] at D1
    rw [base_2] at D2
    rw [base_3] at D3
    simp only [base_1] at R1
    simp only [base_2] at R2
    simp only [base_3] at R3
    rw [GO.out, List.map_append] at R1
    rw [GI.out, List.map_append] at R2
    have M1 : Hid (((spk E oa 1).map fun s => s.e).length ≤ 1099511627776) := Lib.hid (by rw [List.length_map]; exact FW.out.len oa 1)
    have M2 : Hid (((spk E ib 2).map fun s => s.e).length ≤ 1099511627776) := Lib.hid (by rw [List.length_map]; exact FW.out.len ib 2)
    have M3 : Hid (((spk E id 1 ++ spk E id 2).map fun s => s.e).length ≤ 2199023255552) := Lib.hid (by rw [List.length_map, List.length_append]; have := FW.out.len id 1; have := FW.out.len id 2; omega)
    generalize ((spk E oa 1).map fun s => s.e) = N1 at D1 R1 M1
    generalize ((spk E ib 2).map fun s => s.e) = N2 at D2 R2 M2
    change Hid (∀ (W : World), Sto W s2 vs2 es2 → Calls Try.prog 16 #[.pointer (some ⟨s2, 0, none⟩), .int .i64 oa, .int .i64 1, .slice none 0 0] W (NumPost W (N1 ++ [n + 1]))) at R1
    change Hid (∀ (W : World), Sto W s2 vs2 es2 → Calls Try.prog 16 #[.pointer (some ⟨s2, 0, none⟩), .int .i64 ib, .int .i64 2, .slice none 0 0] W (NumPost W (N2 ++ [n + 1]))) at R2
    clear A1 A2 GO GI

    have S1o := S1
    have S2o := S2
    have Bo := B
    go_wp2_with fail
    refine (D1.out X7 S1.out).mono ?_
    rintro e X8 ⟨E3, e3, rfl, ho, hb1⟩
    have O := Lib.hid ho
    have BX := Lib.hid (bnext hb1 (below_new X8 (.cells #[.int .i64 (n + 1)] 3)))
    clear ho hb1 S1 S2 B
    have hI := Lib.hid (one_box X8 (.int .i64 (n + 1)) 3)
    replace O := Lib.hid (O.out.next (below_new X8 (.cells #[.int .i64 (n + 1)] 3)))
    have hm1 : N1.length + 1 ≤ 17592186044416 := by have := M1.out; omega
    obtain ⟨m1, hm⟩ : ∃ m1, m1 = N1.length := ⟨_, rfl⟩
    rw [← hm] at hm1 O
    have HM := Lib.hid hm
    try rw [← hm]
    clear hm
    have hn1 := HN1.out
    have szle := BX.out.size
    go_upto_region 19 with (at_builtin; refine append_oneI rfl _ _ rfl X7.heap.size O.out rfl _ _ rfl hI.out hm1 szle ?_; intro F3 f3 X9 hown2 hg2; have P3 := Lib.hid hown2; have BY := Lib.hid (grown_below (Nat.le_refl _) BX.out hg2 (own_block O.out)); clear hown2 hg2)
    have S1 := Lib.hid (S1o.out.next BY.out)
    have S2 := Lib.hid (S2o.out.next BY.out)
    have B := Lib.hid (bnext Bo.out BY.out)
    rw [show m1 + 1 = (N1 ++ [n + 1]).length by rw [List.length_append, HM.out]; rfl] at P3 ⊢
    clear S1o S2o Bo O BX hI hm1 HM szle BY hn1
    have Q1 : Hid ((N1 ++ [n + 1]).length ≤ 2199023255552) := Lib.hid (by rw [List.length_append]; have := M1.out; simp; omega)
    generalize N1 ++ [n + 1] = L1 at P3 R1 Q1 ⊢
    clear D1 M1
    have S1o := S1
    have S2o := S2
    have Bo := B
    go_wp2_with fail
    refine (D2.out X9 S1.out).mono ?_
    rintro e Y1 ⟨E4, e4, rfl, ho, hb1⟩
    have O := Lib.hid ho
    have BX := Lib.hid (bnext hb1 (below_new Y1 (.cells #[.int .i64 (n + 1)] 3)))
    clear ho hb1 S1 S2 B
    have hI := Lib.hid (one_box Y1 (.int .i64 (n + 1)) 3)
    replace O := Lib.hid (O.out.next (below_new Y1 (.cells #[.int .i64 (n + 1)] 3)))
    have hm1 : N2.length + 1 ≤ 17592186044416 := by have := M2.out; omega
    obtain ⟨m1, hm⟩ : ∃ m1, m1 = N2.length := ⟨_, rfl⟩
    rw [← hm] at hm1 O
    have HM := Lib.hid hm
    try rw [← hm]
    clear hm
    have hn1 := HN1.out
    have szle := BX.out.size
    go_upto_region 21 with (at_builtin; refine append_oneI rfl _ _ rfl X9.heap.size O.out rfl _ _ rfl hI.out hm1 szle ?_; intro F4 f4 Y2 hown2 hg2; have P4 := Lib.hid hown2; have BY := Lib.hid (grown_below (Nat.le_refl _) BX.out hg2 (own_block O.out)); clear hown2 hg2)
    have S1 := Lib.hid (S1o.out.next BY.out)
    have S2 := Lib.hid (S2o.out.next BY.out)
    have B := Lib.hid (bnext Bo.out BY.out)
    replace P3 := Lib.hid (P3.out.next BY.out)
    rw [show m1 + 1 = (N2 ++ [n + 1]).length by rw [List.length_append, HM.out]; rfl] at P4 ⊢
    clear S1o S2o Bo O BX hI hm1 HM szle BY hn1
    have Q2 : Hid ((N2 ++ [n + 1]).length ≤ 2199023255552) := Lib.hid (by rw [List.length_append]; have := M2.out; simp; omega)
    generalize N2 ++ [n + 1] = L2 at P4 R2 Q2 ⊢
    clear D2 M2

    go_wp2_with fail
    refine (R1.out Y2 S2.out).mono ?_
    rintro e Y3 ⟨A6, a6, rfl, ho, hb1⟩
    have O := Lib.hid ho
    clear ho
    replace S1 := Lib.hid (S1.out.next hb1)
    replace S2 := Lib.hid (S2.out.next hb1)
    replace P3 := Lib.hid (P3.out.next hb1)
    replace P4 := Lib.hid (P4.out.next hb1)
    replace B := Lib.hid (bnext B.out hb1)
    clear hb1
    go_wp2_with fail
    refine (sameInts_any Y3 _ _ _ _ _ _ (O.out.row (by have := Q1.out; omega)) (P3.out.row (by have := Q1.out; omega))).mono ?_
    rintro e Y4 ⟨rfl, hb1⟩
    rw [beq_self_eq_true]
    clear O P3 R1 Q1
    replace S1 := Lib.hid (S1.out.next hb1)
    replace S2 := Lib.hid (S2.out.next hb1)
    replace P4 := Lib.hid (P4.out.next hb1)
    replace B := Lib.hid (bnext B.out hb1)
    clear hb1
    go_wp2_with fail
    refine (R2.out Y4 S2.out).mono ?_
    rintro e Y5 ⟨A6, a6, rfl, ho, hb1⟩
    have O := Lib.hid ho
    clear ho
    replace S1 := Lib.hid (S1.out.next hb1)
    replace S2 := Lib.hid (S2.out.next hb1)
    replace P4 := Lib.hid (P4.out.next hb1)
    replace B := Lib.hid (bnext B.out hb1)
    clear hb1
    go_wp2_with fail
    refine (sameInts_any Y5 _ _ _ _ _ _ (O.out.row (by have := Q2.out; omega)) (P4.out.row (by have := Q2.out; omega))).mono ?_
    rintro e Y6 ⟨rfl, hb1⟩
    rw [beq_self_eq_true]
    clear O P4 R2 Q2
    replace S1 := Lib.hid (S1.out.next hb1)
    replace S2 := Lib.hid (S2.out.next hb1)
    replace B := Lib.hid (bnext B.out hb1)
    clear hb1
    by_cases hi1 : id = oa
    case pos =>
      have hi := beq_iff_eq.2 hi1
      go_wp2_with fail
      refine (known_any Y6).mono ?_
      rintro e wk ⟨rfl, hbk⟩
      replace B := Lib.hid (bnext B.out hbk)
      clear hbk
      go_wp2
      go_ret
      exact ⟨rfl, B.out⟩
    by_cases hi2 : id = ib
    case pos =>
      have hi := beq_iff_eq.2 hi2
      have hj := beq_eq_false_iff_ne.2 hi1
      go_wp2_with fail
      refine (known_any Y6).mono ?_
      rintro e wk ⟨rfl, hbk⟩
      replace B := Lib.hid (bnext B.out hbk)
      clear hbk
      go_wp2
      go_ret
      exact ⟨rfl, B.out⟩
    rw [GF.out id hi1 hi2 1, GF.out id hi1 hi2 2] at R3
    have hj := beq_eq_false_iff_ne.2 hi1
    have hi := beq_eq_false_iff_ne.2 hi2
    generalize ((spk E id 1 ++ spk E id 2).map fun s => s.e) = N3 at D3 R3 M3
    go_wp2_with fail
    refine (R3.out Y6 S2.out).mono ?_
    rintro e Y7 ⟨A6, a6, rfl, ho, hb1⟩
    have O := Lib.hid ho
    clear ho
    replace S1 := Lib.hid (S1.out.next hb1)
    replace S2 := Lib.hid (S2.out.next hb1)
    replace B := Lib.hid (bnext B.out hb1)
    clear hb1
    go_wp2_with fail
    refine (D3.out Y7 S1.out).mono ?_
    rintro e Y8 ⟨A7, a7, rfl, ho, hb1⟩
    have P := Lib.hid ho
    clear ho
    replace O := Lib.hid (O.out.next hb1)
    replace B := Lib.hid (bnext B.out hb1)
    clear hb1
    go_wp2_with fail
    refine (sameInts_any Y8 _ _ _ _ _ _ (O.out.row (by have := M3.out; omega)) (P.out.row (by have := M3.out; omega))).mono ?_
    rintro e Y9 ⟨rfl, hb1⟩
    rw [beq_self_eq_true]
    clear O P
    replace B := Lib.hid (bnext B.out hb1)
    clear hb1
    go_wp2_with fail
    refine (known_any Y9).mono ?_
    rintro e wk ⟨rfl, hbk⟩
    replace B := Lib.hid (bnext B.out hbk)
    clear hbk
    go_wp2
    go_ret
    exact ⟨rfl, B.out⟩
end Go.Proofs.Ytebkkjfeikpfgaa
