/- The parser's value, whole. -/
import Derived.Test.YtllkimdlmnjoiaaGreatDoorXH
namespace Go.Proofs.YtllkimdlmnjoiaaGreatDoor
set_option maxRecDepth 100000
open Go.RowKit Go.Sort

theorem sing_l (t : Tk) : (singV t).l = [] := by unfold singV; split <;> (try split) <;> (try split) <;> rfl
theorem sing_m (t : Tk) : (singV t).m = [] := by unfold singV; split <;> (try split) <;> (try split) <;> rfl
theorem fldL (k n : Int) (s : ByteArray) (l m : List V) (h : (-9223372036854775808 ≤ k ∧ k ≤ 9223372036854775807) ∧ (-9223372036854775808 ≤ n ∧ n ≤ 9223372036854775807) ∧ s.size ≤ 140737488355328) : Fld (.mk k n s l m) := ⟨h.1.1, h.1.2, h.2.1.1, h.2.1.2, h.2.2⟩
theorem sing_fld (t : Tk) (h : TkOk t) : Fld (singV t) := by
  have s1 : (bsT t.s).size ≤ 140737488355328 := by rw [E8.bs_size]; have := h.s1; omega
  unfold singV
  split
  · exact fldL _ _ _ _ _ ⟨by decide, ⟨h.n0, h.n1⟩, by decide⟩
  split
  · exact fldL _ _ _ _ _ ⟨by decide, by decide, s1⟩
  split
  · exact fldL _ _ _ _ _ ⟨by decide, by decide, by decide⟩
  · exact fldL _ _ _ _ _ ⟨by decide, by decide, by decide⟩
theorem hd_ok {l : List Tk} (h : ∀ t ∈ l, TkOk t) : TkOk (hdT l) := by
  cases l with
  | nil => exact ⟨by decide, by decide, by decide⟩
  | cons x r => exact h x (by simp)
theorem rd_flat (w : World) (lo B d : Nat) (t : V) (hf : Fld t) (hl : t.l = []) (hm : t.m = []) : Rd w lo B (d + 1) t none 0 none 0 := ⟨hf, by rw [hl]; exact rw_nil _ _ _ _, by rw [hm]; exact rw_nil _ _ _ _⟩
set_option maxHeartbeats 6400000 in
theorem val_step (r : Nat) (ih : ∀ s, r = s + 1 → ValuesOk s) : ValOk r := by
  intro w g n q lev l hlev hr h
  have H := Lib.hid h
  have IH := Lib.hid ih
  have hl0 : (1 : Int) ≤ lev := by omega
  have hl1 : lev ≤ 13 := by omega
  have HLV := Lib.hid (And.intro hlev hr)
  have TOK := Lib.hid (hd_ok h.tok)
  have ENE := Lib.hid (fun (hb : begV (hdT l) = true) => begV_cons hb)
  obtain ⟨RES, hRES⟩ : ∃ x, valT r l n = x := ⟨_, rfl⟩
  rw [hRES]
  have HRES := Lib.hid hRES
  obtain ⟨t, ht⟩ : ∃ t, hdT l = t := ⟨_, rfl⟩
  have HT := Lib.hid ht
  rw [ht] at TOK ENE
  clear h ih hRES hlev hr
  go_enter Tryz.func116, Tryz.ntmps116
  go_upto_region 1 with fail
  have k1 := new_blk w (.cells #[.int .i64 0, .int .i64 0, .string ⟨#[]⟩, .slice none 0 0, .slice none 0 0] 77)
  generalize hX : World.alloc w _ = X at k1
  have HB : Hid (Below w.heap.size w X) := Lib.hid (by rw [← hX]; exact below_new _ _)
  have K1 := Lib.hid k1
  have SX : Hid (X.heap.size = w.heap.size + 1) := Lib.hid (by rw [← hX]; simp)
  have CT := next_any X g n q l (H.out.next HB.out)
  rw [ht] at CT
  replace CT := Lib.hid CT
  clear hX k1 ht
  go_wp2_with fail
  refine CT.out.mono ?_
  rintro e w1 ⟨rfl, hb⟩
  have B1 := Lib.hid (bnext HB.out hb)
  have K2 := Lib.hid ((hb.block _ (by have := SX.out; omega)).trans K1.out)
  clear CT hb K1 HB
  go_upto_region 2 with fail
  have k1 := BT.new w1 t
  generalize hW : World.alloc w1 _ = W at k1
  have HB : Hid (Below w1.heap.size w1 W) := Lib.hid (by rw [← hW]; exact below_new _ _)
  have S1 : Hid (w.heap.size < w1.heap.size) := Lib.hid ((Array.getElem?_eq_some_iff.1 K2.out).1)
  have B2 := Lib.hid (bnext B1.out HB.out)
  have K3 := Lib.hid ((HB.out.block _ S1.out).trans K2.out)
  have KT := Lib.hid k1
  obtain ⟨a0, a1, a2, a3, _⟩ := bx_cells4 k1
  have CB := Lib.hid (begV_any W t)
  obtain ⟨b, hb⟩ : ∃ b, begV t = b := ⟨_, rfl⟩
  rw [hb] at CB
  have HBV := Lib.hid hb
  clear hW k1 hb K2 B1 HB
  go_wp2_with fail
  refine CB.out.mono ?_
  rintro e w2 ⟨rfl, hb⟩
  have HBX := Lib.hid (bnext B2.out hb)
  have S2 := Lib.hid hb.size
  have SW := Lib.hid KT.out.lt
  have KB := Lib.hid ((hb.block _ (by have := S1.out; have := SW.out; omega)).trans K3.out)
  have KT2 := Lib.hid (KT.out.next hb)
  have HR2 := Lib.hid (H.out.next HBX.out)
  clear CB hb K3 KT B2 a0 a1 a2 a3
  cases b
  case false =>
    have FIN := Lib.hid (show .bad l n 30 = RES by rw [← HRES.out]; cases r <;> rw [valT, HT.out, if_neg (by rw [HBV.out]; simp)])
    obtain ⟨z0, z1, z2, z3, z4, zf⟩ := bx_cells5 KB.out
    have f0 := zf 0
    have f1 := zf 1
    have f2 := zf 2
    have f3 := zf 3
    have f4 := zf 4
    have HS := Lib.hid (bx_set5 KB.out)
    clear zf
    go_wp2
    obtain ⟨F, hF, hbF, hsF⟩ := HS.out (.int .i64 0) (.int .i64 0) (.string ⟨#[]⟩) (.slice none 0 0) (.slice none 0 0)
    rw [← hF]
    obtain ⟨r0, r1, r2, r3, r4, _⟩ := bx_cells5 hbF
    refine bodyPost_ret (v := .tuple #[.agg #[.int .i64 0, .int .i64 0, .string ⟨#[]⟩, .slice none 0 0, .slice none 0 0], .int .i64 30]) (by simp [results, Tryz.results116, go_sem, r0, r1, r2, r3, r4]) rfl ?_
    rw [← FIN.out]
    exact ⟨⟨_, rfl, ⟨⟨zV, none, 0, none, 0⟩, rfl⟩, by decide, HR2.out.same hsF H.out.lt⟩, hsF.fresh (RK.of HBX.out) (Nat.le_refl _)⟩
  by_cases h13 : 12 < lev
  case pos =>
    have FIN := Lib.hid (show .bad l n 3 = RES by
      have h0 : r = 0 := by have := HLV.out; omega
      subst h0
      rw [← HRES.out, valT, HT.out, if_pos HBV.out])
    obtain ⟨z0, z1, z2, z3, z4, zf⟩ := bx_cells5 KB.out
    have f0 := zf 0
    have f1 := zf 1
    have f2 := zf 2
    have f3 := zf 3
    have f4 := zf 4
    have HS := Lib.hid (bx_set5 KB.out)
    clear zf
    go_wp2
    obtain ⟨F, hF, hbF, hsF⟩ := HS.out (.int .i64 0) (.int .i64 0) (.string ⟨#[]⟩) (.slice none 0 0) (.slice none 0 0)
    rw [← hF]
    obtain ⟨r0, r1, r2, r3, r4, _⟩ := bx_cells5 hbF
    refine bodyPost_ret (v := .tuple #[.agg #[.int .i64 0, .int .i64 0, .string ⟨#[]⟩, .slice none 0 0, .slice none 0 0], .int .i64 3]) (by simp [results, Tryz.results116, go_sem, r0, r1, r2, r3, r4]) rfl ?_
    rw [← FIN.out]
    exact ⟨⟨_, rfl, ⟨⟨zV, none, 0, none, 0⟩, rfl⟩, by decide, HR2.out.same hsF H.out.lt⟩, hsF.fresh (RK.of HBX.out) (Nat.le_refl _)⟩
  obtain ⟨s, hs⟩ : ∃ s, r = s + 1 := ⟨r - 1, by have := HLV.out; omega⟩
  subst hs
  have VAL := Lib.hid (show RES = if t.k = 4 then (btw [91] [93] 0 true (rdV (valT s)) l n).map (fun vs => V.mk 6 0 ⟨#[]⟩ vs []) else .ok (singV t) l.tail n by rw [← HRES.out, valT, HT.out, if_pos HBV.out])
  obtain ⟨a0, a1, a2, a3, _⟩ := bx_cells4 KT2.out
  by_cases hk4 : t.k = 4
  case pos =>
    have e4 : (t.k == 4) = true := by rw [hk4]; rfl
    have HW := Lib.hid (show IntKind.i64.wrap (lev + 1) = lev + 1 from IntWalk.i64_in _ (by omega))
    have CV := IH.out s rfl w2 g n q (lev + 1) l [91] [93] 0 true (by have := HLV.out.1; omega) (by have := HLV.out.2; omega) HR2.out
    rw [show bsT [91] = ⟨#[91]⟩ from rfl, show bsT [93] = ⟨#[93]⟩ from rfl] at CV
    replace VAL := Lib.hid (show RES = (btw [91] [93] 0 true (rdV (valT s)) l n).map (fun vs => V.mk 6 0 ⟨#[]⟩ vs []) by rw [VAL.out, if_pos hk4])
    obtain ⟨R2, hR2⟩ : ∃ x, btw [91] [93] 0 true (rdV (valT s)) l n = x := ⟨_, rfl⟩
    rw [hR2] at CV VAL
    replace CV := Lib.hid CV
    have hw := HW.out
    clear hk4 hR2
    go_wp2_with fail
    refine CV.out.mono ?_
    rintro e w3 ⟨hgot, hk3⟩
    have R3 := Lib.hid ((RK.of (g := g) HBX.out).trans hk3)
    have KB3 := Lib.hid (hk3.heap KB.out (by have := H.out.lt; omega))
    have S3 := Lib.hid hk3.size
    clear CV hk3 a0 a1 a2 a3 hw
    cases R2 with
    | bad l5 n5 er =>
      obtain ⟨v, rfl, rfl, her, hr5⟩ := hgot
      have HR5 := Lib.hid hr5
      have HER := Lib.hid her
      have FIN := Lib.hid (show .bad l5 n5 er = RES from VAL.out.symm)
      clear her hr5
      obtain ⟨z0, z1, z2, z3, z4, zf⟩ := bx_cells5 KB3.out
      have f0 := zf 0
      have f1 := zf 1
      have f2 := zf 2
      have f3 := zf 3
      have f4 := zf 4
      have HS := Lib.hid (bx_set5 KB3.out)
      clear zf
      go_wp2
      obtain ⟨F, hF, hbF, hsF⟩ := HS.out (.int .i64 6) (.int .i64 0) (.string ⟨#[]⟩) (.slice none 0 0) (.slice none 0 0)
      rw [← hF]
      obtain ⟨r0, r1, r2, r3, r4, _⟩ := bx_cells5 hbF
      refine bodyPost_ret (v := .tuple #[.agg #[.int .i64 6, .int .i64 0, .string ⟨#[]⟩, .slice none 0 0, .slice none 0 0], .int .i64 er]) (by simp [results, Tryz.results116, go_sem, r0, r1, r2, r3, r4]) rfl ?_
      rw [← FIN.out]
      exact ⟨⟨_, rfl, ⟨⟨.mk 6 0 ⟨#[]⟩ [] [], none, 0, none, 0⟩, rfl⟩, HER.out, HR5.out.same hsF H.out.lt⟩, hsF.fresh R3.out (Nat.le_refl _)⟩
    | ok vs l5 n5 =>
      obtain ⟨v, rfl, ⟨A, c, rfl, hrow⟩, hr5⟩ := hgot
      have HR5 := Lib.hid hr5
      have HROW := Lib.hid hrow
      have FIN := Lib.hid (show .ok (V.mk 6 0 ⟨#[]⟩ vs []) l5 n5 = RES from VAL.out.symm)
      clear hrow hr5
      obtain ⟨z0, z1, z2, z3, z4, zf⟩ := bx_cells5 KB3.out
      have f0 := zf 0
      have f1 := zf 1
      have f2 := zf 2
      have f3 := zf 3
      have f4 := zf 4
      have HS := Lib.hid (bx_set5 KB3.out)
      clear zf
      go_wp2
      obtain ⟨F, hF, hbF, hsF⟩ := HS.out (.int .i64 6) (.int .i64 0) (.string ⟨#[]⟩) (.slice A vs.length c) (.slice none 0 0)
      rw [← hF]
      obtain ⟨r0, r1, r2, r3, r4, _⟩ := bx_cells5 hbF
      refine bodyPost_ret (v := .tuple #[.agg #[.int .i64 6, .int .i64 0, .string ⟨#[]⟩, .slice A vs.length c, .slice none 0 0], .int .i64 0]) (by simp [results, Tryz.results116, go_sem, r0, r1, r2, r3, r4]) rfl ?_
      rw [← FIN.out]
      refine ⟨⟨_, rfl, ⟨⟨.mk 6 0 ⟨#[]⟩ vs [], A, c, none, 0⟩, rfl, rfl, ?_⟩, HR5.out.same hsF H.out.lt⟩, hsF.fresh R3.out (Nat.le_refl _)⟩
      have hx := HBX.out.size
      have s1 := S1.out
      have s2 := S2.out
      have sw := SW.out
      refine ⟨fldL _ _ _ _ _ ⟨by decide, by decide, by decide⟩, ?_, rw_nil _ _ _ _⟩
      exact RdRow.imp HROW.out (hsF.kept (by omega)) (by omega) (Nat.le_of_eq hsF.size.symm) (fun _ _ _ _ _ h => Rd.imp (hsF.kept (by omega)) (by omega) (Nat.le_of_eq hsF.size.symm) (Nat.le_refl _) h)
  have e4 : (t.k == 4) = false := by rw [beq_eq_false_iff_ne]; exact hk4
  obtain ⟨x, l3, rfl⟩ := ENE.out HBV.out
  have FIN := Lib.hid (show .ok (singV t) l3 n = RES by rw [VAL.out, if_neg hk4]; rfl)
  have CS := Lib.hid (skip_any w2 g n q x l3 HR2.out)
  clear hk4 VAL
  go_wp2_with fail
  refine CS.out.mono ?_
  rintro e w3 ⟨rfl, hr, hk⟩
  have HR3 := Lib.hid hr
  have R3 := Lib.hid ((RK.of (g := g) HBX.out).trans hk)
  have KB3 := Lib.hid (hk.heap KB.out (by have := H.out.lt; omega))
  have KT3 := Lib.hid (hk.heap KT2.out (by have := H.out.lt; have := S1.out; omega))
  clear CS hr hk a0 a1 a2 a3
  obtain ⟨a0, a1, a2, a3, _⟩ := bx_cells4 KT3.out
  have CG := Lib.hid (single_any w3 t)
  go_wp2_with fail
  refine CG.out.mono ?_
  rintro e w4 ⟨rfl, hb⟩
  have HR4 := Lib.hid (HR3.out.next hb)
  have R4 := Lib.hid (R3.out.then hb)
  have KB4 := Lib.hid ((hb.block _ ((Array.getElem?_eq_some_iff.1 KB3.out).1)).trans KB3.out)
  clear CG hb a0 a1 a2 a3
  obtain ⟨z0, z1, z2, z3, z4, zf⟩ := bx_cells5 KB4.out
  have f0 := zf 0
  have f1 := zf 1
  have f2 := zf 2
  have f3 := zf 3
  have f4 := zf 4
  have HS := Lib.hid (bx_set5 KB4.out)
  clear zf
  go_wp2
  obtain ⟨F, hF, hbF, hsF⟩ := HS.out (.int .i64 (singV t).k) (.int .i64 (singV t).n) (.string (singV t).s) (.slice none 0 0) (.slice none 0 0)
  rw [← hF]
  obtain ⟨r0, r1, r2, r3, r4, _⟩ := bx_cells5 hbF
  refine bodyPost_ret (v := .tuple #[.agg #[.int .i64 (singV t).k, .int .i64 (singV t).n, .string (singV t).s, .slice none 0 0, .slice none 0 0], .int .i64 0]) (by simp [results, Tryz.results116, go_sem, r0, r1, r2, r3, r4]) rfl ?_
  rw [← FIN.out]
  refine ⟨⟨_, rfl, ⟨⟨singV t, none, 0, none, 0⟩, by simp only [At.v, sing_l, sing_m]; rfl, rfl, rd_flat _ _ _ _ _ (sing_fld t TOK.out) (sing_l t) (sing_m t)⟩, HR4.out.same hsF H.out.lt⟩, hsF.fresh R4.out (Nat.le_refl _)⟩
theorem val_any : ∀ r, ValOk r
  | 0 => val_step 0 (fun _ h => by omega)
  | r + 1 => val_step (r + 1) (fun s h => by cases h; exact values_step r (val_any r))
theorem values_any (r : Nat) : ValuesOk r := values_step r (val_any r)
end Go.Proofs.YtllkimdlmnjoiaaGreatDoor
