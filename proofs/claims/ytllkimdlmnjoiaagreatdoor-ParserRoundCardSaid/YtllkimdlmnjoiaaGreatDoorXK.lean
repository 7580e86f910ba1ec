/- The parser's name of a call, its argument. -/
import Derived.Test.YtllkimdlmnjoiaaGreatDoorXJ
import Derived.Test.YtllkimdlmnjoiaaGreatDoorNA
namespace Go.Proofs.YtllkimdlmnjoiaaGreatDoor
set_option maxRecDepth 100000
open Go.RowKit Go.Sort

theorem set_third {w : World} {g : Nat} {T : TypeId} {o0 o1 o2 u : Value} (h : w.heap[g]? = some (.cells #[o0, o1, o2] T (0, 0))) : (w.setCell ⟨g, 2, none⟩ u).heap[g]? = some (.cells #[o0, o1, u] T (0, 0)) ∧ SameBut g w (w.setCell ⟨g, 2, none⟩ u) :=
  ⟨by simp [World.setCell, Array.getElem?_modify, h], (SameBut.refl g w).set 2 u⟩
theorem Rdr.more {w : World} {g n : Nat} {q : Int} {l : List Tk} (h : Rdr w g q l n) (hn : n < 200) : Rdr (w.setCell ⟨g, 2, none⟩ (.int .i64 ((n : Int) + 1))) g q l (n + 1) ∧ SameBut g w (w.setCell ⟨g, 2, none⟩ (.int .i64 ((n : Int) + 1))) := by
  obtain ⟨A, c, e, t⟩ := h.blk
  obtain ⟨h1, h2⟩ := set_third (u := .int .i64 ((n : Int) + 1)) e
  rw [show ((n : Int) + 1) = ((n + 1 : Nat) : Int) by omega] at h1 h2 ⊢
  exact ⟨⟨⟨A, c, h1, t.next ⟨h2.os, h2.tape, h2.output, Nat.le_of_eq h2.size.symm, fun i hi => h2.block i (by omega)⟩⟩, h.big, by omega, h.tok⟩, h2⟩
theorem k1_cons {l : List Tk} (h : (hdT l).k = 1) : ∃ x r, l = x :: r := by
  cases l with
  | nil => simp [hdT, E8.TK.zero] at h
  | cons x r => exact ⟨x, r, rfl⟩
def OkN (s : List UInt8) (_ : World) (v : Value) : Prop := v = .string (bsT s)
set_option maxHeartbeats 6400000 in
theorem nm_any (w : World) (g n : Nat) (q : Int) (l : List Tk) (h : Rdr w g q l n) : Calls Tryz.prog 93 #[.pointer (some ⟨g, 0, none⟩)] w (Got g q w OkN (fun v => v = .string ⟨#[]⟩) (nmT l n)) := by
  have H := Lib.hid h
  have HFEW := h.few
  obtain ⟨RES, hRES⟩ : ∃ x, nmT l n = x := ⟨_, rfl⟩
  rw [hRES]
  have HRES := Lib.hid hRES
  have CN := next_any w g n q l h
  have NME := Lib.hid (show nmT l n = if ((hdT l).k == 1 && !((hdT l).s == [95, 95]) && nameB (bsT (hdT l).s)) = true then (if n = 200 then .bad l n 3 else .ok (hdT l).s l.tail (n + 1)) else .bad l n 30 from rfl)
  have K1C := Lib.hid (fun (e : (hdT l).k = 1) => k1_cons e)
  generalize hdT l = t at CN NME K1C
  replace CN := Lib.hid CN
  have E1 := bsT_lit t.s [95, 95]
  clear h hRES
  go_enter Tryz.func93, Tryz.ntmps93
  go_wp2_with fail
  refine CN.out.mono ?_
  rintro e w1 ⟨rfl, hb⟩
  have B1 := Lib.hid hb
  clear CN hb
  go_upto_region 2 with fail
  have k1 := BT.new w1 t
  generalize hW : World.alloc w1 _ = W at k1
  have HB : Hid (Below w.heap.size w W) := Lib.hid (by rw [← hW]; exact bnext B1.out (below_new _ _))
  have KT := Lib.hid k1
  have SW : Hid (w1.heap.size < W.heap.size) := Lib.hid k1.lt
  have S1 := Lib.hid B1.out.size
  have HW := Lib.hid (H.out.next HB.out)
  obtain ⟨a0, a1, a2, a3, _⟩ := bx_cells4 k1
  clear hW k1
  by_cases hk : t.k = 1
  case neg =>
    have e1 : (t.k == 1) = false := by rw [beq_eq_false_iff_ne]; exact hk
    have FIN := Lib.hid (show .bad l n 30 = RES by rw [← HRES.out, NME.out, e1]; rfl)
    clear E1
    go_wp2
    go_ret2
    rw [← FIN.out]
    exact ⟨⟨_, rfl, rfl, by decide, HW.out⟩, RK.of HB.out⟩
  have e1 : (t.k == 1) = true := by rw [hk]; rfl
  obtain ⟨x, l3, rfl⟩ := K1C.out hk
  by_cases hu : t.s = [95, 95]
  case pos =>
    have e2 : (t.s == [95, 95]) = true := by rw [beq_iff_eq]; exact hu
    rw [e2] at E1
    have FIN := Lib.hid (show .bad (x :: l3) n 30 = RES by rw [← HRES.out, NME.out, e1, e2]; rfl)
    clear hu
    go_wp2
    go_ret2
    rw [← FIN.out]
    exact ⟨⟨_, rfl, rfl, by decide, HW.out⟩, RK.of HB.out⟩
  have e2 : (t.s == [95, 95]) = false := by rw [beq_eq_false_iff_ne]; exact hu
  rw [e2] at E1
  have CM := Lib.hid (name_any (bsT t.s) W)
  obtain ⟨bn, hbn⟩ : ∃ b, nameB (bsT t.s) = b := ⟨_, rfl⟩
  rw [hbn] at CM
  have HBN := Lib.hid hbn
  clear hu hbn
  go_wp2_with fail
  refine CM.out.mono ?_
  rintro e W2 ⟨rfl, hw2⟩
  subst hw2
  clear CM
  cases bn
  case false =>
    have FIN := Lib.hid (show .bad (x :: l3) n 30 = RES by rw [← HRES.out, NME.out, e1, e2, HBN.out]; rfl)
    go_wp2
    go_ret2
    rw [← FIN.out]
    exact ⟨⟨_, rfl, rfl, by decide, HW.out⟩, RK.of HB.out⟩
  obtain ⟨AA, cc, eb, _⟩ := HW.out.blk
  obtain ⟨c0, c1, c2, cf⟩ := bx_cells3 eb
  have f2 := cf 2
  have n0 : (0 : Int) ≤ (n : Int) := by omega
  have n2 : (n : Int) ≤ 200 := by omega
  by_cases h200 : n = 200
  case pos =>
    have e9 : ((n : Int) == 200) = true := by rw [h200]; rfl
    have FIN := Lib.hid (show .bad (x :: l3) n 3 = RES by rw [← HRES.out, NME.out, e1, e2, HBN.out, if_pos (show (true && !false && true) = true from rfl), if_pos h200])
    clear h200 eb cf
    go_wp2
    go_ret2
    rw [← FIN.out]
    exact ⟨⟨_, rfl, rfl, by decide, HW.out⟩, RK.of HB.out⟩
  have e9 : ((n : Int) == 200) = false := by rw [beq_eq_false_iff_ne]; omega
  have FIN := Lib.hid (show .ok t.s l3 (n + 1) = RES by rw [← HRES.out, NME.out, e1, e2, HBN.out, if_pos (show (true && !false && true) = true from rfl), if_neg h200]; rfl)
  have HW1 := Lib.hid (show IntKind.i64.wrap ((n : Int) + 1) = (n : Int) + 1 from IntWalk.i64_in _ (by omega))
  have hw1 := HW1.out
  have MR := HW.out.more (show n < 200 by omega)
  go_upto_region 7 with fail
  generalize hV : World.setCell W _ _ = V2 at MR
  have HV := Lib.hid MR.1
  have KV := Lib.hid ((RK.of (g := g) HB.out).trans MR.2.rk)
  have KT2 := Lib.hid ((MR.2.block _ (by have := H.out.lt; have := S1.out; omega)).trans KT.out)
  clear hV MR c0 c1 c2 cf eb f2 h200 hw1 a0 a1 a2 a3
  have CS := Lib.hid (skip_any V2 g (n + 1) q x l3 HV.out)
  go_wp2_with fail
  refine CS.out.mono ?_
  rintro e w5 ⟨rfl, hr, hk⟩
  have HR5 := Lib.hid hr
  have K5 := Lib.hid (KV.out.trans hk)
  have KT5 := Lib.hid (hk.heap KT2.out (by have := H.out.lt; have := S1.out; omega))
  obtain ⟨a0, a1, a2, a3, _⟩ := bx_cells4 KT5.out
  clear CS hr hk
  go_wp2
  go_ret2
  rw [← FIN.out]
  exact ⟨⟨_, rfl, rfl, HR5.out⟩, K5.out⟩
def OkCh (d : Nat) (w : World) (cs : List C) (w' : World) (v : Value) : Prop := ∃ A c, v = .slice A cs.length c ∧ Ch w' w.heap.size w'.heap.size d A c cs
/-- A chain within a chain at that level. -/
def InnerOk (d : Nat) (lev : Int) (inner : List Tk → Nat → Rs (List C)) : Prop := ∀ (w : World) (g n : Nat) (q : Int) (l : List Tk), l ≠ [] → Rdr w g q l n →
  Calls Tryz.prog 119 #[.pointer (some ⟨g, 0, none⟩), .int .i64 (lev + 1)] w (Got g q w (OkCh d w) (fun v => v = .slice none 0 0) (inner l n))
theorem gok_flat {w : World} {lo B d : Nat} (k : Int) (s : ByteArray) (hk : -9223372036854775808 ≤ k ∧ k ≤ 9223372036854775807) (hs : s.size ≤ 140737488355328) (x : At) (p : Pt) (hx : ∃ n, Rd w lo B n x.t x.A x.c x.A' x.c') (hp : ∃ n, Pd w lo B n p.t p.A p.c p.A' p.c') : RG d w lo B ⟨k, x, p, [], none, 0, s⟩ :=
  ⟨hk.1, hk.2, hs, hx, hp, ch_none _ _ _ _⟩
theorem zv_rd (w : World) (lo B : Nat) : ∃ n, Rd w lo B n zV none 0 none 0 := ⟨1, rd_flat _ _ _ _ _ (fldL _ _ _ _ _ ⟨by decide, by decide, by decide⟩) rfl rfl⟩
theorem zp_pd (w : World) (lo B : Nat) : ∃ n, Pd w lo B n zP none 0 none 0 := ⟨1, knd_mk 0 _ _ (by decide), ⟨0, rw_nil _ _ _ _⟩, pw_nil _ _ _ _⟩
theorem isN_k {t : Tk} {s : List UInt8} (h : isN t s = true) : t.k = 1 := by unfold isN at h; simp only [Bool.and_eq_true, beq_iff_eq] at h; exact h.1
set_option maxHeartbeats 12800000 in
theorem arg_any (d : Nat) (lev : Int) (inner : List Tk → Nat → Rs (List C)) (hin : InnerOk d lev inner) (hl : 1 ≤ lev ∧ lev ≤ 10) (w : World) (g n : Nat) (q : Int) (l : List Tk) (h : Rdr w g q l n) :
    Calls Tryz.prog 96 #[.pointer (some ⟨g, 0, none⟩), .int .i64 lev] w (Got g q w (OkA d w) JkA (argT inner l n)) := by
  have H := Lib.hid h
  have IN := Lib.hid hin
  obtain ⟨l0, l1⟩ := hl
  have TOK := Lib.hid (hd_ok h.tok)
  obtain ⟨RES, hRES⟩ : ∃ x, argT inner l n = x := ⟨_, rfl⟩
  rw [hRES]
  have ARG := Lib.hid (show RES = if begV (hdT l) = true then (valT 12 l n).map (fun v => ⟨1, v, zP, [], ⟨#[]⟩⟩)
    else if kindT (hdT l) ≠ 0 then (prdT 12 l n).map (fun p => ⟨2, zV, p, [], ⟨#[]⟩⟩)
    else if isN (hdT l) [95, 95] = true then (inner l n).map (fun c => ⟨3, zV, zP, c, ⟨#[]⟩⟩)
    else if ((hdT l).k == 1 && nameB (bsT (hdT l).s)) = true then .ok ⟨4, zV, zP, [], bsT (hdT l).s⟩ l.tail n
    else .bad l n 30 from hRES.symm)
  have CN := next_any (w.alloc (.cells #[.int .i64 0, .int .i64 0, .int .i64 0, .string ⟨#[]⟩, .slice none 0 0, .slice none 0 0, .int .i64 0, .slice none 0 0, .slice none 0 0, .slice none 0 0, .string ⟨#[]⟩] 82)) g n q l (h.next (below_new _ _))
  have K1C := Lib.hid (fun (e : (hdT l).k = 1) => k1_cons e)
  generalize hdT l = t at CN ARG K1C TOK
  replace CN := Lib.hid CN
  clear h hRES hin
  go_enter Tryz.func96, Tryz.ntmps96
  go_upto_region 1 with fail
  have k1 := new_blk w (.cells #[.int .i64 0, .int .i64 0, .int .i64 0, .string ⟨#[]⟩, .slice none 0 0, .slice none 0 0, .int .i64 0, .slice none 0 0, .slice none 0 0, .slice none 0 0, .string ⟨#[]⟩] 82)
  generalize hX : World.alloc w _ = X at k1 CN
  have HB : Hid (Below w.heap.size w X) := Lib.hid (by rw [← hX]; exact below_new _ _)
  have K1 := Lib.hid k1
  have SX : Hid (X.heap.size = w.heap.size + 1) := Lib.hid (by rw [← hX]; simp)
  clear hX k1
  go_wp2_with fail
  refine CN.out.mono ?_
  rintro e w1 ⟨rfl, hb⟩
  have B1 := Lib.hid (bnext HB.out hb)
  have S1 := Lib.hid hb.size
  have K2 := Lib.hid ((hb.block _ (by have := SX.out; omega)).trans K1.out)
  clear CN hb K1 HB
  go_upto_region 2 with fail
  have k1 := BT.new w1 t
  generalize hW : World.alloc w1 _ = W at k1
  have HB : Hid (Below w1.heap.size w1 W) := Lib.hid (by rw [← hW]; exact below_new _ _)
  have B2 := Lib.hid (bnext B1.out HB.out)
  have K3 := Lib.hid ((HB.out.block _ (by have := S1.out; have := SX.out; omega)).trans K2.out)
  have KT := Lib.hid k1
  have SW := Lib.hid k1.lt
  obtain ⟨a0, a1, a2, a3, _⟩ := bx_cells4 k1
  have CB := Lib.hid (begV_any W t)
  obtain ⟨b, hb⟩ : ∃ b, begV t = b := ⟨_, rfl⟩
  rw [hb] at CB ARG
  clear hW k1 hb K2 B1 HB
  go_wp2_with fail
  refine CB.out.mono ?_
  rintro e w2 ⟨rfl, hb⟩
  have HBX := Lib.hid (bnext B2.out hb)
  have S2 := Lib.hid hb.size
  have KB := Lib.hid ((hb.block _ (by have := S1.out; have := SW.out; have := SX.out; omega)).trans K3.out)
  have KT2 := Lib.hid (KT.out.next hb)
  have HR2 := Lib.hid (H.out.next HBX.out)
  clear CB hb K3 KT B2 a0 a1 a2 a3
  cases b
  case true =>
    have CV := val_any 12 w2 g n q 1 l (by decide) (by decide) HR2.out
    replace ARG := Lib.hid (show RES = (valT 12 l n).map (fun v => ⟨1, v, zP, [], ⟨#[]⟩⟩) by rw [ARG.out, if_pos rfl])
    obtain ⟨R2, hR2⟩ : ∃ x, valT 12 l n = x := ⟨_, rfl⟩
    rw [hR2] at CV ARG
    replace CV := Lib.hid CV
    clear hR2
    go_wp2_with fail
    refine CV.out.mono ?_
    rintro e w3 ⟨hgot, hk3⟩
    have R3 := Lib.hid ((RK.of (g := g) HBX.out).trans hk3)
    have KB3 := Lib.hid (hk3.heap KB.out (by have := H.out.lt; omega))
    have S3 := Lib.hid hk3.size
    clear CV hk3
    cases R2 with
    | bad l5 n5 er =>
      obtain ⟨v, rfl, ⟨y, rfl⟩, her, hr5⟩ := hgot
      have HRF := Lib.hid hr5
      have HER := Lib.hid her
      have FIN := Lib.hid (show .bad l5 n5 er = RES from ARG.out.symm)
      clear her hr5
      go_upto_region 4 with fail
      have k1 := new_blk w3 (.cells #[.int .i64 y.t.k, .int .i64 y.t.n, .string y.t.s, .slice y.A y.t.l.length y.c, .slice y.A' y.t.m.length y.c'] 77)
      generalize hA : World.alloc w3 _ = VA at k1
      have BA : Hid (Below w3.heap.size w3 VA) := Lib.hid (by rw [← hA]; exact below_new _ _)
      have KBA := Lib.hid ((BA.out.block _ ((Array.getElem?_eq_some_iff.1 KB3.out).1)).trans KB3.out)
      have RA := Lib.hid (R3.out.then BA.out)
      have HRA := Lib.hid (HRF.out.next BA.out)
      obtain ⟨p0, p1, p2, p3, p4, _⟩ := bx_cells5 k1
      clear hA k1
      obtain ⟨z0, z1, z2, z3, z4, z5, z6, z7, z8, z9, z10, zf⟩ := bx_cells11 KBA.out
      have f0 := zf 0
      have f1 := zf 1
      have f2 := zf 2
      have f3 := zf 3
      have f4 := zf 4
      have f5 := zf 5
      have f6 := zf 6
      have f7 := zf 7
      have f8 := zf 8
      have f9 := zf 9
      have f10 := zf 10
      have HS := Lib.hid (bx_set11 KBA.out)
      clear zf
      go_wp2
      obtain ⟨F, hF, hbF, hsF⟩ := HS.out (.int .i64 1) (.int .i64 y.t.k) (.int .i64 y.t.n) (.string y.t.s) (.slice y.A y.t.l.length y.c) (.slice y.A' y.t.m.length y.c') (.int .i64 0) (.slice none 0 0) (.slice none 0 0) (.slice none 0 0) (.string ⟨#[]⟩)
      rw [← hF]
      obtain ⟨r0, r1, r2, r3, r4, r5, r6, r7, r8, r9, r10, _⟩ := bx_cells11 hbF
      refine bodyPost_ret (v := .tuple #[.agg #[.int .i64 1, .int .i64 y.t.k, .int .i64 y.t.n, .string y.t.s, .slice y.A y.t.l.length y.c, .slice y.A' y.t.m.length y.c', .int .i64 0, .slice none 0 0, .slice none 0 0, .slice none 0 0, .string ⟨#[]⟩], .int .i64 er]) (by simp [results, Tryz.results96, go_sem, r0, r1, r2, r3, r4, r5, r6, r7, r8, r9, r10]) rfl ?_
      rw [← FIN.out]
      exact ⟨⟨_, rfl, ⟨⟨1, y, ⟨zP, none, 0, none, 0⟩, [], none, 0, ⟨#[]⟩⟩, rfl⟩, HER.out, HRA.out.same hsF H.out.lt⟩, hsF.fresh RA.out (Nat.le_refl _)⟩
    | ok x l5 n5 =>
      obtain ⟨v, rfl, ⟨y, rfl, hyt, hyR⟩, hr5⟩ := hgot
      have HRF := Lib.hid hr5
      have HY := Lib.hid (And.intro hyt hyR)
      have FIN := Lib.hid (show .ok ⟨1, x, zP, [], ⟨#[]⟩⟩ l5 n5 = RES from ARG.out.symm)
      clear hyt hyR hr5
      go_upto_region 4 with fail
      have k1 := new_blk w3 (.cells #[.int .i64 y.t.k, .int .i64 y.t.n, .string y.t.s, .slice y.A y.t.l.length y.c, .slice y.A' y.t.m.length y.c'] 77)
      generalize hA : World.alloc w3 _ = VA at k1
      have BA : Hid (Below w3.heap.size w3 VA) := Lib.hid (by rw [← hA]; exact below_new _ _)
      have KBA := Lib.hid ((BA.out.block _ ((Array.getElem?_eq_some_iff.1 KB3.out).1)).trans KB3.out)
      have RA := Lib.hid (R3.out.then BA.out)
      have HRA := Lib.hid (HRF.out.next BA.out)
      obtain ⟨p0, p1, p2, p3, p4, _⟩ := bx_cells5 k1
      clear hA k1
      obtain ⟨z0, z1, z2, z3, z4, z5, z6, z7, z8, z9, z10, zf⟩ := bx_cells11 KBA.out
      have f0 := zf 0
      have f1 := zf 1
      have f2 := zf 2
      have f3 := zf 3
      have f4 := zf 4
      have f5 := zf 5
      have f6 := zf 6
      have f7 := zf 7
      have f8 := zf 8
      have f9 := zf 9
      have f10 := zf 10
      have HS := Lib.hid (bx_set11 KBA.out)
      clear zf
      go_wp2
      obtain ⟨F, hF, hbF, hsF⟩ := HS.out (.int .i64 1) (.int .i64 y.t.k) (.int .i64 y.t.n) (.string y.t.s) (.slice y.A y.t.l.length y.c) (.slice y.A' y.t.m.length y.c') (.int .i64 0) (.slice none 0 0) (.slice none 0 0) (.slice none 0 0) (.string ⟨#[]⟩)
      rw [← hF]
      obtain ⟨r0, r1, r2, r3, r4, r5, r6, r7, r8, r9, r10, _⟩ := bx_cells11 hbF
      refine bodyPost_ret (v := .tuple #[.agg #[.int .i64 1, .int .i64 y.t.k, .int .i64 y.t.n, .string y.t.s, .slice y.A y.t.l.length y.c, .slice y.A' y.t.m.length y.c', .int .i64 0, .slice none 0 0, .slice none 0 0, .slice none 0 0, .string ⟨#[]⟩], .int .i64 0]) (by simp [results, Tryz.results96, go_sem, r0, r1, r2, r3, r4, r5, r6, r7, r8, r9, r10]) rfl ?_
      rw [← FIN.out]
      refine ⟨⟨_, rfl, ⟨⟨1, y, ⟨zP, none, 0, none, 0⟩, [], none, 0, ⟨#[]⟩⟩, rfl, by rw [← HY.out.1]; rfl, ?_⟩, HRA.out.same hsF H.out.lt⟩, hsF.fresh RA.out (Nat.le_refl _)⟩
      have sx := SX.out
      have s1 := S1.out
      have sw := SW.out
      have s2 := S2.out
      exact gok_flat 1 _ (by decide) (by decide) y ⟨zP, none, 0, none, 0⟩ ⟨_, RV.wide (by omega) (by rw [hsF.size]; exact BA.out.size) (RV.keep (hsF.kept (by omega)) (RV.keep (Kept.of_below BA.out (Nat.le_refl _)) HY.out.2))⟩ (zp_pd _ _ _)
  obtain ⟨a0, a1, a2, a3, _⟩ := bx_cells4 KT2.out
  have CK := Lib.hid (kindT_any w2 t)
  obtain ⟨kd, hkd⟩ : ∃ z, kindT t = z := ⟨_, rfl⟩
  rw [hkd] at CK ARG
  clear hkd
  go_wp2_with fail
  refine CK.out.mono ?_
  rintro e w3 ⟨rfl, hb⟩
  have HBX3 := Lib.hid (bnext HBX.out hb)
  have S3 := Lib.hid hb.size
  have KB3 := Lib.hid ((hb.block _ ((Array.getElem?_eq_some_iff.1 KB.out).1)).trans KB.out)
  have KT3 := Lib.hid (KT2.out.next hb)
  have HR3 := Lib.hid (H.out.next HBX3.out)
  clear CK hb KT2 a0 a1 a2 a3
  by_cases hk0 : kd = 0
  case neg =>
    have e0 : (kd == 0) = false := by rw [beq_eq_false_iff_ne]; exact hk0
    have CV := prd_any 12 w3 g n q 1 l (by decide) (by decide) HR3.out
    replace ARG := Lib.hid (show RES = (prdT 12 l n).map (fun p => ⟨2, zV, p, [], ⟨#[]⟩⟩) by rw [ARG.out, if_neg (by simp), if_pos hk0])
    obtain ⟨R2, hR2⟩ : ∃ x, prdT 12 l n = x := ⟨_, rfl⟩
    rw [hR2] at CV ARG
    replace CV := Lib.hid CV
    clear hR2 hk0
    go_wp2_with fail
    refine CV.out.mono ?_
    rintro e w4 ⟨hgot, hk4⟩
    have R4 := Lib.hid ((RK.of (g := g) HBX3.out).trans hk4)
    have KB4 := Lib.hid (hk4.heap KB3.out (by have := H.out.lt; omega))
    have S4 := Lib.hid hk4.size
    clear CV hk4
    cases R2 with
    | bad l5 n5 er =>
      obtain ⟨v, rfl, ⟨y, rfl⟩, her, hr5⟩ := hgot
      have HRF := Lib.hid hr5
      have HER := Lib.hid her
      have FIN := Lib.hid (show .bad l5 n5 er = RES from ARG.out.symm)
      clear her hr5
      go_upto_region 7 with fail
      have k1 := new_blk w4 (.cells #[.int .i64 y.t.k, .slice y.A y.t.v.length y.c, .slice y.A' y.t.p.length y.c'] 80)
      generalize hA : World.alloc w4 _ = VA at k1
      have BA : Hid (Below w4.heap.size w4 VA) := Lib.hid (by rw [← hA]; exact below_new _ _)
      have KBA := Lib.hid ((BA.out.block _ ((Array.getElem?_eq_some_iff.1 KB4.out).1)).trans KB4.out)
      have RA := Lib.hid (R4.out.then BA.out)
      have HRA := Lib.hid (HRF.out.next BA.out)
      obtain ⟨p0, p1, p2, _⟩ := bx_cells3 k1
      clear hA k1
      obtain ⟨z0, z1, z2, z3, z4, z5, z6, z7, z8, z9, z10, zf⟩ := bx_cells11 KBA.out
      have f0 := zf 0
      have f1 := zf 1
      have f2 := zf 2
      have f3 := zf 3
      have f4 := zf 4
      have f5 := zf 5
      have f6 := zf 6
      have f7 := zf 7
      have f8 := zf 8
      have f9 := zf 9
      have f10 := zf 10
      have HS := Lib.hid (bx_set11 KBA.out)
      clear zf
      go_wp2
      obtain ⟨F, hF, hbF, hsF⟩ := HS.out (.int .i64 2) (.int .i64 0) (.int .i64 0) (.string ⟨#[]⟩) (.slice none 0 0) (.slice none 0 0) (.int .i64 y.t.k) (.slice y.A y.t.v.length y.c) (.slice y.A' y.t.p.length y.c') (.slice none 0 0) (.string ⟨#[]⟩)
      rw [← hF]
      obtain ⟨r0, r1, r2, r3, r4, r5, r6, r7, r8, r9, r10, _⟩ := bx_cells11 hbF
      refine bodyPost_ret (v := .tuple #[.agg #[.int .i64 2, .int .i64 0, .int .i64 0, .string ⟨#[]⟩, .slice none 0 0, .slice none 0 0, .int .i64 y.t.k, .slice y.A y.t.v.length y.c, .slice y.A' y.t.p.length y.c', .slice none 0 0, .string ⟨#[]⟩], .int .i64 er]) (by simp [results, Tryz.results96, go_sem, r0, r1, r2, r3, r4, r5, r6, r7, r8, r9, r10]) rfl ?_
      rw [← FIN.out]
      exact ⟨⟨_, rfl, ⟨⟨2, ⟨zV, none, 0, none, 0⟩, y, [], none, 0, ⟨#[]⟩⟩, rfl⟩, HER.out, HRA.out.same hsF H.out.lt⟩, hsF.fresh RA.out (Nat.le_refl _)⟩
    | ok x l5 n5 =>
      obtain ⟨v, rfl, ⟨y, rfl, hyt, hyR⟩, hr5⟩ := hgot
      have HRF := Lib.hid hr5
      have HY := Lib.hid (And.intro hyt hyR)
      have FIN := Lib.hid (show .ok ⟨2, zV, x, [], ⟨#[]⟩⟩ l5 n5 = RES from ARG.out.symm)
      clear hyt hyR hr5
      go_upto_region 7 with fail
      have k1 := new_blk w4 (.cells #[.int .i64 y.t.k, .slice y.A y.t.v.length y.c, .slice y.A' y.t.p.length y.c'] 80)
      generalize hA : World.alloc w4 _ = VA at k1
      have BA : Hid (Below w4.heap.size w4 VA) := Lib.hid (by rw [← hA]; exact below_new _ _)
      have KBA := Lib.hid ((BA.out.block _ ((Array.getElem?_eq_some_iff.1 KB4.out).1)).trans KB4.out)
      have RA := Lib.hid (R4.out.then BA.out)
      have HRA := Lib.hid (HRF.out.next BA.out)
      obtain ⟨p0, p1, p2, _⟩ := bx_cells3 k1
      clear hA k1
      obtain ⟨z0, z1, z2, z3, z4, z5, z6, z7, z8, z9, z10, zf⟩ := bx_cells11 KBA.out
      have f0 := zf 0
      have f1 := zf 1
      have f2 := zf 2
      have f3 := zf 3
      have f4 := zf 4
      have f5 := zf 5
      have f6 := zf 6
      have f7 := zf 7
      have f8 := zf 8
      have f9 := zf 9
      have f10 := zf 10
      have HS := Lib.hid (bx_set11 KBA.out)
      clear zf
      go_wp2
      obtain ⟨F, hF, hbF, hsF⟩ := HS.out (.int .i64 2) (.int .i64 0) (.int .i64 0) (.string ⟨#[]⟩) (.slice none 0 0) (.slice none 0 0) (.int .i64 y.t.k) (.slice y.A y.t.v.length y.c) (.slice y.A' y.t.p.length y.c') (.slice none 0 0) (.string ⟨#[]⟩)
      rw [← hF]
      obtain ⟨r0, r1, r2, r3, r4, r5, r6, r7, r8, r9, r10, _⟩ := bx_cells11 hbF
      refine bodyPost_ret (v := .tuple #[.agg #[.int .i64 2, .int .i64 0, .int .i64 0, .string ⟨#[]⟩, .slice none 0 0, .slice none 0 0, .int .i64 y.t.k, .slice y.A y.t.v.length y.c, .slice y.A' y.t.p.length y.c', .slice none 0 0, .string ⟨#[]⟩], .int .i64 0]) (by simp [results, Tryz.results96, go_sem, r0, r1, r2, r3, r4, r5, r6, r7, r8, r9, r10]) rfl ?_
      rw [← FIN.out]
      refine ⟨⟨_, rfl, ⟨⟨2, ⟨zV, none, 0, none, 0⟩, y, [], none, 0, ⟨#[]⟩⟩, rfl, by rw [← HY.out.1]; rfl, ?_⟩, HRA.out.same hsF H.out.lt⟩, hsF.fresh RA.out (Nat.le_refl _)⟩
      have sx := SX.out
      have s1 := S1.out
      have sw := SW.out
      have s2 := S2.out
      have s3 := S3.out
      exact gok_flat 2 _ (by decide) (by decide) ⟨zV, none, 0, none, 0⟩ y (zv_rd _ _ _) ⟨_, RP.wide (by omega) (by rw [hsF.size]; exact BA.out.size) (RP.keep (hsF.kept (by omega)) (RP.keep (Kept.of_below BA.out (Nat.le_refl _)) HY.out.2))⟩
  have e0 : (kd == 0) = true := by rw [hk0]; rfl
  replace ARG := Lib.hid (show RES = if isN t [95, 95] = true then (inner l n).map (fun c => ⟨3, zV, zP, c, ⟨#[]⟩⟩)
    else if (t.k == 1 && nameB (bsT t.s)) = true then .ok ⟨4, zV, zP, [], bsT t.s⟩ l.tail n
    else .bad l n 30 by rw [ARG.out, if_neg (by simp), if_neg (by rw [hk0]; simp)])
  obtain ⟨a0, a1, a2, a3, _⟩ := bx_cells4 KT3.out
  have CI := isN_any w3 t [95, 95]
  rw [show bsT [95, 95] = ⟨#[95, 95]⟩ from rfl] at CI
  obtain ⟨bi, hbi⟩ : ∃ b, isN t [95, 95] = b := ⟨_, rfl⟩
  have HISN := Lib.hid (fun (e : bi = true) => isN_k (t := t) (s := [95, 95]) (by rw [hbi]; exact e))
  rw [hbi] at CI ARG
  replace CI := Lib.hid CI
  clear hk0 hbi
  go_wp2_with fail
  refine CI.out.mono ?_
  rintro e w4 ⟨rfl, hb⟩
  have HBX4 := Lib.hid (bnext HBX3.out hb)
  have S4 := Lib.hid hb.size
  have KB4 := Lib.hid ((hb.block _ ((Array.getElem?_eq_some_iff.1 KB3.out).1)).trans KB3.out)
  have KT4 := Lib.hid (KT3.out.next hb)
  have HR4 := Lib.hid (H.out.next HBX4.out)
  clear CI hb KT3 a0 a1 a2 a3
  cases bi
  case true =>
    obtain ⟨x, l3, rfl⟩ := K1C.out (HISN.out rfl)
    have HW := Lib.hid (show IntKind.i64.wrap (lev + 1) = lev + 1 from IntWalk.i64_in _ (by omega))
    have hw := HW.out
    have CV := IN.out w4 g n q (x :: l3) (by simp) HR4.out
    replace ARG := Lib.hid (show RES = (inner (x :: l3) n).map (fun c => ⟨3, zV, zP, c, ⟨#[]⟩⟩) by rw [ARG.out, if_pos rfl])
    obtain ⟨R2, hR2⟩ : ∃ z, inner (x :: l3) n = z := ⟨_, rfl⟩
    rw [hR2] at CV ARG
    replace CV := Lib.hid CV
    clear hR2
    go_wp2_with fail
    refine CV.out.mono ?_
    rintro e w5 ⟨hgot, hk5⟩
    have R5 := Lib.hid ((RK.of (g := g) HBX4.out).trans hk5)
    have KB5 := Lib.hid (hk5.heap KB4.out (by have := H.out.lt; omega))
    have S5 := Lib.hid hk5.size
    clear CV hk5 hw
    cases R2 with
    | bad l5 n5 er =>
      obtain ⟨v, rfl, rfl, her, hr5⟩ := hgot
      have HRF := Lib.hid hr5
      have HER := Lib.hid her
      have FIN := Lib.hid (show .bad l5 n5 er = RES from ARG.out.symm)
      clear her hr5
      obtain ⟨z0, z1, z2, z3, z4, z5, z6, z7, z8, z9, z10, zf⟩ := bx_cells11 KB5.out
      have f0 := zf 0
      have f1 := zf 1
      have f2 := zf 2
      have f3 := zf 3
      have f4 := zf 4
      have f5 := zf 5
      have f6 := zf 6
      have f7 := zf 7
      have f8 := zf 8
      have f9 := zf 9
      have f10 := zf 10
      have HS := Lib.hid (bx_set11 KB5.out)
      clear zf
      go_wp2
      obtain ⟨F, hF, hbF, hsF⟩ := HS.out (.int .i64 3) (.int .i64 0) (.int .i64 0) (.string ⟨#[]⟩) (.slice none 0 0) (.slice none 0 0) (.int .i64 0) (.slice none 0 0) (.slice none 0 0) (.slice none 0 0) (.string ⟨#[]⟩)
      rw [← hF]
      obtain ⟨r0, r1, r2, r3, r4, r5, r6, r7, r8, r9, r10, _⟩ := bx_cells11 hbF
      refine bodyPost_ret (v := .tuple #[.agg #[.int .i64 3, .int .i64 0, .int .i64 0, .string ⟨#[]⟩, .slice none 0 0, .slice none 0 0, .int .i64 0, .slice none 0 0, .slice none 0 0, .slice none 0 0, .string ⟨#[]⟩], .int .i64 er]) (by simp [results, Tryz.results96, go_sem, r0, r1, r2, r3, r4, r5, r6, r7, r8, r9, r10]) rfl ?_
      rw [← FIN.out]
      exact ⟨⟨_, rfl, ⟨⟨3, ⟨zV, none, 0, none, 0⟩, ⟨zP, none, 0, none, 0⟩, [], none, 0, ⟨#[]⟩⟩, rfl⟩, HER.out, HRF.out.same hsF H.out.lt⟩, hsF.fresh R5.out (Nat.le_refl _)⟩
    | ok cs l5 n5 =>
      obtain ⟨v, rfl, ⟨A, c, rfl, hrow⟩, hr5⟩ := hgot
      have HRF := Lib.hid hr5
      have HROW := Lib.hid hrow
      have FIN := Lib.hid (show .ok ⟨3, zV, zP, cs, ⟨#[]⟩⟩ l5 n5 = RES from ARG.out.symm)
      clear hrow hr5
      obtain ⟨z0, z1, z2, z3, z4, z5, z6, z7, z8, z9, z10, zf⟩ := bx_cells11 KB5.out
      have f0 := zf 0
      have f1 := zf 1
      have f2 := zf 2
      have f3 := zf 3
      have f4 := zf 4
      have f5 := zf 5
      have f6 := zf 6
      have f7 := zf 7
      have f8 := zf 8
      have f9 := zf 9
      have f10 := zf 10
      have HS := Lib.hid (bx_set11 KB5.out)
      clear zf
      go_wp2
      obtain ⟨F, hF, hbF, hsF⟩ := HS.out (.int .i64 3) (.int .i64 0) (.int .i64 0) (.string ⟨#[]⟩) (.slice none 0 0) (.slice none 0 0) (.int .i64 0) (.slice none 0 0) (.slice none 0 0) (.slice A cs.length c) (.string ⟨#[]⟩)
      rw [← hF]
      obtain ⟨r0, r1, r2, r3, r4, r5, r6, r7, r8, r9, r10, _⟩ := bx_cells11 hbF
      refine bodyPost_ret (v := .tuple #[.agg #[.int .i64 3, .int .i64 0, .int .i64 0, .string ⟨#[]⟩, .slice none 0 0, .slice none 0 0, .int .i64 0, .slice none 0 0, .slice none 0 0, .slice A cs.length c, .string ⟨#[]⟩], .int .i64 0]) (by simp [results, Tryz.results96, go_sem, r0, r1, r2, r3, r4, r5, r6, r7, r8, r9, r10]) rfl ?_
      rw [← FIN.out]
      refine ⟨⟨_, rfl, ⟨⟨3, ⟨zV, none, 0, none, 0⟩, ⟨zP, none, 0, none, 0⟩, cs, A, c, ⟨#[]⟩⟩, rfl, rfl, ?_⟩, HRF.out.same hsF H.out.lt⟩, hsF.fresh R5.out (Nat.le_refl _)⟩
      have sx := SX.out
      have s1 := S1.out
      have sw := SW.out
      have s2 := S2.out
      have s3 := S3.out
      have s4 := S4.out
      exact ⟨(by decide : (-9223372036854775808 : Int) ≤ 3), (by decide : (3 : Int) ≤ 9223372036854775807), (by decide : (⟨#[]⟩ : ByteArray).size ≤ 140737488355328), zv_rd _ _ _, zp_pd _ _ _, Ch.imp (hsF.kept (by omega)) (by omega) (Nat.le_of_eq hsF.size.symm) (Nat.le_refl _) HROW.out⟩
  replace ARG := Lib.hid (show RES = if (t.k == 1 && nameB (bsT t.s)) = true then .ok ⟨4, zV, zP, [], bsT t.s⟩ l.tail n else .bad l n 30 by rw [ARG.out, if_neg (by simp)])
  obtain ⟨a0, a1, a2, a3, _⟩ := bx_cells4 KT4.out
  by_cases hk : t.k = 1
  case neg =>
    have e1 : (t.k == 1) = false := by rw [beq_eq_false_iff_ne]; exact hk
    have FIN := Lib.hid (show .bad l n 30 = RES by rw [ARG.out, e1]; rfl)
    clear hk
    obtain ⟨z0, z1, z2, z3, z4, z5, z6, z7, z8, z9, z10, zf⟩ := bx_cells11 KB4.out
    have f0 := zf 0
    have f1 := zf 1
    have f2 := zf 2
    have f3 := zf 3
    have f4 := zf 4
    have f5 := zf 5
    have f6 := zf 6
    have f7 := zf 7
    have f8 := zf 8
    have f9 := zf 9
    have f10 := zf 10
    have HS := Lib.hid (bx_set11 KB4.out)
    clear zf
    go_wp2
    obtain ⟨F, hF, hbF, hsF⟩ := HS.out (.int .i64 0) (.int .i64 0) (.int .i64 0) (.string ⟨#[]⟩) (.slice none 0 0) (.slice none 0 0) (.int .i64 0) (.slice none 0 0) (.slice none 0 0) (.slice none 0 0) (.string ⟨#[]⟩)
    rw [← hF]
    obtain ⟨r0, r1, r2, r3, r4, r5, r6, r7, r8, r9, r10, _⟩ := bx_cells11 hbF
    refine bodyPost_ret (v := .tuple #[.agg #[.int .i64 0, .int .i64 0, .int .i64 0, .string ⟨#[]⟩, .slice none 0 0, .slice none 0 0, .int .i64 0, .slice none 0 0, .slice none 0 0, .slice none 0 0, .string ⟨#[]⟩], .int .i64 30]) (by simp [results, Tryz.results96, go_sem, r0, r1, r2, r3, r4, r5, r6, r7, r8, r9, r10]) rfl ?_
    rw [← FIN.out]
    exact ⟨⟨_, rfl, ⟨⟨0, ⟨zV, none, 0, none, 0⟩, ⟨zP, none, 0, none, 0⟩, [], none, 0, ⟨#[]⟩⟩, rfl⟩, by decide, HR4.out.same hsF H.out.lt⟩, hsF.fresh (RK.of HBX4.out) (Nat.le_refl _)⟩
  have e1 : (t.k == 1) = true := by rw [hk]; rfl
  obtain ⟨x, l3, rfl⟩ := K1C.out hk
  have CM := Lib.hid (name_any (bsT t.s) w4)
  obtain ⟨bn, hbn⟩ : ∃ b, nameB (bsT t.s) = b := ⟨_, rfl⟩
  rw [hbn] at CM ARG
  clear hk hbn
  go_wp2_with fail
  refine CM.out.mono ?_
  rintro e W2 ⟨rfl, hw2⟩
  subst hw2
  clear CM
  cases bn
  case false =>
    have FIN := Lib.hid (show .bad (x :: l3) n 30 = RES by rw [ARG.out, e1]; rfl)
    obtain ⟨z0, z1, z2, z3, z4, z5, z6, z7, z8, z9, z10, zf⟩ := bx_cells11 KB4.out
    have f0 := zf 0
    have f1 := zf 1
    have f2 := zf 2
    have f3 := zf 3
    have f4 := zf 4
    have f5 := zf 5
    have f6 := zf 6
    have f7 := zf 7
    have f8 := zf 8
    have f9 := zf 9
    have f10 := zf 10
    have HS := Lib.hid (bx_set11 KB4.out)
    clear zf
    go_wp2
    obtain ⟨F, hF, hbF, hsF⟩ := HS.out (.int .i64 0) (.int .i64 0) (.int .i64 0) (.string ⟨#[]⟩) (.slice none 0 0) (.slice none 0 0) (.int .i64 0) (.slice none 0 0) (.slice none 0 0) (.slice none 0 0) (.string ⟨#[]⟩)
    rw [← hF]
    obtain ⟨r0, r1, r2, r3, r4, r5, r6, r7, r8, r9, r10, _⟩ := bx_cells11 hbF
    refine bodyPost_ret (v := .tuple #[.agg #[.int .i64 0, .int .i64 0, .int .i64 0, .string ⟨#[]⟩, .slice none 0 0, .slice none 0 0, .int .i64 0, .slice none 0 0, .slice none 0 0, .slice none 0 0, .string ⟨#[]⟩], .int .i64 30]) (by simp [results, Tryz.results96, go_sem, r0, r1, r2, r3, r4, r5, r6, r7, r8, r9, r10]) rfl ?_
    rw [← FIN.out]
    exact ⟨⟨_, rfl, ⟨⟨0, ⟨zV, none, 0, none, 0⟩, ⟨zP, none, 0, none, 0⟩, [], none, 0, ⟨#[]⟩⟩, rfl⟩, by decide, HR4.out.same hsF H.out.lt⟩, hsF.fresh (RK.of HBX4.out) (Nat.le_refl _)⟩
  have FIN := Lib.hid (show .ok ⟨4, zV, zP, [], bsT t.s⟩ l3 n = RES by rw [ARG.out, e1]; rfl)
  have CS := Lib.hid (skip_any w4 g n q x l3 HR4.out)
  clear a0 a1 a2 a3
  go_wp2_with fail
  refine CS.out.mono ?_
  rintro e w5 ⟨rfl, hr, hk⟩
  have HR5 := Lib.hid hr
  have R5 := Lib.hid ((RK.of (g := g) HBX4.out).trans hk)
  have KB5 := Lib.hid (hk.heap KB4.out (by have := H.out.lt; omega))
  have KT5 := Lib.hid (hk.heap KT4.out (by have := H.out.lt; have := S1.out; have := SX.out; omega))
  obtain ⟨a0, a1, a2, a3, _⟩ := bx_cells4 KT5.out
  clear CS hr hk
  obtain ⟨z0, z1, z2, z3, z4, z5, z6, z7, z8, z9, z10, zf⟩ := bx_cells11 KB5.out
  have f0 := zf 0
  have f1 := zf 1
  have f2 := zf 2
  have f3 := zf 3
  have f4 := zf 4
  have f5 := zf 5
  have f6 := zf 6
  have f7 := zf 7
  have f8 := zf 8
  have f9 := zf 9
  have f10 := zf 10
  have HS := Lib.hid (bx_set11 KB5.out)
  clear zf
  go_wp2
  obtain ⟨F, hF, hbF, hsF⟩ := HS.out (.int .i64 4) (.int .i64 0) (.int .i64 0) (.string ⟨#[]⟩) (.slice none 0 0) (.slice none 0 0) (.int .i64 0) (.slice none 0 0) (.slice none 0 0) (.slice none 0 0) (.string (bsT t.s))
  rw [← hF]
  obtain ⟨r0, r1, r2, r3, r4, r5, r6, r7, r8, r9, r10, _⟩ := bx_cells11 hbF
  refine bodyPost_ret (v := .tuple #[.agg #[.int .i64 4, .int .i64 0, .int .i64 0, .string ⟨#[]⟩, .slice none 0 0, .slice none 0 0, .int .i64 0, .slice none 0 0, .slice none 0 0, .slice none 0 0, .string (bsT t.s)], .int .i64 0]) (by simp [results, Tryz.results96, go_sem, r0, r1, r2, r3, r4, r5, r6, r7, r8, r9, r10]) rfl ?_
  rw [← FIN.out]
  refine ⟨⟨_, rfl, ⟨⟨4, ⟨zV, none, 0, none, 0⟩, ⟨zP, none, 0, none, 0⟩, [], none, 0, bsT t.s⟩, rfl, rfl, ?_⟩, HR5.out.same hsF H.out.lt⟩, hsF.fresh R5.out (Nat.le_refl _)⟩
  exact gok_flat 4 _ (by decide) (by rw [E8.bs_size]; have := TOK.out.s1; omega) ⟨zV, none, 0, none, 0⟩ ⟨zP, none, 0, none, 0⟩ (zv_rd _ _ _) (zp_pd _ _ _)
end Go.Proofs.YtllkimdlmnjoiaaGreatDoor
