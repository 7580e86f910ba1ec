/- The parser's predicates. -/
import Derived.Test.YtllkimdlmnjoiaaGreatDoorXI
namespace Go.Proofs.YtllkimdlmnjoiaaGreatDoor
set_option maxRecDepth 100000
open Go.RowKit Go.Sort

theorem kindT_cons {l : List Tk} (h : kindT (hdT l) ≠ 0) : ∃ x r, l = x :: r := by
  cases l with
  | nil => exact absurd rfl h
  | cons x r => exact ⟨x, r, rfl⟩
theorem rdP_less {pr : List Tk → Nat → Rs P} (hv : ∀ l n x l2 n2, pr l n = .ok x l2 n2 → l2.length < l.length) : ∀ k l n x l2 n2, rdP pr k l n = .ok x l2 n2 → l2.length < l.length := by
  intro k l n x l2 n2 h
  unfold rdP at h
  split at h
  · cases h
  · exact hv _ _ _ _ _ h
theorem prd_less : ∀ r l n x l2 n2, prdT r l n = .ok x l2 n2 → l2.length < l.length := by
  intro r
  induction r with
  | zero => intro l n x l2 n2 h; rw [prdT] at h; split at h <;> cases h
  | succ r ih =>
    intro l n x l2 n2 h
    rw [prdT] at h
    split at h
    · cases h
    · have ht : l.tail.length ≤ l.length := by simp
      split at h
      · obtain ⟨vs, hvs, _⟩ := map_ok h
        have := btw_less (rdP_less ih) hvs
        omega
      · obtain ⟨vs, hvs, _⟩ := map_ok h
        have := btw_less (rdV_less (val_less 12)) hvs
        omega
theorem knd_mk (k : Int) (v : List V) (p : List P) (h : 0 ≤ k ∧ k ≤ 14) : Knd (.mk k v p) := ⟨by show (-9223372036854775808 : Int) ≤ k; omega, by show k ≤ 9223372036854775807; omega⟩
theorem kind_range (t : Tk) : 0 ≤ kindT t ∧ kindT t ≤ 14 := by
  unfold kindT
  repeat' split
  all_goals omega
def PrdOk (r : Nat) : Prop := ∀ (w : World) (g n : Nat) (q lev : Int) (l : List Tk), lev = 13 - r → r ≤ 12 → Rdr w g q l n →
  Calls Tryz.prog 118 #[.pointer (some ⟨g, 0, none⟩), .int .i64 lev] w (Got g q w (OkP (r + 1) w) JkP (prdT r l n))
def PrdsOk (r : Nat) : Prop := ∀ (w : World) (g n : Nat) (q lev : Int) (l : List Tk) (a : Int) (mo : Bool), lev = 13 - r → r ≤ 12 → Rdr w g q l n →
  Calls Tryz.prog 139 #[.pointer (some ⟨g, 0, none⟩), .agg #[.int .i64 a, .bool mo], .int .i64 lev] w (Got g q w (OksP (r + 1) w) (fun v => v = .slice none 0 0) (btw [40] [41] a mo (rdP (prdT r)) l n))
set_option maxHeartbeats 6400000 in
theorem clos_P (r : Nat) (ih : PrdOk r) (hr : r ≤ 12) (w : World) (g b5 b8 : Nat) (q lev : Int) (hlev : lev = 13 - r) (h5 : w.heap[b5]? = some (.cells #[.pointer (some ⟨g, 0, none⟩)] 60 (0, 0))) (h8 : w.heap[b8]? = some (.cells #[.int .i64 lev] 3 (0, 0))) (n5 : b5 ≠ g) (n8 : b8 ≠ g) :
    ∀ (W : World) (l : List Tk) (n k : Nat), RK g w W → Rdr W g q l n → k ≤ 20001 → Calls Tryz.prog 158 #[.int .i64 (k : Int), .pointer (some ⟨b5, 0, none⟩), .pointer (some ⟨b8, 0, none⟩)] W (Got g q W (OkP (r + 1) W) JkP (rdP (prdT r) k l n)) := by
  intro W l n k hk h hk2
  have c5 := bx_cells1 (hk.heap h5 n5)
  have c8 := bx_cells1 (hk.heap h8 n8)
  have l5 : b5 < W.heap.size := (Array.getElem?_eq_some_iff.1 (hk.heap h5 n5)).1
  have l8 : b8 < W.heap.size := (Array.getElem?_eq_some_iff.1 (hk.heap h8 n8)).1
  have H := Lib.hid h
  have IH := Lib.hid ih
  have C5 := Lib.hid c5
  have C8 := Lib.hid c8
  have HLV := Lib.hid (And.intro hlev hr)
  obtain ⟨RES, hRES⟩ : ∃ x, rdP (prdT r) k l n = x := ⟨_, rfl⟩
  rw [hRES]
  have HRES := Lib.hid hRES
  clear hk h ih h5 h8 c5 c8 hRES hlev hr
  go_enter Tryz.func158, Tryz.ntmps158
  go_upto_region 1 with fail
  have k1 := new_blk W (.cells #[.int .i64 0, .slice none 0 0, .slice none 0 0] 80)
  generalize hX : World.alloc W _ = X at k1
  have BX : Hid (Below W.heap.size W X) := Lib.hid (by rw [← hX]; exact below_new _ _)
  have SX : Hid (X.heap.size = W.heap.size + 1) := Lib.hid (by rw [← hX]; simp)
  have K1 := Lib.hid k1
  have x5 := cell_below BX.out C5.out l5
  have x8 := cell_below BX.out C8.out l8
  have HX := Lib.hid (H.out.next BX.out)
  clear hX k1
  by_cases hk1 : k = 1000
  case neg =>
    have hk9 : ((k : Int) == 1000) = false := by rw [beq_eq_false_iff_ne]; omega
    have FRES := Lib.hid (show prdT r l n = RES by rw [← HRES.out]; unfold rdP; rw [if_neg (fun e => hk1 e.1)])
    have SXX : Hid (X.heap.size ≤ X.heap.size) := Lib.hid (Nat.le_refl _)
    clear hk1
    have CT := IH.out X g n q lev l HLV.out.1 HLV.out.2 HX.out
    rw [FRES.out] at CT
    replace CT := Lib.hid CT
    go_wp2_with fail
    refine CT.out.mono ?_
    rintro e w9 ⟨hgot, hk9⟩
    have K9 := Lib.hid (hk9.heap K1.out (by have := H.out.lt; omega))
    have R9 := Lib.hid ((RK.of (g := g) BX.out).trans hk9)
    have SZ9 := Lib.hid hk9.size
    obtain ⟨z0, z1, z2, zf⟩ := bx_cells3 K9.out
    have f0 := zf 0
    have f1 := zf 1
    have f2 := zf 2
    have HS := Lib.hid (bx_set3 K9.out)
    clear zf
    clear CT hk9
    cases RES with
    | bad l5 n5 er =>
      obtain ⟨v, rfl, ⟨y, rfl⟩, her, hr5⟩ := hgot
      have HR5 := Lib.hid hr5
      have HER := Lib.hid her
      clear her hr5
      go_wp2
      obtain ⟨F, hF, hbF, hsF⟩ := HS.out (.int .i64 y.t.k) (.slice y.A y.t.v.length y.c) (.slice y.A' y.t.p.length y.c')
      rw [← hF]
      obtain ⟨r0, r1, r2, _⟩ := bx_cells3 hbF
      refine bodyPost_ret (v := .tuple #[y.val, .int .i64 er]) (by simp [results, Tryz.results158, go_sem, r0, r1, r2]) rfl ?_
      exact ⟨⟨_, rfl, ⟨y, rfl⟩, HER.out, HR5.out.same hsF H.out.lt⟩, hsF.fresh R9.out (Nat.le_refl _)⟩
    | ok x l5 n5 =>
      obtain ⟨v, rfl, ⟨y, rfl, hyt, hyR⟩, hr5⟩ := hgot
      have HR5 := Lib.hid hr5
      have HY := Lib.hid (And.intro hyt hyR)
      clear hyt hyR hr5
      go_wp2
      obtain ⟨F, hF, hbF, hsF⟩ := HS.out (.int .i64 y.t.k) (.slice y.A y.t.v.length y.c) (.slice y.A' y.t.p.length y.c')
      rw [← hF]
      obtain ⟨r0, r1, r2, _⟩ := bx_cells3 hbF
      refine bodyPost_ret (v := .tuple #[y.val, .int .i64 0]) (by simp [results, Tryz.results158, go_sem, r0, r1, r2]) rfl ?_
      refine ⟨⟨_, rfl, ⟨y, rfl, HY.out.1, ?_⟩, HR5.out.same hsF H.out.lt⟩, hsF.fresh R9.out (Nat.le_refl _)⟩
      have bx := BX.out.size
      have sx := SX.out
      have sx2 := SXX.out
      exact RP.wide (by omega) (Nat.le_of_eq hsF.size.symm) (RP.keep (hsF.kept (by omega)) HY.out.2)
  have hk9 : ((k : Int) == 1000) = true := by rw [hk1]; rfl
  have CN := next_any X g n q l HX.out
  obtain ⟨t, ht⟩ : ∃ t, hdT l = t := ⟨_, rfl⟩
  rw [ht] at CN
  replace CN := Lib.hid CN
  have HT := Lib.hid ht
  have HK := Lib.hid hk1
  clear ht hk1
  go_wp2_with fail
  refine CN.out.mono ?_
  rintro e w1 ⟨rfl, hb1⟩
  have B1 := Lib.hid hb1
  have CK := Lib.hid (kindT_any w1 t)
  obtain ⟨kd, hkd⟩ : ∃ z, kindT t = z := ⟨_, rfl⟩
  rw [hkd] at CK
  have HKD := Lib.hid hkd
  clear CN hb1 hkd
  go_wp2_with fail
  refine CK.out.mono ?_
  rintro e w2 ⟨rfl, hb2⟩
  have BB := Lib.hid (bnext B1.out hb2)
  replace BX := Lib.hid (bnext BX.out BB.out)
  have SXX : Hid (X.heap.size ≤ w2.heap.size) := Lib.hid BB.out.size
  have K2 := Lib.hid ((BB.out.block _ (by have := SX.out; omega)).trans K1.out)
  have H2 := Lib.hid (HX.out.next BB.out)
  have y5 := cell_below BB.out x5 (by have := SX.out; show b5 < X.heap.size; omega)
  have y8 := cell_below BB.out x8 (by have := SX.out; show b8 < X.heap.size; omega)
  clear CK hb2 x5 x8 K1
  by_cases hkz : kd = 0
  case neg =>
    have e9 : (kd == 0) = false := by rw [beq_eq_false_iff_ne]; exact hkz
    have FIN := Lib.hid (show .bad l n 3 = RES by rw [← HRES.out]; unfold rdP; rw [if_pos ⟨HK.out, by rw [HT.out, HKD.out]; exact hkz⟩])
    clear hkz
    obtain ⟨z0, z1, z2, zf⟩ := bx_cells3 K2.out
    have f0 := zf 0
    have f1 := zf 1
    have f2 := zf 2
    have HS := Lib.hid (bx_set3 K2.out)
    clear zf
    go_wp2
    obtain ⟨F, hF, hbF, hsF⟩ := HS.out (.int .i64 0) (.slice none 0 0) (.slice none 0 0)
    rw [← hF]
    obtain ⟨r0, r1, r2, _⟩ := bx_cells3 hbF
    refine bodyPost_ret (v := .tuple #[.agg #[.int .i64 0, .slice none 0 0, .slice none 0 0], .int .i64 3]) (by simp [results, Tryz.results158, go_sem, r0, r1, r2]) rfl ?_
    rw [← FIN.out]
    exact ⟨⟨_, rfl, ⟨⟨zP, none, 0, none, 0⟩, rfl⟩, by decide, H2.out.same hsF H.out.lt⟩, hsF.fresh (RK.of BX.out) (Nat.le_refl _)⟩
  have e9 : (kd == 0) = true := by rw [hkz]; rfl
  have FRES := Lib.hid (show prdT r l n = RES by rw [← HRES.out]; unfold rdP; rw [if_neg (fun e => e.2 (by rw [HT.out, HKD.out]; exact hkz))])
  clear hkz
  have CT := IH.out w2 g n q lev l HLV.out.1 HLV.out.2 H2.out
  rw [FRES.out] at CT
  replace CT := Lib.hid CT
  go_wp2_with fail
  refine CT.out.mono ?_
  rintro e w9 ⟨hgot, hk9⟩
  have K9 := Lib.hid (hk9.heap K2.out (by have := H.out.lt; omega))
  have R9 := Lib.hid ((RK.of (g := g) BX.out).trans hk9)
  have SZ9 := Lib.hid hk9.size
  obtain ⟨z0, z1, z2, zf⟩ := bx_cells3 K9.out
  have f0 := zf 0
  have f1 := zf 1
  have f2 := zf 2
  have HS := Lib.hid (bx_set3 K9.out)
  clear zf
  clear CT hk9
  cases RES with
  | bad l5 n5 er =>
    obtain ⟨v, rfl, ⟨y, rfl⟩, her, hr5⟩ := hgot
    have HR5 := Lib.hid hr5
    have HER := Lib.hid her
    clear her hr5
    go_wp2
    obtain ⟨F, hF, hbF, hsF⟩ := HS.out (.int .i64 y.t.k) (.slice y.A y.t.v.length y.c) (.slice y.A' y.t.p.length y.c')
    rw [← hF]
    obtain ⟨r0, r1, r2, _⟩ := bx_cells3 hbF
    refine bodyPost_ret (v := .tuple #[y.val, .int .i64 er]) (by simp [results, Tryz.results158, go_sem, r0, r1, r2]) rfl ?_
    exact ⟨⟨_, rfl, ⟨y, rfl⟩, HER.out, HR5.out.same hsF H.out.lt⟩, hsF.fresh R9.out (Nat.le_refl _)⟩
  | ok x l5 n5 =>
    obtain ⟨v, rfl, ⟨y, rfl, hyt, hyR⟩, hr5⟩ := hgot
    have HR5 := Lib.hid hr5
    have HY := Lib.hid (And.intro hyt hyR)
    clear hyt hyR hr5
    go_wp2
    obtain ⟨F, hF, hbF, hsF⟩ := HS.out (.int .i64 y.t.k) (.slice y.A y.t.v.length y.c) (.slice y.A' y.t.p.length y.c')
    rw [← hF]
    obtain ⟨r0, r1, r2, _⟩ := bx_cells3 hbF
    refine bodyPost_ret (v := .tuple #[y.val, .int .i64 0]) (by simp [results, Tryz.results158, go_sem, r0, r1, r2]) rfl ?_
    refine ⟨⟨_, rfl, ⟨y, rfl, HY.out.1, ?_⟩, HR5.out.same hsF H.out.lt⟩, hsF.fresh R9.out (Nat.le_refl _)⟩
    have bx := BX.out.size
    have sx := SX.out
    have sx2 := SXX.out
    exact RP.wide (by omega) (Nat.le_of_eq hsF.size.symm) (RP.keep (hsF.kept (by omega)) HY.out.2)
def psD : Nat → Tmp := fun j => [10, 11, 12, 13, 14, 15, 16, 17, 6, 7].getD j 0
def psE : Nat → List Nat := fun j => [[], [0], [1], [], [], [], [], [], [], []].getD j []

set_option maxHeartbeats 6400000 in
theorem prds_step (r : Nat) (ih : PrdOk r) : PrdsOk r := by
  intro w g n q lev l a mo hlev hr h
  have H := Lib.hid h
  have IH := Lib.hid ih
  have HLV := Lib.hid (And.intro hlev hr)
  clear h ih hlev hr
  obtain ⟨RES, hRES⟩ : ∃ x, btw [40] [41] a mo (rdP (prdT r)) l n = x := ⟨_, rfl⟩
  rw [hRES]
  have HRES := Lib.hid hRES
  clear hRES
  go_enter Tryz.func139, Tryz.ntmps139
  go_upto_region 2 with fail
  generalize hW : World.alloc (World.alloc (World.alloc w _) _) _ = W
  obtain ⟨k1, k2, k3⟩ : W.heap[w.heap.size]? = some (.cells #[.pointer (some ⟨g, 0, none⟩)] 60 (0, 0)) ∧ W.heap[w.heap.size + 1]? = some (.cells #[.int .i64 a, .bool mo] 151 (0, 0)) ∧ W.heap[w.heap.size + 1 + 1]? = some (.cells #[.int .i64 lev] 3 (0, 0)) := by rw [← hW]; exact three_new _ _ _ _
  have HB : Hid (Below w.heap.size w W) := Lib.hid (by rw [← hW]; exact below_new3 _ _ _ _)
  have SW : Hid (W.heap.size = w.heap.size + 3) := Lib.hid (by rw [← hW]; simp)
  obtain ⟨a0, a1, _⟩ := bx_cells2 k2
  have P0 := Lib.hid (bx_cells1 k1)
  have A0 := Lib.hid a0
  have A1 := Lib.hid a1
  have BT : Hid (∀ X : World, Below W.heap.size W X → Calls Tryz.prog 159 #[.pointer (some ⟨g, 0, none⟩), .string ⟨#[40]⟩, .agg #[.int .i64 a, .bool mo], .func (.func 158) #[] #[.pointer (some ⟨w.heap.size, 0, none⟩), .pointer (some ⟨w.heap.size + 1 + 1, 0, none⟩)], .string ⟨#[41]⟩] X (Got g q w (OksP (r + 1) w) (fun v => v = .slice none 0 0) RES)) := Lib.hid (fun X hX => by
    have hwX := bnext HB.out hX
    have sw := SW.out
    have hg := H.out.lt
    refine (btw_P g n (r + 1) q X l [40] [41] a mo (rdP (prdT r)) _ _ (H.out.next hwX) (rdP_less (prd_less r)) (clos_P r IH.out HLV.out.2 X g _ _ q lev HLV.out.1 ((hX.block _ (by omega)).trans k1) ((hX.block _ (by omega)).trans k3) (by omega) (by omega))).mono ?_
    intro e w' hgot
    rw [HRES.out] at hgot
    exact hgot.up hwX (fun vs w2 v hv => by
      obtain ⟨A, c, e, hr⟩ := hv
      exact ⟨A, c, e, PRow.imp hr (Kept.refl _ _ _) hwX.size (Nat.le_refl _) (fun _ _ _ _ _ h => Pd.imp (Kept.refl _ _ _) hwX.size (Nat.le_refl _) (Nat.le_refl _) h)⟩))
  clear hW k1 k2 k3 a0 a1
  refine region_phase [0, 1, 2, 3, 4] [] psD psE 4 (fun w' => Below W.heap.size W w') (saidOf [Is (.pointer (some ⟨g, 0, none⟩)), Is (.pointer (some ⟨g, 0, none⟩)), Is (.pointer (some ⟨g, 0, none⟩)), Is (.agg #[.int .i64 a, .bool mo]), Is (.func (.func 158) #[] #[.pointer (some ⟨w.heap.size, 0, none⟩), .pointer (some ⟨w.heap.size + 1 + 1, 0, none⟩)]), fun _ _ => True, fun _ _ => True, fun _ _ => True, fun _ _ => True, fun _ _ => True]) 18 (by rfl) (by kernel_rfl) (by kernel_rfl) (fun _ _ h hb => h.trans (hb.mono h.size)) (stays_said _ (stays_cons (Is.stays _) (stays_cons (Is.stays _) (stays_cons (Is.stays _) (stays_cons (Is.stays _) (stays_cons (Is.stays _) (stays_cons (fun _ _ _ _ _ => trivial) (stays_cons (fun _ _ _ _ _ => trivial) (stays_cons (fun _ _ _ _ _ => trivial) (stays_cons (fun _ _ _ _ _ => trivial) (stays_cons (fun _ _ _ _ _ => trivial) stays_nil))))))))))) (below_drewN _ _ 1) (by kernel_rfl) ?_ ?_
  · skip
    refine owes_cons (Owes.mk (o := ({ dst := some 10, op := .load 60 (.tmp 3), type := 60, pos := "pred.go:32", after := #[], guard := none } : Oper)) rfl (fun v wk hj hD K hK => ?_)) ?_
    · simp only [psD, psE, putAll, Act.put, List.getD_cons_zero, List.setIfInBounds_toArray, List.set_cons_zero, List.set_cons_succ] at hK ⊢
      have p0 : wk.cell? ⟨w.heap.size, 0, none⟩ = some (.pointer (some ⟨g, 0, none⟩)) := cell_below hj P0.out (by have := SW.out; show w.heap.size < W.heap.size; omega)
      go_simp
      exact hK.out _ _ (Below.refl _ _) rfl
    refine owes_cons (Owes.mk (o := ({ dst := some 11, op := .nilCheck (.tmp 10), type := 0, pos := "pred.go:32", after := #[{ on := 0, ground := .data }], guard := none } : Oper)) rfl (fun v wk hj hD K hK => ?_)) ?_
    · have h0 : v 0 = (.pointer (some ⟨g, 0, none⟩)) := hD 0 (by decide)
      simp only [psD, psE, putAll, Act.put, List.getD_cons_succ, List.getD_cons_zero, List.setIfInBounds_toArray, List.set_cons_zero, List.set_cons_succ, h0] at hK ⊢
      go_simp
      exact hK.out _ _ (Below.refl _ _) rfl
    refine owes_cons (Owes.mk (o := ({ dst := some 12, op := .fieldAddr 64 (.tmp 11) 0, type := 0, pos := "pred.go:32", after := #[{ on := 1, ground := .data }], guard := none } : Oper)) rfl (fun v wk hj hD K hK => ?_)) ?_
    · have h1 : v 1 = (.pointer (some ⟨g, 0, none⟩)) := hD 1 (by decide)
      simp only [psD, psE, putAll, Act.put, List.getD_cons_succ, List.getD_cons_zero, List.setIfInBounds_toArray, List.set_cons_zero, List.set_cons_succ, h1] at hK ⊢
      go_simp
      exact hK.out _ _ (Below.refl _ _) rfl
    refine owes_cons (Owes.mk (o := ({ dst := some 13, op := .load 151 (.tmp 4), type := 151, pos := "pred.go:32", after := #[], guard := none } : Oper)) rfl (fun v wk hj hD K hK => ?_)) ?_
    · simp only [psD, psE, putAll, Act.put, List.getD_cons_succ, List.getD_cons_zero, List.setIfInBounds_toArray, List.set_cons_zero, List.set_cons_succ] at hK ⊢
      have a0 : wk.cell? ⟨w.heap.size + 1, 0, none⟩ = some (.int .i64 a) := cell_below hj A0.out (by have := SW.out; show w.heap.size + 1 < W.heap.size; omega)
      have a1 : wk.cell? ⟨w.heap.size + 1, 1, none⟩ = some (.bool mo) := cell_below hj A1.out (by have := SW.out; show w.heap.size + 1 < W.heap.size; omega)
      go_simp
      exact hK.out _ _ (Below.refl _ _) rfl
    refine owes_cons (Owes.mk (o := ({ dst := some 14, op := .move (.tmp 8), type := 174, pos := "pred.go:32", after := #[], guard := none } : Oper)) rfl (fun v wk hj hD K hK => ?_)) ?_
    · simp only [psD, psE, putAll, Act.put, List.getD_cons_succ, List.getD_cons_zero, List.setIfInBounds_toArray, List.set_cons_zero, List.set_cons_succ] at hK ⊢
      go_simp
      exact hK.out _ _ (Below.refl _ _) rfl
    exact owes_nil
  · intro p v wq h1 h2 hj hr
    obtain rfl := marks_all h1 (fun m hm => h2 m hm (by simp))
    have e0 : v 0 = (.pointer (some ⟨g, 0, none⟩)) := hr 0 (by decide) (by decide)
    have e1 : v 1 = (.pointer (some ⟨g, 0, none⟩)) := hr 1 (by decide) (by decide)
    have e2 : v 2 = (.pointer (some ⟨g, 0, none⟩)) := hr 2 (by decide) (by decide)
    have e3 : v 3 = (.agg #[.int .i64 a, .bool mo]) := hr 3 (by decide) (by decide)
    have e4 : v 4 = (.func (.func 158) #[] #[.pointer (some ⟨w.heap.size, 0, none⟩), .pointer (some ⟨w.heap.size + 1 + 1, 0, none⟩)]) := hr 4 (by decide) (by decide)
    rw [show List.filter (fun k => [0, 1, 2, 3, 4].contains k) [0, 1, 2, 3, 4] = [0, 1, 2, 3, 4] from rfl]
    simp only [psD, putAll, Act.put, List.getD_cons_succ, List.getD_cons_zero, List.setIfInBounds_toArray, List.set_cons_zero, List.set_cons_succ, e0, e1, e2, e3, e4]
    have HJ := Lib.hid hj
    clear hj hr h1 h2 e0 e1 e2 e3 e4
    refine anyN_any (S := fun _ => True) (N := []) _ _ _ _ ?_
    refine anyN_one (i := 5) (o := ({ dst := some 15, op := .call { callee := .value (.func 159), args := #[.tmp 12, .const (.string { data := #[40] }), .tmp 13, .tmp 14, .const (.string { data := #[41] })], argTypes := #[99, 9, 151, 174, 9] }, type := 187, pos := "pred.go:32", after := #[{ on := 2, ground := .data }, { on := 3, ground := .data }, { on := 4, ground := .data }], guard := none } : Oper)) (by kernel_rfl) rfl (fun K hK => ?_)
    have CB := Lib.hid (BT.out wq HJ.out)
    rw [if_pos (by simp [Region.wanted])]
    go_simp
    refine CB.out.mono ?_
    rintro e w9 hgot
    obtain ⟨v9, er9, rfl⟩ := Got.form hgot
    have HGOT := Lib.hid hgot
    clear hgot CB
    refine hK.out _ _ (fun _ => trivial) ?_
    clear hK K
    try simp only [Act.put, List.setIfInBounds_toArray, List.set_cons_zero, List.set_cons_succ]
    refine anyN_two (i := 6) (j := 7) (oi := ({ dst := some 16, op := .extract (.tmp 15) 0, type := 78, pos := "pred.go:32", after := #[{ on := 5, ground := .data }], guard := none } : Oper)) (oj := ({ dst := some 17, op := .extract (.tmp 15) 1, type := 25, pos := "pred.go:32", after := #[{ on := 5, ground := .data }], guard := none } : Oper)) (by kernel_rfl) rfl rfl ?_ ?_
    · intro K hK
      go_simp
      refine hK.out _ _ (fun _ => trivial) ?_
      clear hK K
      try simp only [Act.put, List.setIfInBounds_toArray, List.set_cons_zero, List.set_cons_succ]
      refine anyN_one (i := 7) (o := ({ dst := some 17, op := .extract (.tmp 15) 1, type := 25, pos := "pred.go:32", after := #[{ on := 5, ground := .data }], guard := none } : Oper)) (by kernel_rfl) rfl ?_
      intro K hK
      go_simp
      refine hK.out _ _ (fun _ => trivial) ?_
      clear hK K
      try simp only [Act.put, List.setIfInBounds_toArray, List.set_cons_zero, List.set_cons_succ]
      refine anyN_one (i := 8) (o := ({ dst := some 6, op := .assign (.tmp 16), type := 78, pos := "pred.go:32", after := #[{ on := 6, ground := .data }, { on := 5, ground := .chain }, { on := 0, ground := .phase }, { on := 1, ground := .phase }, { on := 2, ground := .phase }, { on := 3, ground := .phase }, { on := 4, ground := .phase }, { on := 5, ground := .phase }, { on := 6, ground := .phase }, { on := 7, ground := .phase }], guard := none } : Oper)) (by kernel_rfl) rfl ?_
      intro K hK
      go_simp
      refine hK.out _ _ (fun _ => trivial) ?_
      clear hK K
      try simp only [Act.put, List.setIfInBounds_toArray, List.set_cons_zero, List.set_cons_succ]
      refine anyN_one (i := 9) (o := ({ dst := some 7, op := .assign (.tmp 17), type := 25, pos := "pred.go:32", after := #[{ on := 7, ground := .data }, { on := 8, ground := .chain }, { on := 0, ground := .phase }, { on := 1, ground := .phase }, { on := 2, ground := .phase }, { on := 3, ground := .phase }, { on := 4, ground := .phase }, { on := 5, ground := .phase }, { on := 6, ground := .phase }, { on := 7, ground := .phase }, { on := 8, ground := .phase }], guard := none } : Oper)) (by kernel_rfl) rfl ?_
      intro K hK
      go_simp
      refine hK.out _ _ (fun _ => trivial) ?_
      clear hK K
      try simp only [Act.put, List.setIfInBounds_toArray, List.set_cons_zero, List.set_cons_succ]
      refine anyN_done (by kernel_rfl) ?_ _
      go_wp2
      go_ret2
      exact HGOT.out
    · intro K hK
      go_simp
      refine hK.out _ _ (fun _ => trivial) ?_
      clear hK K
      try simp only [Act.put, List.setIfInBounds_toArray, List.set_cons_zero, List.set_cons_succ]
      refine anyN_one (i := 6) (o := ({ dst := some 16, op := .extract (.tmp 15) 0, type := 78, pos := "pred.go:32", after := #[{ on := 5, ground := .data }], guard := none } : Oper)) (by kernel_rfl) rfl ?_
      intro K hK
      go_simp
      refine hK.out _ _ (fun _ => trivial) ?_
      clear hK K
      try simp only [Act.put, List.setIfInBounds_toArray, List.set_cons_zero, List.set_cons_succ]
      refine anyN_one (i := 8) (o := ({ dst := some 6, op := .assign (.tmp 16), type := 78, pos := "pred.go:32", after := #[{ on := 6, ground := .data }, { on := 5, ground := .chain }, { on := 0, ground := .phase }, { on := 1, ground := .phase }, { on := 2, ground := .phase }, { on := 3, ground := .phase }, { on := 4, ground := .phase }, { on := 5, ground := .phase }, { on := 6, ground := .phase }, { on := 7, ground := .phase }], guard := none } : Oper)) (by kernel_rfl) rfl ?_
      intro K hK
      go_simp
      refine hK.out _ _ (fun _ => trivial) ?_
      clear hK K
      try simp only [Act.put, List.setIfInBounds_toArray, List.set_cons_zero, List.set_cons_succ]
      refine anyN_one (i := 9) (o := ({ dst := some 7, op := .assign (.tmp 17), type := 25, pos := "pred.go:32", after := #[{ on := 7, ground := .data }, { on := 8, ground := .chain }, { on := 0, ground := .phase }, { on := 1, ground := .phase }, { on := 2, ground := .phase }, { on := 3, ground := .phase }, { on := 4, ground := .phase }, { on := 5, ground := .phase }, { on := 6, ground := .phase }, { on := 7, ground := .phase }, { on := 8, ground := .phase }], guard := none } : Oper)) (by kernel_rfl) rfl ?_
      intro K hK
      go_simp
      refine hK.out _ _ (fun _ => trivial) ?_
      clear hK K
      try simp only [Act.put, List.setIfInBounds_toArray, List.set_cons_zero, List.set_cons_succ]
      refine anyN_done (by kernel_rfl) ?_ _
      go_wp2
      go_ret2
      exact HGOT.out
set_option maxHeartbeats 6400000 in
theorem prd_step (r : Nat) (ih : ∀ s, r = s + 1 → PrdsOk s) : PrdOk r := by
  intro w g n q lev l hlev hr h
  have H := Lib.hid h
  have IH := Lib.hid ih
  have hl0 : (1 : Int) ≤ lev := by omega
  have hl1 : lev ≤ 13 := by omega
  have HLV := Lib.hid (And.intro hlev hr)
  obtain ⟨RES, hRES⟩ : ∃ x, prdT r l n = x := ⟨_, rfl⟩
  rw [hRES]
  have HRES := Lib.hid hRES
  obtain ⟨kd, hkd⟩ : ∃ z, kindT (hdT l) = z := ⟨_, rfl⟩
  have HKD := Lib.hid hkd
  have CN := next_any (w.alloc (.cells #[.int .i64 0, .slice none 0 0, .slice none 0 0] 80)) g n q l (h.next (below_new _ _))
  have CK := Lib.hid (fun W => by have := kindT_any W (hdT l); rw [hkd] at this; exact this)
  have ENE := Lib.hid (fun (hb : kd ≠ 0) => kindT_cons (l := l) (by rw [hkd]; exact hb))
  have KR := Lib.hid (show 0 ≤ kd ∧ kd ≤ 14 by rw [← hkd]; exact kind_range _)
  generalize hdT l = t at CN CK
  replace CN := Lib.hid CN
  clear h ih hRES hlev hr hkd
  go_enter Tryz.func118, Tryz.ntmps118
  go_upto_region 1 with fail
  have k1 := new_blk w (.cells #[.int .i64 0, .slice none 0 0, .slice none 0 0] 80)
  generalize hX : World.alloc w _ = X at k1 CN
  have HB : Hid (Below w.heap.size w X) := Lib.hid (by rw [← hX]; exact below_new _ _)
  have K1 := Lib.hid k1
  have SX : Hid (X.heap.size = w.heap.size + 1) := Lib.hid (by rw [← hX]; simp)
  clear hX k1
  go_wp2_with fail
  refine CN.out.mono ?_
  rintro e w1 ⟨rfl, hb⟩
  have B1 := Lib.hid (bnext HB.out hb)
  have S1 := Lib.hid hb.size
  have K2 := Lib.hid ((hb.block _ (by have := SX.out; omega)).trans K1.out)
  have CKK := Lib.hid (CK.out w1)
  clear CN hb K1 HB
  go_wp2_with fail
  refine CKK.out.mono ?_
  rintro e w2 ⟨rfl, hb⟩
  have HBX := Lib.hid (bnext B1.out hb)
  have S2 := Lib.hid hb.size
  have KB := Lib.hid ((hb.block _ (by have := S1.out; have := SX.out; omega)).trans K2.out)
  have HR2 := Lib.hid (H.out.next HBX.out)
  clear CKK CK hb K2 B1
  by_cases hk0 : kd = 0
  case pos =>
    have e0 : (kd == 0) = true := by rw [hk0]; rfl
    have FIN := Lib.hid (show .bad l n 30 = RES by rw [← HRES.out]; cases r <;> rw [prdT, HKD.out, if_pos hk0])
    clear hk0
    obtain ⟨z0, z1, z2, zf⟩ := bx_cells3 KB.out
    have f0 := zf 0
    have f1 := zf 1
    have f2 := zf 2
    have HS := Lib.hid (bx_set3 KB.out)
    clear zf
    go_wp2
    obtain ⟨F, hF, hbF, hsF⟩ := HS.out (.int .i64 0) (.slice none 0 0) (.slice none 0 0)
    rw [← hF]
    obtain ⟨r0, r1, r2, _⟩ := bx_cells3 hbF
    refine bodyPost_ret (v := .tuple #[.agg #[.int .i64 0, .slice none 0 0, .slice none 0 0], .int .i64 30]) (by simp [results, Tryz.results118, go_sem, r0, r1, r2]) rfl ?_
    rw [← FIN.out]
    exact ⟨⟨_, rfl, ⟨⟨zP, none, 0, none, 0⟩, rfl⟩, by decide, HR2.out.same hsF H.out.lt⟩, hsF.fresh (RK.of HBX.out) (Nat.le_refl _)⟩
  have e0 : (kd == 0) = false := by rw [beq_eq_false_iff_ne]; exact hk0
  by_cases h13 : 12 < lev
  case pos =>
    have FIN := Lib.hid (show .bad l n 3 = RES by
      have h0 : r = 0 := by have := HLV.out; omega
      subst h0
      rw [← HRES.out, prdT, HKD.out, if_neg hk0])
    clear hk0
    obtain ⟨z0, z1, z2, zf⟩ := bx_cells3 KB.out
    have f0 := zf 0
    have f1 := zf 1
    have f2 := zf 2
    have HS := Lib.hid (bx_set3 KB.out)
    clear zf
    go_wp2
    obtain ⟨F, hF, hbF, hsF⟩ := HS.out (.int .i64 0) (.slice none 0 0) (.slice none 0 0)
    rw [← hF]
    obtain ⟨r0, r1, r2, _⟩ := bx_cells3 hbF
    refine bodyPost_ret (v := .tuple #[.agg #[.int .i64 0, .slice none 0 0, .slice none 0 0], .int .i64 3]) (by simp [results, Tryz.results118, go_sem, r0, r1, r2]) rfl ?_
    rw [← FIN.out]
    exact ⟨⟨_, rfl, ⟨⟨zP, none, 0, none, 0⟩, rfl⟩, by decide, HR2.out.same hsF H.out.lt⟩, hsF.fresh (RK.of HBX.out) (Nat.le_refl _)⟩
  obtain ⟨s, hs⟩ : ∃ s, r = s + 1 := ⟨r - 1, by have := HLV.out; omega⟩
  subst hs
  obtain ⟨x, l3, rfl⟩ := ENE.out hk0
  have CS := Lib.hid (skip_any w2 g n q x l3 HR2.out)
  have PRD := Lib.hid (show RES = if madeT kd = true then (btw [40] [41] (hasT kd).1 (hasT kd).2 (rdP (prdT s)) l3 n).map (fun ps => .mk kd [] ps) else (btw [40] [41] (hasT kd).1 (hasT kd).2 (rdV (valT 12)) l3 n).map (fun vs => .mk kd vs []) by
    rw [← HRES.out, prdT, HKD.out, if_neg hk0]; rfl)
  clear hk0
  go_wp2_with fail
  refine CS.out.mono ?_
  rintro e w3 ⟨rfl, hr, hk⟩
  have HR3 := Lib.hid hr
  have R3 := Lib.hid ((RK.of (g := g) HBX.out).trans hk)
  have KB3 := Lib.hid (hk.heap KB.out (by have := H.out.lt; omega))
  have S3 := Lib.hid hk.size
  have CM := Lib.hid (made_any w3 kd)
  obtain ⟨bm, hbm⟩ : ∃ b, madeT kd = b := ⟨_, rfl⟩
  rw [hbm] at CM PRD
  clear CS hr hk hbm
  go_wp2_with fail
  refine CM.out.mono ?_
  rintro e w4 ⟨rfl, hw4⟩
  subst hw4
  have CH := Lib.hid (has_any w4 kd)
  obtain ⟨a, ha⟩ : ∃ z, (hasT kd).1 = z := ⟨_, rfl⟩
  obtain ⟨mo, hmo⟩ : ∃ z, (hasT kd).2 = z := ⟨_, rfl⟩
  rw [ha, hmo] at CH PRD
  clear CM ha hmo
  have HW := Lib.hid (show IntKind.i64.wrap (lev + 1) = lev + 1 from IntWalk.i64_in _ (by omega))
  have hw := HW.out
  cases bm
  case true =>
    replace PRD := Lib.hid (show RES = (btw [40] [41] a mo (rdP (prdT s)) l3 n).map (fun ps => .mk kd [] ps) by rw [PRD.out, if_pos rfl])
    go_wp2_with fail
    refine CH.out.mono ?_
    rintro e w5 ⟨rfl, hb⟩
    have HR5 := Lib.hid (HR3.out.next hb)
    have R5 := Lib.hid (R3.out.then hb)
    have KB5 := Lib.hid ((hb.block _ ((Array.getElem?_eq_some_iff.1 KB3.out).1)).trans KB3.out)
    have S5 := Lib.hid hb.size
    have CV := IH.out s rfl w5 g n q (lev + 1) l3 a mo (by have := HLV.out.1; omega) (by have := HLV.out.2; omega) HR5.out
    obtain ⟨R2, hR2⟩ : ∃ x, btw [40] [41] a mo (rdP (prdT s)) l3 n = x := ⟨_, rfl⟩
    rw [hR2] at CV PRD
    replace CV := Lib.hid CV
    clear CH hb hR2
    go_wp2_with fail
    refine CV.out.mono ?_
    rintro e w6 ⟨hgot, hk6⟩
    have R6 := Lib.hid (R5.out.trans hk6)
    have KB6 := Lib.hid (hk6.heap KB5.out (by have := H.out.lt; omega))
    clear CV hk6 hw
    cases R2 with
    | bad l5 n5 er =>
      obtain ⟨v, rfl, rfl, her, hr5⟩ := hgot
      have HRF := Lib.hid hr5
      have HER := Lib.hid her
      have FIN := Lib.hid (show .bad l5 n5 er = RES from PRD.out.symm)
      clear her hr5
      obtain ⟨z0, z1, z2, zf⟩ := bx_cells3 KB6.out
      have f0 := zf 0
      have f1 := zf 1
      have f2 := zf 2
      have HS := Lib.hid (bx_set3 KB6.out)
      clear zf
      go_wp2
      obtain ⟨F, hF, hbF, hsF⟩ := HS.out (.int .i64 kd) (.slice none 0 0) (.slice none 0 0)
      rw [← hF]
      obtain ⟨r0, r1, r2, _⟩ := bx_cells3 hbF
      refine bodyPost_ret (v := .tuple #[.agg #[.int .i64 kd, .slice none 0 0, .slice none 0 0], .int .i64 er]) (by simp [results, Tryz.results118, go_sem, r0, r1, r2]) rfl ?_
      rw [← FIN.out]
      exact ⟨⟨_, rfl, ⟨⟨.mk kd [] [], none, 0, none, 0⟩, rfl⟩, HER.out, HRF.out.same hsF H.out.lt⟩, hsF.fresh R6.out (Nat.le_refl _)⟩
    | ok vs l5 n5 =>
      obtain ⟨v, rfl, ⟨A, c, rfl, hrow⟩, hr5⟩ := hgot
      have HRF := Lib.hid hr5
      have HROW := Lib.hid hrow
      have FIN := Lib.hid (show .ok (P.mk kd [] vs) l5 n5 = RES from PRD.out.symm)
      clear hrow hr5
      obtain ⟨z0, z1, z2, zf⟩ := bx_cells3 KB6.out
      have f0 := zf 0
      have f1 := zf 1
      have f2 := zf 2
      have HS := Lib.hid (bx_set3 KB6.out)
      clear zf
      go_wp2
      obtain ⟨F, hF, hbF, hsF⟩ := HS.out (.int .i64 kd) (.slice none 0 0) (.slice A vs.length c)
      rw [← hF]
      obtain ⟨r0, r1, r2, _⟩ := bx_cells3 hbF
      refine bodyPost_ret (v := .tuple #[.agg #[.int .i64 kd, .slice none 0 0, .slice A vs.length c], .int .i64 0]) (by simp [results, Tryz.results118, go_sem, r0, r1, r2]) rfl ?_
      rw [← FIN.out]
      refine ⟨⟨_, rfl, ⟨⟨.mk kd [] vs, none, 0, A, c⟩, rfl, rfl, ?_⟩, HRF.out.same hsF H.out.lt⟩, hsF.fresh R6.out (Nat.le_refl _)⟩
      have hx := HBX.out.size
      have sx := SX.out
      have s1 := S1.out
      have s2 := S2.out
      have s3 := S3.out
      have s5 := S5.out
      have kr := KR.out
      exact ⟨knd_mk kd _ _ kr, ⟨0, rw_nil _ _ _ _⟩, PRow.imp HROW.out (hsF.kept (by omega)) (by omega) (Nat.le_of_eq hsF.size.symm) (fun _ _ _ _ _ h => Pd.imp (hsF.kept (by omega)) (by omega) (Nat.le_of_eq hsF.size.symm) (Nat.le_refl _) h)⟩
  case false =>
    replace PRD := Lib.hid (show RES = (btw [40] [41] a mo (rdV (valT 12)) l3 n).map (fun vs => .mk kd vs []) by rw [PRD.out, if_neg (by simp)])
    go_wp2_with fail
    refine CH.out.mono ?_
    rintro e w5 ⟨rfl, hb⟩
    have HR5 := Lib.hid (HR3.out.next hb)
    have R5 := Lib.hid (R3.out.then hb)
    have KB5 := Lib.hid ((hb.block _ ((Array.getElem?_eq_some_iff.1 KB3.out).1)).trans KB3.out)
    have S5 := Lib.hid hb.size
    have CV := values_any 12 w5 g n q 1 l3 [40] [41] a mo (by decide) (by decide) HR5.out
    rw [show bsT [40] = ⟨#[40]⟩ from rfl, show bsT [41] = ⟨#[41]⟩ from rfl] at CV
    obtain ⟨R2, hR2⟩ : ∃ x, btw [40] [41] a mo (rdV (valT 12)) l3 n = x := ⟨_, rfl⟩
    rw [hR2] at CV PRD
    replace CV := Lib.hid CV
    clear CH hb hR2
    go_wp2_with fail
    refine CV.out.mono ?_
    rintro e w6 ⟨hgot, hk6⟩
    have R6 := Lib.hid (R5.out.trans hk6)
    have KB6 := Lib.hid (hk6.heap KB5.out (by have := H.out.lt; omega))
    clear CV hk6 hw
    cases R2 with
    | bad l5 n5 er =>
      obtain ⟨v, rfl, rfl, her, hr5⟩ := hgot
      have HRF := Lib.hid hr5
      have HER := Lib.hid her
      have FIN := Lib.hid (show .bad l5 n5 er = RES from PRD.out.symm)
      clear her hr5
      obtain ⟨z0, z1, z2, zf⟩ := bx_cells3 KB6.out
      have f0 := zf 0
      have f1 := zf 1
      have f2 := zf 2
      have HS := Lib.hid (bx_set3 KB6.out)
      clear zf
      go_wp2
      obtain ⟨F, hF, hbF, hsF⟩ := HS.out (.int .i64 kd) (.slice none 0 0) (.slice none 0 0)
      rw [← hF]
      obtain ⟨r0, r1, r2, _⟩ := bx_cells3 hbF
      refine bodyPost_ret (v := .tuple #[.agg #[.int .i64 kd, .slice none 0 0, .slice none 0 0], .int .i64 er]) (by simp [results, Tryz.results118, go_sem, r0, r1, r2]) rfl ?_
      rw [← FIN.out]
      exact ⟨⟨_, rfl, ⟨⟨.mk kd [] [], none, 0, none, 0⟩, rfl⟩, HER.out, HRF.out.same hsF H.out.lt⟩, hsF.fresh R6.out (Nat.le_refl _)⟩
    | ok vs l5 n5 =>
      obtain ⟨v, rfl, ⟨A, c, rfl, hrow⟩, hr5⟩ := hgot
      have HRF := Lib.hid hr5
      have HROW := Lib.hid hrow
      have FIN := Lib.hid (show .ok (P.mk kd vs []) l5 n5 = RES from PRD.out.symm)
      clear hrow hr5
      obtain ⟨z0, z1, z2, zf⟩ := bx_cells3 KB6.out
      have f0 := zf 0
      have f1 := zf 1
      have f2 := zf 2
      have HS := Lib.hid (bx_set3 KB6.out)
      clear zf
      go_wp2
      obtain ⟨F, hF, hbF, hsF⟩ := HS.out (.int .i64 kd) (.slice A vs.length c) (.slice none 0 0)
      rw [← hF]
      obtain ⟨r0, r1, r2, _⟩ := bx_cells3 hbF
      refine bodyPost_ret (v := .tuple #[.agg #[.int .i64 kd, .slice A vs.length c, .slice none 0 0], .int .i64 0]) (by simp [results, Tryz.results118, go_sem, r0, r1, r2]) rfl ?_
      rw [← FIN.out]
      refine ⟨⟨_, rfl, ⟨⟨.mk kd vs [], A, c, none, 0⟩, rfl, rfl, ?_⟩, HRF.out.same hsF H.out.lt⟩, hsF.fresh R6.out (Nat.le_refl _)⟩
      have hx := HBX.out.size
      have sx := SX.out
      have s1 := S1.out
      have s2 := S2.out
      have s3 := S3.out
      have s5 := S5.out
      have kr := KR.out
      exact ⟨knd_mk kd _ _ kr, ⟨_, RdRow.imp HROW.out (hsF.kept (by omega)) (by omega) (Nat.le_of_eq hsF.size.symm) (fun _ _ _ _ _ h => Rd.imp (hsF.kept (by omega)) (by omega) (Nat.le_of_eq hsF.size.symm) (Nat.le_refl _) h)⟩, pw_nil _ _ _ _⟩
theorem prd_any : ∀ r, PrdOk r
  | 0 => prd_step 0 (fun _ h => by omega)
  | r + 1 => prd_step (r + 1) (fun s h => by cases h; exact prds_step r (prd_any r))
end Go.Proofs.YtllkimdlmnjoiaaGreatDoor
