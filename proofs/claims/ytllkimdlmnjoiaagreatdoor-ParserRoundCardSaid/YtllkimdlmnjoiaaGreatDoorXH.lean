/- The parser's value, values. -/
import Derived.Test.YtllkimdlmnjoiaaGreatDoorXG
import Derived.Test.YtllkimdlmnjoiaaGreatDoorXF
import Derived.Test.YtllkimdlmnjoiaaGreatDoorZV
namespace Go.Proofs.YtllkimdlmnjoiaaGreatDoor
set_option maxRecDepth 100000
open Go.RowKit Go.Sort

theorem btl_less {α : Type} {last : List UInt8} {a : Int} {m : Bool} {rd : Nat → List Tk → Nat → Rs α} (hp : ∀ k l n x l2 n2, rd k l n = .ok x l2 n2 → l2.length < l.length) :
    ∀ f acc l n vs l2 n2, btl last a m rd f acc l n = .ok vs l2 n2 → l2.length < l.length := by
  intro f
  induction f with
  | zero => intro acc l n vs l2 n2 h; cases h
  | succ f ih =>
    intro acc l n vs l2 n2 h
    rw [btl] at h
    split at h
    · rename_i hs
      simp only [Bool.and_eq_true] at hs
      obtain ⟨x, r, rfl⟩ := sees_cons hs.2
      cases h
      simp
    split at h
    · cases h
    · split at h
      · rename_i x l3 n3 hrd
        have h1 := hp _ _ _ _ _ _ hrd
        have h2 := ih _ _ _ _ _ _ h
        have h3 : (if 0 < acc.length then l.tail else l).length ≤ l.length := by split <;> simp
        omega
      · cases h
theorem btw_less {α : Type} {first last : List UInt8} {a : Int} {m : Bool} {rd : Nat → List Tk → Nat → Rs α} (hp : ∀ k l n x l2 n2, rd k l n = .ok x l2 n2 → l2.length < l.length) {l : List Tk} {n : Nat} {vs : List α} {l2 : List Tk} {n2 : Nat} (h : btw first last a m rd l n = .ok vs l2 n2) : l2.length < l.length := by
  unfold btw at h
  split at h
  · have := btl_less hp _ _ _ _ _ _ _ h
    have h3 : l.tail.length ≤ l.length := by simp
    omega
  · cases h
theorem map_ok {α β : Type} {f : α → β} {r : Rs α} {y : β} {l : List Tk} {n : Nat} (h : r.map f = .ok y l n) : ∃ x, r = .ok x l n ∧ f x = y := by
  cases r with
  | ok x l2 n2 => simp only [Rs.map, Rs.ok.injEq] at h; obtain ⟨rfl, rfl, rfl⟩ := h; exact ⟨x, rfl, rfl⟩
  | bad => cases h
theorem begV_cons {l : List Tk} (h : begV (hdT l) = true) : ∃ x r, l = x :: r := by
  cases l with
  | nil => simp [begV, hdT, E8.TK.zero] at h
  | cons x r => exact ⟨x, r, rfl⟩
theorem rdV_less {val : List Tk → Nat → Rs V} (hv : ∀ l n x l2 n2, val l n = .ok x l2 n2 → l2.length < l.length) : ∀ k l n x l2 n2, rdV val k l n = .ok x l2 n2 → l2.length < l.length := by
  intro k l n x l2 n2 h
  unfold rdV at h
  split at h
  · cases h
  · exact hv _ _ _ _ _ h
theorem val_less : ∀ r l n x l2 n2, valT r l n = .ok x l2 n2 → l2.length < l.length := by
  intro r
  induction r with
  | zero => intro l n x l2 n2 h; rw [valT] at h; split at h <;> cases h
  | succ r ih =>
    intro l n x l2 n2 h
    rw [valT] at h
    split at h
    · rename_i hb
      obtain ⟨y, t, rfl⟩ := begV_cons hb
      split at h
      · obtain ⟨vs, hvs, _⟩ := map_ok h
        exact btw_less (rdV_less ih) hvs
      · cases h
        simp
    · cases h
theorem SameBut.kept {k lo B : Nat} {a b : World} (h : SameBut k a b) (hk : k < lo) : Kept lo B a b := fun i h1 _ => h.block i (by omega)
theorem tmE_ne (l : List Tk) : tmE l ≠ 0 := by unfold tmE; split <;> (try split) <;> decide
theorem bx_cells1 {w : World} {g : Nat} {T : TypeId} {u : Value} (h : w.heap[g]? = some (.cells #[u] T (0, 0))) : w.cell? ⟨g, 0, none⟩ = some u := by simp [World.cell?, h]
def ValOk (r : Nat) : Prop := ∀ (w : World) (g n : Nat) (q lev : Int) (l : List Tk), lev = 13 - r → r ≤ 12 → Rdr w g q l n →
  Calls Tryz.prog 116 #[.pointer (some ⟨g, 0, none⟩), .int .i64 lev] w (Got g q w (OkV (r + 1) w) JkV (valT r l n))
def ValuesOk (r : Nat) : Prop := ∀ (w : World) (g n : Nat) (q lev : Int) (l : List Tk) (first last : List UInt8) (a : Int) (mo : Bool), lev = 13 - r → r ≤ 12 → Rdr w g q l n →
  Calls Tryz.prog 136 #[.pointer (some ⟨g, 0, none⟩), .string (bsT first), .agg #[.int .i64 a, .bool mo], .int .i64 lev, .string (bsT last)] w (Got g q w (OksV (r + 1) w) (fun v => v = .slice none 0 0) (btw first last a mo (rdV (valT r)) l n))
set_option maxHeartbeats 3200000 in
theorem clos_V (r : Nat) (ih : ValOk r) (hr : r ≤ 12) (w : World) (g b5 b8 : Nat) (q lev : Int) (hlev : lev = 13 - r) (h5 : w.heap[b5]? = some (.cells #[.pointer (some ⟨g, 0, none⟩)] 60 (0, 0))) (h8 : w.heap[b8]? = some (.cells #[.int .i64 lev] 3 (0, 0))) (n5 : b5 ≠ g) (n8 : b8 ≠ g) :
    ∀ (W : World) (l : List Tk) (n k : Nat), RK g w W → Rdr W g q l n → k ≤ 20001 → Calls Tryz.prog 156 #[.int .i64 (k : Int), .pointer (some ⟨b5, 0, none⟩), .pointer (some ⟨b8, 0, none⟩)] W (Got g q W (OkV (r + 1) W) JkV (rdV (valT r) k l n)) := by
  intro W l n k hk h hk2
  have c5 := bx_cells1 (hk.heap h5 n5)
  have c8 := bx_cells1 (hk.heap h8 n8)
  have l5 : b5 < W.heap.size := (Array.getElem?_eq_some_iff.1 (hk.heap h5 n5)).1
  have l8 : b8 < W.heap.size := (Array.getElem?_eq_some_iff.1 (hk.heap h8 n8)).1
  have H := Lib.hid h
  have IH := Lib.hid ih
  have C5 := Lib.hid c5
  have C8 := Lib.hid c8
  have HLV := Lib.hid (And.intro hlev hr)
  obtain ⟨RES, hRES⟩ : ∃ x, rdV (valT r) k l n = x := ⟨_, rfl⟩
  rw [hRES]
  have HRES := Lib.hid hRES
  clear hk h ih h5 h8 c5 c8 hRES hlev hr
  go_enter Tryz.func156, Tryz.ntmps156
  go_upto_region 1 with fail
  have k1 := new_blk W (.cells #[.int .i64 0, .int .i64 0, .string ⟨#[]⟩, .slice none 0 0, .slice none 0 0] 77)
  generalize hX : World.alloc W _ = X at k1
  have HB : Hid (Below W.heap.size W X) := Lib.hid (by rw [← hX]; exact below_new _ _)
  have SX : Hid (X.heap.size = W.heap.size + 1) := Lib.hid (by rw [← hX]; simp)
  have K1 := Lib.hid k1
  have x5 := cell_below HB.out C5.out l5
  have x8 := cell_below HB.out C8.out l8
  have HX := Lib.hid (H.out.next HB.out)
  clear hX k1
  by_cases hk1 : k = 1000
  case pos =>
    have hk9 : ((k : Int) == 1000) = true := by rw [hk1]; rfl
    have CT := Lib.hid (tooMany_any X g n q l HX.out)
    obtain ⟨er, her⟩ : ∃ x, x = tmE l := ⟨_, rfl⟩
    rw [← her] at CT
    have FIN := Lib.hid (show .bad l n er = RES by rw [← HRES.out, her]; unfold rdV; rw [if_pos hk1])
    have HNE := Lib.hid (show er ≠ 0 by rw [her]; exact tmE_ne l)
    clear her hk1
    go_wp2_with fail
    refine CT.out.mono ?_
    rintro e w1 ⟨rfl, hb⟩
    have K2 := Lib.hid ((hb.block _ (by have := SX.out; omega)).trans K1.out)
    have H2 := Lib.hid (HX.out.next hb)
    have B2 := Lib.hid (bnext HB.out hb)
    obtain ⟨z0, z1, z2, z3, z4, zf⟩ := bx_cells5 K2.out
    have f0 := zf 0
    have f1 := zf 1
    have f2 := zf 2
    have f3 := zf 3
    have f4 := zf 4
    have HS := Lib.hid (bx_set5 K2.out (.int .i64 0) (.int .i64 0) (.string ⟨#[]⟩) (.slice none 0 0) (.slice none 0 0))
    clear CT hb zf
    go_wp2
    obtain ⟨F, hF, hbF, hsF⟩ := HS.out
    rw [← hF]
    obtain ⟨r0, r1, r2, r3, r4, _⟩ := bx_cells5 hbF
    refine bodyPost_ret (v := .tuple #[.agg #[.int .i64 0, .int .i64 0, .string ⟨#[]⟩, .slice none 0 0, .slice none 0 0], .int .i64 er]) (by simp [results, Tryz.results156, go_sem, r0, r1, r2, r3, r4]) rfl ?_
    rw [← FIN.out]
    exact ⟨⟨_, rfl, ⟨⟨zV, none, 0, none, 0⟩, rfl⟩, HNE.out, H2.out.same hsF H.out.lt⟩, hsF.fresh (RK.of B2.out) (Nat.le_refl _)⟩
  have hk9 : ((k : Int) == 1000) = false := by rw [beq_eq_false_iff_ne]; omega
  have CT := IH.out X g n q lev l HLV.out.1 HLV.out.2 HX.out
  rw [show valT r l n = RES by rw [← HRES.out]; unfold rdV; rw [if_neg hk1]] at CT
  replace CT := Lib.hid CT
  clear hk1
  go_wp2_with fail
  refine CT.out.mono ?_
  rintro e w1 ⟨hgot, hk1⟩
  have K2 := Lib.hid (hk1.heap K1.out (by have := H.out.lt; omega))
  have R2 := Lib.hid ((RK.of (g := g) HB.out).trans hk1)
  have SZ1 := Lib.hid hk1.size
  obtain ⟨z0, z1, z2, z3, z4, zf⟩ := bx_cells5 K2.out
  have f0 := zf 0
  have f1 := zf 1
  have f2 := zf 2
  have f3 := zf 3
  have f4 := zf 4
  have HS := Lib.hid (fun u0 u1 u2 u3 u4 => bx_set5 K2.out u0 u1 u2 u3 u4)
  clear CT hk1 zf
  cases RES with
  | bad l5 n5 er =>
    obtain ⟨v, rfl, ⟨y, rfl⟩, her, hr5⟩ := hgot
    have HR5 := Lib.hid hr5
    have HER := Lib.hid her
    clear her hr5
    go_wp2
    obtain ⟨F, hF, hbF, hsF⟩ := HS.out (.int .i64 y.t.k) (.int .i64 y.t.n) (.string y.t.s) (.slice y.A y.t.l.length y.c) (.slice y.A' y.t.m.length y.c')
    rw [← hF]
    obtain ⟨r0, r1, r2, r3, r4, _⟩ := bx_cells5 hbF
    refine bodyPost_ret (v := .tuple #[y.v, .int .i64 er]) (by simp [results, Tryz.results156, go_sem, r0, r1, r2, r3, r4]) rfl ?_
    exact ⟨⟨_, rfl, ⟨y, rfl⟩, HER.out, HR5.out.same hsF H.out.lt⟩, hsF.fresh R2.out (Nat.le_refl _)⟩
  | ok x l5 n5 =>
    obtain ⟨v, rfl, ⟨y, rfl, hyt, hyR⟩, hr5⟩ := hgot
    have HR5 := Lib.hid hr5
    have HY := Lib.hid (And.intro hyt hyR)
    clear hyt hyR hr5
    go_wp2
    obtain ⟨F, hF, hbF, hsF⟩ := HS.out (.int .i64 y.t.k) (.int .i64 y.t.n) (.string y.t.s) (.slice y.A y.t.l.length y.c) (.slice y.A' y.t.m.length y.c')
    rw [← hF]
    obtain ⟨r0, r1, r2, r3, r4, _⟩ := bx_cells5 hbF
    refine bodyPost_ret (v := .tuple #[y.v, .int .i64 0]) (by simp [results, Tryz.results156, go_sem, r0, r1, r2, r3, r4]) rfl ?_
    refine ⟨⟨_, rfl, ⟨y, rfl, HY.out.1, ?_⟩, HR5.out.same hsF H.out.lt⟩, hsF.fresh R2.out (Nat.le_refl _)⟩
    have sx := SX.out
    exact RV.wide (by omega) (Nat.le_of_eq hsF.size.symm) (RV.keep (hsF.kept (by omega)) HY.out.2)
def vsD : Nat → Tmp := fun j => [14, 15, 16, 17, 18, 19, 20, 21, 22, 23, 10, 11].getD j 0
def vsE : Nat → List Nat := fun j => [[], [0], [1], [], [], [], [], [], [], [], [], []].getD j []

theorem anyN_two {P : Program} {ops : Array Oper} {Q : Exit → Act → World → Prop} {md : Region.Mode} {S : World → Prop} {N : List Nat} {i j : Nat} {oi oj : Oper} {f : Nat} {listed : Array Bool} {a : Act} {w : World} (hr : Region.ready md ops listed = [i, j]) (ho : ops[i]? = some oi) (ho' : ops[j]? = some oj)
    (h : ∀ K' : Act → World → Prop, Shut (∀ a w, (bare N (listed.setIfInBounds i true) = true → S w) → anyN P md ops Q S N f (listed.setIfInBounds i true) a w → K' a w) → if Region.wanted oi (yielded ops a.tmps) = true then Oper.wp P oi a w K' Q else K' (a.put oi.dst undef) w)
    (h' : ∀ K' : Act → World → Prop, Shut (∀ a w, (bare N (listed.setIfInBounds j true) = true → S w) → anyN P md ops Q S N f (listed.setIfInBounds j true) a w → K' a w) → if Region.wanted oj (yielded ops a.tmps) = true then Oper.wp P oj a w K' Q else K' (a.put oj.dst undef) w) :
    anyN P md ops Q S N (f + 1) listed a w :=
  ⟨fun h0 => (by rw [hr] at h0; cases h0), fun z hz => by
    rw [hr] at hz
    rcases List.mem_cons.1 hz with e | hz
    · subst e
      exact wpOp_step ho (fun K' hK => h K' (fun a w hS hW => hK a w ⟨hS, hW⟩))
    · obtain rfl : z = j := by simpa using hz
      exact wpOp_step ho' (fun K' hK => h' K' (fun a w hS hW => hK a w ⟨hS, hW⟩))⟩
theorem three_new (w : World) (o p q : Obj) : (((w.alloc o).alloc p).alloc q).heap[w.heap.size]? = some o ∧ (((w.alloc o).alloc p).alloc q).heap[w.heap.size + 1]? = some p ∧ (((w.alloc o).alloc p).alloc q).heap[w.heap.size + 1 + 1]? = some q := by
  obtain ⟨h1, h2⟩ := two_new w o p
  have h3 := new_blk ((w.alloc o).alloc p) q
  simp only [size_alloc] at h3
  exact ⟨((below_new ((w.alloc o).alloc p) q).block _ (by simp <;> omega)).trans h1, ((below_new ((w.alloc o).alloc p) q).block _ (by simp)).trans h2, h3⟩
theorem Got.form {α : Type} {g : Nat} {q : Int} {w : World} {ok : α → World → Value → Prop} {jn : Value → Prop} {r : Rs α} {e : Ending} {w' : World} (h : Got g q w ok jn r e w') : ∃ v er, e = .returned (.tuple #[v, .int .i64 er]) := by
  cases r with
  | ok x l n => obtain ⟨⟨v, e, _⟩, _⟩ := h; exact ⟨v, 0, e⟩
  | bad l n er => obtain ⟨⟨v, e, _⟩, _⟩ := h; exact ⟨v, er, e⟩
theorem Got.up {α : Type} {g : Nat} {q : Int} {a w : World} {ok ok' : α → World → Value → Prop} {jn : Value → Prop} {r : Rs α} {e : Ending} {w' : World} (h : Got g q w ok jn r e w') (hb : Below a.heap.size a w) (hok : ∀ x w' v, ok x w' v → ok' x w' v) : Got g q a ok' jn r e w' := by
  refine ⟨?_, (RK.of hb).trans h.2⟩
  cases r with
  | ok x l n => obtain ⟨⟨v, e, k, rr⟩, _⟩ := h; exact ⟨v, e, hok _ _ _ k, rr⟩
  | bad l n er => exact h.1
set_option maxHeartbeats 6400000 in
theorem values_step (r : Nat) (ih : ValOk r) : ValuesOk r := by
  intro w g n q lev l first last a mo hlev hr h
  have H := Lib.hid h
  have IH := Lib.hid ih
  have HLV := Lib.hid (And.intro hlev hr)
  clear h ih hlev hr
  obtain ⟨RES, hRES⟩ : ∃ x, btw first last a mo (rdV (valT r)) l n = x := ⟨_, rfl⟩
  rw [hRES]
  have HRES := Lib.hid hRES
  clear hRES
  go_enter Tryz.func136, Tryz.ntmps136
  go_upto_region 2 with fail
  generalize hW : World.alloc (World.alloc (World.alloc w _) _) _ = W
  obtain ⟨k1, k2, k3⟩ : W.heap[w.heap.size]? = some (.cells #[.pointer (some ⟨g, 0, none⟩)] 60 (0, 0)) ∧ W.heap[w.heap.size + 1]? = some (.cells #[.int .i64 a, .bool mo] 151 (0, 0)) ∧ W.heap[w.heap.size + 1 + 1]? = some (.cells #[.int .i64 lev] 3 (0, 0)) := by rw [← hW]; exact three_new _ _ _ _
  have HB : Hid (Below w.heap.size w W) := Lib.hid (by rw [← hW]; exact below_new3 _ _ _ _)
  have SW : Hid (W.heap.size = w.heap.size + 3) := Lib.hid (by rw [← hW]; simp)
  obtain ⟨a0, a1, _⟩ := bx_cells2 k2
  have P0 := Lib.hid (bx_cells1 k1)
  have A0 := Lib.hid a0
  have A1 := Lib.hid a1
  have BT : Hid (∀ X : World, Below W.heap.size W X → Calls Tryz.prog 157 #[.pointer (some ⟨g, 0, none⟩), .string (bsT first), .agg #[.int .i64 a, .bool mo], .func (.func 156) #[] #[.pointer (some ⟨w.heap.size, 0, none⟩), .pointer (some ⟨w.heap.size + 1 + 1, 0, none⟩)], .string (bsT last)] X (Got g q w (OksV (r + 1) w) (fun v => v = .slice none 0 0) RES)) := Lib.hid (fun X hX => by
    have hwX := bnext HB.out hX
    have sw := SW.out
    have hg := H.out.lt
    refine (btw_V g n (r + 1) q X l first last a mo (rdV (valT r)) _ _ (H.out.next hwX) (rdV_less (val_less r)) (clos_V r IH.out HLV.out.2 X g _ _ q lev HLV.out.1 ((hX.block _ (by omega)).trans k1) ((hX.block _ (by omega)).trans k3) (by omega) (by omega))).mono ?_
    intro e w' hgot
    rw [HRES.out] at hgot
    exact hgot.up hwX (fun vs w2 v hv => by
      obtain ⟨A, c, e, hr⟩ := hv
      exact ⟨A, c, e, RdRow.imp hr (Kept.refl _ _ _) hwX.size (Nat.le_refl _) (fun _ _ _ _ _ h => Rd.imp (Kept.refl _ _ _) hwX.size (Nat.le_refl _) (Nat.le_refl _) h)⟩))
  clear hW k1 k2 k3 a0 a1
  refine region_phase [0, 1, 2, 3, 4, 5, 6] [] vsD vsE 4 (fun w' => Below W.heap.size W w') (saidOf [Is (.pointer (some ⟨g, 0, none⟩)), Is (.pointer (some ⟨g, 0, none⟩)), Is (.pointer (some ⟨g, 0, none⟩)), Is (.string (bsT first)), Is (.agg #[.int .i64 a, .bool mo]), Is (.func (.func 156) #[] #[.pointer (some ⟨w.heap.size, 0, none⟩), .pointer (some ⟨w.heap.size + 1 + 1, 0, none⟩)]), Is (.string (bsT last)), fun _ _ => True, fun _ _ => True, fun _ _ => True, fun _ _ => True, fun _ _ => True]) 24 (by rfl) (by kernel_rfl) (by kernel_rfl) (fun _ _ h hb => h.trans (hb.mono h.size)) (stays_said _ (stays_cons (Is.stays _) (stays_cons (Is.stays _) (stays_cons (Is.stays _) (stays_cons (Is.stays _) (stays_cons (Is.stays _) (stays_cons (Is.stays _) (stays_cons (Is.stays _) (stays_cons (fun _ _ _ _ _ => trivial) (stays_cons (fun _ _ _ _ _ => trivial) (stays_cons (fun _ _ _ _ _ => trivial) (stays_cons (fun _ _ _ _ _ => trivial) (stays_cons (fun _ _ _ _ _ => trivial) stays_nil))))))))))))) (below_drewN _ _ 1) (by kernel_rfl) ?_ ?_
  · skip
    refine owes_cons (Owes.mk (o := ({ dst := some 14, op := .load 60 (.tmp 5), type := 60, pos := "value.go:56", after := #[], guard := none } : Oper)) rfl (fun v wk hj hD K hK => ?_)) ?_
    · simp only [vsD, vsE, putAll, Act.put, List.getD_cons_zero, List.setIfInBounds_toArray, List.set_cons_zero, List.set_cons_succ] at hK ⊢
      have p0 : wk.cell? ⟨w.heap.size, 0, none⟩ = some (.pointer (some ⟨g, 0, none⟩)) := cell_below hj P0.out (by have := SW.out; show w.heap.size < W.heap.size; omega)
      go_simp
      exact hK.out _ _ (Below.refl _ _) rfl
    refine owes_cons (Owes.mk (o := ({ dst := some 15, op := .nilCheck (.tmp 14), type := 0, pos := "value.go:56", after := #[{ on := 0, ground := .data }], guard := none } : Oper)) rfl (fun v wk hj hD K hK => ?_)) ?_
    · have h0 : v 0 = (.pointer (some ⟨g, 0, none⟩)) := hD 0 (by decide)
      simp only [vsD, vsE, putAll, Act.put, List.getD_cons_succ, List.getD_cons_zero, List.setIfInBounds_toArray, List.set_cons_zero, List.set_cons_succ, h0] at hK ⊢
      go_simp
      exact hK.out _ _ (Below.refl _ _) rfl
    refine owes_cons (Owes.mk (o := ({ dst := some 16, op := .fieldAddr 64 (.tmp 15) 0, type := 0, pos := "value.go:56", after := #[{ on := 1, ground := .data }], guard := none } : Oper)) rfl (fun v wk hj hD K hK => ?_)) ?_
    · have h1 : v 1 = (.pointer (some ⟨g, 0, none⟩)) := hD 1 (by decide)
      simp only [vsD, vsE, putAll, Act.put, List.getD_cons_succ, List.getD_cons_zero, List.setIfInBounds_toArray, List.set_cons_zero, List.set_cons_succ, h1] at hK ⊢
      go_simp
      exact hK.out _ _ (Below.refl _ _) rfl
    refine owes_cons (Owes.mk (o := ({ dst := some 17, op := .move (.tmp 1), type := 9, pos := "value.go:56", after := #[], guard := none } : Oper)) rfl (fun v wk hj hD K hK => ?_)) ?_
    · simp only [vsD, vsE, putAll, Act.put, List.getD_cons_succ, List.getD_cons_zero, List.setIfInBounds_toArray, List.set_cons_zero, List.set_cons_succ] at hK ⊢
      go_simp
      exact hK.out _ _ (Below.refl _ _) rfl
    refine owes_cons (Owes.mk (o := ({ dst := some 18, op := .load 151 (.tmp 7), type := 151, pos := "value.go:56", after := #[], guard := none } : Oper)) rfl (fun v wk hj hD K hK => ?_)) ?_
    · simp only [vsD, vsE, putAll, Act.put, List.getD_cons_succ, List.getD_cons_zero, List.setIfInBounds_toArray, List.set_cons_zero, List.set_cons_succ] at hK ⊢
      have a0 : wk.cell? ⟨w.heap.size + 1, 0, none⟩ = some (.int .i64 a) := cell_below hj A0.out (by have := SW.out; show w.heap.size + 1 < W.heap.size; omega)
      have a1 : wk.cell? ⟨w.heap.size + 1, 1, none⟩ = some (.bool mo) := cell_below hj A1.out (by have := SW.out; show w.heap.size + 1 < W.heap.size; omega)
      go_simp
      exact hK.out _ _ (Below.refl _ _) rfl
    refine owes_cons (Owes.mk (o := ({ dst := some 19, op := .move (.tmp 12), type := 171, pos := "value.go:56", after := #[], guard := none } : Oper)) rfl (fun v wk hj hD K hK => ?_)) ?_
    · simp only [vsD, vsE, putAll, Act.put, List.getD_cons_succ, List.getD_cons_zero, List.setIfInBounds_toArray, List.set_cons_zero, List.set_cons_succ] at hK ⊢
      go_simp
      exact hK.out _ _ (Below.refl _ _) rfl
    refine owes_cons (Owes.mk (o := ({ dst := some 20, op := .move (.tmp 4), type := 9, pos := "value.go:56", after := #[], guard := none } : Oper)) rfl (fun v wk hj hD K hK => ?_)) ?_
    · simp only [vsD, vsE, putAll, Act.put, List.getD_cons_succ, List.getD_cons_zero, List.setIfInBounds_toArray, List.set_cons_zero, List.set_cons_succ] at hK ⊢
      go_simp
      exact hK.out _ _ (Below.refl _ _) rfl
    exact owes_nil
  · intro p v wq h1 h2 hj hr
    obtain rfl := marks_all h1 (fun m hm => h2 m hm (by simp))
    have e0 : v 0 = (.pointer (some ⟨g, 0, none⟩)) := hr 0 (by decide) (by decide)
    have e1 : v 1 = (.pointer (some ⟨g, 0, none⟩)) := hr 1 (by decide) (by decide)
    have e2 : v 2 = (.pointer (some ⟨g, 0, none⟩)) := hr 2 (by decide) (by decide)
    have e3 : v 3 = (.string (bsT first)) := hr 3 (by decide) (by decide)
    have e4 : v 4 = (.agg #[.int .i64 a, .bool mo]) := hr 4 (by decide) (by decide)
    have e5 : v 5 = (.func (.func 156) #[] #[.pointer (some ⟨w.heap.size, 0, none⟩), .pointer (some ⟨w.heap.size + 1 + 1, 0, none⟩)]) := hr 5 (by decide) (by decide)
    have e6 : v 6 = (.string (bsT last)) := hr 6 (by decide) (by decide)
    rw [show List.filter (fun k => [0, 1, 2, 3, 4, 5, 6].contains k) [0, 1, 2, 3, 4, 5, 6] = [0, 1, 2, 3, 4, 5, 6] from rfl]
    simp only [vsD, putAll, Act.put, List.getD_cons_succ, List.getD_cons_zero, List.setIfInBounds_toArray, List.set_cons_zero, List.set_cons_succ, e0, e1, e2, e3, e4, e5, e6]
    have HJ := Lib.hid hj
    clear hj hr h1 h2 e0 e1 e2 e3 e4 e5 e6
    refine anyN_any (S := fun _ => True) (N := []) _ _ _ _ ?_
    refine anyN_one (i := 7) (o := ({ dst := some 21, op := .call { callee := .value (.func 157), args := #[.tmp 16, .tmp 17, .tmp 18, .tmp 19, .tmp 20], argTypes := #[99, 9, 151, 171, 9] }, type := 184, pos := "value.go:56", after := #[{ on := 2, ground := .data }, { on := 3, ground := .data }, { on := 4, ground := .data }, { on := 5, ground := .data }, { on := 6, ground := .data }], guard := none } : Oper)) (by kernel_rfl) rfl (fun K hK => ?_)
    have CB := Lib.hid (BT.out wq HJ.out)
    rw [if_pos (by simp [Region.wanted])]
    go_simp
    refine CB.out.mono ?_
    rintro e w9 hgot
    obtain ⟨v9, er9, rfl⟩ := Got.form hgot
    have HGOT := Lib.hid hgot
    clear hgot CB
    refine hK.out _ _ (fun _ => trivial) ?_
    clear hK K
    try simp only [Act.put, List.setIfInBounds_toArray, List.set_cons_zero, List.set_cons_succ]
    refine anyN_two (i := 8) (j := 9) (oi := ({ dst := some 22, op := .extract (.tmp 21) 0, type := 75, pos := "value.go:56", after := #[{ on := 7, ground := .data }], guard := none } : Oper)) (oj := ({ dst := some 23, op := .extract (.tmp 21) 1, type := 25, pos := "value.go:56", after := #[{ on := 7, ground := .data }], guard := none } : Oper)) (by kernel_rfl) rfl rfl ?_ ?_
    · intro K hK
      go_simp
      refine hK.out _ _ (fun _ => trivial) ?_
      clear hK K
      try simp only [Act.put, List.setIfInBounds_toArray, List.set_cons_zero, List.set_cons_succ]
      refine anyN_one (i := 9) (o := ({ dst := some 23, op := .extract (.tmp 21) 1, type := 25, pos := "value.go:56", after := #[{ on := 7, ground := .data }], guard := none } : Oper)) (by kernel_rfl) rfl ?_
      intro K hK
      go_simp
      refine hK.out _ _ (fun _ => trivial) ?_
      clear hK K
      try simp only [Act.put, List.setIfInBounds_toArray, List.set_cons_zero, List.set_cons_succ]
      refine anyN_one (i := 10) (o := ({ dst := some 10, op := .assign (.tmp 22), type := 75, pos := "value.go:56", after := #[{ on := 8, ground := .data }, { on := 7, ground := .chain }, { on := 0, ground := .phase }, { on := 1, ground := .phase }, { on := 2, ground := .phase }, { on := 3, ground := .phase }, { on := 4, ground := .phase }, { on := 5, ground := .phase }, { on := 6, ground := .phase }, { on := 7, ground := .phase }, { on := 8, ground := .phase }, { on := 9, ground := .phase }], guard := none } : Oper)) (by kernel_rfl) rfl ?_
      intro K hK
      go_simp
      refine hK.out _ _ (fun _ => trivial) ?_
      clear hK K
      try simp only [Act.put, List.setIfInBounds_toArray, List.set_cons_zero, List.set_cons_succ]
      refine anyN_one (i := 11) (o := ({ dst := some 11, op := .assign (.tmp 23), type := 25, pos := "value.go:56", after := #[{ on := 9, ground := .data }, { on := 10, ground := .chain }, { on := 0, ground := .phase }, { on := 1, ground := .phase }, { on := 2, ground := .phase }, { on := 3, ground := .phase }, { on := 4, ground := .phase }, { on := 5, ground := .phase }, { on := 6, ground := .phase }, { on := 7, ground := .phase }, { on := 8, ground := .phase }, { on := 9, ground := .phase }, { on := 10, ground := .phase }], guard := none } : Oper)) (by kernel_rfl) rfl ?_
      intro K hK
      go_simp
      refine hK.out _ _ (fun _ => trivial) ?_
      clear hK K
      try simp only [Act.put, List.setIfInBounds_toArray, List.set_cons_zero, List.set_cons_succ]
      refine anyN_done (by kernel_rfl) ?_ _
      go_wp2
      go_ret2
      exact HGOT.out
    · intro K hK
      go_simp
      refine hK.out _ _ (fun _ => trivial) ?_
      clear hK K
      try simp only [Act.put, List.setIfInBounds_toArray, List.set_cons_zero, List.set_cons_succ]
      refine anyN_one (i := 8) (o := ({ dst := some 22, op := .extract (.tmp 21) 0, type := 75, pos := "value.go:56", after := #[{ on := 7, ground := .data }], guard := none } : Oper)) (by kernel_rfl) rfl ?_
      intro K hK
      go_simp
      refine hK.out _ _ (fun _ => trivial) ?_
      clear hK K
      try simp only [Act.put, List.setIfInBounds_toArray, List.set_cons_zero, List.set_cons_succ]
      refine anyN_one (i := 10) (o := ({ dst := some 10, op := .assign (.tmp 22), type := 75, pos := "value.go:56", after := #[{ on := 8, ground := .data }, { on := 7, ground := .chain }, { on := 0, ground := .phase }, { on := 1, ground := .phase }, { on := 2, ground := .phase }, { on := 3, ground := .phase }, { on := 4, ground := .phase }, { on := 5, ground := .phase }, { on := 6, ground := .phase }, { on := 7, ground := .phase }, { on := 8, ground := .phase }, { on := 9, ground := .phase }], guard := none } : Oper)) (by kernel_rfl) rfl ?_
      intro K hK
      go_simp
      refine hK.out _ _ (fun _ => trivial) ?_
      clear hK K
      try simp only [Act.put, List.setIfInBounds_toArray, List.set_cons_zero, List.set_cons_succ]
      refine anyN_one (i := 11) (o := ({ dst := some 11, op := .assign (.tmp 23), type := 25, pos := "value.go:56", after := #[{ on := 9, ground := .data }, { on := 10, ground := .chain }, { on := 0, ground := .phase }, { on := 1, ground := .phase }, { on := 2, ground := .phase }, { on := 3, ground := .phase }, { on := 4, ground := .phase }, { on := 5, ground := .phase }, { on := 6, ground := .phase }, { on := 7, ground := .phase }, { on := 8, ground := .phase }, { on := 9, ground := .phase }, { on := 10, ground := .phase }], guard := none } : Oper)) (by kernel_rfl) rfl ?_
      intro K hK
      go_simp
      refine hK.out _ _ (fun _ => trivial) ?_
      clear hK K
      try simp only [Act.put, List.setIfInBounds_toArray, List.set_cons_zero, List.set_cons_succ]
      refine anyN_done (by kernel_rfl) ?_ _
      go_wp2
      go_ret2
      exact HGOT.out
end Go.Proofs.YtllkimdlmnjoiaaGreatDoor
