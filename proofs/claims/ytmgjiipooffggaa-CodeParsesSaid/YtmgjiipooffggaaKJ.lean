/- The reader's maps: one key and its value more. -/
import Derived.Test.YtmgjiipooffggaaKI
namespace Go.Proofs.Ytmgjiipooffggaa
set_option maxRecDepth 100000
open Go.RowKit Go.Sort
attribute [local go_sem ↓] Go.wp_at_zero Go.wp_at_succ

structure Mv (wf wX : World) (oL oM : Option Nat) : Prop where
  os : wX.os = wf.os
  tape : wX.tape = wf.tape
  output : wX.output = wf.output
  size : wf.heap.size ≤ wX.heap.size
  block : ∀ i, i < wf.heap.size → oL ≠ some i → oM ≠ some i → wX.heap[i]? = wf.heap[i]?
theorem Mv.refl (w : World) (oL oM : Option Nat) : Mv w w oL oM := ⟨rfl, rfl, rfl, Nat.le_refl _, fun _ _ _ _ => rfl⟩
theorem Mv.trans {a b c : World} {oL oM : Option Nat} (h : Mv a b oL oM) (k : Mv a c oL oM ∨ (b.heap.size ≤ c.heap.size ∧ c.os = b.os ∧ c.tape = b.tape ∧ c.output = b.output ∧ ∀ i, i < a.heap.size → c.heap[i]? = b.heap[i]?)) : Mv a c oL oM := by
  rcases k with k | ⟨k1, k2, k3, k4, k5⟩
  · exact k
  · exact ⟨k2.trans h.os, k3.trans h.tape, k4.trans h.output, Nat.le_trans h.size k1, fun i hi h1 h2 => (k5 i hi).trans (h.block i hi h1 h2)⟩
theorem Mv.below {a b c : World} {oL oM : Option Nat} (h : Below b.heap.size b c) (hs : a.heap.size ≤ b.heap.size) : Mv a c oL oM ∨ (b.heap.size ≤ c.heap.size ∧ c.os = b.os ∧ c.tape = b.tape ∧ c.output = b.output ∧ ∀ i, i < a.heap.size → c.heap[i]? = b.heap[i]?) :=
  .inr ⟨h.size, h.os, h.tape, h.output, fun i hi => h.block i (by omega)⟩
theorem Mv.grown {a b c : World} {oL oM row : Option Nat} (h : Mv a b oL oM) (hg : b.grownBy c row) (hr : ∀ i, row = some i → oL = some i ∨ oM = some i ∨ a.heap.size ≤ i) : Mv a c oL oM :=
  ⟨hg.os.trans h.os, hg.tape.trans h.tape, hg.output.trans h.output, Nat.le_trans h.size hg.size, fun i hi h1 h2 => (hg.block i (Nat.lt_of_lt_of_le hi h.size) (fun e => by
    rcases hr i e.symm with e' | e' | e'
    · exact h1 e'
    · exact h2 e'
    · omega)).trans (h.block i hi h1 h2)⟩
structure S9 (gx g4 g6 : Nat) (k : Int) (sL sM : Value) (qk qi : At) (w : World) : Prop where
  box : Cell w gx (.int .i64 k) (.int .i64 0) (.string ⟨#[]⟩) sL sM
  bk : Bx w g4 qk
  bi : Bx w g6 qi
theorem S9.kept {gx g4 g6 : Nat} {k : Int} {sL sM : Value} {qk qi : At} {w w' : World} (h : S9 gx g4 g6 k sL sM qk qi w) (h1 : w'.heap[gx]? = w.heap[gx]?) (h2 : w'.heap[g4]? = w.heap[g4]?) (h3 : w'.heap[g6]? = w.heap[g6]?) : S9 gx g4 g6 k sL sM qk qi w' :=
  ⟨h.box.kept h1, Cell.kept h.bk h2, Cell.kept h.bi h3⟩
theorem S9.below {gx g4 g6 : Nat} {k : Int} {sL sM : Value} {qk qi : At} {w w' : World} (h : S9 gx g4 g6 k sL sM qk qi w) (hb : Below w.heap.size w w') : S9 gx g4 g6 k sL sM qk qi w' :=
  h.kept (hb.block _ h.box.blk.lt) (hb.block _ (Cell.blk h.bk).lt) (hb.block _ (Cell.blk h.bi).lt)
theorem news_below {w w' : World} {g : Nat} {vs : List Value} (h : ∀ j u, vs[j]? = some u → w.cell? ((⟨g, 0, none⟩ : Addr).add j) = some u) (hb : Below w.heap.size w w') (hg : g < w.heap.size) : ∀ j u, vs[j]? = some u → w'.cell? ((⟨g, 0, none⟩ : Addr).add j) = some u := fun j u hj => by
  have ad : (⟨g, 0, none⟩ : Addr).add j = ⟨g, j, none⟩ := by unfold Addr.add; split <;> simp_all
  have := h j u hj
  rw [ad] at this ⊢
  rw [hb.cell hg]; exact this
theorem news_far {w w' : World} {row : Option Nat} {g : Nat} {vs : List Value} (h : ∀ j u, vs[j]? = some u → w.cell? ((⟨g, 0, none⟩ : Addr).add j) = some u) (hg : w.grownBy w' row) (hlt : g < w.heap.size) (hne : some g ≠ row) : ∀ j u, vs[j]? = some u → w'.cell? ((⟨g, 0, none⟩ : Addr).add j) = some u := fun j u hj => by
  have ad : (⟨g, 0, none⟩ : Addr).add j = ⟨g, j, none⟩ := by unfold Addr.add; split <;> simp_all
  have := h j u hj
  rw [ad] at this ⊢
  rw [hg.cell_far ⟨g, j, none⟩ hlt hne]; exact this

theorem rd_rk {a b : World} {g lo d : Nat} {q : At} (h : Rd a lo a.heap.size d q.t q.A q.c q.A' q.c') (hk : RK g a b) (hg : g < lo) : Rd b lo b.heap.size d q.t q.A q.c q.A' q.c' :=
  Rd.imp (fun i h1 h2 => hk.2 i (by omega) h2) (Nat.le_refl _) hk.size (Nat.le_refl _) h

theorem dict_fin {w0 W wf wB : World} {g d g3 g5 r0 gx : Nat} {lev k : Int} {accL accM : List At} {AL AM : Option Addr} {cL cM gL cL2 gM cM2 : Nat} {s : ByteArray} {l' : Bs} {qk qi : At} (h : Gr w0 W g d g3 g5 r0 gx lev k accL accM AL cL AM cM) (hb : RK g W wf) (hR : RL wf g s l')
    (hk : Rd wf W.heap.size wf.heap.size d qk.t qk.A qk.c qk.A' qk.c') (hi : Rd wf W.heap.size wf.heap.size d qi.t qi.A qi.c qi.A' qi.c')
    (hm : Mv wf wB (Value.slice AL accL.length cL).ownBlock (Value.slice AM accM.length cM).ownBlock)
    (hvL : VG wB (gx + 1) (.slice (some ⟨gL, 0, none⟩) (accL.length + 1) cL2) Pr.kc (accL.map At.pr ++ [qk.pr])) (hvM : VG wB (gx + 1) (.slice (some ⟨gM, 0, none⟩) (accM.length + 1) cM2) Pr.kc (accM.map At.pr ++ [qi.pr]))
    (hc : Cell wB gx (.int .i64 k) (.int .i64 0) (.string ⟨#[]⟩) (.slice AL accL.length cL) (.slice AM accM.length cM))
    (hL : (Value.slice AL accL.length cL).ownBlock = some gL ∨ wf.heap.size ≤ gL) (hM : (Value.slice AM accM.length cM).ownBlock = some gM ∨ wf.heap.size ≤ gM) (hne : gL ≠ gM) :
    RL ((wB.setCell ⟨gx, 3, none⟩ (.slice (some ⟨gL, 0, none⟩) (accL.length + 1) cL2)).setCell ⟨gx, 4, none⟩ (.slice (some ⟨gM, 0, none⟩) (accM.length + 1) cM2)) g s l' ∧
    Gr w0 ((wB.setCell ⟨gx, 3, none⟩ (.slice (some ⟨gL, 0, none⟩) (accL.length + 1) cL2)).setCell ⟨gx, 4, none⟩ (.slice (some ⟨gM, 0, none⟩) (accM.length + 1) cM2)) g d g3 g5 r0 gx lev k (accL ++ [qk]) (accM ++ [qi]) (some ⟨gL, 0, none⟩) cL2 (some ⟨gM, 0, none⟩) cM2 := by
  have hf := h.next hb
  have ll := hf.vl.lt
  have lm := hf.vm.lt
  have hgx := hf.lx
  have k1 := h.gg; have k2 := h.l3; have k3 := h.l5; have k4 := h.l2; have k5 := h.l0
  have e1 : (accL ++ [qk]).length = accL.length + 1 := by simp
  have e2 : (accM ++ [qi]).length = accM.length + 1 := by simp
  have e3 : (accL ++ [qk]).map At.pr = accL.map At.pr ++ [qk.pr] := by simp
  have e4 : (accM ++ [qi]).map At.pr = accM.map At.pr ++ [qi.pr] := by simp
  have keep : ∀ i, i ≠ gx → ((wB.setCell ⟨gx, 3, none⟩ (.slice (some ⟨gL, 0, none⟩) (accL.length + 1) cL2)).setCell ⟨gx, 4, none⟩ (.slice (some ⟨gM, 0, none⟩) (accM.length + 1) cM2)).heap[i]? = wB.heap[i]? := fun i hx => by
    rw [Below.heap_setCell _ _ _ _ hx, Below.heap_setCell _ _ _ _ hx]
  have hbox := Cell.set4 (Cell.set3 hc (.slice (some ⟨gL, 0, none⟩) (accL.length + 1) cL2)) (.slice (some ⟨gM, 0, none⟩) (accM.length + 1) cM2)
  have o1 : ((wB.setCell ⟨gx, 3, none⟩ (.slice (some ⟨gL, 0, none⟩) (accL.length + 1) cL2)).setCell ⟨gx, 4, none⟩ (.slice (some ⟨gM, 0, none⟩) (accM.length + 1) cM2)).os = wB.os := by simp only [World.setCell]
  have o2 : ((wB.setCell ⟨gx, 3, none⟩ (.slice (some ⟨gL, 0, none⟩) (accL.length + 1) cL2)).setCell ⟨gx, 4, none⟩ (.slice (some ⟨gM, 0, none⟩) (accM.length + 1) cM2)).tape = wB.tape := by simp only [World.setCell]
  have o3 : ((wB.setCell ⟨gx, 3, none⟩ (.slice (some ⟨gL, 0, none⟩) (accL.length + 1) cL2)).setCell ⟨gx, 4, none⟩ (.slice (some ⟨gM, 0, none⟩) (accM.length + 1) cM2)).output = wB.output := by simp only [World.setCell]
  have o4 : ((wB.setCell ⟨gx, 3, none⟩ (.slice (some ⟨gL, 0, none⟩) (accL.length + 1) cL2)).setCell ⟨gx, 4, none⟩ (.slice (some ⟨gM, 0, none⟩) (accM.length + 1) cM2)).heap.size = wB.heap.size := by simp [World.setCell]
  generalize ((wB.setCell ⟨gx, 3, none⟩ (.slice (some ⟨gL, 0, none⟩) (accL.length + 1) cL2)).setCell ⟨gx, 4, none⟩ (.slice (some ⟨gM, 0, none⟩) (accM.length + 1) cM2)) = Z at *
  have vL : VG Z (gx + 1) (.slice (some ⟨gL, 0, none⟩) (accL ++ [qk]).length cL2) Pr.kc ((accL ++ [qk]).map At.pr) := by
    rw [e1, e3]
    exact hvL.keep (fun b _ hl _ => keep b (by omega))
  have vM : VG Z (gx + 1) (.slice (some ⟨gM, 0, none⟩) (accM ++ [qi]).length cM2) Pr.kc ((accM ++ [qi]).map At.pr) := by
    rw [e2, e4]
    exact hvM.keep (fun b _ hl _ => keep b (by omega))
  refine ⟨hR.kept ((keep g (by omega)).trans (hm.block g (by omega) (fun e => by have := (ll g e).1; omega) (fun e => by have := (lm g e).1; omega))),
    h.put hb ⟨(o1.trans hm.os).symm, (o2.trans hm.tape).symm, (o3.trans hm.output).symm, by rw [o4]; exact hm.size⟩ (fun i hi' h1 h2 hx => (keep i hx).trans (hm.block i hi' h1 h2)) (by rw [e1, e2]; exact hbox) vL vM (fun b hb1 hb2 => ?_) (fun b hb => ?_) (fun b hb => ?_) (fun z hz => ?_)⟩
  · injection hb1 with hb1
    injection hb2 with hb2
    exact hne (hb1.trans hb2.symm)
  · injection hb with hb
    have hb : gL = b := hb
    subst hb
    exact hL
  · injection hb with hb
    have hb : gM = b := hb
    subst hb
    exact hM
  · rcases List.mem_append.1 hz with h' | h'
    · rcases List.mem_append.1 h' with h' | h'
      · exact .inl (List.mem_append_left _ h')
      · have : z = qk := by simpa using h'
        subst this
        exact .inr hk
    · rcases List.mem_append.1 h' with h' | h'
      · exact .inl (List.mem_append_right _ h')
      · have : z = qi := by simpa using h'
        subst this
        exact .inr hi

def DictOne (w0 : World) (g : Nat) (s : ByteArray) (d g3 g5 r0 gx : Nat) (lev k : Int) (accL accM : List At) (o : Option ((V × V) × Bs)) (e : Ending) (w' : World) : Prop :=
  ∃ (b : Bool) (l' : Bs) (accL' accM' : List At) (AL : Option Addr) (cL : Nat) (AM : Option Addr) (cM : Nat), e = .returned (.bool b) ∧ RL w' g s l' ∧ Gr w0 w' g d g3 g5 r0 gx lev k accL' accM' AL cL AM cM ∧ accL'.length ≤ accL.length + 1 ∧ accM'.length ≤ accM.length + 1 ∧
    (∀ p r, o = some (p, r) → b = true ∧ l' = r ∧ ∃ q1 q2, accL' = accL ++ [q1] ∧ accM' = accM ++ [q2] ∧ q1.t = p.1 ∧ q2.t = p.2) ∧ (o = none → b = false)
section
variable {one : Bs → Option (V × Bs)} {l r q z : Bs} {k v : V}
theorem pair_none (h : one l = none) : pairR one l = none := by simp only [pairR, h]
theorem pair_colon (h : one l = some (k, r)) (h2 : takeL [58, 32] r = none) : pairR one l = none := by simp only [pairR, h, h2]
theorem pair_half (h : one l = some (k, r)) (h2 : takeL [58, 32] r = some q) (h3 : one q = none) : pairR one l = none := by simp only [pairR, h, h2, h3]
theorem pair_some (h : one l = some (k, r)) (h2 : takeL [58, 32] r = some q) (h3 : one q = some (v, z)) : pairR one l = some ((k, v), z) := by simp only [pairR, h, h2, h3]
end

set_option maxHeartbeats 8000000 in
theorem dictOne_any (r : Nat) (ih : ReadOk r) (hr : r ≤ 11) (w0 W : World) (g : Nat) (s : ByteArray) (g3 g5 r0 gx : Nat) (lev k : Int) (hlev : lev = 12 - r) (accL accM : List At) (AL : Option Addr) (cL : Nat) (AM : Option Addr) (cM : Nat) (hC : Gr w0 W g (r + 1) g3 g5 r0 gx lev k accL accM AL cL AM cM) (hlen : accL.length < 1000) (hlenM : accM.length < 1000) (l : Bs) (hR : RL W g s l) :
    Calls Try.prog 87 #[.pointer (some ⟨g3, 0, none⟩), .pointer (some ⟨g5, 0, none⟩), .pointer (some ⟨gx, 0, none⟩)] W (DictOne w0 g s (r + 1) g3 g5 r0 gx lev k accL accM (pairR (rd r) l)) := by
  have HC0 := Lib.hid hC
  have HR0 := Lib.hid hR
  have HR := Lib.hid (ih W g s l (lev + 1) (by omega) (by omega) hR)
  have IH := Lib.hid (fun W2 l2 (h : RL W2 g s l2) => ih W2 g s l2 (lev + 1) (by omega) (by omega) h)
  have T2 := Lib.hid (fun W l (h : RL W g s l) => take_any W g s ⟨#[58, 32]⟩ l h)
  have TE := Lib.hid (show (⟨#[58, 32]⟩ : ByteArray).data.toList = [58, 32] from rfl)
  unfold TakePost at T2
  generalize (⟨#[58, 32]⟩ : ByteArray).data.toList = colon at *
  have i3 : IntKind.i64.wrap (lev + 1) = lev + 1 := IntWalk.i64_in _ (by omega)
  have p3 := hC.p3
  have p5 := hC.p5
  clear hC hR ih hlev
  have HP1 := Lib.hid (fun h => pair_none (one := rd r) (l := l) h)
  have HP2 := Lib.hid (fun k r2 h => pair_colon (one := rd r) (l := l) (k := k) (r := r2) h)
  have HP3 := Lib.hid (fun k r2 q h => pair_half (one := rd r) (l := l) (k := k) (r := r2) (q := q) h)
  have HP4 := Lib.hid (fun k r2 q v z h => pair_some (one := rd r) (l := l) (k := k) (r := r2) (q := q) (v := v) (z := z) h)
  generalize hG : pairR (rd r) l = G at *
  clear hG
  generalize hO : rd r l = O at *
  go_enter Try.func87, Try.ntmps87
  go_wp2_with fail
  refine HR.out.mono ?_
  rintro e w1 ⟨qk, b, l1, rfl, rq, r1, k1, hx, hn⟩
  have RQ1 := Lib.hid rq
  have R1 := Lib.hid r1
  have K1 := Lib.hid k1
  have HX := Lib.hid hx
  have HN := Lib.hid hn
  clear rq r1 k1 hx hn HR p3 p5
  go_upto_region 2 with fail
  have BN := below_new w1 (.cells #[.int .i64 qk.t.k, .int .i64 qk.t.n, .string qk.t.s, .slice qk.A qk.t.l.length qk.c, .slice qk.A' qk.t.m.length qk.c'] 24)
  have HBX := Lib.hid (Bx.new w1 qk)
  generalize hW2 : World.alloc w1 _ = W2 at BN HBX ⊢
  have HB2 := Lib.hid BN
  have g4l := Lib.hid (show w1.heap.size < W2.heap.size by rw [← hW2]; simp)
  clear hW2 BN
  have K2 := Lib.hid (K1.out.trans (RK.below HB2.out R1.out.lt))
  have C2 := Lib.hid (HC0.out.next K2.out)
  have RQ2 := Lib.hid (Rd.imp (Kept.of_below HB2.out (Nat.le_refl _)) (Nat.le_refl _) HB2.out.size (Nat.le_refl _) RQ1.out)
  have R2 := Lib.hid (R1.out.next HB2.out)
  have g4W := Lib.hid (show W.heap.size ≤ w1.heap.size from K1.out.size)
  have gW := Lib.hid HC0.out.lt
  clear K1 R1 RQ1 HB2
  generalize w1.heap.size = g4 at *
  have p3 := C2.out.p3
  have p5 := C2.out.p5
  cases b with
  | false =>
    have hO1 : O = none := by
      cases hOO : O with
      | none => rfl
      | some tr => have := (HX.out tr.1 tr.2 hOO).1; cases this
    have hG : G = none := HP1.out hO1
    subst hG
    clear hO1
    go_wp2
    go_ret
    exact ⟨false, l1, accL, accM, AL, cL, AM, cM, rfl, R2.out, C2.out, by omega, by omega, by simp, fun _ => rfl⟩
  | true =>
    obtain ⟨t, rr, hO1⟩ : ∃ t rr, O = some (t, rr) := by
      cases hOO : O with
      | none => have := HN.out hOO; cases this
      | some tr => exact ⟨tr.1, tr.2, rfl⟩
    obtain ⟨_, ht, hl⟩ := HX.out t rr hO1
    subst hl
    have HT1 := Lib.hid ht
    have HO1 := Lib.hid hO1
    clear ht hO1 HX HN
    generalize ht2 : takeL colon l1 = t2
    have HT2 := Lib.hid ht2
    clear ht2
    have F2 := Lib.hid (T2.out W2 l1 R2.out)
    rw [HT2.out] at F2
    go_wp2_with fail
    refine F2.out.mono ?_
    cases t2 with
    | none =>
      rintro e w3 ⟨rfl, r3, k3⟩
      have R3 := Lib.hid (show RL w3 g s l1 from r3)
      have C3 := Lib.hid (C2.out.next k3)
      clear r3 k3 p3 p5
      have hG : G = none := HP2.out t l1 HO1.out (by rw [← TE.out]; exact HT2.out)
      subst hG
      go_wp2
      go_ret
      exact ⟨false, l1, accL, accM, AL, cL, AM, cM, rfl, R3.out, C3.out, by omega, by omega, by simp, fun _ => rfl⟩
    | some l2 =>
      rintro e w3 ⟨rfl, r3, k3⟩
      have R3 := Lib.hid (show RL w3 g s l2 from r3)
      have C3 := Lib.hid (C2.out.next k3)
      have K3 := Lib.hid (K2.out.trans k3)
      have RQ3 := Lib.hid (rd_rk RQ2.out k3 gW.out)
      have BX3 := Lib.hid (Cell.kept HBX.out (k3.other g4 g4l.out (by have := g4W.out; have := gW.out; omega)))
      have g4m := Lib.hid (show g4 < w3.heap.size by have := k3.size; have := g4l.out; omega)
      clear r3 k3 p3 p5 HBX RQ2
      have p3 := C3.out.p3
      have p5 := C3.out.p5
      have F4 := Lib.hid (IH.out w3 l2 R3.out)
      generalize hO2 : rd r l2 = O2 at F4
      have HO2 := Lib.hid hO2
      clear hO2
      go_wp2_with fail
      refine F4.out.mono ?_
      rintro e w4 ⟨qi, b2, l3, rfl, rq, r4, k4, hx, hn⟩
      have HXX : Hid (∀ p r, G = some (p, r) → b2 = true ∧ l3 = r ∧ ∃ q1 q2, accL ++ [qk] = accL ++ [q1] ∧ accM ++ [qi] = accM ++ [q2] ∧ q1.t = p.1 ∧ q2.t = p.2) := Lib.hid (fun p rz hp => by
        cases hOO : O2 with
        | none =>
          have := HP3.out t l1 l2 HO1.out (by rw [← TE.out]; exact HT2.out) (by rw [HO2.out]; exact hOO)
          rw [this] at hp; cases hp
        | some vz =>
          have h4 := HP4.out t l1 l2 vz.1 vz.2 HO1.out (by rw [← TE.out]; exact HT2.out) (by rw [HO2.out]; exact hOO)
          obtain ⟨e1, e2, e3⟩ := hx vz.1 vz.2 hOO
          rw [h4] at hp
          injection hp with hp
          injection hp with hp1 hp2
          subst hp1 hp2
          exact ⟨e1, e3, qk, qi, rfl, rfl, HT1.out, e2⟩)
      have HNN : Hid (G = none → b2 = false) := Lib.hid (fun hp => by
        cases hOO : O2 with
        | none => exact hn hOO
        | some vz =>
          have h4 := HP4.out t l1 l2 vz.1 vz.2 HO1.out (by rw [← TE.out]; exact HT2.out) (by rw [HO2.out]; exact hOO)
          rw [h4] at hp; cases hp)
      have RI4 := Lib.hid (Rd.imp (Kept.refl _ _ _) (show W.heap.size ≤ w3.heap.size from K3.out.size) (Nat.le_refl _) (Nat.le_refl _) rq)
      have R4 := Lib.hid r4
      have C4 := Lib.hid (C3.out.next k4)
      have K4 := Lib.hid (K3.out.trans k4)
      have RQ4 := Lib.hid (rd_rk RQ3.out k4 gW.out)
      have BX4 := Lib.hid (Cell.kept BX3.out (k4.other g4 g4m.out (by have := g4W.out; have := gW.out; omega)))
      have g4n := Lib.hid (show g4 < w4.heap.size by have := k4.size; have := g4m.out; omega)
      clear r4 k4 p3 p5 BX3 RQ3 rq hx hn HO1 HO2 HT1 HT2 HP1 HP2 HP3 HP4 F4 F2
      go_upto_region 5 with fail
      have BN := below_new w4 (.cells #[.int .i64 qi.t.k, .int .i64 qi.t.n, .string qi.t.s, .slice qi.A qi.t.l.length qi.c, .slice qi.A' qi.t.m.length qi.c'] 24)
      have HBI := Bx.new w4 qi
      generalize hW6 : World.alloc w4 _ = W6 at BN HBI ⊢
      have g6l : w4.heap.size < W6.heap.size := by rw [← hW6]; simp
      clear hW6
      have HB6 := Lib.hid (BN.trans (below_drewN _ W6 1) : Below w4.heap.size w4 W6.drew)
      clear BN
      have K6 := Lib.hid (K4.out.trans (RK.below HB6.out R4.out.lt))
      have HF := Lib.hid (C4.out.next (RK.below HB6.out R4.out.lt))
      have RQ := Lib.hid (Rd.imp (Kept.of_below HB6.out (Nat.le_refl _)) (Nat.le_refl _) HB6.out.size (Nat.le_refl _) RQ4.out)
      have RI := Lib.hid (Rd.imp (Kept.of_below HB6.out (Nat.le_refl _)) (Nat.le_refl _) HB6.out.size (Nat.le_refl _) RI4.out)
      have RF := Lib.hid (R4.out.next HB6.out)
      have KF := K6
      have HS0 : Hid (S9 gx g4 w4.heap.size k (.slice AL accL.length cL) (.slice AM accM.length cM) qk qi W6.drew) := Lib.hid ⟨HF.out.box, Cell.kept BX4.out (HB6.out.block g4 g4n.out), Cell.kept HBI rfl⟩
      have g4f := Lib.hid (show g4 < W6.drew.heap.size by have := HB6.out.size; have := g4n.out; omega)
      have g6f := Lib.hid (show w4.heap.size < W6.drew.heap.size from g6l)
      have g6W := Lib.hid (show W.heap.size ≤ w4.heap.size from K4.out.size)
      have HF0 : Hid (∀ i, ((Value.slice AL accL.length cL).ownBlock = some i ∨ (Value.slice AM accM.length cM).ownBlock = some i) → i < W.heap.size) := Lib.hid (fun i hi => hi.elim (fun e => (HC0.out.vl.lt i e).2) (fun e => (HC0.out.vm.lt i e).2))
      clear g6l HBI K6 C4 C3 K4 RQ4 RI4 R4 BX4 HB6
      generalize w4.heap.size = g6 at *
      refine region_anyN (S9 gx g4 g6 k (.slice AL accL.length cL) (.slice AM accM.length cM) qk qi) [11, 13] (by kernel_rfl) HS0.out (fun _ => ?_)
      generalize W6.drew = wf at *
      have VL := Lib.hid HF.out.vl
      have VM := Lib.hid HF.out.vm
      have MV0 := Lib.hid (Mv.refl wf (Value.slice AL accL.length cL).ownBlock (Value.slice AM accM.length cM).ownBlock)
      refine anyN_take (i := 0) (oi := ({ dst := some 28, op := .fieldAddr 24 (.tmp 2) 3, type := 0, pos := "reader.go:132", after := #[], guard := none } : Oper)) (v := .pointer (some ⟨gx, 3, none⟩)) [11, 13] rfl (by kernel_rfl) (by kernel_rfl) (by kernel_rfl) (by kernel_rfl) (fun _ _ _ h => h) (by rfl) (by rintro w' ⟨⟨m0, m1, m2, m3, m4, _⟩, ⟨t0, t1, t2, t3, t4, _⟩, ⟨x0, x1, x2, x3, x4, _⟩⟩; go_simp) HS0.out ?_
      try simp only [Act.put, List.setIfInBounds_toArray, List.set_cons_zero, List.set_cons_succ]
      refine anyN_take (i := 1) (oi := ({ dst := some 29, op := .load 22 (.tmp 28), type := 22, pos := "reader.go:132", after := #[{ on := 0, ground := .data }], guard := none } : Oper)) (v := .slice AL accL.length cL) [11, 13] rfl (by kernel_rfl) (by kernel_rfl) (by kernel_rfl) (by kernel_rfl) (fun _ _ _ h => h) (by rfl) (by rintro w' ⟨⟨m0, m1, m2, m3, m4, _⟩, ⟨t0, t1, t2, t3, t4, _⟩, ⟨x0, x1, x2, x3, x4, _⟩⟩; go_simp) HS0.out ?_
      try simp only [Act.put, List.setIfInBounds_toArray, List.set_cons_zero, List.set_cons_succ]
      refine anyN_take (i := 2) (oi := ({ dst := some 30, op := .load 24 (.tmp 4), type := 24, pos := "reader.go:132", after := #[], guard := none } : Oper)) (v := qk.v) [11, 13] rfl (by kernel_rfl) (by kernel_rfl) (by kernel_rfl) (by kernel_rfl) (fun _ _ _ h => h) (by rfl) (by rintro w' ⟨⟨m0, m1, m2, m3, m4, _⟩, ⟨t0, t1, t2, t3, t4, _⟩, ⟨x0, x1, x2, x3, x4, _⟩⟩; go_simp) HS0.out ?_
      try simp only [Act.put, List.setIfInBounds_toArray, List.set_cons_zero, List.set_cons_succ]
      refine anyN_take (i := 5) (oi := ({ dst := some 33, op := .fieldAddr 24 (.tmp 2) 4, type := 0, pos := "reader.go:132", after := #[], guard := none } : Oper)) (v := .pointer (some ⟨gx, 4, none⟩)) [11, 13] rfl (by kernel_rfl) (by kernel_rfl) (by kernel_rfl) (by kernel_rfl) (fun _ _ _ h => h) (by rfl) (by rintro w' ⟨⟨m0, m1, m2, m3, m4, _⟩, ⟨t0, t1, t2, t3, t4, _⟩, ⟨x0, x1, x2, x3, x4, _⟩⟩; go_simp) HS0.out ?_
      try simp only [Act.put, List.setIfInBounds_toArray, List.set_cons_zero, List.set_cons_succ]
      refine anyN_take (i := 6) (oi := ({ dst := some 34, op := .load 22 (.tmp 33), type := 22, pos := "reader.go:132", after := #[{ on := 5, ground := .data }], guard := none } : Oper)) (v := .slice AM accM.length cM) [11, 13] rfl (by kernel_rfl) (by kernel_rfl) (by kernel_rfl) (by kernel_rfl) (fun _ _ _ h => h) (by rfl) (by rintro w' ⟨⟨m0, m1, m2, m3, m4, _⟩, ⟨t0, t1, t2, t3, t4, _⟩, ⟨x0, x1, x2, x3, x4, _⟩⟩; go_simp) HS0.out ?_
      try simp only [Act.put, List.setIfInBounds_toArray, List.set_cons_zero, List.set_cons_succ]
      refine anyN_take (i := 7) (oi := ({ dst := some 35, op := .load 24 (.tmp 6), type := 24, pos := "reader.go:132", after := #[], guard := none } : Oper)) (v := qi.v) [8, 9, 11, 13] rfl (by kernel_rfl) (by kernel_rfl) (by kernel_rfl) (by kernel_rfl) (fun _ _ _ h => h) (by rfl) (by rintro w' ⟨⟨m0, m1, m2, m3, m4, _⟩, ⟨t0, t1, t2, t3, t4, _⟩, ⟨x0, x1, x2, x3, x4, _⟩⟩; go_simp) HS0.out ?_
      try simp only [Act.put, List.setIfInBounds_toArray, List.set_cons_zero, List.set_cons_succ]
      refine anyN_two (i := 3) (i' := 8) (o := ({ dst := some 31, op := .buildSlice 22 1 #[(0, .tmp 30)], type := 22, pos := "reader.go:132", after := #[{ on := 2, ground := .data }], guard := none } : Oper)) (o' := ({ dst := some 36, op := .buildSlice 22 1 #[(0, .tmp 35)], type := 22, pos := "reader.go:132", after := #[{ on := 7, ground := .data }], guard := none } : Oper)) (by kernel_rfl) rfl rfl (fun K hK => ?_) (fun K hK => ?_)
      · try simp only [Act.put, List.setIfInBounds_toArray, List.set_cons_zero, List.set_cons_succ]
        go_simp
        have hb := below_new wf (.cells qk.pr.kc.toArray 24)
        have hnw := news1 wf 24 qk.pr.kc
        have hsz : (World.alloc wf (.cells qk.pr.kc.toArray 24)).heap.size = wf.heap.size + 1 := by simp
        change Below wf.heap.size wf (World.alloc wf (.cells #[.int .i64 qk.t.k, .int .i64 qk.t.n, .string qk.t.s, .slice qk.A qk.t.l.length qk.c, .slice qk.A' qk.t.m.length qk.c'] 24)) at hb
        change (World.alloc wf (.cells #[.int .i64 qk.t.k, .int .i64 qk.t.n, .string qk.t.s, .slice qk.A qk.t.l.length qk.c, .slice qk.A' qk.t.m.length qk.c'] 24)).heap.size = wf.heap.size + 1 at hsz
        change ∀ j u, qk.pr.kc[j]? = some u → (World.alloc wf (.cells #[.int .i64 qk.t.k, .int .i64 qk.t.n, .string qk.t.s, .slice qk.A qk.t.l.length qk.c, .slice qk.A' qk.t.m.length qk.c'] 24)).cell? ((⟨wf.heap.size, 0, none⟩ : Addr).add j) = some u at hnw
        generalize hWn : World.alloc wf _ = x1w at hb hnw hsz ⊢
        clear hWn
        have HS1 := Lib.hid (HS0.out.below hb)
        have MV1 := Lib.hid (MV0.out.trans (Mv.below hb MV0.out.size))
        obtain ⟨zk, hzk⟩ : ∃ z : Nat, z = wf.heap.size := ⟨_, rfl⟩
        rw [← hzk] at hnw
        rw [← hzk]
        have NK := Lib.hid hnw
        have zkL := Lib.hid (show zk < x1w.heap.size by omega)
        have zkG := Lib.hid (show wf.heap.size ≤ zk by have := MV0.out.size; omega)
        clear hzk
        have VL' := Lib.hid (VL.out.below hb)
        clear VL
        have VL := VL'
        clear VL'
        have VM' := Lib.hid (VM.out.below hb)
        clear VM
        have VM := VM'
        clear VM'
        refine hK.out _ _ (fun _ => HS1.out) ?_
        clear hK K hb hnw hsz
        try simp only [Act.put, List.setIfInBounds_toArray, List.set_cons_zero, List.set_cons_succ]
        refine anyN_two (i := 4) (i' := 8) (o := ({ dst := some 32, op := .call { callee := .builtin .append, args := #[.tmp 29, .tmp 31], argTypes := #[22, 22] }, type := 22, pos := "reader.go:132", after := #[{ on := 1, ground := .data }, { on := 3, ground := .data }], guard := none } : Oper)) (o' := ({ dst := some 36, op := .buildSlice 22 1 #[(0, .tmp 35)], type := 22, pos := "reader.go:132", after := #[{ on := 7, ground := .data }], guard := none } : Oper)) (by kernel_rfl) rfl rfl (fun K hK => ?_) (fun K hK => ?_)
        · refine step_append_big (by rfl) (.tmp 29) (.tmp 31) (by rfl) (gx + 1) AL cL (accL.map At.pr) qk.pr (by simp [Act.eval]) (by have := VL.out; rw [← List.length_map (f := At.pr)] at this; exact this) ⟨zk, 0, none⟩ (by simp [Act.eval]) NK.out (by rw [List.length_map]; omega) (by have := MV1.out.size; have := HF.out.lx; omega) ?_
          intro gL cL2 x2w hvA hgA hatA hltA
          rw [List.length_map] at hvA hgA hatA ⊢
          have hrow : ∀ i, (Value.slice AL accL.length cL).ownBlock = some i → gx + 1 ≤ i ∧ i < wf.heap.size := HF.out.vl.lt
          have HS2 := Lib.hid (HS1.out.kept (hgA.block gx (by have := MV1.out.size; have := HF.out.lx; omega) (fun e => by have := (hrow gx e.symm).1; omega)) (hgA.block g4 (by have := MV1.out.size; have := g4f.out; omega) (fun e => by have := HF0.out g4 (.inl e.symm); have := g4W.out; omega)) (hgA.block g6 (by have := MV1.out.size; have := g6f.out; omega) (fun e => by have := HF0.out g6 (.inl e.symm); have := g6W.out; omega)))
          have MV2 := Lib.hid (MV1.out.grown hgA (fun i e => .inl e))
          have VM' := Lib.hid (VM.out.keep (w' := x2w) (fun b hb' hle hlt' => hgA.block b hlt' (fun e => HF.out.sep b e.symm hb')))
          clear VM
          have VM := VM'
          clear VM' VL
          have VL := Lib.hid hvA
          have gLat := Lib.hid (show (Value.slice AL accL.length cL).ownBlock = some gL ∨ wf.heap.size ≤ gL from hatA.imp id (fun e => by have := MV1.out.size; omega))
          have gLt := Lib.hid hltA
          refine hK.out _ _ (fun _ => HS2.out) ?_
          clear hK K hvA hgA hatA hltA hrow NK zkL zkG
          try simp only [Act.put, List.setIfInBounds_toArray, List.set_cons_zero, List.set_cons_succ]
          refine anyN_take (i := 10) (oi := ({ dst := some 38, op := .fieldAddr 24 (.tmp 2) 3, type := 0, pos := "reader.go:132", after := #[{ on := 0, ground := .phase }, { on := 1, ground := .phase }, { on := 2, ground := .phase }, { on := 3, ground := .phase }, { on := 4, ground := .phase }, { on := 5, ground := .phase }, { on := 6, ground := .phase }, { on := 7, ground := .textOnly .lateStores }, { on := 8, ground := .textOnly .inlinedCapture }, { on := 9, ground := .textOnly .lateStoresUnsure }], guard := none } : Oper)) (v := .pointer (some ⟨gx, 3, none⟩)) [11, 12, 13] rfl (by kernel_rfl) (by kernel_rfl) (by kernel_rfl) (by kernel_rfl) (fun _ _ _ h => h) (by rfl) (by rintro w' ⟨⟨m0, m1, m2, m3, m4, _⟩, ⟨t0, t1, t2, t3, t4, _⟩, ⟨x0, x1, x2, x3, x4, _⟩⟩; go_simp) HS2.out ?_
          try simp only [Act.put, List.setIfInBounds_toArray, List.set_cons_zero, List.set_cons_succ]
          refine anyN_one (i := 8) (o := ({ dst := some 36, op := .buildSlice 22 1 #[(0, .tmp 35)], type := 22, pos := "reader.go:132", after := #[{ on := 7, ground := .data }], guard := none } : Oper)) (by kernel_rfl) rfl (fun K hK => ?_)
          try simp only [Act.put, List.setIfInBounds_toArray, List.set_cons_zero, List.set_cons_succ]
          go_simp
          have hb := below_new x2w (.cells qi.pr.kc.toArray 24)
          have hnw := news1 x2w 24 qi.pr.kc
          have hsz : (World.alloc x2w (.cells qi.pr.kc.toArray 24)).heap.size = x2w.heap.size + 1 := by simp
          change Below x2w.heap.size x2w (World.alloc x2w (.cells #[.int .i64 qi.t.k, .int .i64 qi.t.n, .string qi.t.s, .slice qi.A qi.t.l.length qi.c, .slice qi.A' qi.t.m.length qi.c'] 24)) at hb
          change (World.alloc x2w (.cells #[.int .i64 qi.t.k, .int .i64 qi.t.n, .string qi.t.s, .slice qi.A qi.t.l.length qi.c, .slice qi.A' qi.t.m.length qi.c'] 24)).heap.size = x2w.heap.size + 1 at hsz
          change ∀ j u, qi.pr.kc[j]? = some u → (World.alloc x2w (.cells #[.int .i64 qi.t.k, .int .i64 qi.t.n, .string qi.t.s, .slice qi.A qi.t.l.length qi.c, .slice qi.A' qi.t.m.length qi.c'] 24)).cell? ((⟨x2w.heap.size, 0, none⟩ : Addr).add j) = some u at hnw
          generalize hWn : World.alloc x2w _ = x3w at hb hnw hsz ⊢
          clear hWn
          have HS3 := Lib.hid (HS2.out.below hb)
          have MV3 := Lib.hid (MV2.out.trans (Mv.below hb MV2.out.size))
          obtain ⟨zi, hzi⟩ : ∃ z : Nat, z = x2w.heap.size := ⟨_, rfl⟩
          rw [← hzi] at hnw
          rw [← hzi]
          have NI := Lib.hid hnw
          have ziL := Lib.hid (show zi < x3w.heap.size by omega)
          have ziG := Lib.hid (show wf.heap.size ≤ zi by have := MV2.out.size; omega)
          clear hzi
          have VL' := Lib.hid (VL.out.below hb)
          clear VL
          have VL := VL'
          clear VL'
          have gLl := Lib.hid (show gL < x3w.heap.size by have := gLt.out; omega)
          clear gLt
          have gLt := gLl
          clear gLl
          have VM' := Lib.hid (VM.out.below hb)
          clear VM
          have VM := VM'
          clear VM'
          refine hK.out _ _ (fun _ => HS3.out) ?_
          clear hK K hb hnw hsz
          try simp only [Act.put, List.setIfInBounds_toArray, List.set_cons_zero, List.set_cons_succ]
          refine anyN_one (i := 9) (o := ({ dst := some 37, op := .call { callee := .builtin .append, args := #[.tmp 34, .tmp 36], argTypes := #[22, 22] }, type := 22, pos := "reader.go:132", after := #[{ on := 6, ground := .data }, { on := 8, ground := .data }, { on := 4, ground := .chain }], guard := none } : Oper)) (by kernel_rfl) rfl (fun K hK => ?_)
          refine step_append_big (by rfl) (.tmp 34) (.tmp 36) (by rfl) (gx + 1) AM cM (accM.map At.pr) qi.pr (by simp [Act.eval]) (by have := VM.out; rw [← List.length_map (f := At.pr)] at this; exact this) ⟨zi, 0, none⟩ (by simp [Act.eval]) NI.out (by rw [List.length_map]; omega) (by have := MV3.out.size; have := HF.out.lx; omega) ?_
          intro gM cM2 wA hvA hgA hatA hltA
          rw [List.length_map] at hvA hgA hatA ⊢
          have hrow : ∀ i, (Value.slice AM accM.length cM).ownBlock = some i → gx + 1 ≤ i ∧ i < wf.heap.size := HF.out.vm.lt
          have CX := HS3.out.box.kept (hgA.block gx (by have := MV3.out.size; have := HF.out.lx; omega) (fun e => by have := (hrow gx e.symm).1; omega))
          have hne : gM ≠ gL := by
            intro e
            rcases hatA with h1 | h1
            · rcases gLat.out with h2 | h2
              · exact HF.out.sep gL h2 (by rw [h1, e])
              · have := (hrow gM h1).2; omega
            · have := gLt.out; omega
          have FIN := Lib.hid (dict_fin HC0.out KF.out RF.out RQ.out RI.out (MV3.out.grown hgA (fun i e => .inr (.inl e))) (VL.out.keep (fun b hb' hle hlt' => hgA.block b hlt' (fun e => by
            injection hb' with hb'
            have hb' : gL = b := hb'
            rcases gLat.out with h2 | h2
            · exact HF.out.sep gL h2 (by rw [hb']; exact e.symm)
            · have := (hrow b e.symm).2; omega))) hvA CX gLat.out (hatA.imp id (fun e => by have := MV3.out.size; omega)) (fun e => hne e.symm))
          refine hK.out _ _ (fun _ => HS3.out.kept (hgA.block gx (by have := MV3.out.size; have := HF.out.lx; omega) (fun e => by have := (hrow gx e.symm).1; omega)) (hgA.block g4 (by have := MV3.out.size; have := g4f.out; omega) (fun e => by have := HF0.out g4 (.inr e.symm); have := g4W.out; omega)) (hgA.block g6 (by have := MV3.out.size; have := g6f.out; omega) (fun e => by have := HF0.out g6 (.inr e.symm); have := g6W.out; omega))) ?_
          obtain ⟨y0, y1, y2, y3, y4, z0, z1, z2, z3, z4, _⟩ := CX
          clear hK K hvA hgA hatA hltA hrow
          try simp only [Act.put, List.setIfInBounds_toArray, List.set_cons_zero, List.set_cons_succ]
          refine anyN_one (i := 11) (o := ({ dst := none, op := .store 22 (.tmp 38) (.tmp 32), type := 0, pos := "reader.go:132", after := #[{ on := 10, ground := .data }, { on := 4, ground := .data }, { on := 9, ground := .chain }, { on := 0, ground := .phase }, { on := 1, ground := .phase }, { on := 2, ground := .phase }, { on := 3, ground := .phase }, { on := 4, ground := .phase }, { on := 5, ground := .phase }, { on := 6, ground := .phase }, { on := 7, ground := .textOnly .lateStores }, { on := 8, ground := .textOnly .inlinedCapture }, { on := 9, ground := .textOnly .lateStoresUnsure }], guard := none } : Oper)) (by kernel_rfl) rfl (fun K hK => ?_)
          try simp only [Act.put]
          go_simp
          refine hK.out _ _ (fun h => absurd h (by decide)) ?_
          clear hK K
          try simp only [Act.put, List.setIfInBounds_toArray, List.set_cons_zero, List.set_cons_succ]
          refine anyN_one (i := 12) (o := ({ dst := some 39, op := .fieldAddr 24 (.tmp 2) 4, type := 0, pos := "reader.go:132", after := #[{ on := 0, ground := .phase }, { on := 1, ground := .phase }, { on := 2, ground := .phase }, { on := 3, ground := .phase }, { on := 4, ground := .phase }, { on := 5, ground := .phase }, { on := 6, ground := .phase }, { on := 7, ground := .phase }, { on := 8, ground := .phase }, { on := 9, ground := .phase }, { on := 10, ground := .phase }, { on := 11, ground := .phase }], guard := none } : Oper)) (by kernel_rfl) rfl (fun K hK => ?_)
          try simp only [Act.put, List.setIfInBounds_toArray, List.set_cons_zero, List.set_cons_succ]
          go_simp
          refine hK.out _ _ (fun h => absurd h (by decide)) ?_
          clear hK K
          try simp only [Act.put, List.setIfInBounds_toArray, List.set_cons_zero, List.set_cons_succ]
          refine anyN_one (i := 13) (o := ({ dst := none, op := .store 22 (.tmp 39) (.tmp 37), type := 0, pos := "reader.go:132", after := #[{ on := 12, ground := .data }, { on := 9, ground := .data }, { on := 11, ground := .chain }, { on := 0, ground := .phase }, { on := 1, ground := .phase }, { on := 2, ground := .phase }, { on := 3, ground := .phase }, { on := 4, ground := .phase }, { on := 5, ground := .phase }, { on := 6, ground := .phase }, { on := 7, ground := .phase }, { on := 8, ground := .phase }, { on := 9, ground := .phase }, { on := 10, ground := .phase }, { on := 11, ground := .phase }], guard := none } : Oper)) (by kernel_rfl) rfl (fun K hK => ?_)
          try simp only [Act.put]
          go_simp
          refine hK.out _ _ (fun h => absurd h (by decide)) ?_
          clear hK K
          try simp only [Act.put, List.setIfInBounds_toArray, List.set_cons_zero, List.set_cons_succ]
          refine anyN_done (by kernel_rfl) ?_ _
          go_wp2
          go_ret
          exact ⟨b2, l3, accL ++ [qk], accM ++ [qi], _, _, _, _, rfl, FIN.out.1, FIN.out.2, by simp, by simp, HXX.out, HNN.out⟩
        · try simp only [Act.put, List.setIfInBounds_toArray, List.set_cons_zero, List.set_cons_succ]
          go_simp
          have hb := below_new x1w (.cells qi.pr.kc.toArray 24)
          have hnw := news1 x1w 24 qi.pr.kc
          have hsz : (World.alloc x1w (.cells qi.pr.kc.toArray 24)).heap.size = x1w.heap.size + 1 := by simp
          change Below x1w.heap.size x1w (World.alloc x1w (.cells #[.int .i64 qi.t.k, .int .i64 qi.t.n, .string qi.t.s, .slice qi.A qi.t.l.length qi.c, .slice qi.A' qi.t.m.length qi.c'] 24)) at hb
          change (World.alloc x1w (.cells #[.int .i64 qi.t.k, .int .i64 qi.t.n, .string qi.t.s, .slice qi.A qi.t.l.length qi.c, .slice qi.A' qi.t.m.length qi.c'] 24)).heap.size = x1w.heap.size + 1 at hsz
          change ∀ j u, qi.pr.kc[j]? = some u → (World.alloc x1w (.cells #[.int .i64 qi.t.k, .int .i64 qi.t.n, .string qi.t.s, .slice qi.A qi.t.l.length qi.c, .slice qi.A' qi.t.m.length qi.c'] 24)).cell? ((⟨x1w.heap.size, 0, none⟩ : Addr).add j) = some u at hnw
          generalize hWn : World.alloc x1w _ = x2w at hb hnw hsz ⊢
          clear hWn
          have HS2 := Lib.hid (HS1.out.below hb)
          have MV2 := Lib.hid (MV1.out.trans (Mv.below hb MV1.out.size))
          obtain ⟨zi, hzi⟩ : ∃ z : Nat, z = x1w.heap.size := ⟨_, rfl⟩
          rw [← hzi] at hnw
          rw [← hzi]
          have NI := Lib.hid hnw
          have ziL := Lib.hid (show zi < x2w.heap.size by omega)
          have ziG := Lib.hid (show wf.heap.size ≤ zi by have := MV1.out.size; omega)
          clear hzi
          have VL' := Lib.hid (VL.out.below hb)
          clear VL
          have VL := VL'
          clear VL'
          have VM' := Lib.hid (VM.out.below hb)
          clear VM
          have VM := VM'
          clear VM'
          have NK' := Lib.hid (news_below NK.out hb zkL.out)
          have zkL' := Lib.hid (show zk < x2w.heap.size by have := zkL.out; omega)
          clear NK zkL
          have NK := NK'
          have zkL := zkL'
          clear NK' zkL'
          refine hK.out _ _ (fun _ => HS2.out) ?_
          clear hK K hb hnw hsz
          try simp only [Act.put, List.setIfInBounds_toArray, List.set_cons_zero, List.set_cons_succ]
          refine anyN_one (i := 4) (o := ({ dst := some 32, op := .call { callee := .builtin .append, args := #[.tmp 29, .tmp 31], argTypes := #[22, 22] }, type := 22, pos := "reader.go:132", after := #[{ on := 1, ground := .data }, { on := 3, ground := .data }], guard := none } : Oper)) (by kernel_rfl) rfl (fun K hK => ?_)
          refine step_append_big (by rfl) (.tmp 29) (.tmp 31) (by rfl) (gx + 1) AL cL (accL.map At.pr) qk.pr (by simp [Act.eval]) (by have := VL.out; rw [← List.length_map (f := At.pr)] at this; exact this) ⟨zk, 0, none⟩ (by simp [Act.eval]) NK.out (by rw [List.length_map]; omega) (by have := MV2.out.size; have := HF.out.lx; omega) ?_
          intro gL cL2 x3w hvA hgA hatA hltA
          rw [List.length_map] at hvA hgA hatA ⊢
          have hrow : ∀ i, (Value.slice AL accL.length cL).ownBlock = some i → gx + 1 ≤ i ∧ i < wf.heap.size := HF.out.vl.lt
          have HS3 := Lib.hid (HS2.out.kept (hgA.block gx (by have := MV2.out.size; have := HF.out.lx; omega) (fun e => by have := (hrow gx e.symm).1; omega)) (hgA.block g4 (by have := MV2.out.size; have := g4f.out; omega) (fun e => by have := HF0.out g4 (.inl e.symm); have := g4W.out; omega)) (hgA.block g6 (by have := MV2.out.size; have := g6f.out; omega) (fun e => by have := HF0.out g6 (.inl e.symm); have := g6W.out; omega)))
          have MV3 := Lib.hid (MV2.out.grown hgA (fun i e => .inl e))
          have VM' := Lib.hid (VM.out.keep (w' := x3w) (fun b hb' hle hlt' => hgA.block b hlt' (fun e => HF.out.sep b e.symm hb')))
          clear VM
          have VM := VM'
          clear VM' VL
          have VL := Lib.hid hvA
          have gLat := Lib.hid (show (Value.slice AL accL.length cL).ownBlock = some gL ∨ wf.heap.size ≤ gL from hatA.imp id (fun e => by have := MV2.out.size; omega))
          have gLt := Lib.hid hltA
          have NI' := Lib.hid (news_far NI.out hgA ziL.out (fun e => by have := (hrow zi e.symm).2; have := ziG.out; omega))
          have ziL' := Lib.hid (show zi < x3w.heap.size by have := ziL.out; have := hgA.size; omega)
          clear NI ziL
          have NI := NI'
          have ziL := ziL'
          clear NI' ziL'
          refine hK.out _ _ (fun _ => HS3.out) ?_
          clear hK K hvA hgA hatA hltA hrow NK zkL zkG
          try simp only [Act.put, List.setIfInBounds_toArray, List.set_cons_zero, List.set_cons_succ]
          refine anyN_take (i := 10) (oi := ({ dst := some 38, op := .fieldAddr 24 (.tmp 2) 3, type := 0, pos := "reader.go:132", after := #[{ on := 0, ground := .phase }, { on := 1, ground := .phase }, { on := 2, ground := .phase }, { on := 3, ground := .phase }, { on := 4, ground := .phase }, { on := 5, ground := .phase }, { on := 6, ground := .phase }, { on := 7, ground := .textOnly .lateStores }, { on := 8, ground := .textOnly .inlinedCapture }, { on := 9, ground := .textOnly .lateStoresUnsure }], guard := none } : Oper)) (v := .pointer (some ⟨gx, 3, none⟩)) [11, 12, 13] rfl (by kernel_rfl) (by kernel_rfl) (by kernel_rfl) (by kernel_rfl) (fun _ _ _ h => h) (by rfl) (by rintro w' ⟨⟨m0, m1, m2, m3, m4, _⟩, ⟨t0, t1, t2, t3, t4, _⟩, ⟨x0, x1, x2, x3, x4, _⟩⟩; go_simp) HS3.out ?_
          try simp only [Act.put, List.setIfInBounds_toArray, List.set_cons_zero, List.set_cons_succ]
          refine anyN_one (i := 9) (o := ({ dst := some 37, op := .call { callee := .builtin .append, args := #[.tmp 34, .tmp 36], argTypes := #[22, 22] }, type := 22, pos := "reader.go:132", after := #[{ on := 6, ground := .data }, { on := 8, ground := .data }, { on := 4, ground := .chain }], guard := none } : Oper)) (by kernel_rfl) rfl (fun K hK => ?_)
          refine step_append_big (by rfl) (.tmp 34) (.tmp 36) (by rfl) (gx + 1) AM cM (accM.map At.pr) qi.pr (by simp [Act.eval]) (by have := VM.out; rw [← List.length_map (f := At.pr)] at this; exact this) ⟨zi, 0, none⟩ (by simp [Act.eval]) NI.out (by rw [List.length_map]; omega) (by have := MV3.out.size; have := HF.out.lx; omega) ?_
          intro gM cM2 wA hvA hgA hatA hltA
          rw [List.length_map] at hvA hgA hatA ⊢
          have hrow : ∀ i, (Value.slice AM accM.length cM).ownBlock = some i → gx + 1 ≤ i ∧ i < wf.heap.size := HF.out.vm.lt
          have CX := HS3.out.box.kept (hgA.block gx (by have := MV3.out.size; have := HF.out.lx; omega) (fun e => by have := (hrow gx e.symm).1; omega))
          have hne : gM ≠ gL := by
            intro e
            rcases hatA with h1 | h1
            · rcases gLat.out with h2 | h2
              · exact HF.out.sep gL h2 (by rw [h1, e])
              · have := (hrow gM h1).2; omega
            · have := gLt.out; omega
          have FIN := Lib.hid (dict_fin HC0.out KF.out RF.out RQ.out RI.out (MV3.out.grown hgA (fun i e => .inr (.inl e))) (VL.out.keep (fun b hb' hle hlt' => hgA.block b hlt' (fun e => by
            injection hb' with hb'
            have hb' : gL = b := hb'
            rcases gLat.out with h2 | h2
            · exact HF.out.sep gL h2 (by rw [hb']; exact e.symm)
            · have := (hrow b e.symm).2; omega))) hvA CX gLat.out (hatA.imp id (fun e => by have := MV3.out.size; omega)) (fun e => hne e.symm))
          refine hK.out _ _ (fun _ => HS3.out.kept (hgA.block gx (by have := MV3.out.size; have := HF.out.lx; omega) (fun e => by have := (hrow gx e.symm).1; omega)) (hgA.block g4 (by have := MV3.out.size; have := g4f.out; omega) (fun e => by have := HF0.out g4 (.inr e.symm); have := g4W.out; omega)) (hgA.block g6 (by have := MV3.out.size; have := g6f.out; omega) (fun e => by have := HF0.out g6 (.inr e.symm); have := g6W.out; omega))) ?_
          obtain ⟨y0, y1, y2, y3, y4, z0, z1, z2, z3, z4, _⟩ := CX
          clear hK K hvA hgA hatA hltA hrow
          try simp only [Act.put, List.setIfInBounds_toArray, List.set_cons_zero, List.set_cons_succ]
          refine anyN_one (i := 11) (o := ({ dst := none, op := .store 22 (.tmp 38) (.tmp 32), type := 0, pos := "reader.go:132", after := #[{ on := 10, ground := .data }, { on := 4, ground := .data }, { on := 9, ground := .chain }, { on := 0, ground := .phase }, { on := 1, ground := .phase }, { on := 2, ground := .phase }, { on := 3, ground := .phase }, { on := 4, ground := .phase }, { on := 5, ground := .phase }, { on := 6, ground := .phase }, { on := 7, ground := .textOnly .lateStores }, { on := 8, ground := .textOnly .inlinedCapture }, { on := 9, ground := .textOnly .lateStoresUnsure }], guard := none } : Oper)) (by kernel_rfl) rfl (fun K hK => ?_)
          try simp only [Act.put]
          go_simp
          refine hK.out _ _ (fun h => absurd h (by decide)) ?_
          clear hK K
          try simp only [Act.put, List.setIfInBounds_toArray, List.set_cons_zero, List.set_cons_succ]
          refine anyN_one (i := 12) (o := ({ dst := some 39, op := .fieldAddr 24 (.tmp 2) 4, type := 0, pos := "reader.go:132", after := #[{ on := 0, ground := .phase }, { on := 1, ground := .phase }, { on := 2, ground := .phase }, { on := 3, ground := .phase }, { on := 4, ground := .phase }, { on := 5, ground := .phase }, { on := 6, ground := .phase }, { on := 7, ground := .phase }, { on := 8, ground := .phase }, { on := 9, ground := .phase }, { on := 10, ground := .phase }, { on := 11, ground := .phase }], guard := none } : Oper)) (by kernel_rfl) rfl (fun K hK => ?_)
          try simp only [Act.put, List.setIfInBounds_toArray, List.set_cons_zero, List.set_cons_succ]
          go_simp
          refine hK.out _ _ (fun h => absurd h (by decide)) ?_
          clear hK K
          try simp only [Act.put, List.setIfInBounds_toArray, List.set_cons_zero, List.set_cons_succ]
          refine anyN_one (i := 13) (o := ({ dst := none, op := .store 22 (.tmp 39) (.tmp 37), type := 0, pos := "reader.go:132", after := #[{ on := 12, ground := .data }, { on := 9, ground := .data }, { on := 11, ground := .chain }, { on := 0, ground := .phase }, { on := 1, ground := .phase }, { on := 2, ground := .phase }, { on := 3, ground := .phase }, { on := 4, ground := .phase }, { on := 5, ground := .phase }, { on := 6, ground := .phase }, { on := 7, ground := .phase }, { on := 8, ground := .phase }, { on := 9, ground := .phase }, { on := 10, ground := .phase }, { on := 11, ground := .phase }], guard := none } : Oper)) (by kernel_rfl) rfl (fun K hK => ?_)
          try simp only [Act.put]
          go_simp
          refine hK.out _ _ (fun h => absurd h (by decide)) ?_
          clear hK K
          try simp only [Act.put, List.setIfInBounds_toArray, List.set_cons_zero, List.set_cons_succ]
          refine anyN_done (by kernel_rfl) ?_ _
          go_wp2
          go_ret
          exact ⟨b2, l3, accL ++ [qk], accM ++ [qi], _, _, _, _, rfl, FIN.out.1, FIN.out.2, by simp, by simp, HXX.out, HNN.out⟩
      · try simp only [Act.put, List.setIfInBounds_toArray, List.set_cons_zero, List.set_cons_succ]
        go_simp
        have hb := below_new wf (.cells qi.pr.kc.toArray 24)
        have hnw := news1 wf 24 qi.pr.kc
        have hsz : (World.alloc wf (.cells qi.pr.kc.toArray 24)).heap.size = wf.heap.size + 1 := by simp
        change Below wf.heap.size wf (World.alloc wf (.cells #[.int .i64 qi.t.k, .int .i64 qi.t.n, .string qi.t.s, .slice qi.A qi.t.l.length qi.c, .slice qi.A' qi.t.m.length qi.c'] 24)) at hb
        change (World.alloc wf (.cells #[.int .i64 qi.t.k, .int .i64 qi.t.n, .string qi.t.s, .slice qi.A qi.t.l.length qi.c, .slice qi.A' qi.t.m.length qi.c'] 24)).heap.size = wf.heap.size + 1 at hsz
        change ∀ j u, qi.pr.kc[j]? = some u → (World.alloc wf (.cells #[.int .i64 qi.t.k, .int .i64 qi.t.n, .string qi.t.s, .slice qi.A qi.t.l.length qi.c, .slice qi.A' qi.t.m.length qi.c'] 24)).cell? ((⟨wf.heap.size, 0, none⟩ : Addr).add j) = some u at hnw
        generalize hWn : World.alloc wf _ = x1w at hb hnw hsz ⊢
        clear hWn
        have HS1 := Lib.hid (HS0.out.below hb)
        have MV1 := Lib.hid (MV0.out.trans (Mv.below hb MV0.out.size))
        obtain ⟨zi, hzi⟩ : ∃ z : Nat, z = wf.heap.size := ⟨_, rfl⟩
        rw [← hzi] at hnw
        rw [← hzi]
        have NI := Lib.hid hnw
        have ziL := Lib.hid (show zi < x1w.heap.size by omega)
        have ziG := Lib.hid (show wf.heap.size ≤ zi by have := MV0.out.size; omega)
        clear hzi
        have VL' := Lib.hid (VL.out.below hb)
        clear VL
        have VL := VL'
        clear VL'
        have VM' := Lib.hid (VM.out.below hb)
        clear VM
        have VM := VM'
        clear VM'
        refine hK.out _ _ (fun _ => HS1.out) ?_
        clear hK K hb hnw hsz
        try simp only [Act.put, List.setIfInBounds_toArray, List.set_cons_zero, List.set_cons_succ]
        refine anyN_one (i := 3) (o := ({ dst := some 31, op := .buildSlice 22 1 #[(0, .tmp 30)], type := 22, pos := "reader.go:132", after := #[{ on := 2, ground := .data }], guard := none } : Oper)) (by kernel_rfl) rfl (fun K hK => ?_)
        try simp only [Act.put, List.setIfInBounds_toArray, List.set_cons_zero, List.set_cons_succ]
        go_simp
        have hb := below_new x1w (.cells qk.pr.kc.toArray 24)
        have hnw := news1 x1w 24 qk.pr.kc
        have hsz : (World.alloc x1w (.cells qk.pr.kc.toArray 24)).heap.size = x1w.heap.size + 1 := by simp
        change Below x1w.heap.size x1w (World.alloc x1w (.cells #[.int .i64 qk.t.k, .int .i64 qk.t.n, .string qk.t.s, .slice qk.A qk.t.l.length qk.c, .slice qk.A' qk.t.m.length qk.c'] 24)) at hb
        change (World.alloc x1w (.cells #[.int .i64 qk.t.k, .int .i64 qk.t.n, .string qk.t.s, .slice qk.A qk.t.l.length qk.c, .slice qk.A' qk.t.m.length qk.c'] 24)).heap.size = x1w.heap.size + 1 at hsz
        change ∀ j u, qk.pr.kc[j]? = some u → (World.alloc x1w (.cells #[.int .i64 qk.t.k, .int .i64 qk.t.n, .string qk.t.s, .slice qk.A qk.t.l.length qk.c, .slice qk.A' qk.t.m.length qk.c'] 24)).cell? ((⟨x1w.heap.size, 0, none⟩ : Addr).add j) = some u at hnw
        generalize hWn : World.alloc x1w _ = x2w at hb hnw hsz ⊢
        clear hWn
        have HS2 := Lib.hid (HS1.out.below hb)
        have MV2 := Lib.hid (MV1.out.trans (Mv.below hb MV1.out.size))
        obtain ⟨zk, hzk⟩ : ∃ z : Nat, z = x1w.heap.size := ⟨_, rfl⟩
        rw [← hzk] at hnw
        rw [← hzk]
        have NK := Lib.hid hnw
        have zkL := Lib.hid (show zk < x2w.heap.size by omega)
        have zkG := Lib.hid (show wf.heap.size ≤ zk by have := MV1.out.size; omega)
        clear hzk
        have VL' := Lib.hid (VL.out.below hb)
        clear VL
        have VL := VL'
        clear VL'
        have VM' := Lib.hid (VM.out.below hb)
        clear VM
        have VM := VM'
        clear VM'
        have NI' := Lib.hid (news_below NI.out hb ziL.out)
        have ziL' := Lib.hid (show zi < x2w.heap.size by have := ziL.out; omega)
        clear NI ziL
        have NI := NI'
        have ziL := ziL'
        clear NI' ziL'
        refine hK.out _ _ (fun _ => HS2.out) ?_
        clear hK K hb hnw hsz
        try simp only [Act.put, List.setIfInBounds_toArray, List.set_cons_zero, List.set_cons_succ]
        refine anyN_one (i := 4) (o := ({ dst := some 32, op := .call { callee := .builtin .append, args := #[.tmp 29, .tmp 31], argTypes := #[22, 22] }, type := 22, pos := "reader.go:132", after := #[{ on := 1, ground := .data }, { on := 3, ground := .data }], guard := none } : Oper)) (by kernel_rfl) rfl (fun K hK => ?_)
        refine step_append_big (by rfl) (.tmp 29) (.tmp 31) (by rfl) (gx + 1) AL cL (accL.map At.pr) qk.pr (by simp [Act.eval]) (by have := VL.out; rw [← List.length_map (f := At.pr)] at this; exact this) ⟨zk, 0, none⟩ (by simp [Act.eval]) NK.out (by rw [List.length_map]; omega) (by have := MV2.out.size; have := HF.out.lx; omega) ?_
        intro gL cL2 x3w hvA hgA hatA hltA
        rw [List.length_map] at hvA hgA hatA ⊢
        have hrow : ∀ i, (Value.slice AL accL.length cL).ownBlock = some i → gx + 1 ≤ i ∧ i < wf.heap.size := HF.out.vl.lt
        have HS3 := Lib.hid (HS2.out.kept (hgA.block gx (by have := MV2.out.size; have := HF.out.lx; omega) (fun e => by have := (hrow gx e.symm).1; omega)) (hgA.block g4 (by have := MV2.out.size; have := g4f.out; omega) (fun e => by have := HF0.out g4 (.inl e.symm); have := g4W.out; omega)) (hgA.block g6 (by have := MV2.out.size; have := g6f.out; omega) (fun e => by have := HF0.out g6 (.inl e.symm); have := g6W.out; omega)))
        have MV3 := Lib.hid (MV2.out.grown hgA (fun i e => .inl e))
        have VM' := Lib.hid (VM.out.keep (w' := x3w) (fun b hb' hle hlt' => hgA.block b hlt' (fun e => HF.out.sep b e.symm hb')))
        clear VM
        have VM := VM'
        clear VM' VL
        have VL := Lib.hid hvA
        have gLat := Lib.hid (show (Value.slice AL accL.length cL).ownBlock = some gL ∨ wf.heap.size ≤ gL from hatA.imp id (fun e => by have := MV2.out.size; omega))
        have gLt := Lib.hid hltA
        have NI' := Lib.hid (news_far NI.out hgA ziL.out (fun e => by have := (hrow zi e.symm).2; have := ziG.out; omega))
        have ziL' := Lib.hid (show zi < x3w.heap.size by have := ziL.out; have := hgA.size; omega)
        clear NI ziL
        have NI := NI'
        have ziL := ziL'
        clear NI' ziL'
        refine hK.out _ _ (fun _ => HS3.out) ?_
        clear hK K hvA hgA hatA hltA hrow NK zkL zkG
        try simp only [Act.put, List.setIfInBounds_toArray, List.set_cons_zero, List.set_cons_succ]
        refine anyN_take (i := 10) (oi := ({ dst := some 38, op := .fieldAddr 24 (.tmp 2) 3, type := 0, pos := "reader.go:132", after := #[{ on := 0, ground := .phase }, { on := 1, ground := .phase }, { on := 2, ground := .phase }, { on := 3, ground := .phase }, { on := 4, ground := .phase }, { on := 5, ground := .phase }, { on := 6, ground := .phase }, { on := 7, ground := .textOnly .lateStores }, { on := 8, ground := .textOnly .inlinedCapture }, { on := 9, ground := .textOnly .lateStoresUnsure }], guard := none } : Oper)) (v := .pointer (some ⟨gx, 3, none⟩)) [11, 12, 13] rfl (by kernel_rfl) (by kernel_rfl) (by kernel_rfl) (by kernel_rfl) (fun _ _ _ h => h) (by rfl) (by rintro w' ⟨⟨m0, m1, m2, m3, m4, _⟩, ⟨t0, t1, t2, t3, t4, _⟩, ⟨x0, x1, x2, x3, x4, _⟩⟩; go_simp) HS3.out ?_
        try simp only [Act.put, List.setIfInBounds_toArray, List.set_cons_zero, List.set_cons_succ]
        refine anyN_one (i := 9) (o := ({ dst := some 37, op := .call { callee := .builtin .append, args := #[.tmp 34, .tmp 36], argTypes := #[22, 22] }, type := 22, pos := "reader.go:132", after := #[{ on := 6, ground := .data }, { on := 8, ground := .data }, { on := 4, ground := .chain }], guard := none } : Oper)) (by kernel_rfl) rfl (fun K hK => ?_)
        refine step_append_big (by rfl) (.tmp 34) (.tmp 36) (by rfl) (gx + 1) AM cM (accM.map At.pr) qi.pr (by simp [Act.eval]) (by have := VM.out; rw [← List.length_map (f := At.pr)] at this; exact this) ⟨zi, 0, none⟩ (by simp [Act.eval]) NI.out (by rw [List.length_map]; omega) (by have := MV3.out.size; have := HF.out.lx; omega) ?_
        intro gM cM2 wA hvA hgA hatA hltA
        rw [List.length_map] at hvA hgA hatA ⊢
        have hrow : ∀ i, (Value.slice AM accM.length cM).ownBlock = some i → gx + 1 ≤ i ∧ i < wf.heap.size := HF.out.vm.lt
        have CX := HS3.out.box.kept (hgA.block gx (by have := MV3.out.size; have := HF.out.lx; omega) (fun e => by have := (hrow gx e.symm).1; omega))
        have hne : gM ≠ gL := by
          intro e
          rcases hatA with h1 | h1
          · rcases gLat.out with h2 | h2
            · exact HF.out.sep gL h2 (by rw [h1, e])
            · have := (hrow gM h1).2; omega
          · have := gLt.out; omega
        have FIN := Lib.hid (dict_fin HC0.out KF.out RF.out RQ.out RI.out (MV3.out.grown hgA (fun i e => .inr (.inl e))) (VL.out.keep (fun b hb' hle hlt' => hgA.block b hlt' (fun e => by
          injection hb' with hb'
          have hb' : gL = b := hb'
          rcases gLat.out with h2 | h2
          · exact HF.out.sep gL h2 (by rw [hb']; exact e.symm)
          · have := (hrow b e.symm).2; omega))) hvA CX gLat.out (hatA.imp id (fun e => by have := MV3.out.size; omega)) (fun e => hne e.symm))
        refine hK.out _ _ (fun _ => HS3.out.kept (hgA.block gx (by have := MV3.out.size; have := HF.out.lx; omega) (fun e => by have := (hrow gx e.symm).1; omega)) (hgA.block g4 (by have := MV3.out.size; have := g4f.out; omega) (fun e => by have := HF0.out g4 (.inr e.symm); have := g4W.out; omega)) (hgA.block g6 (by have := MV3.out.size; have := g6f.out; omega) (fun e => by have := HF0.out g6 (.inr e.symm); have := g6W.out; omega))) ?_
        obtain ⟨y0, y1, y2, y3, y4, z0, z1, z2, z3, z4, _⟩ := CX
        clear hK K hvA hgA hatA hltA hrow
        try simp only [Act.put, List.setIfInBounds_toArray, List.set_cons_zero, List.set_cons_succ]
        refine anyN_one (i := 11) (o := ({ dst := none, op := .store 22 (.tmp 38) (.tmp 32), type := 0, pos := "reader.go:132", after := #[{ on := 10, ground := .data }, { on := 4, ground := .data }, { on := 9, ground := .chain }, { on := 0, ground := .phase }, { on := 1, ground := .phase }, { on := 2, ground := .phase }, { on := 3, ground := .phase }, { on := 4, ground := .phase }, { on := 5, ground := .phase }, { on := 6, ground := .phase }, { on := 7, ground := .textOnly .lateStores }, { on := 8, ground := .textOnly .inlinedCapture }, { on := 9, ground := .textOnly .lateStoresUnsure }], guard := none } : Oper)) (by kernel_rfl) rfl (fun K hK => ?_)
        try simp only [Act.put]
        go_simp
        refine hK.out _ _ (fun h => absurd h (by decide)) ?_
        clear hK K
        try simp only [Act.put, List.setIfInBounds_toArray, List.set_cons_zero, List.set_cons_succ]
        refine anyN_one (i := 12) (o := ({ dst := some 39, op := .fieldAddr 24 (.tmp 2) 4, type := 0, pos := "reader.go:132", after := #[{ on := 0, ground := .phase }, { on := 1, ground := .phase }, { on := 2, ground := .phase }, { on := 3, ground := .phase }, { on := 4, ground := .phase }, { on := 5, ground := .phase }, { on := 6, ground := .phase }, { on := 7, ground := .phase }, { on := 8, ground := .phase }, { on := 9, ground := .phase }, { on := 10, ground := .phase }, { on := 11, ground := .phase }], guard := none } : Oper)) (by kernel_rfl) rfl (fun K hK => ?_)
        try simp only [Act.put, List.setIfInBounds_toArray, List.set_cons_zero, List.set_cons_succ]
        go_simp
        refine hK.out _ _ (fun h => absurd h (by decide)) ?_
        clear hK K
        try simp only [Act.put, List.setIfInBounds_toArray, List.set_cons_zero, List.set_cons_succ]
        refine anyN_one (i := 13) (o := ({ dst := none, op := .store 22 (.tmp 39) (.tmp 37), type := 0, pos := "reader.go:132", after := #[{ on := 12, ground := .data }, { on := 9, ground := .data }, { on := 11, ground := .chain }, { on := 0, ground := .phase }, { on := 1, ground := .phase }, { on := 2, ground := .phase }, { on := 3, ground := .phase }, { on := 4, ground := .phase }, { on := 5, ground := .phase }, { on := 6, ground := .phase }, { on := 7, ground := .phase }, { on := 8, ground := .phase }, { on := 9, ground := .phase }, { on := 10, ground := .phase }, { on := 11, ground := .phase }], guard := none } : Oper)) (by kernel_rfl) rfl (fun K hK => ?_)
        try simp only [Act.put]
        go_simp
        refine hK.out _ _ (fun h => absurd h (by decide)) ?_
        clear hK K
        try simp only [Act.put, List.setIfInBounds_toArray, List.set_cons_zero, List.set_cons_succ]
        refine anyN_done (by kernel_rfl) ?_ _
        go_wp2
        go_ret
        exact ⟨b2, l3, accL ++ [qk], accM ++ [qi], _, _, _, _, rfl, FIN.out.1, FIN.out.2, by simp, by simp, HXX.out, HNN.out⟩
end Go.Proofs.Ytmgjiipooffggaa
