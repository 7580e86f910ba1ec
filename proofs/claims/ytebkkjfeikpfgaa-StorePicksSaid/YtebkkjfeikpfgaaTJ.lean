/- store.New, and that what it made lies in blocks of its own. -/
import Derived.Test.YtebkkjfeikpfgaaSJ
namespace Go.Proofs.Ytebkkjfeikpfgaa
open Go.RowKit Go.Sort
set_option maxRecDepth 100000
attribute [local go_sem ↓] Go.wp_at_zero Go.wp_at_succ

/-- b is as a from block lo on. -/
structure Alike (lo : Nat) (a b : World) : Prop where
  size : a.heap.size ≤ b.heap.size
  same : ∀ k, lo ≤ k → k < a.heap.size → b.heap[k]? = a.heap[k]?
theorem Alike.refl (lo : Nat) (a : World) : Alike lo a a := ⟨Nat.le_refl _, fun _ _ _ => rfl⟩
theorem Alike.trans {lo : Nat} {a b c : World} (h : Alike lo a b) (k : Alike lo b c) : Alike lo a c := ⟨Nat.le_trans h.size k.size, fun i h1 h2 => (k.same i h1 (Nat.lt_of_lt_of_le h2 h.size)).trans (h.same i h1 h2)⟩
theorem Alike.below {lo : Nat} {a b : World} (h : Below a.heap.size a b) : Alike lo a b := ⟨h.size, fun k _ h2 => h.block k h2⟩
theorem Alike.set {lo : Nat} {a b : World} (h : Alike lo a b) {p : Addr} (hp : p.block < lo) (v : Value) : Alike lo a (b.setCell p v) :=
  ⟨by simpa [World.setCell] using h.size, fun k h1 h2 => (Below.heap_setCell _ _ _ _ (by omega)).trans (h.same k h1 h2)⟩
/-- A store whose memory lies from lo on. -/
def StoL (lo : Nat) (w : World) (s : Nat) (vs es : List TA) : Prop := ∀ b, Alike lo w b → Sto b s vs es
def NewPostL (w : World) (g : GA) (e : Ending) (w' : World) : Prop := Below w.heap.size w w' ∧ ((errG g.vs g.es = 50 ∧ e = .returned (.tuple #[.pointer none, .int .i64 50])) ∨ (okG g.vs g.es = true ∧ ∃ s vs es, e = .returned (.tuple #[.pointer (some ⟨s, 0, none⟩), .int .i64 0]) ∧ StoL w.heap.size w' s vs es ∧ vs.map TA.tv' = g.vs.map TA.tv' ∧ es.map TA.tv' = g.es.map TA.tv'))
theorem stoL_box {F w : World} {lo lo1 : Nat} {vs es : List TA} {AV AE : Option Addr} {cV cE mb base nn : Nat} {D : DataW Value} {val : Int → Int → Value} (h1 : lo ≤ lo1) (hF : Below F.heap.size F w) (v : COwn lo1 F AV cV vs) (e : COwn lo1 F AE cE es) (lv : vs.length ≤ 2199023255488) (le : es.length ≤ 2199023255488)
    (ar : Aro w base mb nn D val (spk (es.map TA.tv'))) (hmb : lo ≤ mb) (hlo : lo ≤ w.heap.size) (rv : Ris vs) (re : Ris es) (few : Few (spk (es.map TA.tv'))) :
    StoL lo (w.alloc (.cells #[.slice AV vs.length cV, .slice AE es.length cE, .map (some mb)] 70)) w.heap.size vs es := by
  intro b hb
  have hsz : (w.alloc (.cells #[.slice AV vs.length cV, .slice AE es.length cE, .map (some mb)] 70)).heap.size = w.heap.size + 1 := by simp
  have hbs := hb.size
  have k0 : ∀ k, lo ≤ k → k < w.heap.size → b.heap[k]? = w.heap[k]? := fun k h2 h3 => (hb.same k h2 (by omega)).trans (Below.heap_alloc _ _ _ h3)
  have kF : Kept lo1 F.heap.size F b := fun k h2 h3 => (k0 k (by omega) (Nat.lt_of_lt_of_le h3 hF.size)).trans (hF.block k h3)
  have hbx : b.heap[w.heap.size]? = some (.cells #[.slice AV vs.length cV, .slice AE es.length cE, .map (some mb)] 70 (0, 0)) := (hb.same _ hlo (by omega)).trans (heap_alloc_new w _)
  have hFb : F.heap.size ≤ b.heap.size := by have := hF.size; omega
  refine ⟨by omega, ⟨AV, cV, AE, cE, some mb, ?_, ?_, ?_, (v.keep kF hFb (Nat.le_refl _)).trow lv, (e.keep kF hFb (Nat.le_refl _)).trow le, (ar.keep (fun k h2 h3 => k0 k (by omega) h3)).read⟩, rv, re, few⟩
  · simp [World.cell?, hbx]
  · simp [World.cell?, hbx]
  · simp [World.cell?, hbx]
set_option maxHeartbeats 16000000 in
theorem new_anyL (w : World) (d : Nat) (g : GA) (hg : g.In w d) : Calls Try.prog 13 #[g.v] w (NewPostL w g) := by
  have G := Lib.hid hg
  clear hg
  go_enter Try.func13, Try.ntmps13
  go_upto_region 1 with fail
  have k := K24'.new w (.slice g.AV g.vs.length g.cV) (.slice g.AE g.es.length g.cE)
  have HB := Lib.hid (below_new w (.cells #[.slice g.AV g.vs.length g.cV, .slice g.AE g.es.length g.cE] 24))
  generalize World.alloc w _ = W at k HB ⊢
  have K := Lib.hid k
  have hgW : w.heap.size < W.heap.size := k.lt
  obtain ⟨b, hbn⟩ : ∃ b, b = w.heap.size := ⟨_, rfl⟩
  rw [← hbn] at k K hgW ⊢
  have HBN := Lib.hid hbn
  clear hbn
  obtain ⟨y0, y1, z0, z1, -⟩ := k
  go_wp2_with fail
  refine (gcheck_any W d g (G.out.next HB.out)).mono ?_
  rintro e w1 ⟨rfl, hb1⟩
  have B1 := Lib.hid (bnext HB.out hb1)
  replace K := Lib.hid (K.out.next hb1)
  clear hb1 y0 y1 z0 z1
  rcases errG_or g.vs g.es with ⟨hok, he⟩ | he
  · have HOK := Lib.hid hok
    rw [he]
    clear hok he
    have k := K.out
    obtain ⟨y0, y1, z0, z1, -⟩ := k
    go_wp2_with fail
    refine (gcopy_any w1 d g (G.out.next B1.out)).mono ?_
    rintro e w2 ⟨q, rfl, hqv, hqe, hov, hoe, hb1⟩
    have lv2 : q.vs.length ≤ 2199023255488 := by have := congrArg List.length hqv; have h2 := G.out.v.big; simp at this; omega
    have le2 : q.es.length ≤ 2199023255488 := by have := congrArg List.length hqe; have h2 := G.out.e.big; simp at this; omega
    obtain ⟨eqV, eqE⟩ := copy_ok HOK.out hqv hqe
    have EQV := Lib.hid eqV
    have EQE := Lib.hid eqE
    have FE := Lib.hid (fld_of' hqe G.out.fe)
    have OV := Lib.hid hov
    have OE := Lib.hid hoe
    have LV := Lib.hid lv2
    have LE := Lib.hid le2
    have hbw := K.out.lt
    have okv := HOK.out
    rw [okG_tv, ← eqV, ← eqE] at okv
    obtain ⟨o1, -, o3, -⟩ := okGV_parts okv
    have RV := Lib.hid (ris_of o1)
    have RE := Lib.hid (ris_of o3)
    have FW := Lib.hid (few_of o3)
    have B2 := Lib.hid (bnext B1.out hb1)
    replace K := Lib.hid (K.out.next hb1)
    clear hqv hqe hov hoe hb1 y0 y1 z0 z1 eqV eqE okv o1 o3 lv2 le2
    have k := K.out
    obtain ⟨y0, y1, z0, z1, hbl⟩ := k
    have SC := Lib.hid (store2 y0 y1 (.slice q.AV q.vs.length q.cV) (.slice q.AE q.es.length q.cE))
    go_upto_region 5 with fail
    have k1 : ∀ lo B, b < lo → Kept lo B w2 ((w2.setCell ⟨b, 0, none⟩ (.slice q.AV q.vs.length q.cV)).setCell ⟨b, 1, none⟩ (.slice q.AE q.es.length q.cE)) := fun lo B hlo => (Kept.setCell (.inl hlo) _).trans (Kept.setCell (.inl hlo) _)
    have hsz : ((w2.setCell ⟨b, 0, none⟩ (.slice q.AV q.vs.length q.cV)).setCell ⟨b, 1, none⟩ (.slice q.AE q.es.length q.cE)).heap.size = w2.heap.size := by simp [World.setCell]
    have B3 := Lib.hid (show Below w.heap.size w ((w2.setCell ⟨b, 0, none⟩ (.slice q.AV q.vs.length q.cV)).setCell ⟨b, 1, none⟩ (.slice q.AE q.es.length q.cE)) from (B2.out.setCell (p := ⟨b, 0, none⟩) (by have := HBN.out; show w.heap.size ≤ b; omega) _).setCell (p := ⟨b, 1, none⟩) (by have := HBN.out; show w.heap.size ≤ b; omega) _)
    have OVr := Lib.hid (OV.out.keep (k1 w1.heap.size w2.heap.size hbw) (Nat.le_of_eq hsz.symm) (Nat.le_refl _))
    have HW1 := Lib.hid (show w.heap.size ≤ w1.heap.size from B1.out.size)
    have OEr := Lib.hid (OE.out.keep (k1 w1.heap.size w2.heap.size hbw) (Nat.le_of_eq hsz.symm) (Nat.le_refl _))
    have TEr := Lib.hid (OEr.out.trow LE.out)
    clear k1 y0 y1 z0 z1 OV OE B2 K B1 G
    obtain ⟨s0, s1⟩ := SC.out
    have hbF : b < ((w2.setCell ⟨b, 0, none⟩ (.slice q.AV q.vs.length q.cV)).setCell ⟨b, 1, none⟩ (.slice q.AE q.es.length q.cE)).heap.size := by rw [hsz]; exact hbl
    clear hsz SC
    generalize World.setCell (World.setCell w2 _ _) _ _ = F at s0 s1 hbF B3 OVr OEr TEr ⊢
    have CV := Lib.hid (fun (Y : World) (_ : Below F.heap.size F Y) => verticesOf_any Y q.AV q.vs.length q.cV)
    have CE := Lib.hid (fun (Y : World) (hY : Below F.heap.size F Y) => edgesOf_any Y 13 q.AE q.cE q.es (TEr.out.next hY) FE.out)
    go_region_with (first
      | (go_at_call 31; (with_reducible refine (CV.out _ ?_).mono ?_); (focus exact (Below.refl _ _).drew); rintro e wa ⟨rfl, hba⟩; have x1 := cell_below ((Below.refl _ _).drew.trans hba) s1 hbF; have BA : Hid (Below F.heap.size F wa) := Lib.hid ((Below.refl _ _).drew.trans hba); clear hba)
      | (go_at_call 32; ((with_reducible refine (CE.out _ ?_).mono ?_); (focus exact BA.out); rintro e wb ⟨ba, mb, nn, D, val, rfl, har, hmb, hbb⟩; have AR := Lib.hid har; have HMB := Lib.hid hmb; have BAS := Lib.hid (show F.heap.size ≤ wa.heap.size from BA.out.size); have BB : Hid (Below F.heap.size F wb) := Lib.hid (bnext (a := F) BA.out hbb); clear har hmb hbb)))
    all_goals
      have SB := Lib.hid (stoL_box (lo := w.heap.size) HW1.out BB.out OVr.out OEr.out LV.out LE.out AR.out (Nat.le_trans (Nat.le_trans B3.out.size BAS.out) HMB.out) (Nat.le_trans B3.out.size BB.out.size) RV.out RE.out FW.out)
      have BF := Lib.hid (bnext (bnext B3.out BB.out) (below_new wb (.cells #[.slice q.AV q.vs.length q.cV, .slice q.AE q.es.length q.cE, .map (some mb)] 70)))
      go_wp2
      go_ret2
      exact ⟨BF.out, .inr ⟨HOK.out, _, q.vs, q.es, rfl, SB.out, EQV.out, EQE.out⟩⟩
  · have HE := Lib.hid he
    rw [he]
    clear he
    go_wp2
    go_ret2
    exact ⟨B1.out, .inl ⟨HE.out, rfl⟩⟩
end Go.Proofs.Ytebkkjfeikpfgaa
