/- store.New. -/
import Derived.Test.YtebkkjfeikpfgaaSI
import Derived.Test.YtebkkjfeikpfgaaBNV
namespace Go.Proofs.Ytebkkjfeikpfgaa
open Go.RowKit Go.Sort
set_option maxRecDepth 100000
attribute [local go_sem ↓] Go.wp_at_zero Go.wp_at_succ

set_option maxHeartbeats 800000 in
theorem verticesOf_any (w : World) (A : Option Addr) (n c : Nat) : Calls Try.prog 31 #[.slice A n c] w fun e w' => e = .returned (.agg #[.slice A n c]) ∧ Below w.heap.size w w' := by
  go_enter Try.func31, Try.ntmps31
  go_wp2
  exact bodyPost_ret (v := .agg #[.slice A n c]) (by simp [results, Try.results31, go_sem]) rfl ⟨rfl, below_new _ _⟩
theorem fld_of' {q g : List TA} (h : q.map TA.tv' = g.map TA.ctv) (hf : ∀ t ∈ g, TFld t) : ∀ t ∈ q, TFld t := by
  intro t ht
  have hm : t.tv' ∈ g.map TA.ctv := by rw [← h]; exact List.mem_map_of_mem ht
  obtain ⟨u, hu, e⟩ := List.mem_map.1 hm
  have e1 : u.id = t.id := congrArg TV.id e
  have e2 : u.o = t.o := congrArg TV.o e
  have e3 : u.i = t.i := congrArg TV.i e
  have := hf u hu
  unfold TFld at *
  rw [← e1, ← e2, ← e3]
  exact this
structure K24' (w : World) (g : Nat) (v0 v1 : Value) : Prop where
  c0 : w.cell? ⟨g, 0, none⟩ = some v0
  c1 : w.cell? ⟨g, 1, none⟩ = some v1
  f0 : w.frozen? ⟨g, 0, none⟩ = false
  f1 : w.frozen? ⟨g, 1, none⟩ = false
  lt : g < w.heap.size
theorem K24'.next {a b : World} {g : Nat} {v0 v1 : Value} (h : K24' a g v0 v1) (hb : Below a.heap.size a b) : K24' b g v0 v1 :=
  ⟨cell_below hb h.c0 h.lt, cell_below hb h.c1 h.lt, (World.frozen?_of_block (w := a) (hb.block _ h.lt)).trans h.f0, (World.frozen?_of_block (w := a) (hb.block _ h.lt)).trans h.f1, Nat.lt_of_lt_of_le h.lt hb.size⟩
theorem K24'.new (w : World) (v0 v1 : Value) : K24' (w.alloc (.cells #[v0, v1] 24)) w.heap.size v0 v1 := by
  obtain ⟨c0, c1, _, h⟩ := box24 w v0 v1 _ rfl
  have hb := blk24 w v0 v1 _ rfl
  exact ⟨c0, c1, hb.1, hb.2, by simp⟩
theorem COwn.le {lo : Nat} {w : World} {A : Option Addr} {c : Nat} {r : List TA} (h : COwn lo w A c r) : r.length ≤ c := Nat.le_of_eq h.cap.symm
theorem COwn.trow {lo : Nat} {w : World} {A : Option Addr} {c : Nat} {r : List TA} (h : COwn lo w A c r) (hb : r.length ≤ 2199023255488) : TRow w 13 A c r :=
  ⟨h.le, hb, fun h0 => by
    obtain ⟨g, e, h1, hf⟩ := h.row (by intro e; rw [e] at h0; exact absurd h0 (by simp))
    exact ⟨g, 0, e, hf.blk.lt, fun j t hj => by rw [Nat.zero_add]; exact (hf.el j t hj).1⟩, fun t ht => by
    obtain ⟨g, e, h1, hf⟩ := h.row (by intro e; rw [e] at ht; cases ht)
    obtain ⟨j, hj⟩ := List.mem_iff_getElem?.1 ht
    exact ((hf.el j t hj).2.1).low (Nat.zero_le _)⟩
theorem errG_or (vs es : List TA) : (okG vs es = true ∧ errG vs es = 0) ∨ errG vs es = 50 := by
  unfold errG
  by_cases h : okG vs es = true
  · exact .inl ⟨h, by rw [if_pos h]⟩
  · exact .inr (by rw [if_neg h])
def NewPost (w : World) (g : GA) (e : Ending) (w' : World) : Prop := Below w.heap.size w w' ∧ ((errG g.vs g.es = 50 ∧ e = .returned (.tuple #[.pointer none, .int .i64 50])) ∨ (okG g.vs g.es = true ∧ ∃ s vs es, e = .returned (.tuple #[.pointer (some ⟨s, 0, none⟩), .int .i64 0]) ∧ Sto w' s vs es ∧ vs.map TA.tv' = g.vs.map TA.tv' ∧ es.map TA.tv' = g.es.map TA.tv'))
theorem sto_box {w : World} {vs es : List TA} {AV AE : Option Addr} {cV cE mb : Nat} (v : TRow w 13 AV cV vs) (e : TRow w 13 AE cE es) (rd : MRd w (some mb) (spk (es.map TA.tv'))) (rv : Ris vs) (re : Ris es) (few : Few (spk (es.map TA.tv'))) :
    Sto (w.alloc (.cells #[.slice AV vs.length cV, .slice AE es.length cE, .map (some mb)] 70)) w.heap.size vs es :=
  ⟨by simp, ⟨AV, cV, AE, cE, some mb, by rw [World.cell?_alloc_at _ _ _ _ rfl]; rfl, by rw [World.cell?_alloc_at _ _ _ _ rfl]; rfl, by rw [World.cell?_alloc_at _ _ _ _ rfl]; rfl, v.next (below_new _ _), e.next (below_new _ _), rd.next (below_new _ _)⟩, rv, re, few⟩
set_option maxHeartbeats 16000000 in
theorem new_any (w : World) (d : Nat) (g : GA) (hg : g.In w d) : Calls Try.prog 13 #[g.v] w (NewPost w g) := by
  have G := Lib.hid hg
  clear hg
  go_enter Try.func13, Try.ntmps13
  go_upto_region 1 with fail
  have k := K24'.new w (.slice g.AV g.vs.length g.cV) (.slice g.AE g.es.length g.cE)
  have HB := Lib.hid (below_new w (.cells #[.slice g.AV g.vs.length g.cV, .slice g.AE g.es.length g.cE] 24))
  generalize World.alloc w _ = W at k HB ⊢
  have K := Lib.hid k
  have hgW : w.heap.size < W.heap.size := k.lt
  obtain ⟨b, hbn⟩ : ∃ b, b = w.heap.size := ⟨_, rfl⟩
  rw [← hbn] at k K hgW ⊢
  have HBN := Lib.hid hbn
  clear hbn
  obtain ⟨y0, y1, z0, z1, -⟩ := k
  go_wp2_with fail
  refine (gcheck_any W d g (G.out.next HB.out)).mono ?_
  rintro e w1 ⟨rfl, hb1⟩
  have B1 := Lib.hid (bnext HB.out hb1)
  replace K := Lib.hid (K.out.next hb1)
  clear hb1 y0 y1 z0 z1
  rcases errG_or g.vs g.es with ⟨hok, he⟩ | he
  · have HOK := Lib.hid hok
    rw [he]
    clear hok he
    have k := K.out
    obtain ⟨y0, y1, z0, z1, -⟩ := k
    go_wp2_with fail
    refine (gcopy_any w1 d g (G.out.next B1.out)).mono ?_
    rintro e w2 ⟨q, rfl, hqv, hqe, hov, hoe, hb1⟩
    have lv2 : q.vs.length ≤ 2199023255488 := by have := congrArg List.length hqv; have h2 := G.out.v.big; simp at this; omega
    have le2 : q.es.length ≤ 2199023255488 := by have := congrArg List.length hqe; have h2 := G.out.e.big; simp at this; omega
    obtain ⟨eqV, eqE⟩ := copy_ok HOK.out hqv hqe
    have EQV := Lib.hid eqV
    have EQE := Lib.hid eqE
    have FE := Lib.hid (fld_of' hqe G.out.fe)
    have OV := Lib.hid hov
    have OE := Lib.hid hoe
    have LV := Lib.hid lv2
    have LE := Lib.hid le2
    have hbw := K.out.lt
    have okv := HOK.out
    rw [okG_tv, ← eqV, ← eqE] at okv
    obtain ⟨o1, -, o3, -⟩ := okGV_parts okv
    have RV := Lib.hid (ris_of o1)
    have RE := Lib.hid (ris_of o3)
    have FW := Lib.hid (few_of o3)
    have B2 := Lib.hid (bnext B1.out hb1)
    replace K := Lib.hid (K.out.next hb1)
    clear hqv hqe hov hoe hb1 y0 y1 z0 z1 eqV eqE okv o1 o3 lv2 le2
    have k := K.out
    obtain ⟨y0, y1, z0, z1, hbl⟩ := k
    have SC := Lib.hid (store2 y0 y1 (.slice q.AV q.vs.length q.cV) (.slice q.AE q.es.length q.cE))
    go_upto_region 5 with fail
    have k1 : ∀ lo B, b < lo → Kept lo B w2 ((w2.setCell ⟨b, 0, none⟩ (.slice q.AV q.vs.length q.cV)).setCell ⟨b, 1, none⟩ (.slice q.AE q.es.length q.cE)) := fun lo B hlo => (Kept.setCell (.inl hlo) _).trans (Kept.setCell (.inl hlo) _)
    have hsz : ((w2.setCell ⟨b, 0, none⟩ (.slice q.AV q.vs.length q.cV)).setCell ⟨b, 1, none⟩ (.slice q.AE q.es.length q.cE)).heap.size = w2.heap.size := by simp [World.setCell]
    have B3 := Lib.hid (show Below w.heap.size w ((w2.setCell ⟨b, 0, none⟩ (.slice q.AV q.vs.length q.cV)).setCell ⟨b, 1, none⟩ (.slice q.AE q.es.length q.cE)) from (B2.out.setCell (p := ⟨b, 0, none⟩) (by have := HBN.out; show w.heap.size ≤ b; omega) _).setCell (p := ⟨b, 1, none⟩) (by have := HBN.out; show w.heap.size ≤ b; omega) _)
    have TVr := Lib.hid ((OV.out.keep (k1 w1.heap.size w2.heap.size hbw) (Nat.le_of_eq hsz.symm) (Nat.le_refl _)).trow LV.out)
    have TEr := Lib.hid ((OE.out.keep (k1 w1.heap.size w2.heap.size hbw) (Nat.le_of_eq hsz.symm) (Nat.le_refl _)).trow LE.out)
    clear k1 y0 y1 z0 z1 OV OE LV LE B2 K B1 G
    obtain ⟨s0, s1⟩ := SC.out
    have hbF : b < ((w2.setCell ⟨b, 0, none⟩ (.slice q.AV q.vs.length q.cV)).setCell ⟨b, 1, none⟩ (.slice q.AE q.es.length q.cE)).heap.size := by rw [hsz]; exact hbl
    clear hsz SC
    generalize World.setCell (World.setCell w2 _ _) _ _ = F at s0 s1 hbF B3 TVr TEr ⊢
    have CV := Lib.hid (fun (Y : World) (_ : Below F.heap.size F Y) => verticesOf_any Y q.AV q.vs.length q.cV)
    have CE := Lib.hid (fun (Y : World) (hY : Below F.heap.size F Y) => edgesOf_any Y 13 q.AE q.cE q.es (TEr.out.next hY) FE.out)
    go_region_with (first
      | (go_at_call 31; (with_reducible refine (CV.out _ ?_).mono ?_); (focus exact (Below.refl _ _).drew); rintro e wa ⟨rfl, hba⟩; have x1 := cell_below ((Below.refl _ _).drew.trans hba) s1 hbF; have BA : Hid (Below F.heap.size F wa) := Lib.hid ((Below.refl _ _).drew.trans hba); clear hba)
      | (go_at_call 32; ((with_reducible refine (CE.out _ ?_).mono ?_); (focus exact BA.out); rintro e wb ⟨ba, mb, nn, D, val, rfl, har, hmb, hbb⟩; have AR := Lib.hid har.read; have BB : Hid (Below F.heap.size F wb) := Lib.hid (bnext (a := F) BA.out hbb); clear har hmb hbb)))
    all_goals
      have SB := Lib.hid (sto_box (TVr.out.next BB.out) (TEr.out.next BB.out) AR.out RV.out RE.out FW.out)
      have BF := Lib.hid (bnext (bnext B3.out BB.out) (below_new wb (.cells #[.slice q.AV q.vs.length q.cV, .slice q.AE q.es.length q.cE, .map (some mb)] 70)))
      go_wp2
      go_ret2
      exact ⟨BF.out, .inr ⟨HOK.out, _, q.vs, q.es, rfl, SB.out, EQV.out, EQE.out⟩⟩
  · have HE := Lib.hid he
    rw [he]
    clear he
    go_wp2
    go_ret2
    exact ⟨B1.out, .inl ⟨HE.out, rfl⟩⟩
end Go.Proofs.Ytebkkjfeikpfgaa
