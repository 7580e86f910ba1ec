/- The law on what Check and Copy answer: the walk. -/
import Derived.Test.YtciipggccjiaiaaPg
namespace Go.Proofs.Ytciipggccjiaiaa
open Go.RowKit Go.Sort
set_option maxRecDepth 100000
attribute [local go_sem ↓] Go.wp_at_zero Go.wp_at_succ

theorem COwn.next {lo : Nat} {a b : World} {A : Option Addr} {c : Nat} {r : List TA} (h : COwn lo a A c r) (hb : Below a.heap.size a b) : COwn lo b A c r := h.keep (Kept.of_below hb (Nat.le_refl _)) hb.size (Nat.le_refl _)
/-- A row of things of one's own, whatever was written into it. -/
structure Spo (lo hi : Nat) (w : World) (g : Nat) (r : List TA) : Prop where
  blk : BlkT w g r.length
  ge : lo ≤ g
  lt : g < hi
  slot : ∀ j t, r[j]? = some t → w.cell? ⟨g, j * 5 + 4, none⟩ = some (.slice t.A t.l.length t.c) ∧ t.l.length ≤ t.c ∧ t.l.length ≤ 1466015503658 ∧ (0 < t.l.length → ∃ gp, t.A = some ⟨gp, 0, none⟩ ∧ BlkP w gp t.l.length ∧ g < gp ∧ gp < hi)
structure Inv (W1 W4 : World) (hi : Nat) (A : Option Addr) (r : List TA) (wr : World) : Prop where
  bel : Below W1.heap.size W1 wr
  kept : Kept hi W4.heap.size W4 wr
  size : wr.heap.size = W4.heap.size
  spo : r ≠ [] → ∃ g, A = some ⟨g, 0, none⟩ ∧ Spo W1.heap.size hi wr g r
theorem Spo.of {lo : Nat} {w : World} {g : Nat} {r : List TA} (h : FillT w g r.length r) (hg : lo ≤ g) : Spo lo w.heap.size w g r :=
  ⟨h.blk, hg, h.blk.lt, fun j t hj => by
    obtain ⟨q, p, m⟩ := h.el j t hj
    refine ⟨q.c4, p.le, p.big, fun h0 => ?_⟩
    obtain ⟨gp, e, hb⟩ := m h0
    obtain ⟨b, off, e', h1, h2, _⟩ := p.at_ h0
    rw [e] at e'
    injection e' with e'
    injection e' with e1 e2
    exact ⟨gp, e, hb, by omega, hb.lt⟩⟩
theorem Spo.next {lo hi : Nat} {a b : World} {g : Nat} {r : List TA} (h : Spo lo hi a g r) (hb : Below a.heap.size a b) : Spo lo hi b g r :=
  ⟨h.blk.below hb h.blk.lt, h.ge, h.lt, fun j t hj => by
    obtain ⟨q, p, p', m⟩ := h.slot j t hj
    refine ⟨cell_below hb q h.blk.lt, p, p', fun h0 => ?_⟩
    obtain ⟨gp, e, hp, h1, h2⟩ := m h0
    exact ⟨gp, e, hp.below hb hp.lt, h1, h2⟩⟩
theorem blkT_off {w : World} {g n : Nat} (h : BlkT w g n) (p : Addr) (hp : p.spot = none) (u : Value) (i : Nat) (hne : p.block ≠ g ∨ p.off ≠ i) : (w.setCell p u).cell? ⟨g, i, none⟩ = w.cell? ⟨g, i, none⟩ := by
  obtain ⟨b, o, s⟩ := p
  obtain rfl : s = none := hp
  by_cases hb : b = g
  · subst hb
    have ho : ¬ o = i := by simpa using hne
    obtain ⟨cs, h, hs⟩ := h
    rw [cell_of_row _ _ _ _ _ _ (setT_heap w b o u cs h), cell_of_row _ _ _ _ _ _ h]
    simp [ho]
  · exact World.cell?_of_block (w := w) (a := ⟨g, i, none⟩) (Below.heap_setCell _ _ _ _ (fun e => hb e.symm))
theorem Spo.set {lo hi : Nat} {w : World} {g : Nat} {r : List TA} (h : Spo lo hi w g r) (p : Addr) (u : Value) (hp : p.spot = none) (hne : p.block ≠ g ∨ ∀ j, p.off ≠ j * 5 + 4) : Spo lo hi (w.setCell p u) g r :=
  ⟨h.blk.set p u hp, h.ge, h.lt, fun j t hj => by
    obtain ⟨q, p0, p', m⟩ := h.slot j t hj
    refine ⟨(blkT_off h.blk p hp u _ (hne.elim .inl fun h => .inr (h j))).trans q, p0, p', fun h0 => ?_⟩
    obtain ⟨gp, e, hb, h1, h2⟩ := m h0
    exact ⟨gp, e, hb.set p u hp, h1, h2⟩⟩
theorem setCell_size (w : World) (p : Addr) (u : Value) : (w.setCell p u).heap.size = w.heap.size := by simp [World.setCell]
theorem Inv.set {W1 W4 : World} {hi : Nat} {A : Option Addr} {r : List TA} {wr : World} (h : Inv W1 W4 hi A r wr) (p : Addr) (u : Value) (hp : p.spot = none) (h1 : W1.heap.size ≤ p.block) (h2 : p.block < hi) (hne : ∀ g, A = some ⟨g, 0, none⟩ → p.block ≠ g ∨ ∀ j, p.off ≠ j * 5 + 4) : Inv W1 W4 hi A r (wr.setCell p u) :=
  ⟨h.bel.setCell h1 u, fun k hk hk' => (Below.heap_setCell _ _ _ _ (by omega)).trans (h.kept k hk hk'), (setCell_size _ _ _).trans h.size, fun h0 => by
    obtain ⟨g, e, hs⟩ := h.spo h0
    exact ⟨g, e, hs.set p u hp (hne g e)⟩⟩
set_option maxHeartbeats 32000000 in
theorem checks_law (w : World) (d0 : Nat) (g : GA) (hg : g.In w d0) (hsm : g.Sm) : Calls Try.prog 3 #[g.v] w fun e w' => e = .returned (.bool true) ∧ Below w.heap.size w w' := by
  obtain ⟨d, hd⟩ : ∃ d, d = d0 + 13 := ⟨_, rfl⟩
  have G := Lib.hid (hg.up (d' := d) (by omega))
  have HSM := Lib.hid hsm
  have D13 : 13 ≤ d := by omega
  clear hg hd hsm
  go_enter Try.func3, Try.ntmps3
  go_upto_region 1 with fail
  generalize hA : World.alloc w _ = W0
  obtain ⟨c4, hbA, hsA⟩ := made24 hA
  have B := Lib.hid hbA
  have C2a := Lib.hid c4
  replace G := Lib.hid (G.out.next B.out)
  clear hA c4 hbA hsA
  obtain ⟨y0, y1, _⟩ := C2a.out
  go_wp2_with fail
  refine (much_any W0 d g G.out).mono ?_
  rintro e W1 ⟨mb, rfl, hb1⟩
  clear y0 y1
  replace G := Lib.hid (G.out.next hb1)
  replace C2a := Lib.hid (C2a.out.next hb1)
  replace B := Lib.hid (bnext B.out hb1)
  clear hb1
  cases mb
  case true =>
    go_wp2_with fail
    refine (known_any W1).mono ?_
    rintro e Wk ⟨rfl, hbk⟩
    have BK := Lib.hid (bnext B.out hbk)
    clear hbk
    go_wp2
    go_ret
    exact ⟨rfl, BK.out⟩
  have SG := G
  have SC2a := C2a
  have SB := B
  obtain ⟨y0, y1, _⟩ := C2a.out
  go_wp2_with fail
  refine (gcopy_any W1 d g G.out).mono ?_
  rintro e W2 ⟨q, rfl, hqv, hqe, hov, hoe, hb1⟩
  have HQV := Lib.hid hqv
  have HQE := Lib.hid hqe
  have Q := Lib.hid ((copy_in G.out hqv hqe hov hoe).up D13)
  have L := Lib.hid hb1
  have QO := Lib.hid hov
  clear hqv hqe hov hoe
  clear y0 y1
  replace G := Lib.hid (G.out.next hb1)
  replace C2a := Lib.hid (C2a.out.next hb1)
  replace B := Lib.hid (bnext B.out hb1)
  clear hb1
  have SP : Hid (q.vs ≠ [] → ∃ gq, q.AV = some ⟨gq, 0, none⟩ ∧ Spo W1.heap.size W2.heap.size W2 gq q.vs) := Lib.hid (fun h0 => by
    obtain ⟨gq, e, h1, hf⟩ := QO.out.row h0
    exact ⟨gq, e, Spo.of hf h1⟩)
  clear QO
  have L2 := Lib.hid (Below.refl W2.heap.size W2)
  go_upto_region 4 with fail
  generalize hA : World.alloc W2 _ = W3
  obtain ⟨c9, hb1, hsA⟩ := made24 hA
  have C2c := Lib.hid c9
  clear hA c9 hsA
  replace G := Lib.hid (G.out.next hb1)
  replace C2a := Lib.hid (C2a.out.next hb1)
  replace Q := Lib.hid (Q.out.next hb1)
  replace B := Lib.hid (bnext B.out hb1)
  replace L := Lib.hid (bnext L.out hb1)
  replace L2 := Lib.hid (bnext L2.out hb1)
  clear hb1
  have hc3 : W2.heap.size ≤ W3.heap.size := L2.out.size
  obtain ⟨y0, y1, _⟩ := C2a.out
  go_wp2_with fail
  refine (gcopy_any W3 d g G.out).mono ?_
  rintro e W4 ⟨q2, rfl, hqv, hqe, hov, hoe, hb1⟩
  have HQV2 := Lib.hid hqv
  have HQE2 := Lib.hid hqe
  have FV2 := Lib.hid (fld_of hqv G.out.fv)
  have FE2 := Lib.hid (fld_of hqe G.out.fe)
  have lv2 : q2.vs.length ≤ 2199023255488 := by have := congrArg List.length hqv; have h2 := G.out.v.big; simp at this; omega
  have le2 : q2.es.length ≤ 2199023255488 := by have := congrArg List.length hqe; have h2 := G.out.e.big; simp at this; omega
  have OV := Lib.hid hov
  have OE := Lib.hid hoe
  clear hqv hqe hov hoe
  clear y0 y1
  replace G := Lib.hid (G.out.next hb1)
  replace C2a := Lib.hid (C2a.out.next hb1)
  replace Q := Lib.hid (Q.out.next hb1)
  replace C2c := Lib.hid (C2c.out.next hb1)
  replace B := Lib.hid (bnext B.out hb1)
  replace L := Lib.hid (bnext L.out hb1)
  replace L2 := Lib.hid (bnext L2.out hb1)
  clear hb1
  skip
  have hc4 : W2.heap.size ≤ W4.heap.size := L2.out.size
  go_upto_region 5 with fail
  generalize hA : World.alloc W4 _ = W5
  obtain ⟨c9, hb1, hsA⟩ := made24 hA
  have C2d := Lib.hid c9
  clear hA c9 hsA
  replace G := Lib.hid (G.out.next hb1)
  replace C2a := Lib.hid (C2a.out.next hb1)
  replace Q := Lib.hid (Q.out.next hb1)
  replace C2c := Lib.hid (C2c.out.next hb1)
  replace OV := Lib.hid (OV.out.next hb1)
  replace OE := Lib.hid (OE.out.next hb1)
  replace B := Lib.hid (bnext B.out hb1)
  replace L := Lib.hid (bnext L.out hb1)
  replace L2 := Lib.hid (bnext L2.out hb1)
  clear hb1
  obtain ⟨y0, y1, _⟩ := C2a.out
  obtain ⟨z0, z1, _⟩ := C2c.out
  replace y0 := cell_regrown y0
  replace y1 := cell_regrown y1
  replace z0 := cell_regrown z0
  replace z1 := cell_regrown z1
  have R1 := Lib.hid (fun (n : Nat) (os : Array Obj) => Calls.regrown_of (gcheck_any (grow (redrawn W5 n) os) d g (G.out.next (below_regrown _ _ _))))
  have R2 := Lib.hid (fun (n : Nat) (os : Array Obj) => Calls.regrown_of (refCheck_any (grow (redrawn W5 n) os) d g (G.out.next (below_regrown _ _ _)) HSM.out))
  have R3 := Lib.hid (fun (n : Nat) (os : Array Obj) => Calls.regrown_of (same_any (grow (redrawn W5 n) os) d q g (Q.out.next (below_regrown _ _ _)) (G.out.next (below_regrown _ _ _))))
  rw [samG_copy HQV.out HQE.out] at R3
  generalize errG g.vs g.es = ee at R1 R2
  have hee : (ee != ee) = false := by simp
  refine wp_region_quiet_below (by kernel_rfl) (by kernel_rfl) ?_
  repeat (first | go_big_quiet_step (first | (with_reducible exact R1.out _ _) | (with_reducible exact R2.out _ _) | (with_reducible exact R3.out _ _)) | quiet_step (first | (with_reducible exact R1.out _ _) | (with_reducible exact R2.out _ _) | (with_reducible exact R3.out _ _)))
  refine wpQuiet_nil ?_
  intro _ hw'
  obtain ⟨⟨dq, osq⟩, hw''⟩ := hw'
  subst hw''
  have hb1 := below_regrown W5 dq osq
  generalize grow (redrawn W5 dq) osq = WL at hb1
  clear y0 y1 z0 z1 R1 R2 R3
  replace G := Lib.hid (G.out.next hb1)
  replace C2a := Lib.hid (C2a.out.next hb1)
  replace Q := Lib.hid (Q.out.next hb1)
  replace C2c := Lib.hid (C2c.out.next hb1)
  replace OV := Lib.hid (OV.out.next hb1)
  replace OE := Lib.hid (OE.out.next hb1)
  replace C2d := Lib.hid (C2d.out.next hb1)
  replace B := Lib.hid (bnext B.out hb1)
  replace L := Lib.hid (bnext L.out hb1)
  replace L2 := Lib.hid (bnext L2.out hb1)
  clear hb1
  have INV : Hid (Inv W1 WL W2.heap.size q.AV q.vs WL) := Lib.hid ⟨L.out, fun _ _ _ => rfl, rfl, fun h0 => by
    obtain ⟨gq, e, hs⟩ := SP.out h0
    exact ⟨gq, e, hs.next L2.out⟩⟩
  have hhi : W2.heap.size ≤ WL.heap.size := L2.out.size
  have hqb := Q.out.v.big
  have QCLE := Q.out.v.le
  have HCL : ∀ wr : World, Kept W2.heap.size WL.heap.size WL wr → C2 wr W2.heap.size (.slice q.AV q.vs.length q.cV) (.slice q.AE q.es.length q.cE) → True := fun _ _ _ => trivial
  clear HCL L L2 SP G Q C2a B
  go_wp2
  go_loopw [5] (fun i wr => ∃ k : Nat, k ≤ q.vs.length ∧ i = .int .i64 k ∧ Hid (Inv W1 WL W2.heap.size q.AV q.vs wr)) (fun i _ => q.vs.length - (intOf i).toNat)
  case atStart => exact ⟨0, by omega, rfl, INV⟩
  case round =>
    obtain ⟨k, hk, rfl, hI⟩ := hrel
    have z0 := (hI.out.kept.cell (p := ⟨W2.heap.size, 0, none⟩) (Nat.le_refl _) C2c.out.lt).trans C2c.out.c0
    have z1 := (hI.out.kept.cell (p := ⟨W2.heap.size, 1, none⟩) (Nat.le_refl _) C2c.out.lt).trans C2c.out.c1
    by_cases hlt : k < q.vs.length
    · obtain ⟨gq, eA, hS⟩ := hI.out.spo (by intro e; rw [e] at hlt; exact absurd hlt (by simp))
      obtain ⟨t, ht⟩ : ∃ t, q.vs[k]? = some t := ⟨_, List.getElem?_eq_getElem hlt⟩
      have EA := Lib.hid eA
      have HT := Lib.hid ht
      have hg1 := hS.ge
      have hg2 := hS.lt
      obtain ⟨v0, f0⟩ := hS.blk.cell (i := k * 5 + 1) (by omega)
      have z9 := hS.blk.frozen (k * 5 + 1)
      have k0 : (0 : Int) ≤ (k : Int) := by omega
      have k1 : (k : Int) < (q.vs.length : Int) := by omega
      have HI2 := Lib.hid (fun u => hI.out.set ⟨gq, k * 5 + 1, none⟩ u rfl hg1 hg2 (fun g' e => .inr (fun j => by show k * 5 + 1 ≠ j * 5 + 4; omega)))
      rw [eA] at z0
      clear hS ht eA hI
      go_upto_region 11 with fail
      clear f0 z9 z0 z1
      have HI := Lib.hid (HI2.out (.string ⟨#[115, 112, 111, 105, 108, 116]⟩))
      clear HI2
      generalize World.setCell wr _ _ = wq at HI
      go_wp2
      go_loopw [6] (fun y wx => ∃ m : Nat, m ≤ t.l.length ∧ y = .int .i64 m ∧ Hid (Inv W1 WL W2.heap.size q.AV q.vs wx)) (fun y _ => t.l.length - (intOf y).toNat)
      case atStart => exact ⟨0, by omega, rfl, HI⟩
      case round =>
        obtain ⟨m, hm, rfl, hI⟩ := hrel
        have z0 := (hI.out.kept.cell (p := ⟨W2.heap.size, 0, none⟩) (Nat.le_refl _) C2c.out.lt).trans C2c.out.c0
        have z1 := (hI.out.kept.cell (p := ⟨W2.heap.size, 1, none⟩) (Nat.le_refl _) C2c.out.lt).trans C2c.out.c1
        rw [EA.out] at z0
        obtain ⟨gq', eA, hS⟩ := hI.out.spo (by intro e; rw [e] at hlt; exact absurd hlt (by simp))
        rw [EA.out] at eA
        injection eA with eA
        injection eA with eA
        subst eA
        obtain ⟨s0, s1, s2, s3⟩ := hS.slot k t HT.out
        have S3 := Lib.hid s3
        clear s3
        by_cases hlm : m < t.l.length
        · obtain ⟨gp, eP, hP, hp1, hp2⟩ := S3.out (by omega)
          rw [eP] at s0
          obtain ⟨v0, f0⟩ := hP.cell (i := m * 6) (by omega)
          have z9 := hP.frozen (m * 6)
          have m0 : (0 : Int) ≤ (m : Int) := by omega
          have m1 : (m : Int) < (t.l.length : Int) := by omega
          have HI2 := Lib.hid (fun u => hI.out.set ⟨gp, m * 6, none⟩ u rfl (by show _ ≤ gp; omega) hp2 (fun g' e => .inl (by rw [EA.out] at e; injection e with e; injection e with e; show gp ≠ g'; omega)))
          clear hP eP hS hI S3
          go_wp2
          go_roundw
          case rel => exact ⟨m + 1, by omega, by go_num, Lib.hid (HI2.out _)⟩
          case measure => simp [intOf]; omega
        · have hge : ¬ (m : Int) < (t.l.length : Int) := by omega
          have k2 : (k : Int) < (q.vs.length : Int) := by omega
          clear hS S3
          go_wp2
          go_roundw
          case rel => exact ⟨k + 1, by omega, by go_num, hI⟩
          case measure => simp [intOf]; omega
    · have hge : ¬ (k : Int) < (q.vs.length : Int) := by omega
      have G := Lib.hid (SG.out.next hI.out.bel)
      have B := Lib.hid (bnext SB.out hI.out.bel)
      have C2a := Lib.hid (SC2a.out.next hI.out.bel)
      have w0 := (hI.out.kept.cell (p := ⟨W4.heap.size, 0, none⟩) hc4 C2d.out.lt).trans C2d.out.c0
      have w1 := (hI.out.kept.cell (p := ⟨W4.heap.size, 1, none⟩) hc4 C2d.out.lt).trans C2d.out.c1
      have hks : WL.heap.size ≤ wr.heap.size := Nat.le_of_eq hI.out.size.symm
      have hk2 : Kept W3.heap.size WL.heap.size WL wr := fun i h1 h2 => hI.out.kept i (by omega) h2
      have Q2 : Hid (q2.In wr d) := Lib.hid ((show q2.In wr 13 from ⟨(OV.out.keep hk2 hks (Nat.le_refl _)).trow lv2, (OE.out.keep hk2 hks (Nat.le_refl _)).trow le2, FV2.out, FE2.out⟩).up D13)
      obtain ⟨y0, y1, _⟩ := C2a.out
      clear hk2
      go_wp2_with fail
      refine (same_any wr d q2 g Q2.out G.out).mono ?_
      rintro e Wy ⟨rfl, hb2⟩
      rw [samG_copy HQV2.out HQE2.out]
      replace B := Lib.hid (bnext B.out hb2)
      clear y0 y1 w0 w1 z0 z1 hb2
      go_wp2_with fail
      refine (known_any Wy).mono ?_
      rintro e Wz ⟨rfl, hb3⟩
      replace B := Lib.hid (bnext B.out hb3)
      clear hb3
      go_wp2
      go_ret
      exact ⟨rfl, B.out⟩
end Go.Proofs.Ytciipggccjiaiaa
