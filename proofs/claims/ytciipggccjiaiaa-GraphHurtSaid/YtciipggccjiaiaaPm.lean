/- The law on graphs that are hurt: the walk. -/
import Derived.Test.YtciipggccjiaiaaPl
namespace Go.Proofs.Ytciipggccjiaiaa
open Go.RowKit Go.Sort
set_option maxRecDepth 100000
attribute [local go_sem ↓] Go.wp_at_zero Go.wp_at_succ

def IsNewT (x : TA) : Value → World → Prop := fun v w => ∃ z, v = .slice (some ⟨z, 0, none⟩) 1 1 ∧ cellsT w z 0 x ∧ z < w.heap.size
theorem IsNewT.stays (x : TA) : Stays (IsNewT x) := fun _ _ _ ⟨z, e, h, hz⟩ hb => ⟨z, e, h.next hb hz, Nat.lt_of_lt_of_le hz hb.size⟩
theorem cells_newT (w : World) (x : TA) : cellsT (w.alloc (.cells #[.int .i64 x.id, .string x.label, .int .i64 x.o, .int .i64 x.i, .slice x.A x.l.length x.c] 34)) w.heap.size 0 x := by
  have := CellT.new w (.int .i64 x.id) (.string x.label) (.int .i64 x.o) (.int .i64 x.i) (.slice x.A x.l.length x.c)
  exact ⟨this.c0, this.c1, this.c2, this.c3, this.c4⟩
abbrev xB (a b : Int) : TA := ⟨2305843009213693952, ⟨#[120]⟩, a + 1, b, none, 0, []⟩
abbrev xE (a b : Int) : TA := ⟨2305843009213693952, ⟨#[120]⟩, a, b, none, 0, []⟩
abbrev xC (label : ByteArray) : TA := ⟨2305843009213693952, label, 0, 0, none, 0, []⟩
theorem wfi {n : Int} (h0 : -9223372036854775808 ≤ n) (h1 : n ≤ 9223372036854775807) : (Lit.int .i64 n).wf = true := by
  simp [Lit.wf, IntKind.min, IntKind.max, IntKind.signed, IntKind.bits]
  omega
theorem fld_xC (label : ByteArray) : TFld (xC label) := ⟨wfi (by show (-9223372036854775808 : Int) ≤ 2305843009213693952; omega) (by show (2305843009213693952 : Int) ≤ 9223372036854775807; omega), wfi (by show (-9223372036854775808 : Int) ≤ 0; omega) (by show (0 : Int) ≤ 9223372036854775807; omega), wfi (by show (-9223372036854775808 : Int) ≤ 0; omega) (by show (0 : Int) ≤ 9223372036854775807; omega)⟩
theorem fld_xB {a b : Int} (h0 : 0 ≤ a) (h1 : a ≤ 1152921504606846976) (hb : (Lit.int .i64 b).wf = true) : TFld (xB a b) := ⟨(fld_xC ⟨#[]⟩).1, wfi (by show (-9223372036854775808 : Int) ≤ a + 1; omega) (by show a + 1 ≤ (9223372036854775807 : Int); omega), hb⟩
theorem fld_xE {a b : Int} (h0 : 0 ≤ a) (h1 : a ≤ 1152921504606846976) (hb : (Lit.int .i64 b).wf = true) : TFld (xE a b) := ⟨(fld_xC ⟨#[]⟩).1, wfi (by show (-9223372036854775808 : Int) ≤ a; omega) (by show a ≤ (9223372036854775807 : Int); omega), hb⟩
/-- A box of two cells may be written. -/
structure Fz (w : World) (g : Nat) : Prop where
  fz : w.frozen? ⟨g, 0, none⟩ = false ∧ w.frozen? ⟨g, 1, none⟩ = false
  lt : g < w.heap.size
theorem Fz.next {a b : World} {g : Nat} (h : Fz a g) (hb : Below a.heap.size a b) : Fz b g :=
  ⟨⟨(hb.frozen (p := ⟨g, 0, none⟩) h.lt).trans h.fz.1, (hb.frozen (p := ⟨g, 1, none⟩) h.lt).trans h.fz.2⟩, Nat.lt_of_lt_of_le h.lt hb.size⟩
theorem set_size (w : World) (p : Addr) (u : Value) : (w.setCell p u).heap.size = w.heap.size := by simp [World.setCell]
theorem C2.set0 {w : World} {g : Nat} {v0 v1 : Value} (h : C2 w g v0 v1) (u : Value) : C2 (w.setCell ⟨g, 0, none⟩ u) g u v1 := by
  obtain ⟨c0, c1, lt⟩ := h
  exact ⟨by simp [go_sem, c0], by simp [go_sem, c1], by rw [set_size]; exact lt⟩
theorem C2.set1 {w : World} {g : Nat} {v0 v1 : Value} (h : C2 w g v0 v1) (u : Value) : C2 (w.setCell ⟨g, 1, none⟩ u) g v0 u := by
  obtain ⟨c0, c1, lt⟩ := h
  exact ⟨by simp [go_sem, c0], by simp [go_sem, c1], by rw [set_size]; exact lt⟩
theorem fld_app {l : List TA} {x : TA} (h : ∀ t ∈ l, TFld t) (hx : TFld x) : ∀ t ∈ l ++ [x], TFld t := fun t ht => by
  rcases List.mem_append.1 ht with ht | ht
  · exact h t ht
  · rw [List.mem_singleton.1 ht]; exact hx
theorem row_app {w : World} {d : Nat} {l : List TA} {x : TA} (h : ∀ t ∈ l, PRow w 0 d t.A t.c t.l) (hx : PRow w 0 d x.A x.c x.l) : ∀ t ∈ l ++ [x], PRow w 0 d t.A t.c t.l := fun t ht => by
  rcases List.mem_append.1 ht with ht | ht
  · exact h t ht
  · rw [List.mem_singleton.1 ht]; exact hx
/-- What a box holds behind an append. -/
def FinV (Wq F : World) (d : Nat) (vs es : List TA) : Prop := ∃ ga : GA, ga.vs = vs ∧ ga.es = es ∧ ga.In F d ∧ C2 F Wq.heap.size (.slice ga.AV ga.vs.length ga.cV) (.slice ga.AE ga.es.length ga.cE) ∧ Below Wq.heap.size Wq F
theorem hurt_fin_v {Wq W' wf w' : World} {d cap : Nat} {q : GA} {x : TA} (hbA : Below Wq.heap.size Wq W') (hj : Below W'.heap.size W' wf) (hb' : Below wf.heap.size wf w') (hs' : w'.heap.size = wf.heap.size + 1) (hQ : q.In Wq d) (hx : PRow Wq 0 d x.A x.c x.l) (hfx : TFld x)
    (hC : C2 W' Wq.heap.size (.slice q.AV q.vs.length q.cV) (.slice q.AE q.es.length q.cE)) (hcap : q.vs.length + 1 ≤ cap) (hl : q.vs.length ≤ 10000) (hcl : ∀ j t, (q.vs ++ [x])[j]? = some t → cellsT w' wf.heap.size (j * 5) t) :
    FinV Wq (w'.setCell ⟨Wq.heap.size, 0, none⟩ (.slice (some ⟨wf.heap.size, 0, none⟩) (q.vs.length + 1) cap)) d (q.vs ++ [x]) q.es := by
  have hB := bnext (bnext hbA hj) hb'
  have hF := hB.setCell (p := ⟨Wq.heap.size, 0, none⟩) (Nat.le_refl _) (.slice (some ⟨wf.heap.size, 0, none⟩) (q.vs.length + 1) cap)
  have hC2 := ((hC.next hj).next hb').set0 (.slice (some ⟨wf.heap.size, 0, none⟩) (q.vs.length + 1) cap)
  have hlt := hC.lt
  have hs1 := hj.size
  have hlen : (q.vs ++ [x]).length = q.vs.length + 1 := by simp
  refine ⟨⟨some ⟨wf.heap.size, 0, none⟩, cap, q.vs ++ [x], q.AE, q.cE, q.es⟩, rfl, rfl, ⟨?_, (hQ.next hF).e, fld_app hQ.fv hfx, hQ.fe⟩, ?_, hF⟩
  · exact trow_fin rfl (by omega) (by omega) hcl (by show (q.vs ++ [x]).length ≤ cap; omega) (by show (q.vs ++ [x]).length ≤ _; omega) (row_app (hQ.next hF).v.vals (hx.next hF))
  · show C2 _ _ (.slice _ (q.vs ++ [x]).length cap) _
    rw [hlen]; exact hC2
theorem hurt_fin_e {Wq W' wf w' : World} {d cap : Nat} {q : GA} {x : TA} (hbA : Below Wq.heap.size Wq W') (hj : Below W'.heap.size W' wf) (hb' : Below wf.heap.size wf w') (hs' : w'.heap.size = wf.heap.size + 1) (hQ : q.In Wq d) (hx : PRow Wq 0 d x.A x.c x.l) (hfx : TFld x)
    (hC : C2 W' Wq.heap.size (.slice q.AV q.vs.length q.cV) (.slice q.AE q.es.length q.cE)) (hcap : q.es.length + 1 ≤ cap) (hl : q.es.length ≤ 10000) (hcl : ∀ j t, (q.es ++ [x])[j]? = some t → cellsT w' wf.heap.size (j * 5) t) :
    FinV Wq (w'.setCell ⟨Wq.heap.size, 1, none⟩ (.slice (some ⟨wf.heap.size, 0, none⟩) (q.es.length + 1) cap)) d q.vs (q.es ++ [x]) := by
  have hB := bnext (bnext hbA hj) hb'
  have hF := hB.setCell (p := ⟨Wq.heap.size, 1, none⟩) (Nat.le_refl _) (.slice (some ⟨wf.heap.size, 0, none⟩) (q.es.length + 1) cap)
  have hC2 := ((hC.next hj).next hb').set1 (.slice (some ⟨wf.heap.size, 0, none⟩) (q.es.length + 1) cap)
  have hlt := hC.lt
  have hs1 := hj.size
  have hlen : (q.es ++ [x]).length = q.es.length + 1 := by simp
  refine ⟨⟨q.AV, q.cV, q.vs, some ⟨wf.heap.size, 0, none⟩, cap, q.es ++ [x]⟩, rfl, rfl, ⟨(hQ.next hF).v, ?_, hQ.fv, fld_app hQ.fe hfx⟩, ?_, hF⟩
  · exact trow_fin rfl (by omega) (by omega) hcl (by show (q.es ++ [x]).length ≤ cap; omega) (by show (q.es ++ [x]).length ≤ _; omega) (row_app (hQ.next hF).e.vals (hx.next hF))
  · show C2 _ _ _ (.slice _ (q.es ++ [x]).length cap)
    rw [hlen]; exact hC2
theorem hurt_fin_d {Wq W' : World} {d : Nat} {q : GA} (hbA : Below Wq.heap.size Wq W') (hQ : q.In Wq d) (hC : C2 W' Wq.heap.size (.slice q.AV q.vs.length q.cV) (.slice q.AE q.es.length q.cE)) (k : Nat) (hk : k ≤ q.es.length) :
    FinV Wq (W'.setCell ⟨Wq.heap.size, 1, none⟩ (.slice q.AE k q.cE)) d q.vs (q.es.take k) := by
  have hF := hbA.setCell (p := ⟨Wq.heap.size, 1, none⟩) (Nat.le_refl _) (.slice q.AE k q.cE)
  have hC2 := hC.set1 (.slice q.AE k q.cE)
  have hlen : (q.es.take k).length = k := by simp; omega
  have hE := (hQ.next hF).e
  refine ⟨⟨q.AV, q.cV, q.vs, q.AE, q.cE, q.es.take k⟩, rfl, rfl, ⟨(hQ.next hF).v, ⟨?_, ?_, fun h0 => ?_, fun t ht => hE.vals t (List.mem_of_mem_take ht)⟩, hQ.fv, fun t ht => hQ.fe t (List.mem_of_mem_take ht)⟩, ?_, hF⟩
  · have := hE.le; show (q.es.take k).length ≤ q.cE; omega
  · have := hE.big; show (q.es.take k).length ≤ _; omega
  · obtain ⟨b, off, e, hb, hc⟩ := hE.at_ (by have h0' : 0 < (q.es.take k).length := h0; omega)
    refine ⟨b, off, e, hb, fun j t hj => hc j t ?_⟩
    have hj1 := (List.getElem?_eq_some_iff.1 hj).1
    rw [hlen] at hj1
    rw [List.getElem?_take_of_lt hj1] at hj
    exact hj
  · show C2 _ _ _ (.slice _ (q.es.take k).length _)
    rw [hlen]; exact hC2
theorem fin_copy {Wq W' : World} {d : Nat} {q : GA} (hbA : Below Wq.heap.size Wq W') (hQ : q.In Wq d) (hC : C2 W' Wq.heap.size (.slice q.AV q.vs.length q.cV) (.slice q.AE q.es.length q.cE)) : FinV Wq W' d q.vs q.es := ⟨q, rfl, rfl, hQ.next hbA, hC, hbA⟩
structure Th (w : World) (b o d : Nat) (t : TA) : Prop where
  c : cellsT w b o t
  lt : b < w.heap.size
  r : PRow w 0 d t.A t.c t.l
theorem Th.next {a b : World} {g o d : Nat} {t : TA} (h : Th a g o d t) (hb : Below a.heap.size a b) : Th b g o d t := ⟨h.c.next hb h.lt, Nat.lt_of_lt_of_le h.lt hb.size, h.r.next hb⟩
def phaD : Nat → Tmp := fun j => [74, 75, 76, 77, 78, 79, 80, 81, 82, 0].getD j 0
def phaE : Nat → List Nat := fun j => [[], [0], [], [2], [3], [4], [5], [], [], []].getD j []
def phbD : Nat → Tmp := fun j => [85, 86, 87, 88, 89, 90, 91, 92, 93, 94, 95, 96, 97, 0].getD j 0
def phbE : Nat → List Nat := fun j => [[], [0], [], [2], [], [4], [5], [6], [7], [3, 8], [9], [], [], []].getD j []
def pheD : Nat → Tmp := fun j => [123, 124, 125, 126, 127, 128, 129, 130, 131, 132, 133, 134, 0].getD j 0
def pheE : Nat → List Nat := fun j => [[], [0], [], [], [3], [4], [5], [6], [2, 7], [8], [], [], []].getD j []
set_option maxHeartbeats 64000000 in
theorem hurt_law (w : World) (d0 : Nat) (g : GA) (label : ByteArray) (hg : g.In w d0) (hsm : g.Sm) : Calls Try.prog 7 #[g.v, .string label] w fun e w' => e = .returned (.bool true) ∧ Below w.heap.size w w' := by
  obtain ⟨d, hd⟩ : ∃ d, d = d0 + 13 := ⟨_, rfl⟩
  have G := Lib.hid (hg.up (d' := d) (by omega))
  have HSM := Lib.hid hsm
  have D13 : 13 ≤ d := by omega
  clear hg hd hsm
  go_enter Try.func7, Try.ntmps7
  go_upto_region 1 with fail
  generalize hA : World.alloc w _ = W0
  obtain ⟨c4, hbA, hsA⟩ := made24 hA
  have B := Lib.hid hbA
  have C2a := Lib.hid c4
  replace G := Lib.hid (G.out.next B.out)
  clear hA c4 hbA hsA
  obtain ⟨y0, y1, _⟩ := C2a.out
  go_wp2_with fail
  refine (much_any W0 d g G.out).mono ?_
  rintro e W1 ⟨mb, rfl, hb1⟩
  clear y0 y1
  replace G := Lib.hid (G.out.next hb1)
  replace C2a := Lib.hid (C2a.out.next hb1)
  replace B := Lib.hid (bnext B.out hb1)
  clear hb1
  cases mb
  case true =>
    go_wp2_with fail
    refine (known_any W1).mono ?_
    rintro e Wk ⟨rfl, hbk⟩
    have BK := Lib.hid (bnext B.out hbk)
    clear hbk
    go_wp2
    go_ret
    exact ⟨rfl, BK.out⟩
  by_cases hlabel : 300 < label.size
  · have glabel : (300 : Int) < (label.size : Int) := by omega
    go_wp2_with fail
    refine (known_any W1).mono ?_
    rintro e Wk ⟨rfl, hbk⟩
    have BK := Lib.hid (bnext B.out hbk)
    clear hbk
    go_wp2
    go_ret
    exact ⟨rfl, BK.out⟩
  have glabel : ¬ (300 : Int) < (label.size : Int) := by omega
  clear hlabel
  obtain ⟨y0, y1, _⟩ := C2a.out
  go_wp2_with fail
  refine (refCheck_any W1 d g G.out HSM.out).mono ?_
  rintro e W2 ⟨rfl, hb1⟩
  clear y0 y1
  replace G := Lib.hid (G.out.next hb1)
  replace C2a := Lib.hid (C2a.out.next hb1)
  replace B := Lib.hid (bnext B.out hb1)
  clear hb1
  rcases errG_cases g.vs g.es with ⟨hok, he⟩ | he
  rotate_left
  · rw [he]
    clear he
    go_wp2_with fail
    refine (known_any W2).mono ?_
    rintro e Wk ⟨rfl, hbk⟩
    have BK := Lib.hid (bnext B.out hbk)
    clear hbk
    go_wp2
    go_ret
    exact ⟨rfl, BK.out⟩
  rw [he]
  have OKG := Lib.hid hok
  clear he hok
  obtain ⟨y0, y1, _⟩ := C2a.out
  by_cases hv0 : g.vs.length = 0
  · have e0 : ((g.vs.length : Int) == 0) = true := by rw [hv0]; rfl
    clear hv0
    go_wp2_with fail
    refine (known_any W2).mono ?_
    rintro e Wk ⟨rfl, hbk⟩
    have BK := Lib.hid (bnext B.out hbk)
    clear hbk
    go_wp2
    go_ret
    exact ⟨rfl, BK.out⟩
  have e0 : ((g.vs.length : Int) == 0) = false := beq_eq_false_iff_ne.2 (by omega)
  by_cases hv4 : (400 : Int) < (g.vs.length : Int)
  · skip
    go_wp2_with fail
    refine (known_any W2).mono ?_
    rintro e Wk ⟨rfl, hbk⟩
    have BK := Lib.hid (bnext B.out hbk)
    clear hbk
    go_wp2
    go_ret
    exact ⟨rfl, BK.out⟩
  by_cases he9 : (1900 : Int) < (g.es.length : Int)
  · skip
    go_wp2_with fail
    refine (known_any W2).mono ?_
    rintro e Wk ⟨rfl, hbk⟩
    have BK := Lib.hid (bnext B.out hbk)
    clear hbk
    go_wp2
    go_ret
    exact ⟨rfl, BK.out⟩
  obtain ⟨b1, o1, y, eA, hb1', hy, q5, _⟩ := G.out.v.elem (k := g.vs.length - 1) (by omega)
  have HY := Lib.hid hy
  have EY := Lib.hid eA
  obtain ⟨q0, q1, q2, q3, q4⟩ := q5
  have hyid : 0 ≤ y.id := (okTV_parts (okG_v OKG.out (List.mem_of_getElem? hy)).1).1
  rw [eA] at y0
  have n0 : (1 : Int) ≤ (g.vs.length : Int) := by omega
  have n1 : (g.vs.length : Int) - 1 < (g.vs.length : Int) := by omega
  have n2 : ((g.vs.length : Int) - 1).toNat = g.vs.length - 1 := by omega
  have n3 : (0 : Int) ≤ (g.vs.length : Int) - 1 := by omega
  have vlen : g.vs.length ≤ 400 := by omega
  have elen : g.es.length ≤ 1900 := by omega
  clear hy eA
  go_upto_region 4 with fail
  clear q0 q1 q2 q3 q4 n2
  go_cut [70] (fun s70 wx => ∃ b : Bool, s70 = .bool b ∧ wx = W2 ∧ Hid (b = false → y.id ≤ 1152921504606846976 ∧ ∀ e, g.es.getLast? = some e → e.id ≤ 1152921504606846976))
  case first =>
    by_cases hbig : (1152921504606846976 : Int) < y.id
    · go_wp2_with fail
      go_meet
      exact ⟨true, rfl, rfl, Lib.hid (fun h => by cases h)⟩
    have HYB := Lib.hid (show y.id ≤ 1152921504606846976 by omega)
    by_cases he0 : g.es.length = 0
    · have HLE : Hid (∀ e, g.es.getLast? = some e → e.id ≤ 1152921504606846976) := Lib.hid (fun e he => by rw [List.eq_nil_of_length_eq_zero he0] at he; cases he)
      have g0 : ¬ (0 : Int) < (g.es.length : Int) := by omega
      clear he0
      go_wp2_with fail
      go_meet
      exact ⟨false, rfl, rfl, Lib.hid (fun _ => ⟨HYB.out, HLE.out⟩)⟩
    · have g0 : (0 : Int) < (g.es.length : Int) := by omega
      clear he0
      obtain ⟨b2, o2, e2, eA2, hb2', hy2, q5, _⟩ := G.out.e.elem (k := g.es.length - 1) (by omega)
      have m1 : (g.es.length : Int) - 1 < (g.es.length : Int) := by omega
      have m2 : ((g.es.length : Int) - 1).toNat = g.es.length - 1 := by omega
      have m3 : (0 : Int) ≤ (g.es.length : Int) - 1 := by omega
      have m4 : (1 : Int) ≤ (g.es.length : Int) := by omega
      have HY2 := Lib.hid hy2
      rw [eA2] at y1
      obtain ⟨q0, q1, q2, q3, q4⟩ := q5
      clear hy2 eA2
      by_cases hbig2 : (1152921504606846976 : Int) < e2.id
      · go_wp2_with fail
        go_meet
        exact ⟨true, rfl, rfl, Lib.hid (fun h => by cases h)⟩
      have HLE : Hid (∀ e, g.es.getLast? = some e → e.id ≤ 1152921504606846976) := Lib.hid (fun e he => by rw [last_at HY2.out] at he; injection he with he; subst he; omega)
      go_wp2_with fail
      go_meet
      exact ⟨false, rfl, rfl, Lib.hid (fun _ => ⟨HYB.out, HLE.out⟩)⟩
  case rest =>
    obtain ⟨b, rfl, hwc, HB2⟩ := hcut
    rw [hwc]
    clear hwc
    cases b
    rotate_left
    · skip
      go_wp2_with fail
      refine (known_any W2).mono ?_
      rintro e Wk ⟨rfl, hbk⟩
      have BK := Lib.hid (bnext B.out hbk)
      clear hbk
      go_wp2
      go_ret
      exact ⟨rfl, BK.out⟩
    have hyb := (HB2.out rfl).1
    have HLE := Lib.hid (HB2.out rfl).2
    clear y0 y1 HB2
    obtain ⟨b0, o0, v0, eA, hb0, hv, q6, rx⟩ := G.out.v.elem (k := 0) (by omega)
    have HV0 := Lib.hid hv
    have EA := Lib.hid eA
    have HFV0 := Lib.hid (G.out.fv v0 (List.mem_of_getElem? hv))
    have HFY := Lib.hid (G.out.fv y (List.mem_of_getElem? HY.out))
    have TH0 : Hid (Th W2 b0 o0 d v0) := Lib.hid ⟨by have := q6; rwa [Nat.zero_mul, Nat.add_zero] at this, hb0, rx⟩
    have k1 : (0 : Int) < (g.vs.length : Int) := by omega
    have k2 : 0 < g.vs.length := by omega
    have hvid := bounds_i64 HFV0.out.1
    have hw1 : IntKind.i64.wrap (y.id + 1) = y.id + 1 := IntWalk.i64_in _ (by omega)
    have TVY : Hid ((g.vs.map TA.tv').getLast? = some y.tv') := Lib.hid (by rw [List.getLast?_map, last_at HY.out]; rfl)
    have TV0 : Hid ((g.vs.map TA.tv')[0]? = some v0.tv') := Lib.hid (by rw [List.getElem?_map, HV0.out]; rfl)
    have OKV : Hid (okGV (g.vs.map TA.tv') (g.es.map TA.tv') = true) := Lib.hid (by rw [← okG_tv]; exact OKG.out)
    have LST : Hid (∀ e, (g.es.map TA.tv').getLast? = some e → e.id ≤ 1152921504606846976) := Lib.hid (fun e he => by
      rw [List.getLast?_map] at he
      cases h9 : g.es.getLast? with
      | none => rw [h9] at he; cases he
      | some e9 => rw [h9] at he; injection he with he; subst he; exact HLE.out e9 h9)
    have AY : Hid ((g.vs.map TA.tv').any (idBV y.id) = true) := Lib.hid (List.any_eq_true.2 ⟨y.tv', List.mem_map_of_mem (List.mem_of_getElem? HY.out), by simp [idBV, TA.tv']⟩)
    have A0 : Hid ((g.vs.map TA.tv').any (idBV v0.id) = true) := Lib.hid (List.any_eq_true.2 ⟨v0.tv', List.mem_map_of_mem (List.mem_of_getElem? HV0.out), by simp [idBV, TA.tv']⟩)
    clear hv eA rx q6 hb0 HY HV0 HLE
    obtain ⟨y0, y1, _⟩ := C2a.out
    go_wp2_with fail
    refine (gcopy_any W2 d g G.out).mono ?_
    rintro e W3 ⟨qa, rfl, hqv, hqe, hov, hoe, hb1⟩
    have QQ := Lib.hid ((copy_in G.out hqv hqe hov hoe).up D13)
    obtain ⟨hv', he'⟩ := copy_ok OKG.out hqv hqe
    have HVqa := Lib.hid hv'
    have HEqa := Lib.hid he'
    have LVqa : Hid (qa.vs.length = g.vs.length) := Lib.hid (by have := congrArg List.length hv'; simpa using this)
    have LEqa : Hid (qa.es.length = g.es.length) := Lib.hid (by have := congrArg List.length he'; simpa using this)
    have CAP := Lib.hid hov.cap
    have NIL := Lib.hid hov.nil
    have LEN : Hid (qa.vs.length ≤ 10000) := Lib.hid (by have := LVqa.out; have := LEqa.out; omega)
    clear hv' he' hqv hqe hov hoe
    clear y0 y1
    replace G := Lib.hid (G.out.next hb1)
    replace C2a := Lib.hid (C2a.out.next hb1)
    replace TH0 := Lib.hid (TH0.out.next hb1)
    replace B := Lib.hid (bnext B.out hb1)
    clear hb1
    have SG := G
    have SC2a := C2a
    have STH0 := TH0
    have SB := B
    go_upto_region 7 with fail
    generalize hA : World.alloc W3 _ = W4
    obtain ⟨c9, hbA, hsA⟩ := made24 hA
    have CN := Lib.hid c9
    have FZ : Hid (Fz W4 W3.heap.size) := Lib.hid ⟨blk24 _ _ _ _ hA, by omega⟩
    have HBA := Lib.hid hbA
    have CG := Lib.hid (C2a.out.next hbA)
    clear hA c9 hbA hsA
    have PX : Hid (PRow W3 0 d v0.A v0.c v0.l) := Lib.hid (STH0.out.r)
    have FX : Hid (TFld v0) := Lib.hid (HFV0.out)
    have CY := Lib.hid (STH0.out.next HBA.out).c
    have hb0 := (STH0.out.next HBA.out).lt
    refine region_phase [0, 1, 2, 3, 4, 5, 6] [] phaD phaE 12 (fun w' => Below W4.heap.size W4 w') (saidOf [Is (.pointer (some ⟨W3.heap.size, 0, none⟩)), Is (.slice qa.AV qa.vs.length qa.cV), Is (.pointer (some ⟨w.heap.size, 0, none⟩)), Is (.slice (some ⟨b0, o0, none⟩) g.vs.length g.cV), Is (.pointer (some ⟨b0, o0, none⟩)), Is v0.v, IsNewT v0, fun _ _ => True, fun _ _ => True, fun _ _ => True]) 164 rfl (by kernel_rfl) (by kernel_rfl) (fun _ _ h hb => bnext h hb) (stays_said _ (stays_cons (Is.stays _) (stays_cons (Is.stays _) (stays_cons (Is.stays _) (stays_cons (Is.stays _) (stays_cons (Is.stays _) (stays_cons (Is.stays _) (stays_cons (IsNewT.stays _) (stays_cons (fun _ _ _ _ _ => trivial) (stays_cons (fun _ _ _ _ _ => trivial) (stays_cons (fun _ _ _ _ _ => trivial) stays_nil))))))))))) (below_drewN _ _ 1) (by kernel_rfl) ?_ ?_
    · skip
      refine owes_cons (Owes.mk (o := ({ dst := some 74, op := .fieldAddr 24 (.tmp 6) 0, type := 0, pos := "law.go:113", after := #[], guard := none } : Oper)) rfl (fun v wk hj hD K hK => ?_)) ?_
      · simp only [phaD, phaE, putAll, Act.put, List.getD_cons_zero, List.setIfInBounds_toArray, List.set_cons_zero, List.set_cons_succ] at hK ⊢
        go_simp
        exact hK.out _ _ (Below.refl _ _) rfl
      refine owes_cons (Owes.mk (o := ({ dst := some 75, op := .load 22 (.tmp 74), type := 22, pos := "law.go:113", after := #[{ on := 0, ground := .data }], guard := none } : Oper)) rfl (fun v wk hj hD K hK => ?_)) ?_
      · have h0 : v 0 = (.pointer (some ⟨W3.heap.size, 0, none⟩)) := hD 0 (by decide)
        simp only [phaD, phaE, putAll, Act.put, List.getD_cons_succ, List.getD_cons_zero, List.setIfInBounds_toArray, List.set_cons_zero, List.set_cons_succ, h0] at hK ⊢
        obtain ⟨q0, q1, _⟩ := (CN.out.next hj)
        go_simp
        exact hK.out _ _ (Below.refl _ _) rfl
      refine owes_cons (Owes.mk (o := ({ dst := some 76, op := .fieldAddr 24 (.tmp 2) 0, type := 0, pos := "law.go:113", after := #[], guard := none } : Oper)) rfl (fun v wk hj hD K hK => ?_)) ?_
      · simp only [phaD, phaE, putAll, Act.put, List.getD_cons_succ, List.getD_cons_zero, List.setIfInBounds_toArray, List.set_cons_zero, List.set_cons_succ] at hK ⊢
        go_simp
        exact hK.out _ _ (Below.refl _ _) rfl
      refine owes_cons (Owes.mk (o := ({ dst := some 77, op := .load 22 (.tmp 76), type := 22, pos := "law.go:113", after := #[{ on := 2, ground := .data }], guard := none } : Oper)) rfl (fun v wk hj hD K hK => ?_)) ?_
      · have h2 : v 2 = (.pointer (some ⟨w.heap.size, 0, none⟩)) := hD 2 (by decide)
        simp only [phaD, phaE, putAll, Act.put, List.getD_cons_succ, List.getD_cons_zero, List.setIfInBounds_toArray, List.set_cons_zero, List.set_cons_succ, h2] at hK ⊢
        obtain ⟨q0, q1, _⟩ := (CG.out.next hj)
        rw [EA.out] at q0
        go_simp
        exact hK.out _ _ (Below.refl _ _) rfl
      refine owes_cons (Owes.mk (o := ({ dst := some 78, op := .indexAddr 22 (.tmp 77) (.const (.int .i64 0)), type := 0, pos := "law.go:113", after := #[{ on := 3, ground := .data }], guard := none } : Oper)) rfl (fun v wk hj hD K hK => ?_)) ?_
      · have h3 : v 3 = (.slice (some ⟨b0, o0, none⟩) g.vs.length g.cV) := hD 3 (by decide)
        simp only [phaD, phaE, putAll, Act.put, List.getD_cons_succ, List.getD_cons_zero, List.setIfInBounds_toArray, List.set_cons_zero, List.set_cons_succ, h3] at hK ⊢
        go_simp
        exact hK.out _ _ (Below.refl _ _) rfl
      refine owes_cons (Owes.mk (o := ({ dst := some 79, op := .load 34 (.tmp 78), type := 34, pos := "law.go:113", after := #[{ on := 4, ground := .data }], guard := none } : Oper)) rfl (fun v wk hj hD K hK => ?_)) ?_
      · have h4 : v 4 = (.pointer (some ⟨b0, o0, none⟩)) := hD 4 (by decide)
        simp only [phaD, phaE, putAll, Act.put, List.getD_cons_succ, List.getD_cons_zero, List.setIfInBounds_toArray, List.set_cons_zero, List.set_cons_succ, h4] at hK ⊢
        obtain ⟨q0, q1, q2, q3, q4⟩ := CY.out.next hj hb0
        go_simp
        exact hK.out _ _ (Below.refl _ _) rfl
      refine owes_cons (Owes.mk (o := ({ dst := some 80, op := .buildSlice 22 1 #[(0, .tmp 79)], type := 22, pos := "law.go:113", after := #[{ on := 5, ground := .data }], guard := none } : Oper)) rfl (fun v wk hj hD K hK => ?_)) ?_
      · have h5 : v 5 = v0.v := hD 5 (by decide)
        simp only [phaD, phaE, putAll, Act.put, List.getD_cons_succ, List.getD_cons_zero, List.setIfInBounds_toArray, List.set_cons_zero, List.set_cons_succ, h5] at hK ⊢
        go_simp
        exact hK.out _ _ (below_new _ _) ⟨_, rfl, cells_newT wk v0, by simp⟩
      exact owes_nil
    intro p v wf h1 h2 hj hr
    obtain rfl := marks_all h1 (fun m hm => h2 m hm (by simp))
    have hv1 : v 1 = .slice qa.AV qa.vs.length qa.cV := hr 1 (by decide) (by decide)
    obtain ⟨z, hvn, hzc, hzl⟩ : IsNewT v0 (v 6) wf := hr 6 (by decide) (by decide)
    rw [show List.filter (fun k => [0, 1, 2, 3, 4, 5, 6].contains k) [0, 1, 2, 3, 4, 5, 6] = [0, 1, 2, 3, 4, 5, 6] from rfl]
    simp only [phaD, putAll, Act.put, List.getD_cons_succ, List.getD_cons_zero, List.setIfInBounds_toArray, List.set_cons_zero, List.set_cons_succ, hv1, hvn]
    clear hv1 hvn hr h1 h2
    have HJ := Lib.hid hj
    have HZ := Lib.hid hzc
    clear hj hzc hzl
    refine anyN_any (S := fun _ => True) (N := []) _ _ _ _ ?_
    refine anyN_one (i := 7) (o := ({ dst := some 81, op := .call { callee := .builtin .append, args := #[.tmp 75, .tmp 80], argTypes := #[22, 22] }, type := 22, pos := "law.go:113", after := #[{ on := 1, ground := .data }, { on := 6, ground := .data }], guard := none } : Oper)) (by kernel_rfl) rfl (fun K hK => ?_)
    rw [if_pos (by rfl)]
    refine wp_appendT (.tmp 75) (.tmp 80) (by rfl) d qa.AV qa.cV qa.vs _ rfl (by simp [Act.eval]) CAP.out NIL.out ((QQ.out.next (bnext HBA.out HJ.out)).v) z v0 (by simp [Act.eval]) HZ.out LEN.out ?_
    intro cap w' hcap hcl hbw hsw
    have FIN := Lib.hid (hurt_fin_v HBA.out HJ.out hbw hsw QQ.out PX.out FX.out CN.out hcap LEN.out hcl)
    obtain ⟨q0, q1, _⟩ := (CN.out.next HJ.out).next hbw
    have f9 := (FZ.out.next HJ.out).next hbw
    obtain ⟨f0, f1⟩ := f9.fz
    clear hcap hcl hbw hsw f9
    refine hK.out _ _ (fun _ => trivial) ?_
    clear hK K
    try simp only [Act.put, List.setIfInBounds_toArray, List.set_cons_zero, List.set_cons_succ]
    refine anyN_one (i := 8) (o := ({ dst := some 82, op := .fieldAddr 24 (.tmp 6) 0, type := 0, pos := "law.go:113", after := #[{ on := 0, ground := .phase }, { on := 1, ground := .phase }, { on := 2, ground := .phase }, { on := 3, ground := .phase }, { on := 4, ground := .phase }, { on := 5, ground := .phase }, { on := 6, ground := .phase }, { on := 7, ground := .phase }], guard := none } : Oper)) (by kernel_rfl) rfl (fun K hK => ?_)
    go_simp
    refine hK.out _ _ (fun _ => trivial) ?_
    clear hK K
    try simp only [Act.put, List.setIfInBounds_toArray, List.set_cons_zero, List.set_cons_succ]
    refine anyN_one (i := 9) (o := ({ dst := none, op := .store 22 (.tmp 82) (.tmp 81), type := 0, pos := "law.go:113", after := #[{ on := 8, ground := .data }, { on := 7, ground := .data }, { on := 7, ground := .chain }, { on := 0, ground := .phase }, { on := 1, ground := .phase }, { on := 2, ground := .phase }, { on := 3, ground := .phase }, { on := 4, ground := .phase }, { on := 5, ground := .phase }, { on := 6, ground := .phase }, { on := 7, ground := .phase }], guard := none } : Oper)) (by kernel_rfl) rfl (fun K hK => ?_)
    go_simp
    refine hK.out _ _ (fun _ => trivial) ?_
    clear hK K
    try simp only [Act.put, List.setIfInBounds_toArray, List.set_cons_zero, List.set_cons_succ]
    refine anyN_done (by kernel_rfl) ?_ _
    clear q0 q1 f0 f1
    clear PX FX CY hb0
    generalize World.setCell _ _ _ = W5 at FIN
    obtain ⟨ga, hgav, hgae, hIn, hbox, hL⟩ := FIN.out
    have Rga := Lib.hid hIn
    have C2ga := Lib.hid hbox
    have hb1 := hL
    have ERa := Lib.hid (show errG ga.vs ga.es = 50 from (errG_tv (b := false) (by rw [hgav, hgae, List.map_append, HVqa.out, HEqa.out]; exact hurtA OKV.out TV0.out)))
    replace G := Lib.hid (SG.out.next hL)
    replace C2a := Lib.hid (SC2a.out.next hL)
    replace TH0 := Lib.hid (STH0.out.next hL)
    replace B := Lib.hid (bnext SB.out hL)
    clear SG
    clear SC2a
    clear STH0
    clear SB hIn hbox hL hb1 FIN hgav hgae QQ CAP NIL LEN CN FZ HBA CG
    go_upto_region 8 with fail
    obtain ⟨y0, y1, _⟩ := C2a.out
    go_wp2_with fail
    refine (gcopy_any W5 d g G.out).mono ?_
    rintro e W6 ⟨qb, rfl, hqv, hqe, hov, hoe, hb1⟩
    have QQ := Lib.hid ((copy_in G.out hqv hqe hov hoe).up D13)
    obtain ⟨hv', he'⟩ := copy_ok OKG.out hqv hqe
    have HVqb := Lib.hid hv'
    have HEqb := Lib.hid he'
    have LVqb : Hid (qb.vs.length = g.vs.length) := Lib.hid (by have := congrArg List.length hv'; simpa using this)
    have LEqb : Hid (qb.es.length = g.es.length) := Lib.hid (by have := congrArg List.length he'; simpa using this)
    have CAP := Lib.hid hoe.cap
    have NIL := Lib.hid hoe.nil
    have LEN : Hid (qb.es.length ≤ 10000) := Lib.hid (by have := LVqb.out; have := LEqb.out; omega)
    clear hv' he' hqv hqe hov hoe
    clear y0 y1
    replace G := Lib.hid (G.out.next hb1)
    replace C2a := Lib.hid (C2a.out.next hb1)
    replace TH0 := Lib.hid (TH0.out.next hb1)
    replace Rga := Lib.hid (Rga.out.next hb1)
    replace C2ga := Lib.hid (C2ga.out.next hb1)
    replace B := Lib.hid (bnext B.out hb1)
    clear hb1
    have SG := G
    have SC2a := C2a
    have STH0 := TH0
    have SRga := Rga
    have SC2ga := C2ga
    have SB := B
    go_upto_region 9 with fail
    generalize hA : World.alloc W6 _ = W7
    obtain ⟨c9, hbA, hsA⟩ := made24 hA
    have CN := Lib.hid c9
    have FZ : Hid (Fz W7 W6.heap.size) := Lib.hid ⟨blk24 _ _ _ _ hA, by omega⟩
    have HBA := Lib.hid hbA
    have CG := Lib.hid (C2a.out.next hbA)
    clear hA c9 hbA hsA
    have PX : Hid (PRow W6 0 d (xB y.id v0.id).A (xB y.id v0.id).c (xB y.id v0.id).l) := Lib.hid (prow_nil _ _ _)
    have FX : Hid (TFld (xB y.id v0.id)) := Lib.hid (fld_xB hyid (by omega) HFV0.out.1)
    have CY := Lib.hid (STH0.out.next HBA.out).c
    have hb0 := (STH0.out.next HBA.out).lt
    refine region_phase [0, 1, 2, 3, 4, 5, 6, 7, 8, 9, 10] [] phbD phbE 12 (fun w' => Below W7.heap.size W7 w') (saidOf [Is (.pointer (some ⟨W6.heap.size, 1, none⟩)), Is (.slice qb.AE qb.es.length qb.cE), Is (.int .i64 y.id), Is (.int .i64 (y.id + 1)), Is (.pointer (some ⟨w.heap.size, 0, none⟩)), Is (.slice (some ⟨b0, o0, none⟩) g.vs.length g.cV), Is (.pointer (some ⟨b0, o0, none⟩)), Is (.pointer (some ⟨b0, o0, none⟩)), Is (.int .i64 v0.id), Is (xB y.id v0.id).v, IsNewT (xB y.id v0.id), fun _ _ => True, fun _ _ => True, fun _ _ => True]) 164 rfl (by kernel_rfl) (by kernel_rfl) (fun _ _ h hb => bnext h hb) (stays_said _ (stays_cons (Is.stays _) (stays_cons (Is.stays _) (stays_cons (Is.stays _) (stays_cons (Is.stays _) (stays_cons (Is.stays _) (stays_cons (Is.stays _) (stays_cons (Is.stays _) (stays_cons (Is.stays _) (stays_cons (Is.stays _) (stays_cons (Is.stays _) (stays_cons (IsNewT.stays _) (stays_cons (fun _ _ _ _ _ => trivial) (stays_cons (fun _ _ _ _ _ => trivial) (stays_cons (fun _ _ _ _ _ => trivial) stays_nil))))))))))))))) (below_drewN _ _ 1) (by kernel_rfl) ?_ ?_
    · skip
      refine owes_cons (Owes.mk (o := ({ dst := some 85, op := .fieldAddr 24 (.tmp 7) 1, type := 0, pos := "law.go:115", after := #[], guard := none } : Oper)) rfl (fun v wk hj hD K hK => ?_)) ?_
      · simp only [phbD, phbE, putAll, Act.put, List.getD_cons_zero, List.setIfInBounds_toArray, List.set_cons_zero, List.set_cons_succ] at hK ⊢
        go_simp
        exact hK.out _ _ (Below.refl _ _) rfl
      refine owes_cons (Owes.mk (o := ({ dst := some 86, op := .load 22 (.tmp 85), type := 22, pos := "law.go:115", after := #[{ on := 0, ground := .data }], guard := none } : Oper)) rfl (fun v wk hj hD K hK => ?_)) ?_
      · have h0 : v 0 = (.pointer (some ⟨W6.heap.size, 1, none⟩)) := hD 0 (by decide)
        simp only [phbD, phbE, putAll, Act.put, List.getD_cons_succ, List.getD_cons_zero, List.setIfInBounds_toArray, List.set_cons_zero, List.set_cons_succ, h0] at hK ⊢
        obtain ⟨q0, q1, _⟩ := (CN.out.next hj)
        go_simp
        exact hK.out _ _ (Below.refl _ _) rfl
      refine owes_cons (Owes.mk (o := ({ dst := some 87, op := .move (.tmp 5), type := 3, pos := "law.go:115", after := #[], guard := none } : Oper)) rfl (fun v wk hj hD K hK => ?_)) ?_
      · simp only [phbD, phbE, putAll, Act.put, List.getD_cons_succ, List.getD_cons_zero, List.setIfInBounds_toArray, List.set_cons_zero, List.set_cons_succ] at hK ⊢
        go_simp
        exact hK.out _ _ (Below.refl _ _) rfl
      refine owes_cons (Owes.mk (o := ({ dst := some 88, op := .binOp .add 3 (.tmp 87) (.const (.int .i64 1)) 3, type := 3, pos := "law.go:115", after := #[{ on := 2, ground := .data }], guard := none } : Oper)) rfl (fun v wk hj hD K hK => ?_)) ?_
      · have h2 : v 2 = (.int .i64 y.id) := hD 2 (by decide)
        simp only [phbD, phbE, putAll, Act.put, List.getD_cons_succ, List.getD_cons_zero, List.setIfInBounds_toArray, List.set_cons_zero, List.set_cons_succ, h2] at hK ⊢
        go_simp
        exact hK.out _ _ (Below.refl _ _) rfl
      refine owes_cons (Owes.mk (o := ({ dst := some 89, op := .fieldAddr 24 (.tmp 2) 0, type := 0, pos := "law.go:115", after := #[], guard := none } : Oper)) rfl (fun v wk hj hD K hK => ?_)) ?_
      · simp only [phbD, phbE, putAll, Act.put, List.getD_cons_succ, List.getD_cons_zero, List.setIfInBounds_toArray, List.set_cons_zero, List.set_cons_succ] at hK ⊢
        go_simp
        exact hK.out _ _ (Below.refl _ _) rfl
      refine owes_cons (Owes.mk (o := ({ dst := some 90, op := .load 22 (.tmp 89), type := 22, pos := "law.go:115", after := #[{ on := 4, ground := .data }], guard := none } : Oper)) rfl (fun v wk hj hD K hK => ?_)) ?_
      · have h4 : v 4 = (.pointer (some ⟨w.heap.size, 0, none⟩)) := hD 4 (by decide)
        simp only [phbD, phbE, putAll, Act.put, List.getD_cons_succ, List.getD_cons_zero, List.setIfInBounds_toArray, List.set_cons_zero, List.set_cons_succ, h4] at hK ⊢
        obtain ⟨q0, q1, _⟩ := (CG.out.next hj)
        rw [EA.out] at q0
        go_simp
        exact hK.out _ _ (Below.refl _ _) rfl
      refine owes_cons (Owes.mk (o := ({ dst := some 91, op := .indexAddr 22 (.tmp 90) (.const (.int .i64 0)), type := 0, pos := "law.go:115", after := #[{ on := 5, ground := .data }], guard := none } : Oper)) rfl (fun v wk hj hD K hK => ?_)) ?_
      · have h5 : v 5 = (.slice (some ⟨b0, o0, none⟩) g.vs.length g.cV) := hD 5 (by decide)
        simp only [phbD, phbE, putAll, Act.put, List.getD_cons_succ, List.getD_cons_zero, List.setIfInBounds_toArray, List.set_cons_zero, List.set_cons_succ, h5] at hK ⊢
        go_simp
        exact hK.out _ _ (Below.refl _ _) rfl
      refine owes_cons (Owes.mk (o := ({ dst := some 92, op := .fieldAddr 34 (.tmp 91) 0, type := 0, pos := "law.go:115", after := #[{ on := 6, ground := .data }], guard := none } : Oper)) rfl (fun v wk hj hD K hK => ?_)) ?_
      · have h6 : v 6 = (.pointer (some ⟨b0, o0, none⟩)) := hD 6 (by decide)
        simp only [phbD, phbE, putAll, Act.put, List.getD_cons_succ, List.getD_cons_zero, List.setIfInBounds_toArray, List.set_cons_zero, List.set_cons_succ, h6] at hK ⊢
        go_simp
        exact hK.out _ _ (Below.refl _ _) rfl
      refine owes_cons (Owes.mk (o := ({ dst := some 93, op := .load 3 (.tmp 92), type := 3, pos := "law.go:115", after := #[{ on := 7, ground := .data }], guard := none } : Oper)) rfl (fun v wk hj hD K hK => ?_)) ?_
      · have h7 : v 7 = (.pointer (some ⟨b0, o0, none⟩)) := hD 7 (by decide)
        simp only [phbD, phbE, putAll, Act.put, List.getD_cons_succ, List.getD_cons_zero, List.setIfInBounds_toArray, List.set_cons_zero, List.set_cons_succ, h7] at hK ⊢
        obtain ⟨q0, q1, q2, q3, q4⟩ := CY.out.next hj hb0
        go_simp
        exact hK.out _ _ (Below.refl _ _) rfl
      refine owes_cons (Owes.mk (o := ({ dst := some 94, op := .build 34 #[(0, .const (.int .i64 2305843009213693952)), (1, .const (.string { data := #[120] })), (2, .tmp 88), (3, .tmp 93)], type := 34, pos := "law.go:115", after := #[{ on := 3, ground := .data }, { on := 8, ground := .data }], guard := none } : Oper)) rfl (fun v wk hj hD K hK => ?_)) ?_
      · have h3 : v 3 = (.int .i64 (y.id + 1)) := hD 3 (by decide)
        have h8 : v 8 = (.int .i64 v0.id) := hD 8 (by decide)
        simp only [phbD, phbE, putAll, Act.put, List.getD_cons_succ, List.getD_cons_zero, List.setIfInBounds_toArray, List.set_cons_zero, List.set_cons_succ, h3, h8] at hK ⊢
        go_simp
        exact hK.out _ _ (Below.refl _ _) rfl
      refine owes_cons (Owes.mk (o := ({ dst := some 95, op := .buildSlice 22 1 #[(0, .tmp 94)], type := 22, pos := "law.go:115", after := #[{ on := 9, ground := .data }], guard := none } : Oper)) rfl (fun v wk hj hD K hK => ?_)) ?_
      · have h9 : v 9 = (xB y.id v0.id).v := hD 9 (by decide)
        simp only [phbD, phbE, putAll, Act.put, List.getD_cons_succ, List.getD_cons_zero, List.setIfInBounds_toArray, List.set_cons_zero, List.set_cons_succ, h9] at hK ⊢
        go_simp
        exact hK.out _ _ (below_new _ _) ⟨_, rfl, cells_newT wk (xB y.id v0.id), by simp⟩
      exact owes_nil
    intro p v wf h1 h2 hj hr
    obtain rfl := marks_all h1 (fun m hm => h2 m hm (by simp))
    have hv1 : v 1 = .slice qb.AE qb.es.length qb.cE := hr 1 (by decide) (by decide)
    obtain ⟨z, hvn, hzc, hzl⟩ : IsNewT (xB y.id v0.id) (v 10) wf := hr 10 (by decide) (by decide)
    rw [show List.filter (fun k => [0, 1, 2, 3, 4, 5, 6, 7, 8, 9, 10].contains k) [0, 1, 2, 3, 4, 5, 6, 7, 8, 9, 10] = [0, 1, 2, 3, 4, 5, 6, 7, 8, 9, 10] from rfl]
    simp only [phbD, putAll, Act.put, List.getD_cons_succ, List.getD_cons_zero, List.setIfInBounds_toArray, List.set_cons_zero, List.set_cons_succ, hv1, hvn]
    clear hv1 hvn hr h1 h2
    have HJ := Lib.hid hj
    have HZ := Lib.hid hzc
    clear hj hzc hzl
    refine anyN_any (S := fun _ => True) (N := []) _ _ _ _ ?_
    refine anyN_one (i := 11) (o := ({ dst := some 96, op := .call { callee := .builtin .append, args := #[.tmp 86, .tmp 95], argTypes := #[22, 22] }, type := 22, pos := "law.go:115", after := #[{ on := 1, ground := .data }, { on := 10, ground := .data }], guard := none } : Oper)) (by kernel_rfl) rfl (fun K hK => ?_)
    rw [if_pos (by rfl)]
    refine wp_appendT (.tmp 86) (.tmp 95) (by rfl) d qb.AE qb.cE qb.es _ rfl (by simp [Act.eval]) CAP.out NIL.out ((QQ.out.next (bnext HBA.out HJ.out)).e) z (xB y.id v0.id) (by simp [Act.eval]) HZ.out LEN.out ?_
    intro cap w' hcap hcl hbw hsw
    have FIN := Lib.hid (hurt_fin_e HBA.out HJ.out hbw hsw QQ.out PX.out FX.out CN.out hcap LEN.out hcl)
    obtain ⟨q0, q1, _⟩ := (CN.out.next HJ.out).next hbw
    have f9 := (FZ.out.next HJ.out).next hbw
    obtain ⟨f0, f1⟩ := f9.fz
    clear hcap hcl hbw hsw f9
    refine hK.out _ _ (fun _ => trivial) ?_
    clear hK K
    try simp only [Act.put, List.setIfInBounds_toArray, List.set_cons_zero, List.set_cons_succ]
    refine anyN_one (i := 12) (o := ({ dst := some 97, op := .fieldAddr 24 (.tmp 7) 1, type := 0, pos := "law.go:115", after := #[{ on := 0, ground := .phase }, { on := 1, ground := .phase }, { on := 2, ground := .phase }, { on := 3, ground := .phase }, { on := 4, ground := .phase }, { on := 5, ground := .phase }, { on := 6, ground := .phase }, { on := 7, ground := .phase }, { on := 8, ground := .phase }, { on := 9, ground := .phase }, { on := 10, ground := .phase }, { on := 11, ground := .phase }], guard := none } : Oper)) (by kernel_rfl) rfl (fun K hK => ?_)
    go_simp
    refine hK.out _ _ (fun _ => trivial) ?_
    clear hK K
    try simp only [Act.put, List.setIfInBounds_toArray, List.set_cons_zero, List.set_cons_succ]
    refine anyN_one (i := 13) (o := ({ dst := none, op := .store 22 (.tmp 97) (.tmp 96), type := 0, pos := "law.go:115", after := #[{ on := 12, ground := .data }, { on := 11, ground := .data }, { on := 11, ground := .chain }, { on := 0, ground := .phase }, { on := 1, ground := .phase }, { on := 2, ground := .phase }, { on := 3, ground := .phase }, { on := 4, ground := .phase }, { on := 5, ground := .phase }, { on := 6, ground := .phase }, { on := 7, ground := .phase }, { on := 8, ground := .phase }, { on := 9, ground := .phase }, { on := 10, ground := .phase }, { on := 11, ground := .phase }], guard := none } : Oper)) (by kernel_rfl) rfl (fun K hK => ?_)
    go_simp
    refine hK.out _ _ (fun _ => trivial) ?_
    clear hK K
    try simp only [Act.put, List.setIfInBounds_toArray, List.set_cons_zero, List.set_cons_succ]
    refine anyN_done (by kernel_rfl) ?_ _
    clear q0 q1 f0 f1
    clear PX FX CY hb0
    generalize World.setCell _ _ _ = W8 at FIN
    obtain ⟨gb, hgbv, hgbe, hIn, hbox, hL⟩ := FIN.out
    have Rgb := Lib.hid hIn
    have C2gb := Lib.hid hbox
    have hb1 := hL
    have ERb := Lib.hid (show errG gb.vs gb.es = 50 from (errG_tv (b := false) (by rw [hgbv, hgbe, List.map_append, HVqb.out, HEqb.out]; exact hurtB OKV.out TVY.out rfl)))
    replace G := Lib.hid (SG.out.next hL)
    replace C2a := Lib.hid (SC2a.out.next hL)
    replace TH0 := Lib.hid (STH0.out.next hL)
    replace Rga := Lib.hid (SRga.out.next hL)
    replace C2ga := Lib.hid (SC2ga.out.next hL)
    replace B := Lib.hid (bnext SB.out hL)
    clear SG
    clear SC2a
    clear STH0
    clear SRga
    clear SC2ga
    clear SB hIn hbox hL hb1 FIN hgbv hgbe QQ CAP NIL LEN CN FZ HBA CG
    go_upto_region 10 with fail
    obtain ⟨y0, y1, _⟩ := C2a.out
    go_wp2_with fail
    refine (gcopy_any W8 d g G.out).mono ?_
    rintro e W9 ⟨qc, rfl, hqv, hqe, hov, hoe, hb1⟩
    have QQ := Lib.hid ((copy_in G.out hqv hqe hov hoe).up D13)
    obtain ⟨hv', he'⟩ := copy_ok OKG.out hqv hqe
    have HVqc := Lib.hid hv'
    have HEqc := Lib.hid he'
    have LVqc : Hid (qc.vs.length = g.vs.length) := Lib.hid (by have := congrArg List.length hv'; simpa using this)
    have LEqc : Hid (qc.es.length = g.es.length) := Lib.hid (by have := congrArg List.length he'; simpa using this)
    have CAP := Lib.hid hov.cap
    have NIL := Lib.hid hov.nil
    have LEN : Hid (qc.vs.length ≤ 10000) := Lib.hid (by have := LVqc.out; have := LEqc.out; omega)
    clear hv' he' hqv hqe hov hoe
    clear y0 y1
    replace G := Lib.hid (G.out.next hb1)
    replace C2a := Lib.hid (C2a.out.next hb1)
    replace TH0 := Lib.hid (TH0.out.next hb1)
    replace Rga := Lib.hid (Rga.out.next hb1)
    replace C2ga := Lib.hid (C2ga.out.next hb1)
    replace Rgb := Lib.hid (Rgb.out.next hb1)
    replace C2gb := Lib.hid (C2gb.out.next hb1)
    replace B := Lib.hid (bnext B.out hb1)
    clear hb1
    have SG := G
    have SC2a := C2a
    have STH0 := TH0
    have SRga := Rga
    have SC2ga := C2ga
    have SRgb := Rgb
    have SC2gb := C2gb
    have SB := B
    go_upto_region 11 with fail
    generalize hA : World.alloc W9 _ = W10
    obtain ⟨c9, hbA, hsA⟩ := made24 hA
    have CN := Lib.hid c9
    have FZ : Hid (Fz W10 W9.heap.size) := Lib.hid ⟨blk24 _ _ _ _ hA, by omega⟩
    have HBA := Lib.hid hbA
    have CG := Lib.hid (C2a.out.next hbA)
    clear hA c9 hbA hsA
    have PX : Hid (PRow W9 0 d (xC label).A (xC label).c (xC label).l) := Lib.hid (prow_nil _ _ _)
    have FX : Hid (TFld (xC label)) := Lib.hid (fld_xC label)
    obtain ⟨c0, c1, _⟩ := CN.out
    obtain ⟨f0, f1⟩ := FZ.out.fz
    go_upto_region 12 with (at_builtin; refine wpList_appendT rfl (.tmp 101) (.tmp 104) rfl d qc.AV qc.cV qc.vs _ rfl rfl CAP.out NIL.out ((QQ.out.next (bnext HBA.out (below_new W10 (.cells #[.int .i64 2305843009213693952, .string label, .int .i64 0, .int .i64 0, .slice none 0 0] 34)))).v) _ (xC label) rfl (cells_newT _ (xC label)) LEN.out ?_; intro cap w9 hcap hcl hbw hsw; have FIN := Lib.hid (by have hfi := hurt_fin_v HBA.out (below_new W10 (.cells #[.int .i64 2305843009213693952, .string label, .int .i64 0, .int .i64 0, .slice none 0 0] 34)) hbw hsw QQ.out PX.out FX.out CN.out hcap LEN.out hcl; rw [size_alloc] at hfi; exact hfi); obtain ⟨c0, c1, _⟩ := ((CN.out.next (below_new W10 (.cells #[.int .i64 2305843009213693952, .string label, .int .i64 0, .int .i64 0, .slice none 0 0] 34))).next hbw); obtain ⟨f0, f1⟩ := ((FZ.out.next (below_new W10 (.cells #[.int .i64 2305843009213693952, .string label, .int .i64 0, .int .i64 0, .slice none 0 0] 34))).next hbw).fz; clear hcap hcl hbw hsw)
    clear c0 c1 f0 f1 PX FX
    generalize World.setCell _ _ _ = W11 at FIN
    obtain ⟨gc, hgcv, hgce, hIn, hbox, hL⟩ := FIN.out
    have Rgc := Lib.hid hIn
    have C2gc := Lib.hid hbox
    have hb1 := hL
    have ERc := Lib.hid (show errG gc.vs gc.es = if nameB label = true then 0 else 50 from (errG_tv (b := nameB label) (by rw [hgcv, hgce, List.map_append, HVqc.out, HEqc.out]; exact hurtC OKV.out (by rw [List.length_map]; omega) TVY.out (show y.id < 2305843009213693952 by omega) (show (0 : Int) ≤ 2305843009213693952 by omega) rfl rfl rfl)))
    replace G := Lib.hid (SG.out.next hL)
    replace C2a := Lib.hid (SC2a.out.next hL)
    replace TH0 := Lib.hid (STH0.out.next hL)
    replace Rga := Lib.hid (SRga.out.next hL)
    replace C2ga := Lib.hid (SC2ga.out.next hL)
    replace Rgb := Lib.hid (SRgb.out.next hL)
    replace C2gb := Lib.hid (SC2gb.out.next hL)
    replace B := Lib.hid (bnext SB.out hL)
    clear SG
    clear SC2a
    clear STH0
    clear SRga
    clear SC2ga
    clear SRgb
    clear SC2gb
    clear SB hIn hbox hL hb1 FIN hgcv hgce QQ CAP NIL LEN CN FZ HBA CG
    obtain ⟨y0, y1, _⟩ := C2a.out
    go_wp2_with fail
    refine (gcopy_any W11 d g G.out).mono ?_
    rintro e W12 ⟨qd, rfl, hqv, hqe, hov, hoe, hb1⟩
    have QQ := Lib.hid ((copy_in G.out hqv hqe hov hoe).up D13)
    obtain ⟨hv', he'⟩ := copy_ok OKG.out hqv hqe
    have HVqd := Lib.hid hv'
    have HEqd := Lib.hid he'
    have LVqd : Hid (qd.vs.length = g.vs.length) := Lib.hid (by have := congrArg List.length hv'; simpa using this)
    have LEqd : Hid (qd.es.length = g.es.length) := Lib.hid (by have := congrArg List.length he'; simpa using this)
    have CAP := Lib.hid hoe.cap
    have NIL := Lib.hid hoe.nil
    have LEN : Hid (qd.es.length ≤ 10000) := Lib.hid (by have := LVqd.out; have := LEqd.out; omega)
    clear hv' he' hqv hqe hov hoe
    clear y0 y1
    replace G := Lib.hid (G.out.next hb1)
    replace C2a := Lib.hid (C2a.out.next hb1)
    replace TH0 := Lib.hid (TH0.out.next hb1)
    replace Rga := Lib.hid (Rga.out.next hb1)
    replace C2ga := Lib.hid (C2ga.out.next hb1)
    replace Rgb := Lib.hid (Rgb.out.next hb1)
    replace C2gb := Lib.hid (C2gb.out.next hb1)
    replace Rgc := Lib.hid (Rgc.out.next hb1)
    replace C2gc := Lib.hid (C2gc.out.next hb1)
    replace B := Lib.hid (bnext B.out hb1)
    clear hb1
    have SG := G
    have SC2a := C2a
    have STH0 := TH0
    have SRga := Rga
    have SC2ga := C2ga
    have SRgb := Rgb
    have SC2gb := C2gb
    have SRgc := Rgc
    have SC2gc := C2gc
    have SB := B
    go_upto_region 13 with fail
    generalize hA : World.alloc W12 _ = W13
    obtain ⟨c9, hbA, hsA⟩ := made24 hA
    have CN := Lib.hid c9
    have FZ : Hid (Fz W13 W12.heap.size) := Lib.hid ⟨blk24 _ _ _ _ hA, by omega⟩
    have HBA := Lib.hid hbA
    have CG := Lib.hid (C2a.out.next hbA)
    clear hA c9 hbA hsA
    by_cases hd0 : 0 < qd.es.length
    · skip
      obtain ⟨c0, c1, _⟩ := CN.out
      obtain ⟨f0, f1⟩ := FZ.out.fz
      have FIN := Lib.hid (hurt_fin_d HBA.out QQ.out CN.out (qd.es.length - 1) (by omega))
      have g1' := hd0
      clear hd0
      have g1 : (0 : Int) < (qd.es.length : Int) := by omega
      have m1 : (qd.es.length : Int) - 1 < (qd.es.length : Int) := by omega
      have m2 : ((qd.es.length : Int) - 1).toNat = qd.es.length - 1 := by omega
      have m3 : (0 : Int) ≤ (qd.es.length : Int) - 1 := by omega
      have m4 : (1 : Int) ≤ (qd.es.length : Int) := by omega
      clear g1'
      have m5 : (qd.es.length : Int) - 1 ≤ (qd.cE : Int) := by have := CAP.out; omega
      have m6 : (qd.es.length : Int) ≤ 10000 := by have := LEN.out; omega
      obtain ⟨bd, od, eD, _, _⟩ := QQ.out.e.at_ (by omega)
      rw [eD] at c1 FIN
      go_upto_region 15 with fail
      clear c0 c1 f0 f1 g1 m1 m2 m3 m4 m5 m6 eD
      generalize World.setCell _ _ _ = W14 at FIN
      obtain ⟨gd, hgdv, hgde, hIn, hbox, hL⟩ := FIN.out
      have Rgd := Lib.hid hIn
      have C2gd := Lib.hid hbox
      have hb1 := hL
      have ERd := Lib.hid (show errG gd.vs gd.es = 0 from (errG_tv (b := true) (by rw [hgdv, hgde, List.map_take, HVqd.out, HEqd.out]; exact hurtD OKV.out _)))
      replace G := Lib.hid (SG.out.next hL)
      replace C2a := Lib.hid (SC2a.out.next hL)
      replace TH0 := Lib.hid (STH0.out.next hL)
      replace Rga := Lib.hid (SRga.out.next hL)
      replace C2ga := Lib.hid (SC2ga.out.next hL)
      replace Rgb := Lib.hid (SRgb.out.next hL)
      replace C2gb := Lib.hid (SC2gb.out.next hL)
      replace Rgc := Lib.hid (SRgc.out.next hL)
      replace C2gc := Lib.hid (SC2gc.out.next hL)
      replace B := Lib.hid (bnext SB.out hL)
      clear SG
      clear SC2a
      clear STH0
      clear SRga
      clear SC2ga
      clear SRgb
      clear SC2gb
      clear SRgc
      clear SC2gc
      clear SB hIn hbox hL hb1 FIN hgdv hgde QQ CAP NIL LEN CN FZ HBA CG
      obtain ⟨y0, y1, _⟩ := C2a.out
      go_wp2_with fail
      refine (gcopy_any W14 d g G.out).mono ?_
      rintro e W15 ⟨qe, rfl, hqv, hqe, hov, hoe, hb1⟩
      have QQ := Lib.hid ((copy_in G.out hqv hqe hov hoe).up D13)
      obtain ⟨hv', he'⟩ := copy_ok OKG.out hqv hqe
      have HVqe := Lib.hid hv'
      have HEqe := Lib.hid he'
      have LVqe : Hid (qe.vs.length = g.vs.length) := Lib.hid (by have := congrArg List.length hv'; simpa using this)
      have LEqe : Hid (qe.es.length = g.es.length) := Lib.hid (by have := congrArg List.length he'; simpa using this)
      have CAP := Lib.hid hoe.cap
      have NIL := Lib.hid hoe.nil
      have LEN : Hid (qe.es.length ≤ 10000) := Lib.hid (by have := LVqe.out; have := LEqe.out; omega)
      clear hv' he' hqv hqe hov hoe
      clear y0 y1
      replace G := Lib.hid (G.out.next hb1)
      replace C2a := Lib.hid (C2a.out.next hb1)
      replace TH0 := Lib.hid (TH0.out.next hb1)
      replace Rga := Lib.hid (Rga.out.next hb1)
      replace C2ga := Lib.hid (C2ga.out.next hb1)
      replace Rgb := Lib.hid (Rgb.out.next hb1)
      replace C2gb := Lib.hid (C2gb.out.next hb1)
      replace Rgc := Lib.hid (Rgc.out.next hb1)
      replace C2gc := Lib.hid (C2gc.out.next hb1)
      replace Rgd := Lib.hid (Rgd.out.next hb1)
      replace C2gd := Lib.hid (C2gd.out.next hb1)
      replace B := Lib.hid (bnext B.out hb1)
      clear hb1
      have SG := G
      have SC2a := C2a
      have STH0 := TH0
      have SRga := Rga
      have SC2ga := C2ga
      have SRgb := Rgb
      have SC2gb := C2gb
      have SRgc := Rgc
      have SC2gc := C2gc
      have SRgd := Rgd
      have SC2gd := C2gd
      have SB := B
      go_upto_region 16 with fail
      generalize hA : World.alloc W15 _ = W16
      obtain ⟨c9, hbA, hsA⟩ := made24 hA
      have CN := Lib.hid c9
      have FZ : Hid (Fz W16 W15.heap.size) := Lib.hid ⟨blk24 _ _ _ _ hA, by omega⟩
      have HBA := Lib.hid hbA
      have CG := Lib.hid (C2a.out.next hbA)
      clear hA c9 hbA hsA
      have PX : Hid (PRow W15 0 d (xE y.id v0.id).A (xE y.id v0.id).c (xE y.id v0.id).l) := Lib.hid (prow_nil _ _ _)
      have FX : Hid (TFld (xE y.id v0.id)) := Lib.hid (fld_xE hyid (by omega) HFV0.out.1)
      have CY := Lib.hid (STH0.out.next HBA.out).c
      have hb0 := (STH0.out.next HBA.out).lt
      refine region_phase [0, 1, 2, 3, 4, 5, 6, 7, 8, 9] [] pheD pheE 12 (fun w' => Below W16.heap.size W16 w') (saidOf [Is (.pointer (some ⟨W15.heap.size, 1, none⟩)), Is (.slice qe.AE qe.es.length qe.cE), Is (.int .i64 y.id), Is (.pointer (some ⟨w.heap.size, 0, none⟩)), Is (.slice (some ⟨b0, o0, none⟩) g.vs.length g.cV), Is (.pointer (some ⟨b0, o0, none⟩)), Is (.pointer (some ⟨b0, o0, none⟩)), Is (.int .i64 v0.id), Is (xE y.id v0.id).v, IsNewT (xE y.id v0.id), fun _ _ => True, fun _ _ => True, fun _ _ => True]) 164 rfl (by kernel_rfl) (by kernel_rfl) (fun _ _ h hb => bnext h hb) (stays_said _ (stays_cons (Is.stays _) (stays_cons (Is.stays _) (stays_cons (Is.stays _) (stays_cons (Is.stays _) (stays_cons (Is.stays _) (stays_cons (Is.stays _) (stays_cons (Is.stays _) (stays_cons (Is.stays _) (stays_cons (Is.stays _) (stays_cons (IsNewT.stays _) (stays_cons (fun _ _ _ _ _ => trivial) (stays_cons (fun _ _ _ _ _ => trivial) (stays_cons (fun _ _ _ _ _ => trivial) stays_nil)))))))))))))) (below_drewN _ _ 1) (by kernel_rfl) ?_ ?_
      · skip
        refine owes_cons (Owes.mk (o := ({ dst := some 123, op := .fieldAddr 24 (.tmp 10) 1, type := 0, pos := "law.go:123", after := #[], guard := none } : Oper)) rfl (fun v wk hj hD K hK => ?_)) ?_
        · simp only [pheD, pheE, putAll, Act.put, List.getD_cons_zero, List.setIfInBounds_toArray, List.set_cons_zero, List.set_cons_succ] at hK ⊢
          go_simp
          exact hK.out _ _ (Below.refl _ _) rfl
        refine owes_cons (Owes.mk (o := ({ dst := some 124, op := .load 22 (.tmp 123), type := 22, pos := "law.go:123", after := #[{ on := 0, ground := .data }], guard := none } : Oper)) rfl (fun v wk hj hD K hK => ?_)) ?_
        · have h0 : v 0 = (.pointer (some ⟨W15.heap.size, 1, none⟩)) := hD 0 (by decide)
          simp only [pheD, pheE, putAll, Act.put, List.getD_cons_succ, List.getD_cons_zero, List.setIfInBounds_toArray, List.set_cons_zero, List.set_cons_succ, h0] at hK ⊢
          obtain ⟨q0, q1, _⟩ := (CN.out.next hj)
          go_simp
          exact hK.out _ _ (Below.refl _ _) rfl
        refine owes_cons (Owes.mk (o := ({ dst := some 125, op := .move (.tmp 5), type := 3, pos := "law.go:123", after := #[], guard := none } : Oper)) rfl (fun v wk hj hD K hK => ?_)) ?_
        · simp only [pheD, pheE, putAll, Act.put, List.getD_cons_succ, List.getD_cons_zero, List.setIfInBounds_toArray, List.set_cons_zero, List.set_cons_succ] at hK ⊢
          go_simp
          exact hK.out _ _ (Below.refl _ _) rfl
        refine owes_cons (Owes.mk (o := ({ dst := some 126, op := .fieldAddr 24 (.tmp 2) 0, type := 0, pos := "law.go:123", after := #[], guard := none } : Oper)) rfl (fun v wk hj hD K hK => ?_)) ?_
        · simp only [pheD, pheE, putAll, Act.put, List.getD_cons_succ, List.getD_cons_zero, List.setIfInBounds_toArray, List.set_cons_zero, List.set_cons_succ] at hK ⊢
          go_simp
          exact hK.out _ _ (Below.refl _ _) rfl
        refine owes_cons (Owes.mk (o := ({ dst := some 127, op := .load 22 (.tmp 126), type := 22, pos := "law.go:123", after := #[{ on := 3, ground := .data }], guard := none } : Oper)) rfl (fun v wk hj hD K hK => ?_)) ?_
        · have h3 : v 3 = (.pointer (some ⟨w.heap.size, 0, none⟩)) := hD 3 (by decide)
          simp only [pheD, pheE, putAll, Act.put, List.getD_cons_succ, List.getD_cons_zero, List.setIfInBounds_toArray, List.set_cons_zero, List.set_cons_succ, h3] at hK ⊢
          obtain ⟨q0, q1, _⟩ := (CG.out.next hj)
          rw [EA.out] at q0
          go_simp
          exact hK.out _ _ (Below.refl _ _) rfl
        refine owes_cons (Owes.mk (o := ({ dst := some 128, op := .indexAddr 22 (.tmp 127) (.const (.int .i64 0)), type := 0, pos := "law.go:123", after := #[{ on := 4, ground := .data }], guard := none } : Oper)) rfl (fun v wk hj hD K hK => ?_)) ?_
        · have h4 : v 4 = (.slice (some ⟨b0, o0, none⟩) g.vs.length g.cV) := hD 4 (by decide)
          simp only [pheD, pheE, putAll, Act.put, List.getD_cons_succ, List.getD_cons_zero, List.setIfInBounds_toArray, List.set_cons_zero, List.set_cons_succ, h4] at hK ⊢
          go_simp
          exact hK.out _ _ (Below.refl _ _) rfl
        refine owes_cons (Owes.mk (o := ({ dst := some 129, op := .fieldAddr 34 (.tmp 128) 0, type := 0, pos := "law.go:123", after := #[{ on := 5, ground := .data }], guard := none } : Oper)) rfl (fun v wk hj hD K hK => ?_)) ?_
        · have h5 : v 5 = (.pointer (some ⟨b0, o0, none⟩)) := hD 5 (by decide)
          simp only [pheD, pheE, putAll, Act.put, List.getD_cons_succ, List.getD_cons_zero, List.setIfInBounds_toArray, List.set_cons_zero, List.set_cons_succ, h5] at hK ⊢
          go_simp
          exact hK.out _ _ (Below.refl _ _) rfl
        refine owes_cons (Owes.mk (o := ({ dst := some 130, op := .load 3 (.tmp 129), type := 3, pos := "law.go:123", after := #[{ on := 6, ground := .data }], guard := none } : Oper)) rfl (fun v wk hj hD K hK => ?_)) ?_
        · have h6 : v 6 = (.pointer (some ⟨b0, o0, none⟩)) := hD 6 (by decide)
          simp only [pheD, pheE, putAll, Act.put, List.getD_cons_succ, List.getD_cons_zero, List.setIfInBounds_toArray, List.set_cons_zero, List.set_cons_succ, h6] at hK ⊢
          obtain ⟨q0, q1, q2, q3, q4⟩ := CY.out.next hj hb0
          go_simp
          exact hK.out _ _ (Below.refl _ _) rfl
        refine owes_cons (Owes.mk (o := ({ dst := some 131, op := .build 34 #[(0, .const (.int .i64 2305843009213693952)), (1, .const (.string { data := #[120] })), (2, .tmp 125), (3, .tmp 130)], type := 34, pos := "law.go:123", after := #[{ on := 2, ground := .data }, { on := 7, ground := .data }], guard := none } : Oper)) rfl (fun v wk hj hD K hK => ?_)) ?_
        · have h2 : v 2 = (.int .i64 y.id) := hD 2 (by decide)
          have h7 : v 7 = (.int .i64 v0.id) := hD 7 (by decide)
          simp only [pheD, pheE, putAll, Act.put, List.getD_cons_succ, List.getD_cons_zero, List.setIfInBounds_toArray, List.set_cons_zero, List.set_cons_succ, h2, h7] at hK ⊢
          go_simp
          exact hK.out _ _ (Below.refl _ _) rfl
        refine owes_cons (Owes.mk (o := ({ dst := some 132, op := .buildSlice 22 1 #[(0, .tmp 131)], type := 22, pos := "law.go:123", after := #[{ on := 8, ground := .data }], guard := none } : Oper)) rfl (fun v wk hj hD K hK => ?_)) ?_
        · have h8 : v 8 = (xE y.id v0.id).v := hD 8 (by decide)
          simp only [pheD, pheE, putAll, Act.put, List.getD_cons_succ, List.getD_cons_zero, List.setIfInBounds_toArray, List.set_cons_zero, List.set_cons_succ, h8] at hK ⊢
          go_simp
          exact hK.out _ _ (below_new _ _) ⟨_, rfl, cells_newT wk (xE y.id v0.id), by simp⟩
        exact owes_nil
      intro p v wf h1 h2 hj hr
      obtain rfl := marks_all h1 (fun m hm => h2 m hm (by simp))
      have hv1 : v 1 = .slice qe.AE qe.es.length qe.cE := hr 1 (by decide) (by decide)
      obtain ⟨z, hvn, hzc, hzl⟩ : IsNewT (xE y.id v0.id) (v 9) wf := hr 9 (by decide) (by decide)
      rw [show List.filter (fun k => [0, 1, 2, 3, 4, 5, 6, 7, 8, 9].contains k) [0, 1, 2, 3, 4, 5, 6, 7, 8, 9] = [0, 1, 2, 3, 4, 5, 6, 7, 8, 9] from rfl]
      simp only [pheD, putAll, Act.put, List.getD_cons_succ, List.getD_cons_zero, List.setIfInBounds_toArray, List.set_cons_zero, List.set_cons_succ, hv1, hvn]
      clear hv1 hvn hr h1 h2
      have HJ := Lib.hid hj
      have HZ := Lib.hid hzc
      clear hj hzc hzl
      refine anyN_any (S := fun _ => True) (N := []) _ _ _ _ ?_
      refine anyN_one (i := 10) (o := ({ dst := some 133, op := .call { callee := .builtin .append, args := #[.tmp 124, .tmp 132], argTypes := #[22, 22] }, type := 22, pos := "law.go:123", after := #[{ on := 1, ground := .data }, { on := 9, ground := .data }], guard := none } : Oper)) (by kernel_rfl) rfl (fun K hK => ?_)
      rw [if_pos (by rfl)]
      refine wp_appendT (.tmp 124) (.tmp 132) (by rfl) d qe.AE qe.cE qe.es _ rfl (by simp [Act.eval]) CAP.out NIL.out ((QQ.out.next (bnext HBA.out HJ.out)).e) z (xE y.id v0.id) (by simp [Act.eval]) HZ.out LEN.out ?_
      intro cap w' hcap hcl hbw hsw
      have FIN := Lib.hid (hurt_fin_e HBA.out HJ.out hbw hsw QQ.out PX.out FX.out CN.out hcap LEN.out hcl)
      obtain ⟨q0, q1, _⟩ := (CN.out.next HJ.out).next hbw
      have f9 := (FZ.out.next HJ.out).next hbw
      obtain ⟨f0, f1⟩ := f9.fz
      clear hcap hcl hbw hsw f9
      refine hK.out _ _ (fun _ => trivial) ?_
      clear hK K
      try simp only [Act.put, List.setIfInBounds_toArray, List.set_cons_zero, List.set_cons_succ]
      refine anyN_one (i := 11) (o := ({ dst := some 134, op := .fieldAddr 24 (.tmp 10) 1, type := 0, pos := "law.go:123", after := #[{ on := 0, ground := .phase }, { on := 1, ground := .phase }, { on := 2, ground := .phase }, { on := 3, ground := .phase }, { on := 4, ground := .phase }, { on := 5, ground := .phase }, { on := 6, ground := .phase }, { on := 7, ground := .phase }, { on := 8, ground := .phase }, { on := 9, ground := .phase }, { on := 10, ground := .phase }], guard := none } : Oper)) (by kernel_rfl) rfl (fun K hK => ?_)
      go_simp
      refine hK.out _ _ (fun _ => trivial) ?_
      clear hK K
      try simp only [Act.put, List.setIfInBounds_toArray, List.set_cons_zero, List.set_cons_succ]
      refine anyN_one (i := 12) (o := ({ dst := none, op := .store 22 (.tmp 134) (.tmp 133), type := 0, pos := "law.go:123", after := #[{ on := 11, ground := .data }, { on := 10, ground := .data }, { on := 10, ground := .chain }, { on := 0, ground := .phase }, { on := 1, ground := .phase }, { on := 2, ground := .phase }, { on := 3, ground := .phase }, { on := 4, ground := .phase }, { on := 5, ground := .phase }, { on := 6, ground := .phase }, { on := 7, ground := .phase }, { on := 8, ground := .phase }, { on := 9, ground := .phase }, { on := 10, ground := .phase }], guard := none } : Oper)) (by kernel_rfl) rfl (fun K hK => ?_)
      go_simp
      refine hK.out _ _ (fun _ => trivial) ?_
      clear hK K
      try simp only [Act.put, List.setIfInBounds_toArray, List.set_cons_zero, List.set_cons_succ]
      refine anyN_done (by kernel_rfl) ?_ _
      clear q0 q1 f0 f1
      clear PX FX CY hb0
      generalize World.setCell _ _ _ = W17 at FIN
      obtain ⟨ge, hgev, hgee, hIn, hbox, hL⟩ := FIN.out
      have Rge := Lib.hid hIn
      have C2ge := Lib.hid hbox
      have hb1 := hL
      have ERe := Lib.hid (show errG ge.vs ge.es = 0 from (errG_tv (b := true) (by rw [hgev, hgee, List.map_append, HVqe.out, HEqe.out]; exact hurtE OKV.out (by rw [List.length_map]; omega) (okTV_mk (show (0 : Int) ≤ 2305843009213693952 by omega) (show nameB ⟨#[120]⟩ = true by decide) (by simp [TA.tv']) rfl rfl) (fun e he => by have := LST.out e he; show e.id < 2305843009213693952; omega) AY.out A0.out)))
      replace G := Lib.hid (SG.out.next hL)
      replace C2a := Lib.hid (SC2a.out.next hL)
      replace TH0 := Lib.hid (STH0.out.next hL)
      replace Rga := Lib.hid (SRga.out.next hL)
      replace C2ga := Lib.hid (SC2ga.out.next hL)
      replace Rgb := Lib.hid (SRgb.out.next hL)
      replace C2gb := Lib.hid (SC2gb.out.next hL)
      replace Rgc := Lib.hid (SRgc.out.next hL)
      replace C2gc := Lib.hid (SC2gc.out.next hL)
      replace Rgd := Lib.hid (SRgd.out.next hL)
      replace C2gd := Lib.hid (SC2gd.out.next hL)
      replace B := Lib.hid (bnext SB.out hL)
      clear SG
      clear SC2a
      clear STH0
      clear SRga
      clear SC2ga
      clear SRgb
      clear SC2gb
      clear SRgc
      clear SC2gc
      clear SRgd
      clear SC2gd
      clear SB hIn hbox hL hb1 FIN hgev hgee QQ CAP NIL LEN CN FZ HBA CG
      obtain ⟨y0, y1, _⟩ := C2ga.out
      go_wp2_with fail
      refine (gcheck_any W17 d ga Rga.out).mono ?_
      rintro e W18 ⟨rfl, hb1⟩
      rw [ERa.out]
      clear y0 y1
      replace G := Lib.hid (G.out.next hb1)
      replace C2a := Lib.hid (C2a.out.next hb1)
      replace TH0 := Lib.hid (TH0.out.next hb1)
      replace Rga := Lib.hid (Rga.out.next hb1)
      replace C2ga := Lib.hid (C2ga.out.next hb1)
      replace Rgb := Lib.hid (Rgb.out.next hb1)
      replace C2gb := Lib.hid (C2gb.out.next hb1)
      replace Rgc := Lib.hid (Rgc.out.next hb1)
      replace C2gc := Lib.hid (C2gc.out.next hb1)
      replace Rgd := Lib.hid (Rgd.out.next hb1)
      replace C2gd := Lib.hid (C2gd.out.next hb1)
      replace Rge := Lib.hid (Rge.out.next hb1)
      replace C2ge := Lib.hid (C2ge.out.next hb1)
      replace B := Lib.hid (bnext B.out hb1)
      clear hb1
      obtain ⟨y0, y1, _⟩ := C2gb.out
      go_wp2_with fail
      refine (gcheck_any W18 d gb Rgb.out).mono ?_
      rintro e W19 ⟨rfl, hb1⟩
      rw [ERb.out]
      clear y0 y1
      replace G := Lib.hid (G.out.next hb1)
      replace C2a := Lib.hid (C2a.out.next hb1)
      replace TH0 := Lib.hid (TH0.out.next hb1)
      replace Rga := Lib.hid (Rga.out.next hb1)
      replace C2ga := Lib.hid (C2ga.out.next hb1)
      replace Rgb := Lib.hid (Rgb.out.next hb1)
      replace C2gb := Lib.hid (C2gb.out.next hb1)
      replace Rgc := Lib.hid (Rgc.out.next hb1)
      replace C2gc := Lib.hid (C2gc.out.next hb1)
      replace Rgd := Lib.hid (Rgd.out.next hb1)
      replace C2gd := Lib.hid (C2gd.out.next hb1)
      replace Rge := Lib.hid (Rge.out.next hb1)
      replace C2ge := Lib.hid (C2ge.out.next hb1)
      replace B := Lib.hid (bnext B.out hb1)
      clear hb1
      obtain ⟨y0, y1, _⟩ := C2gc.out
      go_wp2_with fail
      refine (gcheck_any W19 d gc Rgc.out).mono ?_
      rintro e W20 ⟨rfl, hb1⟩
      rw [ERc.out]
      clear y0 y1
      replace G := Lib.hid (G.out.next hb1)
      replace C2a := Lib.hid (C2a.out.next hb1)
      replace TH0 := Lib.hid (TH0.out.next hb1)
      replace Rga := Lib.hid (Rga.out.next hb1)
      replace C2ga := Lib.hid (C2ga.out.next hb1)
      replace Rgb := Lib.hid (Rgb.out.next hb1)
      replace C2gb := Lib.hid (C2gb.out.next hb1)
      replace Rgc := Lib.hid (Rgc.out.next hb1)
      replace C2gc := Lib.hid (C2gc.out.next hb1)
      replace Rgd := Lib.hid (Rgd.out.next hb1)
      replace C2gd := Lib.hid (C2gd.out.next hb1)
      replace Rge := Lib.hid (Rge.out.next hb1)
      replace C2ge := Lib.hid (C2ge.out.next hb1)
      replace B := Lib.hid (bnext B.out hb1)
      clear hb1
      cases hnl : nameB label
      · go_wp2_with fail
        refine (name_any label W20).mono ?_
        rintro e W20n ⟨rfl, hww⟩
        rw [hnl]
        clear hnl
        obtain rfl := hww
        obtain ⟨y0, y1, _⟩ := C2gd.out
        go_wp2_with fail
        refine (gcheck_any W20 d gd Rgd.out).mono ?_
        rintro e W21 ⟨rfl, hb1⟩
        rw [ERd.out]
        clear y0 y1
        replace G := Lib.hid (G.out.next hb1)
        replace C2a := Lib.hid (C2a.out.next hb1)
        replace TH0 := Lib.hid (TH0.out.next hb1)
        replace Rga := Lib.hid (Rga.out.next hb1)
        replace C2ga := Lib.hid (C2ga.out.next hb1)
        replace Rgb := Lib.hid (Rgb.out.next hb1)
        replace C2gb := Lib.hid (C2gb.out.next hb1)
        replace Rgc := Lib.hid (Rgc.out.next hb1)
        replace C2gc := Lib.hid (C2gc.out.next hb1)
        replace Rgd := Lib.hid (Rgd.out.next hb1)
        replace C2gd := Lib.hid (C2gd.out.next hb1)
        replace Rge := Lib.hid (Rge.out.next hb1)
        replace C2ge := Lib.hid (C2ge.out.next hb1)
        replace B := Lib.hid (bnext B.out hb1)
        clear hb1
        obtain ⟨y0, y1, _⟩ := C2ge.out
        go_wp2_with fail
        refine (gcheck_any W21 d ge Rge.out).mono ?_
        rintro e W22 ⟨rfl, hb1⟩
        rw [ERe.out]
        clear y0 y1
        replace G := Lib.hid (G.out.next hb1)
        replace C2a := Lib.hid (C2a.out.next hb1)
        replace TH0 := Lib.hid (TH0.out.next hb1)
        replace Rga := Lib.hid (Rga.out.next hb1)
        replace C2ga := Lib.hid (C2ga.out.next hb1)
        replace Rgb := Lib.hid (Rgb.out.next hb1)
        replace C2gb := Lib.hid (C2gb.out.next hb1)
        replace Rgc := Lib.hid (Rgc.out.next hb1)
        replace C2gc := Lib.hid (C2gc.out.next hb1)
        replace Rgd := Lib.hid (Rgd.out.next hb1)
        replace C2gd := Lib.hid (C2gd.out.next hb1)
        replace Rge := Lib.hid (Rge.out.next hb1)
        replace C2ge := Lib.hid (C2ge.out.next hb1)
        replace B := Lib.hid (bnext B.out hb1)
        clear hb1
        go_wp2_with fail
        refine (known_any W22).mono ?_
        rintro e Wk ⟨rfl, hbk⟩
        have BK := Lib.hid (bnext B.out hbk)
        clear hbk
        go_wp2
        go_ret
        exact ⟨rfl, BK.out⟩
      · go_wp2_with fail
        refine (name_any label W20).mono ?_
        rintro e W20n ⟨rfl, hww⟩
        rw [hnl]
        clear hnl
        obtain rfl := hww
        obtain ⟨y0, y1, _⟩ := C2gd.out
        go_wp2_with fail
        refine (gcheck_any W20 d gd Rgd.out).mono ?_
        rintro e W21 ⟨rfl, hb1⟩
        rw [ERd.out]
        clear y0 y1
        replace G := Lib.hid (G.out.next hb1)
        replace C2a := Lib.hid (C2a.out.next hb1)
        replace TH0 := Lib.hid (TH0.out.next hb1)
        replace Rga := Lib.hid (Rga.out.next hb1)
        replace C2ga := Lib.hid (C2ga.out.next hb1)
        replace Rgb := Lib.hid (Rgb.out.next hb1)
        replace C2gb := Lib.hid (C2gb.out.next hb1)
        replace Rgc := Lib.hid (Rgc.out.next hb1)
        replace C2gc := Lib.hid (C2gc.out.next hb1)
        replace Rgd := Lib.hid (Rgd.out.next hb1)
        replace C2gd := Lib.hid (C2gd.out.next hb1)
        replace Rge := Lib.hid (Rge.out.next hb1)
        replace C2ge := Lib.hid (C2ge.out.next hb1)
        replace B := Lib.hid (bnext B.out hb1)
        clear hb1
        obtain ⟨y0, y1, _⟩ := C2ge.out
        go_wp2_with fail
        refine (gcheck_any W21 d ge Rge.out).mono ?_
        rintro e W22 ⟨rfl, hb1⟩
        rw [ERe.out]
        clear y0 y1
        replace G := Lib.hid (G.out.next hb1)
        replace C2a := Lib.hid (C2a.out.next hb1)
        replace TH0 := Lib.hid (TH0.out.next hb1)
        replace Rga := Lib.hid (Rga.out.next hb1)
        replace C2ga := Lib.hid (C2ga.out.next hb1)
        replace Rgb := Lib.hid (Rgb.out.next hb1)
        replace C2gb := Lib.hid (C2gb.out.next hb1)
        replace Rgc := Lib.hid (Rgc.out.next hb1)
        replace C2gc := Lib.hid (C2gc.out.next hb1)
        replace Rgd := Lib.hid (Rgd.out.next hb1)
        replace C2gd := Lib.hid (C2gd.out.next hb1)
        replace Rge := Lib.hid (Rge.out.next hb1)
        replace C2ge := Lib.hid (C2ge.out.next hb1)
        replace B := Lib.hid (bnext B.out hb1)
        clear hb1
        go_wp2_with fail
        refine (known_any W22).mono ?_
        rintro e Wk ⟨rfl, hbk⟩
        have BK := Lib.hid (bnext B.out hbk)
        clear hbk
        go_wp2
        go_ret
        exact ⟨rfl, BK.out⟩
    · skip
      obtain ⟨c0, c1, _⟩ := CN.out
      have g1 : ¬ (0 : Int) < (qd.es.length : Int) := by omega
      have g1n := g1
      clear hd0
      go_upto_region 15 with fail
      have FIN := Lib.hid (fin_copy HBA.out QQ.out CN.out)
      clear c0 c1 g1 g1n
      obtain ⟨gd, hgdv, hgde, hIn, hbox, hL⟩ := FIN.out
      have Rgd := Lib.hid hIn
      have C2gd := Lib.hid hbox
      have ERd := Lib.hid (show errG gd.vs gd.es = 0 from (errG_tv (b := true) (by rw [hgdv, hgde, HVqd.out, HEqd.out]; exact OKV.out)))
      replace G := Lib.hid (SG.out.next hL)
      replace C2a := Lib.hid (SC2a.out.next hL)
      replace TH0 := Lib.hid (STH0.out.next hL)
      replace Rga := Lib.hid (SRga.out.next hL)
      replace C2ga := Lib.hid (SC2ga.out.next hL)
      replace Rgb := Lib.hid (SRgb.out.next hL)
      replace C2gb := Lib.hid (SC2gb.out.next hL)
      replace Rgc := Lib.hid (SRgc.out.next hL)
      replace C2gc := Lib.hid (SC2gc.out.next hL)
      replace B := Lib.hid (bnext SB.out hL)
      clear SG
      clear SC2a
      clear STH0
      clear SRga
      clear SC2ga
      clear SRgb
      clear SC2gb
      clear SRgc
      clear SC2gc
      clear SB hIn hbox hL FIN hgdv hgde QQ CAP NIL LEN CN FZ HBA CG
      obtain ⟨y0, y1, _⟩ := C2a.out
      go_wp2_with fail
      refine (gcopy_any W13 d g G.out).mono ?_
      rintro e W14 ⟨qe, rfl, hqv, hqe, hov, hoe, hb1⟩
      have QQ := Lib.hid ((copy_in G.out hqv hqe hov hoe).up D13)
      obtain ⟨hv', he'⟩ := copy_ok OKG.out hqv hqe
      have HVqe := Lib.hid hv'
      have HEqe := Lib.hid he'
      have LVqe : Hid (qe.vs.length = g.vs.length) := Lib.hid (by have := congrArg List.length hv'; simpa using this)
      have LEqe : Hid (qe.es.length = g.es.length) := Lib.hid (by have := congrArg List.length he'; simpa using this)
      have CAP := Lib.hid hoe.cap
      have NIL := Lib.hid hoe.nil
      have LEN : Hid (qe.es.length ≤ 10000) := Lib.hid (by have := LVqe.out; have := LEqe.out; omega)
      clear hv' he' hqv hqe hov hoe
      clear y0 y1
      replace G := Lib.hid (G.out.next hb1)
      replace C2a := Lib.hid (C2a.out.next hb1)
      replace TH0 := Lib.hid (TH0.out.next hb1)
      replace Rga := Lib.hid (Rga.out.next hb1)
      replace C2ga := Lib.hid (C2ga.out.next hb1)
      replace Rgb := Lib.hid (Rgb.out.next hb1)
      replace C2gb := Lib.hid (C2gb.out.next hb1)
      replace Rgc := Lib.hid (Rgc.out.next hb1)
      replace C2gc := Lib.hid (C2gc.out.next hb1)
      replace Rgd := Lib.hid (Rgd.out.next hb1)
      replace C2gd := Lib.hid (C2gd.out.next hb1)
      replace B := Lib.hid (bnext B.out hb1)
      clear hb1
      have SG := G
      have SC2a := C2a
      have STH0 := TH0
      have SRga := Rga
      have SC2ga := C2ga
      have SRgb := Rgb
      have SC2gb := C2gb
      have SRgc := Rgc
      have SC2gc := C2gc
      have SRgd := Rgd
      have SC2gd := C2gd
      have SB := B
      go_upto_region 16 with fail
      generalize hA : World.alloc W14 _ = W15
      obtain ⟨c9, hbA, hsA⟩ := made24 hA
      have CN := Lib.hid c9
      have FZ : Hid (Fz W15 W14.heap.size) := Lib.hid ⟨blk24 _ _ _ _ hA, by omega⟩
      have HBA := Lib.hid hbA
      have CG := Lib.hid (C2a.out.next hbA)
      clear hA c9 hbA hsA
      have PX : Hid (PRow W14 0 d (xE y.id v0.id).A (xE y.id v0.id).c (xE y.id v0.id).l) := Lib.hid (prow_nil _ _ _)
      have FX : Hid (TFld (xE y.id v0.id)) := Lib.hid (fld_xE hyid (by omega) HFV0.out.1)
      have CY := Lib.hid (STH0.out.next HBA.out).c
      have hb0 := (STH0.out.next HBA.out).lt
      refine region_phase [0, 1, 2, 3, 4, 5, 6, 7, 8, 9] [] pheD pheE 12 (fun w' => Below W15.heap.size W15 w') (saidOf [Is (.pointer (some ⟨W14.heap.size, 1, none⟩)), Is (.slice qe.AE qe.es.length qe.cE), Is (.int .i64 y.id), Is (.pointer (some ⟨w.heap.size, 0, none⟩)), Is (.slice (some ⟨b0, o0, none⟩) g.vs.length g.cV), Is (.pointer (some ⟨b0, o0, none⟩)), Is (.pointer (some ⟨b0, o0, none⟩)), Is (.int .i64 v0.id), Is (xE y.id v0.id).v, IsNewT (xE y.id v0.id), fun _ _ => True, fun _ _ => True, fun _ _ => True]) 164 rfl (by kernel_rfl) (by kernel_rfl) (fun _ _ h hb => bnext h hb) (stays_said _ (stays_cons (Is.stays _) (stays_cons (Is.stays _) (stays_cons (Is.stays _) (stays_cons (Is.stays _) (stays_cons (Is.stays _) (stays_cons (Is.stays _) (stays_cons (Is.stays _) (stays_cons (Is.stays _) (stays_cons (Is.stays _) (stays_cons (IsNewT.stays _) (stays_cons (fun _ _ _ _ _ => trivial) (stays_cons (fun _ _ _ _ _ => trivial) (stays_cons (fun _ _ _ _ _ => trivial) stays_nil)))))))))))))) (below_drewN _ _ 1) (by kernel_rfl) ?_ ?_
      · skip
        refine owes_cons (Owes.mk (o := ({ dst := some 123, op := .fieldAddr 24 (.tmp 10) 1, type := 0, pos := "law.go:123", after := #[], guard := none } : Oper)) rfl (fun v wk hj hD K hK => ?_)) ?_
        · simp only [pheD, pheE, putAll, Act.put, List.getD_cons_zero, List.setIfInBounds_toArray, List.set_cons_zero, List.set_cons_succ] at hK ⊢
          go_simp
          exact hK.out _ _ (Below.refl _ _) rfl
        refine owes_cons (Owes.mk (o := ({ dst := some 124, op := .load 22 (.tmp 123), type := 22, pos := "law.go:123", after := #[{ on := 0, ground := .data }], guard := none } : Oper)) rfl (fun v wk hj hD K hK => ?_)) ?_
        · have h0 : v 0 = (.pointer (some ⟨W14.heap.size, 1, none⟩)) := hD 0 (by decide)
          simp only [pheD, pheE, putAll, Act.put, List.getD_cons_succ, List.getD_cons_zero, List.setIfInBounds_toArray, List.set_cons_zero, List.set_cons_succ, h0] at hK ⊢
          obtain ⟨q0, q1, _⟩ := (CN.out.next hj)
          go_simp
          exact hK.out _ _ (Below.refl _ _) rfl
        refine owes_cons (Owes.mk (o := ({ dst := some 125, op := .move (.tmp 5), type := 3, pos := "law.go:123", after := #[], guard := none } : Oper)) rfl (fun v wk hj hD K hK => ?_)) ?_
        · simp only [pheD, pheE, putAll, Act.put, List.getD_cons_succ, List.getD_cons_zero, List.setIfInBounds_toArray, List.set_cons_zero, List.set_cons_succ] at hK ⊢
          go_simp
          exact hK.out _ _ (Below.refl _ _) rfl
        refine owes_cons (Owes.mk (o := ({ dst := some 126, op := .fieldAddr 24 (.tmp 2) 0, type := 0, pos := "law.go:123", after := #[], guard := none } : Oper)) rfl (fun v wk hj hD K hK => ?_)) ?_
        · simp only [pheD, pheE, putAll, Act.put, List.getD_cons_succ, List.getD_cons_zero, List.setIfInBounds_toArray, List.set_cons_zero, List.set_cons_succ] at hK ⊢
          go_simp
          exact hK.out _ _ (Below.refl _ _) rfl
        refine owes_cons (Owes.mk (o := ({ dst := some 127, op := .load 22 (.tmp 126), type := 22, pos := "law.go:123", after := #[{ on := 3, ground := .data }], guard := none } : Oper)) rfl (fun v wk hj hD K hK => ?_)) ?_
        · have h3 : v 3 = (.pointer (some ⟨w.heap.size, 0, none⟩)) := hD 3 (by decide)
          simp only [pheD, pheE, putAll, Act.put, List.getD_cons_succ, List.getD_cons_zero, List.setIfInBounds_toArray, List.set_cons_zero, List.set_cons_succ, h3] at hK ⊢
          obtain ⟨q0, q1, _⟩ := (CG.out.next hj)
          rw [EA.out] at q0
          go_simp
          exact hK.out _ _ (Below.refl _ _) rfl
        refine owes_cons (Owes.mk (o := ({ dst := some 128, op := .indexAddr 22 (.tmp 127) (.const (.int .i64 0)), type := 0, pos := "law.go:123", after := #[{ on := 4, ground := .data }], guard := none } : Oper)) rfl (fun v wk hj hD K hK => ?_)) ?_
        · have h4 : v 4 = (.slice (some ⟨b0, o0, none⟩) g.vs.length g.cV) := hD 4 (by decide)
          simp only [pheD, pheE, putAll, Act.put, List.getD_cons_succ, List.getD_cons_zero, List.setIfInBounds_toArray, List.set_cons_zero, List.set_cons_succ, h4] at hK ⊢
          go_simp
          exact hK.out _ _ (Below.refl _ _) rfl
        refine owes_cons (Owes.mk (o := ({ dst := some 129, op := .fieldAddr 34 (.tmp 128) 0, type := 0, pos := "law.go:123", after := #[{ on := 5, ground := .data }], guard := none } : Oper)) rfl (fun v wk hj hD K hK => ?_)) ?_
        · have h5 : v 5 = (.pointer (some ⟨b0, o0, none⟩)) := hD 5 (by decide)
          simp only [pheD, pheE, putAll, Act.put, List.getD_cons_succ, List.getD_cons_zero, List.setIfInBounds_toArray, List.set_cons_zero, List.set_cons_succ, h5] at hK ⊢
          go_simp
          exact hK.out _ _ (Below.refl _ _) rfl
        refine owes_cons (Owes.mk (o := ({ dst := some 130, op := .load 3 (.tmp 129), type := 3, pos := "law.go:123", after := #[{ on := 6, ground := .data }], guard := none } : Oper)) rfl (fun v wk hj hD K hK => ?_)) ?_
        · have h6 : v 6 = (.pointer (some ⟨b0, o0, none⟩)) := hD 6 (by decide)
          simp only [pheD, pheE, putAll, Act.put, List.getD_cons_succ, List.getD_cons_zero, List.setIfInBounds_toArray, List.set_cons_zero, List.set_cons_succ, h6] at hK ⊢
          obtain ⟨q0, q1, q2, q3, q4⟩ := CY.out.next hj hb0
          go_simp
          exact hK.out _ _ (Below.refl _ _) rfl
        refine owes_cons (Owes.mk (o := ({ dst := some 131, op := .build 34 #[(0, .const (.int .i64 2305843009213693952)), (1, .const (.string { data := #[120] })), (2, .tmp 125), (3, .tmp 130)], type := 34, pos := "law.go:123", after := #[{ on := 2, ground := .data }, { on := 7, ground := .data }], guard := none } : Oper)) rfl (fun v wk hj hD K hK => ?_)) ?_
        · have h2 : v 2 = (.int .i64 y.id) := hD 2 (by decide)
          have h7 : v 7 = (.int .i64 v0.id) := hD 7 (by decide)
          simp only [pheD, pheE, putAll, Act.put, List.getD_cons_succ, List.getD_cons_zero, List.setIfInBounds_toArray, List.set_cons_zero, List.set_cons_succ, h2, h7] at hK ⊢
          go_simp
          exact hK.out _ _ (Below.refl _ _) rfl
        refine owes_cons (Owes.mk (o := ({ dst := some 132, op := .buildSlice 22 1 #[(0, .tmp 131)], type := 22, pos := "law.go:123", after := #[{ on := 8, ground := .data }], guard := none } : Oper)) rfl (fun v wk hj hD K hK => ?_)) ?_
        · have h8 : v 8 = (xE y.id v0.id).v := hD 8 (by decide)
          simp only [pheD, pheE, putAll, Act.put, List.getD_cons_succ, List.getD_cons_zero, List.setIfInBounds_toArray, List.set_cons_zero, List.set_cons_succ, h8] at hK ⊢
          go_simp
          exact hK.out _ _ (below_new _ _) ⟨_, rfl, cells_newT wk (xE y.id v0.id), by simp⟩
        exact owes_nil
      intro p v wf h1 h2 hj hr
      obtain rfl := marks_all h1 (fun m hm => h2 m hm (by simp))
      have hv1 : v 1 = .slice qe.AE qe.es.length qe.cE := hr 1 (by decide) (by decide)
      obtain ⟨z, hvn, hzc, hzl⟩ : IsNewT (xE y.id v0.id) (v 9) wf := hr 9 (by decide) (by decide)
      rw [show List.filter (fun k => [0, 1, 2, 3, 4, 5, 6, 7, 8, 9].contains k) [0, 1, 2, 3, 4, 5, 6, 7, 8, 9] = [0, 1, 2, 3, 4, 5, 6, 7, 8, 9] from rfl]
      simp only [pheD, putAll, Act.put, List.getD_cons_succ, List.getD_cons_zero, List.setIfInBounds_toArray, List.set_cons_zero, List.set_cons_succ, hv1, hvn]
      clear hv1 hvn hr h1 h2
      have HJ := Lib.hid hj
      have HZ := Lib.hid hzc
      clear hj hzc hzl
      refine anyN_any (S := fun _ => True) (N := []) _ _ _ _ ?_
      refine anyN_one (i := 10) (o := ({ dst := some 133, op := .call { callee := .builtin .append, args := #[.tmp 124, .tmp 132], argTypes := #[22, 22] }, type := 22, pos := "law.go:123", after := #[{ on := 1, ground := .data }, { on := 9, ground := .data }], guard := none } : Oper)) (by kernel_rfl) rfl (fun K hK => ?_)
      rw [if_pos (by rfl)]
      refine wp_appendT (.tmp 124) (.tmp 132) (by rfl) d qe.AE qe.cE qe.es _ rfl (by simp [Act.eval]) CAP.out NIL.out ((QQ.out.next (bnext HBA.out HJ.out)).e) z (xE y.id v0.id) (by simp [Act.eval]) HZ.out LEN.out ?_
      intro cap w' hcap hcl hbw hsw
      have FIN := Lib.hid (hurt_fin_e HBA.out HJ.out hbw hsw QQ.out PX.out FX.out CN.out hcap LEN.out hcl)
      obtain ⟨q0, q1, _⟩ := (CN.out.next HJ.out).next hbw
      have f9 := (FZ.out.next HJ.out).next hbw
      obtain ⟨f0, f1⟩ := f9.fz
      clear hcap hcl hbw hsw f9
      refine hK.out _ _ (fun _ => trivial) ?_
      clear hK K
      try simp only [Act.put, List.setIfInBounds_toArray, List.set_cons_zero, List.set_cons_succ]
      refine anyN_one (i := 11) (o := ({ dst := some 134, op := .fieldAddr 24 (.tmp 10) 1, type := 0, pos := "law.go:123", after := #[{ on := 0, ground := .phase }, { on := 1, ground := .phase }, { on := 2, ground := .phase }, { on := 3, ground := .phase }, { on := 4, ground := .phase }, { on := 5, ground := .phase }, { on := 6, ground := .phase }, { on := 7, ground := .phase }, { on := 8, ground := .phase }, { on := 9, ground := .phase }, { on := 10, ground := .phase }], guard := none } : Oper)) (by kernel_rfl) rfl (fun K hK => ?_)
      go_simp
      refine hK.out _ _ (fun _ => trivial) ?_
      clear hK K
      try simp only [Act.put, List.setIfInBounds_toArray, List.set_cons_zero, List.set_cons_succ]
      refine anyN_one (i := 12) (o := ({ dst := none, op := .store 22 (.tmp 134) (.tmp 133), type := 0, pos := "law.go:123", after := #[{ on := 11, ground := .data }, { on := 10, ground := .data }, { on := 10, ground := .chain }, { on := 0, ground := .phase }, { on := 1, ground := .phase }, { on := 2, ground := .phase }, { on := 3, ground := .phase }, { on := 4, ground := .phase }, { on := 5, ground := .phase }, { on := 6, ground := .phase }, { on := 7, ground := .phase }, { on := 8, ground := .phase }, { on := 9, ground := .phase }, { on := 10, ground := .phase }], guard := none } : Oper)) (by kernel_rfl) rfl (fun K hK => ?_)
      go_simp
      refine hK.out _ _ (fun _ => trivial) ?_
      clear hK K
      try simp only [Act.put, List.setIfInBounds_toArray, List.set_cons_zero, List.set_cons_succ]
      refine anyN_done (by kernel_rfl) ?_ _
      clear q0 q1 f0 f1
      clear PX FX CY hb0
      generalize World.setCell _ _ _ = W16 at FIN
      obtain ⟨ge, hgev, hgee, hIn, hbox, hL⟩ := FIN.out
      have Rge := Lib.hid hIn
      have C2ge := Lib.hid hbox
      have hb1 := hL
      have ERe := Lib.hid (show errG ge.vs ge.es = 0 from (errG_tv (b := true) (by rw [hgev, hgee, List.map_append, HVqe.out, HEqe.out]; exact hurtE OKV.out (by rw [List.length_map]; omega) (okTV_mk (show (0 : Int) ≤ 2305843009213693952 by omega) (show nameB ⟨#[120]⟩ = true by decide) (by simp [TA.tv']) rfl rfl) (fun e he => by have := LST.out e he; show e.id < 2305843009213693952; omega) AY.out A0.out)))
      replace G := Lib.hid (SG.out.next hL)
      replace C2a := Lib.hid (SC2a.out.next hL)
      replace TH0 := Lib.hid (STH0.out.next hL)
      replace Rga := Lib.hid (SRga.out.next hL)
      replace C2ga := Lib.hid (SC2ga.out.next hL)
      replace Rgb := Lib.hid (SRgb.out.next hL)
      replace C2gb := Lib.hid (SC2gb.out.next hL)
      replace Rgc := Lib.hid (SRgc.out.next hL)
      replace C2gc := Lib.hid (SC2gc.out.next hL)
      replace Rgd := Lib.hid (SRgd.out.next hL)
      replace C2gd := Lib.hid (SC2gd.out.next hL)
      replace B := Lib.hid (bnext SB.out hL)
      clear SG
      clear SC2a
      clear STH0
      clear SRga
      clear SC2ga
      clear SRgb
      clear SC2gb
      clear SRgc
      clear SC2gc
      clear SRgd
      clear SC2gd
      clear SB hIn hbox hL hb1 FIN hgev hgee QQ CAP NIL LEN CN FZ HBA CG
      obtain ⟨y0, y1, _⟩ := C2ga.out
      go_wp2_with fail
      refine (gcheck_any W16 d ga Rga.out).mono ?_
      rintro e W17 ⟨rfl, hb1⟩
      rw [ERa.out]
      clear y0 y1
      replace G := Lib.hid (G.out.next hb1)
      replace C2a := Lib.hid (C2a.out.next hb1)
      replace TH0 := Lib.hid (TH0.out.next hb1)
      replace Rga := Lib.hid (Rga.out.next hb1)
      replace C2ga := Lib.hid (C2ga.out.next hb1)
      replace Rgb := Lib.hid (Rgb.out.next hb1)
      replace C2gb := Lib.hid (C2gb.out.next hb1)
      replace Rgc := Lib.hid (Rgc.out.next hb1)
      replace C2gc := Lib.hid (C2gc.out.next hb1)
      replace Rgd := Lib.hid (Rgd.out.next hb1)
      replace C2gd := Lib.hid (C2gd.out.next hb1)
      replace Rge := Lib.hid (Rge.out.next hb1)
      replace C2ge := Lib.hid (C2ge.out.next hb1)
      replace B := Lib.hid (bnext B.out hb1)
      clear hb1
      obtain ⟨y0, y1, _⟩ := C2gb.out
      go_wp2_with fail
      refine (gcheck_any W17 d gb Rgb.out).mono ?_
      rintro e W18 ⟨rfl, hb1⟩
      rw [ERb.out]
      clear y0 y1
      replace G := Lib.hid (G.out.next hb1)
      replace C2a := Lib.hid (C2a.out.next hb1)
      replace TH0 := Lib.hid (TH0.out.next hb1)
      replace Rga := Lib.hid (Rga.out.next hb1)
      replace C2ga := Lib.hid (C2ga.out.next hb1)
      replace Rgb := Lib.hid (Rgb.out.next hb1)
      replace C2gb := Lib.hid (C2gb.out.next hb1)
      replace Rgc := Lib.hid (Rgc.out.next hb1)
      replace C2gc := Lib.hid (C2gc.out.next hb1)
      replace Rgd := Lib.hid (Rgd.out.next hb1)
      replace C2gd := Lib.hid (C2gd.out.next hb1)
      replace Rge := Lib.hid (Rge.out.next hb1)
      replace C2ge := Lib.hid (C2ge.out.next hb1)
      replace B := Lib.hid (bnext B.out hb1)
      clear hb1
      obtain ⟨y0, y1, _⟩ := C2gc.out
      go_wp2_with fail
      refine (gcheck_any W18 d gc Rgc.out).mono ?_
      rintro e W19 ⟨rfl, hb1⟩
      rw [ERc.out]
      clear y0 y1
      replace G := Lib.hid (G.out.next hb1)
      replace C2a := Lib.hid (C2a.out.next hb1)
      replace TH0 := Lib.hid (TH0.out.next hb1)
      replace Rga := Lib.hid (Rga.out.next hb1)
      replace C2ga := Lib.hid (C2ga.out.next hb1)
      replace Rgb := Lib.hid (Rgb.out.next hb1)
      replace C2gb := Lib.hid (C2gb.out.next hb1)
      replace Rgc := Lib.hid (Rgc.out.next hb1)
      replace C2gc := Lib.hid (C2gc.out.next hb1)
      replace Rgd := Lib.hid (Rgd.out.next hb1)
      replace C2gd := Lib.hid (C2gd.out.next hb1)
      replace Rge := Lib.hid (Rge.out.next hb1)
      replace C2ge := Lib.hid (C2ge.out.next hb1)
      replace B := Lib.hid (bnext B.out hb1)
      clear hb1
      cases hnl : nameB label
      · go_wp2_with fail
        refine (name_any label W19).mono ?_
        rintro e W19n ⟨rfl, hww⟩
        rw [hnl]
        clear hnl
        obtain rfl := hww
        obtain ⟨y0, y1, _⟩ := C2gd.out
        go_wp2_with fail
        refine (gcheck_any W19 d gd Rgd.out).mono ?_
        rintro e W20 ⟨rfl, hb1⟩
        rw [ERd.out]
        clear y0 y1
        replace G := Lib.hid (G.out.next hb1)
        replace C2a := Lib.hid (C2a.out.next hb1)
        replace TH0 := Lib.hid (TH0.out.next hb1)
        replace Rga := Lib.hid (Rga.out.next hb1)
        replace C2ga := Lib.hid (C2ga.out.next hb1)
        replace Rgb := Lib.hid (Rgb.out.next hb1)
        replace C2gb := Lib.hid (C2gb.out.next hb1)
        replace Rgc := Lib.hid (Rgc.out.next hb1)
        replace C2gc := Lib.hid (C2gc.out.next hb1)
        replace Rgd := Lib.hid (Rgd.out.next hb1)
        replace C2gd := Lib.hid (C2gd.out.next hb1)
        replace Rge := Lib.hid (Rge.out.next hb1)
        replace C2ge := Lib.hid (C2ge.out.next hb1)
        replace B := Lib.hid (bnext B.out hb1)
        clear hb1
        obtain ⟨y0, y1, _⟩ := C2ge.out
        go_wp2_with fail
        refine (gcheck_any W20 d ge Rge.out).mono ?_
        rintro e W21 ⟨rfl, hb1⟩
        rw [ERe.out]
        clear y0 y1
        replace G := Lib.hid (G.out.next hb1)
        replace C2a := Lib.hid (C2a.out.next hb1)
        replace TH0 := Lib.hid (TH0.out.next hb1)
        replace Rga := Lib.hid (Rga.out.next hb1)
        replace C2ga := Lib.hid (C2ga.out.next hb1)
        replace Rgb := Lib.hid (Rgb.out.next hb1)
        replace C2gb := Lib.hid (C2gb.out.next hb1)
        replace Rgc := Lib.hid (Rgc.out.next hb1)
        replace C2gc := Lib.hid (C2gc.out.next hb1)
        replace Rgd := Lib.hid (Rgd.out.next hb1)
        replace C2gd := Lib.hid (C2gd.out.next hb1)
        replace Rge := Lib.hid (Rge.out.next hb1)
        replace C2ge := Lib.hid (C2ge.out.next hb1)
        replace B := Lib.hid (bnext B.out hb1)
        clear hb1
        go_wp2_with fail
        refine (known_any W21).mono ?_
        rintro e Wk ⟨rfl, hbk⟩
        have BK := Lib.hid (bnext B.out hbk)
        clear hbk
        go_wp2
        go_ret
        exact ⟨rfl, BK.out⟩
      · go_wp2_with fail
        refine (name_any label W19).mono ?_
        rintro e W19n ⟨rfl, hww⟩
        rw [hnl]
        clear hnl
        obtain rfl := hww
        obtain ⟨y0, y1, _⟩ := C2gd.out
        go_wp2_with fail
        refine (gcheck_any W19 d gd Rgd.out).mono ?_
        rintro e W20 ⟨rfl, hb1⟩
        rw [ERd.out]
        clear y0 y1
        replace G := Lib.hid (G.out.next hb1)
        replace C2a := Lib.hid (C2a.out.next hb1)
        replace TH0 := Lib.hid (TH0.out.next hb1)
        replace Rga := Lib.hid (Rga.out.next hb1)
        replace C2ga := Lib.hid (C2ga.out.next hb1)
        replace Rgb := Lib.hid (Rgb.out.next hb1)
        replace C2gb := Lib.hid (C2gb.out.next hb1)
        replace Rgc := Lib.hid (Rgc.out.next hb1)
        replace C2gc := Lib.hid (C2gc.out.next hb1)
        replace Rgd := Lib.hid (Rgd.out.next hb1)
        replace C2gd := Lib.hid (C2gd.out.next hb1)
        replace Rge := Lib.hid (Rge.out.next hb1)
        replace C2ge := Lib.hid (C2ge.out.next hb1)
        replace B := Lib.hid (bnext B.out hb1)
        clear hb1
        obtain ⟨y0, y1, _⟩ := C2ge.out
        go_wp2_with fail
        refine (gcheck_any W20 d ge Rge.out).mono ?_
        rintro e W21 ⟨rfl, hb1⟩
        rw [ERe.out]
        clear y0 y1
        replace G := Lib.hid (G.out.next hb1)
        replace C2a := Lib.hid (C2a.out.next hb1)
        replace TH0 := Lib.hid (TH0.out.next hb1)
        replace Rga := Lib.hid (Rga.out.next hb1)
        replace C2ga := Lib.hid (C2ga.out.next hb1)
        replace Rgb := Lib.hid (Rgb.out.next hb1)
        replace C2gb := Lib.hid (C2gb.out.next hb1)
        replace Rgc := Lib.hid (Rgc.out.next hb1)
        replace C2gc := Lib.hid (C2gc.out.next hb1)
        replace Rgd := Lib.hid (Rgd.out.next hb1)
        replace C2gd := Lib.hid (C2gd.out.next hb1)
        replace Rge := Lib.hid (Rge.out.next hb1)
        replace C2ge := Lib.hid (C2ge.out.next hb1)
        replace B := Lib.hid (bnext B.out hb1)
        clear hb1
        go_wp2_with fail
        refine (known_any W21).mono ?_
        rintro e Wk ⟨rfl, hbk⟩
        have BK := Lib.hid (bnext B.out hbk)
        clear hbk
        go_wp2
        go_ret
        exact ⟨rfl, BK.out⟩
end Go.Proofs.Ytciipggccjiaiaa
