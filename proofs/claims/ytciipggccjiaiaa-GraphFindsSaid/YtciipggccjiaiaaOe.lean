/- The law on finding: the walk. -/
import Derived.Test.YtciipggccjiaiaaOd
import Derived.Test.YtciipggccjiaiaaNM
import Derived.Test.YtciipggccjiaiaaNP
import Derived.Test.YtciipggccjiaiaaNV
import Derived.Test.YtciipggccjiaiaaNW
namespace Go.Proofs.Ytciipggccjiaiaa
open Go.RowKit Go.Sort
set_option maxRecDepth 100000
attribute [local go_sem ↓] Go.wp_at_zero Go.wp_at_succ

structure C2 (w : World) (g : Nat) (v0 v1 : Value) : Prop where
  c0 : w.cell? ⟨g, 0, none⟩ = some v0
  c1 : w.cell? ⟨g, 1, none⟩ = some v1
  lt : g < w.heap.size
theorem C2.next {a b : World} {g : Nat} {v0 v1 : Value} (h : C2 a g v0 v1) (hb : Below a.heap.size a b) : C2 b g v0 v1 := ⟨cell_below hb h.c0 h.lt, cell_below hb h.c1 h.lt, Nat.lt_of_lt_of_le h.lt hb.size⟩
theorem made24 {w W : World} {v0 v1 : Value} (hW : w.alloc (.cells #[v0, v1] 24) = W) : C2 W w.heap.size v0 v1 ∧ Below w.heap.size w W ∧ W.heap.size = w.heap.size + 1 := by
  obtain ⟨a, b, c, d⟩ := box24 w v0 v1 W hW
  exact ⟨⟨a, b, by omega⟩, c, d⟩
theorem made34 {w W : World} {v0 v1 v2 v3 v4 : Value} (hW : w.alloc (.cells #[v0, v1, v2, v3, v4] 34) = W) : CellT W w.heap.size v0 v1 v2 v3 v4 ∧ Below w.heap.size w W ∧ W.heap.size = w.heap.size + 1 := by
  subst hW
  exact ⟨CellT.new _ _ _ _ _ _, below_new _ _, by simp⟩
theorem made37 {w W : World} (x : At) (hW : w.alloc (.cells #[.int .i64 x.t.k, .int .i64 x.t.n, .string x.t.s, .slice x.A x.t.l.length x.c, .slice x.A' x.t.m.length x.c'] 37) = W) : Bx W w.heap.size x ∧ Below w.heap.size w W ∧ W.heap.size = w.heap.size + 1 := by
  subst hW
  exact ⟨Bx.new _ _, below_new _ _, by simp⟩
theorem PRow.up {w : World} {lo d d' c : Nat} {A : Option Addr} {l : List PA} (h : PRow w lo d A c l) (hd : d ≤ d') : PRow w lo d' A c l :=
  ⟨h.le, h.cap, h.big, h.nil, h.at_, fun p hp => Rd.more (h.vals p hp) (Nat.le_refl _) (Nat.le_refl _) hd⟩
theorem TRow.up {w : World} {d d' c : Nat} {A : Option Addr} {l : List TA} (h : TRow w d A c l) (hd : d ≤ d') : TRow w d' A c l := ⟨h.le, h.big, h.at_, fun t ht => (h.vals t ht).up hd⟩
theorem GA.In.up {g : GA} {w : World} {d d' : Nat} (h : g.In w d) (hd : d ≤ d') : g.In w d' := ⟨h.v.up hd, h.e.up hd, h.fv, h.fe⟩
theorem MineP.next {a b : World} {A : Option Addr} {n : Nat} (h : MineP a A n) (hb : Below a.heap.size a b) : MineP b A n := fun h0 => by
  obtain ⟨g, e, hg⟩ := h h0
  exact ⟨g, e, hg.below hb hg.lt⟩
theorem fld_of {q g : List TA} (h : q.map TA.tv' = g.map TA.ctv) (hf : ∀ t ∈ g, TFld t) : ∀ t ∈ q, TFld t := fun t ht => by
  have h1 : t.tv' ∈ q.map TA.tv' := List.mem_map_of_mem ht
  rw [h] at h1
  obtain ⟨s, hs, e⟩ := List.mem_map.1 h1
  have hs' := hf s hs
  have e1 : s.id = t.id := congrArg TV.id e
  have e2 : s.o = t.o := congrArg TV.o e
  have e3 : s.i = t.i := congrArg TV.i e
  unfold TFld at hs' ⊢
  rw [← e1, ← e2, ← e3]
  exact hs'
theorem copy_in {w w' : World} {d : Nat} {g q : GA} (hg : g.In w d) (h1 : q.vs.map TA.tv' = g.vs.map TA.ctv) (h2 : q.es.map TA.tv' = g.es.map TA.ctv) (c1 : COwn w.heap.size w' q.AV q.cV q.vs) (c2 : COwn w.heap.size w' q.AE q.cE q.es) : q.In w' 13 := by
  have l1 : q.vs.length = g.vs.length := by have := congrArg List.length h1; simpa using this
  have l2 : q.es.length = g.es.length := by have := congrArg List.length h2; simpa using this
  exact ⟨c1.trow (by rw [l1]; exact hg.v.big), c2.trow (by rw [l2]; exact hg.e.big), fld_of h1 hg.fv, fld_of h2 hg.fe⟩
theorem prop_both {key : ByteArray} {t u : List PA} {a b : At} {has had : Bool} (h : SamK t u)
    (ha : (has = true ∧ ∃ p, t.find? (keyB key) = some p ∧ a.t = copyV 12 p.x.t) ∨ (has = false ∧ t.find? (keyB key) = none ∧ a = zeroAt))
    (hb : (had = true ∧ ∃ p, u.find? (keyB key) = some p ∧ b = p.x) ∨ (had = false ∧ u.find? (keyB key) = none ∧ b = zeroAt)) : has = had ∧ (cmpV 12 a.t b.t == 0) = true := by
  rcases SamK.find key t u h with ⟨e1, e2⟩ | ⟨p, q, e1, e2, e3⟩
  · rcases ha with ⟨_, p, h1, _⟩ | ⟨h0, _, ha⟩
    · rw [e1] at h1; cases h1
    · rcases hb with ⟨_, p, h1, _⟩ | ⟨h0', _, hb⟩
      · rw [e2] at h1; cases h1
      · rw [h0, h0', ha, hb, (ord_cmpV 12).refl]; exact ⟨rfl, rfl⟩
  · rcases ha with ⟨h0, p', h1, ha⟩ | ⟨_, h1, _⟩
    · rcases hb with ⟨h0', q', h2, hb⟩ | ⟨_, h2, _⟩
      · rw [e1] at h1
        rw [e2] at h2
        injection h1 with h1
        injection h2 with h2
        subst h1 h2
        rw [h0, h0', ha, hb, cmp_left, e3]; exact ⟨rfl, rfl⟩
      · rw [e2] at h2; cases h2
    · rw [e1] at h1; cases h1
set_option maxHeartbeats 32000000 in
theorem finds_law (w : World) (d0 : Nat) (g : GA) (id : Int) (key : ByteArray) (x : At) (hg : g.In w d0) (hx : x.In w d0) : Calls Try.prog 5 #[g.v, .int .i64 id, .string key, x.v] w fun e w' => e = .returned (.bool true) ∧ Below w.heap.size w w' := by
  obtain ⟨d, hd⟩ : ∃ d, d = d0 + 13 := ⟨_, rfl⟩
  have G := Lib.hid (hg.up (d' := d) (by omega))
  have X := Lib.hid (hx.more (m := d) (by omega))
  have D13 : 13 ≤ d := by omega
  clear hg hx hd
  go_enter Try.func5, Try.ntmps5
  go_upto_region 1 with fail
  generalize hA : World.alloc w _ = Wa
  obtain ⟨c4, hbA, hsA⟩ := made24 hA
  generalize hC : World.alloc Wa _ = W
  obtain ⟨c7, hbC, hsC⟩ := made37 x hC
  rw [hsA] at c7
  have B := Lib.hid (bnext hbA hbC)
  have C2a := Lib.hid (c4.next hbC)
  have X7 := Lib.hid c7
  replace G := Lib.hid (G.out.next B.out)
  replace X := Lib.hid (X.out.next B.out)
  clear hA hC c4 c7 hbA hbC hsA hsC
  obtain ⟨y0, y1, _⟩ := C2a.out
  go_wp2_with fail
  refine (much_any W d g G.out).mono ?_
  rintro e W1 ⟨mb, rfl, hb1⟩
  clear y0 y1
  replace G := Lib.hid (G.out.next hb1)
  replace X := Lib.hid (X.out.next hb1)
  replace C2a := Lib.hid (C2a.out.next hb1)
  replace X7 := Lib.hid (X7.out.next hb1)
  replace B := Lib.hid (bnext B.out hb1)
  clear hb1
  cases mb
  case true =>
    go_wp2_with fail
    refine (known_any W1).mono ?_
    rintro e W2 ⟨rfl, hbk⟩
    have BK := Lib.hid (bnext B.out hbk)
    clear hbk
    go_wp2
    go_ret
    exact ⟨rfl, BK.out⟩
  by_cases h3 : 300 < key.size
  · have g3 : (300 : Int) < (key.size : Int) := by omega
    go_wp2_with fail
    refine (known_any W1).mono ?_
    rintro e W2 ⟨rfl, hbk⟩
    have BK := Lib.hid (bnext B.out hbk)
    clear hbk
    go_wp2
    go_ret
    exact ⟨rfl, BK.out⟩
  have g3 : ¬ (300 : Int) < (key.size : Int) := by omega
  obtain ⟨x0, x1, x2, x3, x4, _⟩ := X7.out
  go_wp2_with fail
  refine (count_any d W1 x.t x.A x.c x.A' x.c' 500 (by decide) (by decide) X.out).mono ?_
  rintro e W2 ⟨cn, rfl, cn0, cn1, hb1⟩
  clear x0 x1 x2 x3 x4
  replace G := Lib.hid (G.out.next hb1)
  replace X := Lib.hid (X.out.next hb1)
  replace C2a := Lib.hid (C2a.out.next hb1)
  replace X7 := Lib.hid (X7.out.next hb1)
  replace B := Lib.hid (bnext B.out hb1)
  clear hb1
  by_cases h5 : 500 ≤ cn
  · go_wp2_with fail
    refine (known_any W2).mono ?_
    rintro e W3 ⟨rfl, hbk⟩
    have BK := Lib.hid (bnext B.out hbk)
    clear hbk
    go_wp2
    go_ret
    exact ⟨rfl, BK.out⟩
  obtain ⟨y0, y1, _⟩ := C2a.out
  have hks : key.size ≤ 1000 := by omega
  go_wp2_with fail
  refine (gcopy_any W2 d g G.out).mono ?_
  rintro e W3 ⟨q, rfl, hqv, hqe, hov, hoe, hb1⟩
  have HQV := Lib.hid hqv
  have HQE := Lib.hid hqe
  have Q := Lib.hid ((copy_in G.out hqv hqe hov hoe).up D13)
  clear hqv hqe hov hoe cn0 cn1 h5 h3 g3
  clear y0 y1
  replace G := Lib.hid (G.out.next hb1)
  replace X := Lib.hid (X.out.next hb1)
  replace C2a := Lib.hid (C2a.out.next hb1)
  replace X7 := Lib.hid (X7.out.next hb1)
  replace B := Lib.hid (bnext B.out hb1)
  clear hb1
  go_upto_region 4 with fail
  generalize hA : World.alloc W3 _ = W4
  obtain ⟨c9, hb1, hsA⟩ := made24 hA
  have C2b := Lib.hid c9
  clear hA c9 hsA
  replace G := Lib.hid (G.out.next hb1)
  replace X := Lib.hid (X.out.next hb1)
  replace C2a := Lib.hid (C2a.out.next hb1)
  replace X7 := Lib.hid (X7.out.next hb1)
  replace Q := Lib.hid (Q.out.next hb1)
  replace B := Lib.hid (bnext B.out hb1)
  clear hb1
  obtain ⟨y0, y1, _⟩ := C2b.out
  go_wp2_with fail
  refine (at_any W4 d q.AV q.cV q.vs Q.out.v id).mono ?_
  rintro e W5 ⟨t, rfl, htv, hnew⟩
  have HTV := Lib.hid htv
  have hb1 := hnew.bel
  have T := Lib.hid ((hnew.row.low (Nat.zero_le _)).up D13)
  clear htv hnew
  clear y0 y1
  replace G := Lib.hid (G.out.next hb1)
  replace X := Lib.hid (X.out.next hb1)
  replace C2a := Lib.hid (C2a.out.next hb1)
  replace X7 := Lib.hid (X7.out.next hb1)
  replace Q := Lib.hid (Q.out.next hb1)
  replace C2b := Lib.hid (C2b.out.next hb1)
  replace B := Lib.hid (bnext B.out hb1)
  clear hb1
  go_upto_region 5 with fail
  generalize hA : World.alloc W5 _ = W6
  obtain ⟨c9, hb1, hsA⟩ := made34 hA
  have T10 := Lib.hid c9
  clear hA c9 hsA
  replace G := Lib.hid (G.out.next hb1)
  replace X := Lib.hid (X.out.next hb1)
  replace C2a := Lib.hid (C2a.out.next hb1)
  replace X7 := Lib.hid (X7.out.next hb1)
  replace Q := Lib.hid (Q.out.next hb1)
  replace C2b := Lib.hid (C2b.out.next hb1)
  replace T := Lib.hid (T.out.next hb1)
  replace B := Lib.hid (bnext B.out hb1)
  clear hb1
  obtain ⟨y0, y1, _⟩ := C2a.out
  go_wp2_with fail
  refine (refAt_any W6 d g.AV g.cV g.vs G.out.v id).mono ?_
  rintro e W7 ⟨u, is, rfl, hur, huc, hb1⟩
  have U := Lib.hid hur
  obtain ⟨hsm, hok⟩ := at_same HQV.out HTV.out huc
  rw [hok]
  have SM := Lib.hid hsm
  clear hur huc hsm hok HTV
  clear y0 y1
  replace G := Lib.hid (G.out.next hb1)
  replace X := Lib.hid (X.out.next hb1)
  replace C2a := Lib.hid (C2a.out.next hb1)
  replace X7 := Lib.hid (X7.out.next hb1)
  replace Q := Lib.hid (Q.out.next hb1)
  replace C2b := Lib.hid (C2b.out.next hb1)
  replace T := Lib.hid (T.out.next hb1)
  replace T10 := Lib.hid (T10.out.next hb1)
  replace B := Lib.hid (bnext B.out hb1)
  clear hb1
  go_upto_region 6 with fail
  generalize hA : World.alloc W7 _ = W8
  obtain ⟨c9, hb1, hsA⟩ := made34 hA
  have U12 := Lib.hid c9
  clear hA c9 hsA
  replace G := Lib.hid (G.out.next hb1)
  replace X := Lib.hid (X.out.next hb1)
  replace C2a := Lib.hid (C2a.out.next hb1)
  replace X7 := Lib.hid (X7.out.next hb1)
  replace Q := Lib.hid (Q.out.next hb1)
  replace C2b := Lib.hid (C2b.out.next hb1)
  replace T := Lib.hid (T.out.next hb1)
  replace T10 := Lib.hid (T10.out.next hb1)
  replace U := Lib.hid (U.out.next hb1)
  replace B := Lib.hid (bnext B.out hb1)
  clear hb1
  obtain ⟨t0, t1, t2, t3, t4, _⟩ := T10.out
  obtain ⟨u0, u1, u2, u3, u4, _⟩ := U12.out
  have his : (is != is) = false := by simp
  go_wp2_with fail
  refine (sameThing_any W8 d t u T.out U.out).mono ?_
  rintro e W9 ⟨rfl, hb1⟩
  rw [SM.out]
  clear t0 t1 t2 t3 t4
  clear u0 u1 u2 u3 u4
  replace G := Lib.hid (G.out.next hb1)
  replace X := Lib.hid (X.out.next hb1)
  replace C2a := Lib.hid (C2a.out.next hb1)
  replace X7 := Lib.hid (X7.out.next hb1)
  replace Q := Lib.hid (Q.out.next hb1)
  replace C2b := Lib.hid (C2b.out.next hb1)
  replace T := Lib.hid (T.out.next hb1)
  replace T10 := Lib.hid (T10.out.next hb1)
  replace U := Lib.hid (U.out.next hb1)
  replace U12 := Lib.hid (U12.out.next hb1)
  replace B := Lib.hid (bnext B.out hb1)
  clear hb1
  go_upto_region 8 with fail
  obtain ⟨t0, t1, t2, t3, t4, _⟩ := T10.out
  go_wp2_with fail
  refine (gprop_any W9 d t T.out key).mono ?_
  rintro e W10 ⟨a, has, rfl, hain, hac, hb1⟩
  have A := Lib.hid (hain.more (m := d + 1) (by omega))
  have HAC := Lib.hid hac
  clear hain hac
  clear t0 t1 t2 t3 t4
  replace G := Lib.hid (G.out.next hb1)
  replace X := Lib.hid (X.out.next hb1)
  replace C2a := Lib.hid (C2a.out.next hb1)
  replace X7 := Lib.hid (X7.out.next hb1)
  replace Q := Lib.hid (Q.out.next hb1)
  replace C2b := Lib.hid (C2b.out.next hb1)
  replace T := Lib.hid (T.out.next hb1)
  replace T10 := Lib.hid (T10.out.next hb1)
  replace U := Lib.hid (U.out.next hb1)
  replace U12 := Lib.hid (U12.out.next hb1)
  replace B := Lib.hid (bnext B.out hb1)
  clear hb1
  go_upto_region 9 with fail
  generalize hA : World.alloc W10 _ = W11
  obtain ⟨c9, hb1, hsA⟩ := made37 a hA
  have A14 := Lib.hid c9
  clear hA c9 hsA
  replace G := Lib.hid (G.out.next hb1)
  replace X := Lib.hid (X.out.next hb1)
  replace C2a := Lib.hid (C2a.out.next hb1)
  replace X7 := Lib.hid (X7.out.next hb1)
  replace Q := Lib.hid (Q.out.next hb1)
  replace C2b := Lib.hid (C2b.out.next hb1)
  replace T := Lib.hid (T.out.next hb1)
  replace T10 := Lib.hid (T10.out.next hb1)
  replace U := Lib.hid (U.out.next hb1)
  replace U12 := Lib.hid (U12.out.next hb1)
  replace A := Lib.hid (A.out.next hb1)
  replace B := Lib.hid (bnext B.out hb1)
  clear hb1
  obtain ⟨u0, u1, u2, u3, u4, _⟩ := U12.out
  go_wp2_with fail
  refine (refProp_any W11 d u U.out key).mono ?_
  rintro e W12 ⟨b, had, rfl, hbin, hbc, hb1⟩
  have Bb := Lib.hid hbin
  obtain ⟨hh, hcm⟩ := prop_both (SamK.of SM.out).1 HAC.out hbc
  rw [hh]
  have CM := Lib.hid hcm
  clear hbin hbc hh hcm HAC
  clear u0 u1 u2 u3 u4
  replace G := Lib.hid (G.out.next hb1)
  replace X := Lib.hid (X.out.next hb1)
  replace C2a := Lib.hid (C2a.out.next hb1)
  replace X7 := Lib.hid (X7.out.next hb1)
  replace Q := Lib.hid (Q.out.next hb1)
  replace C2b := Lib.hid (C2b.out.next hb1)
  replace T := Lib.hid (T.out.next hb1)
  replace T10 := Lib.hid (T10.out.next hb1)
  replace U := Lib.hid (U.out.next hb1)
  replace U12 := Lib.hid (U12.out.next hb1)
  replace A := Lib.hid (A.out.next hb1)
  replace A14 := Lib.hid (A14.out.next hb1)
  replace B := Lib.hid (bnext B.out hb1)
  clear hb1
  go_upto_region 10 with fail
  generalize hA : World.alloc W12 _ = W13
  obtain ⟨c9, hb1, hsA⟩ := made37 b hA
  have B16 := Lib.hid c9
  clear hA c9 hsA
  replace G := Lib.hid (G.out.next hb1)
  replace X := Lib.hid (X.out.next hb1)
  replace C2a := Lib.hid (C2a.out.next hb1)
  replace X7 := Lib.hid (X7.out.next hb1)
  replace Q := Lib.hid (Q.out.next hb1)
  replace C2b := Lib.hid (C2b.out.next hb1)
  replace T := Lib.hid (T.out.next hb1)
  replace T10 := Lib.hid (T10.out.next hb1)
  replace U := Lib.hid (U.out.next hb1)
  replace U12 := Lib.hid (U12.out.next hb1)
  replace A := Lib.hid (A.out.next hb1)
  replace A14 := Lib.hid (A14.out.next hb1)
  replace Bb := Lib.hid (Bb.out.next hb1)
  replace B := Lib.hid (bnext B.out hb1)
  clear hb1
  have ST := T
  have SU := U
  have ST10 := T10
  have SU12 := U12
  have SQ := Q
  have SG := G
  have SC2a := C2a
  have SC2b := C2b
  have SB := B
  obtain ⟨t0, t1, t2, t3, t4, _⟩ := T10.out
  obtain ⟨x0, x1, x2, x3, x4, _⟩ := X7.out
  go_wp2_with fail
  refine (gwith_any W13 d t T.out key x X.out).mono ?_
  rintro e W14 ⟨c, rfl, hnew, hcc⟩
  have hb1 := hnew.bel
  have HCC := Lib.hid hcc
  have C := Lib.hid ((hnew.row.low (Nat.zero_le _)).up D13)
  have M := Lib.hid hnew.mine
  have LO : Hid (∀ b, (∃ off, c.A = some ⟨b, off, none⟩) → 0 < c.l.length → W13.heap.size ≤ b ∧ b < W14.heap.size) := Lib.hid (fun b ⟨off, e⟩ h0 => by
    obtain ⟨b', off', e', h1, h2, _⟩ := hnew.row.at_ h0
    rw [e] at e'
    injection e' with e'
    injection e' with e1
    omega)
  have L := Lib.hid hb1
  clear hnew hcc
  clear t0 t1 t2 t3 t4
  clear x0 x1 x2 x3 x4
  replace U := Lib.hid (U.out.next hb1)
  replace X := Lib.hid (X.out.next hb1)
  replace X7 := Lib.hid (X7.out.next hb1)
  replace U12 := Lib.hid (U12.out.next hb1)
  replace A := Lib.hid (A.out.next hb1)
  replace A14 := Lib.hid (A14.out.next hb1)
  replace Bb := Lib.hid (Bb.out.next hb1)
  replace B16 := Lib.hid (B16.out.next hb1)
  replace B := Lib.hid (bnext B.out hb1)
  clear hb1
  replace L := L
  go_upto_region 11 with fail
  generalize hA : World.alloc W14 _ = W15
  obtain ⟨c9, hb1, hsA⟩ := made34 hA
  have C18 := Lib.hid c9
  clear hA c9 hsA
  replace L := Lib.hid (bnext L.out hb1)
  replace U := Lib.hid (U.out.next hb1)
  replace X := Lib.hid (X.out.next hb1)
  replace X7 := Lib.hid (X7.out.next hb1)
  replace U12 := Lib.hid (U12.out.next hb1)
  replace A := Lib.hid (A.out.next hb1)
  replace A14 := Lib.hid (A14.out.next hb1)
  replace Bb := Lib.hid (Bb.out.next hb1)
  replace B16 := Lib.hid (B16.out.next hb1)
  replace C := Lib.hid (C.out.next hb1)
  replace M := Lib.hid (M.out.next hb1)
  replace B := Lib.hid (bnext B.out hb1)
  clear hb1
  obtain ⟨u0, u1, u2, u3, u4, _⟩ := U12.out
  obtain ⟨x0, x1, x2, x3, x4, _⟩ := X7.out
  go_wp2_with fail
  refine (refWith_any W15 d u key x U.out X.out hks).mono ?_
  rintro e W16 ⟨dd, rfl, hdr, hdc, hb1⟩
  have DD := Lib.hid hdr
  obtain ⟨hsc, hwe⟩ := with_same SM.out HCC.out hdc
  rw [hwe]
  have SC := Lib.hid hsc
  generalize withE key x.t u.l = ee
  clear hdr hdc hsc hwe HCC
  clear u0 u1 u2 u3 u4
  clear x0 x1 x2 x3 x4
  replace L := Lib.hid (bnext L.out hb1)
  replace U := Lib.hid (U.out.next hb1)
  replace X := Lib.hid (X.out.next hb1)
  replace X7 := Lib.hid (X7.out.next hb1)
  replace U12 := Lib.hid (U12.out.next hb1)
  replace A := Lib.hid (A.out.next hb1)
  replace A14 := Lib.hid (A14.out.next hb1)
  replace Bb := Lib.hid (Bb.out.next hb1)
  replace B16 := Lib.hid (B16.out.next hb1)
  replace C := Lib.hid (C.out.next hb1)
  replace M := Lib.hid (M.out.next hb1)
  replace C18 := Lib.hid (C18.out.next hb1)
  replace B := Lib.hid (bnext B.out hb1)
  clear hb1
  go_upto_region 12 with fail
  generalize hA : World.alloc W16 _ = W17
  obtain ⟨c9, hb1, hsA⟩ := made34 hA
  have D20 := Lib.hid c9
  clear hA c9 hsA
  replace L := Lib.hid (bnext L.out hb1)
  replace U := Lib.hid (U.out.next hb1)
  replace X := Lib.hid (X.out.next hb1)
  replace X7 := Lib.hid (X7.out.next hb1)
  replace U12 := Lib.hid (U12.out.next hb1)
  replace A := Lib.hid (A.out.next hb1)
  replace A14 := Lib.hid (A14.out.next hb1)
  replace Bb := Lib.hid (Bb.out.next hb1)
  replace B16 := Lib.hid (B16.out.next hb1)
  replace C := Lib.hid (C.out.next hb1)
  replace M := Lib.hid (M.out.next hb1)
  replace C18 := Lib.hid (C18.out.next hb1)
  replace DD := Lib.hid (DD.out.next hb1)
  replace B := Lib.hid (bnext B.out hb1)
  clear hb1
  obtain ⟨x0, x1, x2, x3, x4, _⟩ := A14.out
  obtain ⟨z0, z1, z2, z3, z4, _⟩ := B16.out
  have hhad : (had != had) = false := by simp
  have hee : (ee != ee) = false := by simp
  go_wp2_with fail
  refine (refSame_any W17 (d + 1) (d + 1) a.t b.t a.A a.c a.A' a.c' b.A b.c b.A' b.c' A.out Bb.out).mono ?_
  rintro e W18 ⟨rfl, hb1⟩
  rw [CM.out]
  clear x0 x1 x2 x3 x4
  clear z0 z1 z2 z3 z4
  replace L := Lib.hid (bnext L.out hb1)
  replace U := Lib.hid (U.out.next hb1)
  replace X := Lib.hid (X.out.next hb1)
  replace X7 := Lib.hid (X7.out.next hb1)
  replace U12 := Lib.hid (U12.out.next hb1)
  replace A := Lib.hid (A.out.next hb1)
  replace A14 := Lib.hid (A14.out.next hb1)
  replace Bb := Lib.hid (Bb.out.next hb1)
  replace B16 := Lib.hid (B16.out.next hb1)
  replace C := Lib.hid (C.out.next hb1)
  replace M := Lib.hid (M.out.next hb1)
  replace C18 := Lib.hid (C18.out.next hb1)
  replace DD := Lib.hid (DD.out.next hb1)
  replace D20 := Lib.hid (D20.out.next hb1)
  replace B := Lib.hid (bnext B.out hb1)
  clear hb1
  obtain ⟨x0, x1, x2, x3, x4, _⟩ := C18.out
  obtain ⟨z0, z1, z2, z3, z4, _⟩ := D20.out
  go_wp2_with fail
  refine (sameThing_any W18 d c dd C.out DD.out).mono ?_
  rintro e W19 ⟨rfl, hb1⟩
  rw [SC.out]
  clear x0 x1 x2 x3 x4
  clear z0 z1 z2 z3 z4
  replace L := Lib.hid (bnext L.out hb1)
  replace C := Lib.hid (C.out.next hb1)
  replace M := Lib.hid (M.out.next hb1)
  replace C18 := Lib.hid (C18.out.next hb1)
  replace B := Lib.hid (bnext B.out hb1)
  clear hb1
  have hcb := C.out.big
  go_upto_region 14 with fail
  go_wp2_with fail
  go_loopw [22] (fun i wr => ∃ k : Nat, k ≤ c.l.length ∧ i = .int .i64 k ∧ Hid (Below W13.heap.size W13 wr) ∧ Hid (CellT wr W14.heap.size (.int .i64 c.id) (.string c.label) (.int .i64 c.o) (.int .i64 c.i) (.slice c.A c.l.length c.c)) ∧ Hid (MineP wr c.A c.l.length)) (fun i _ => c.l.length - (intOf i).toNat)
  case atStart => exact ⟨0, by omega, rfl, L, C18, M⟩
  case round =>
    obtain ⟨k, hk, rfl, hL, hC, hM⟩ := hrel
    by_cases hlt : k < c.l.length
    · obtain ⟨gc, eA, hB⟩ := hM.out (by omega)
      obtain ⟨lo1, lo2⟩ := LO.out gc ⟨0, eA⟩ (by omega)
      obtain ⟨x0, x1, x2, x3, x4, _⟩ := hC.out
      rw [eA] at x4
      obtain ⟨v0, f0⟩ := hB.cell (i := k * 6) (by omega)
      have z0 := hB.frozen (k * 6)
      have HB := Lib.hid hB
      have EA := Lib.hid eA
      have k0 : (0 : Int) ≤ (k : Int) := by omega
      have ka : (k : Int) < (c.l.length : Int) := by omega
      clear hB eA
      go_wp2
      go_roundw
      case rel => exact ⟨k + 1, by omega, by go_num, Lib.hid (hL.out.setCell (p := ⟨gc, k * 6, none⟩) lo1 _), Lib.hid (hC.out.kept (Below.heap_setCell _ _ _ _ (by show W14.heap.size ≠ gc; omega))), Lib.hid (fun _ => ⟨gc, EA.out, HB.out.set _ _ rfl⟩)⟩
      case measure => simp [intOf]; omega
    · have T := Lib.hid (ST.out.next hL.out)
      have U := Lib.hid (SU.out.next hL.out)
      have Q := Lib.hid (SQ.out.next hL.out)
      have G := Lib.hid (SG.out.next hL.out)
      have C2a := Lib.hid (SC2a.out.next hL.out)
      have C2b := Lib.hid (SC2b.out.next hL.out)
      have B := Lib.hid (bnext SB.out hL.out)
      obtain ⟨x0, x1, x2, x3, x4, _⟩ := hC.out
      obtain ⟨t0, t1, t2, t3, t4, _⟩ := ST10.out.next hL.out
      obtain ⟨u0, u1, u2, u3, u4, _⟩ := SU12.out.next hL.out
      go_wp2_with fail
      refine (sameThing_any wr d t u T.out U.out).mono ?_
      rintro e Wx ⟨rfl, hb1⟩
      rw [SM.out]
      clear x0 x1 x2 x3 x4 t0 t1 t2 t3 t4 u0 u1 u2 u3 u4
      replace B := Lib.hid (bnext B.out hb1)
      obtain ⟨y0, y1, _⟩ := C2a.out.next hb1
      obtain ⟨z0, z1, _⟩ := C2b.out.next hb1
      go_wp2_with fail
      refine (same_any Wx d q g (Q.out.next hb1) (G.out.next hb1)).mono ?_
      rintro e Wy ⟨rfl, hb2⟩
      rw [samG_copy HQV.out HQE.out]
      replace B := Lib.hid (bnext B.out hb2)
      clear y0 y1 z0 z1 hb1 hb2
      go_wp2_with fail
      refine (known_any Wy).mono ?_
      rintro e Wz ⟨rfl, hb3⟩
      replace B := Lib.hid (bnext B.out hb3)
      clear hb3
      go_wp2
      go_ret
      exact ⟨rfl, B.out⟩
end Go.Proofs.Ytciipggccjiaiaa
