/- Contract of value.mapOf, the walk. -/
import Derived.Test.YtdolejafihgpmaaS
import Derived.Test.YtdolejafihgpmaaOrd
import Derived.Test.YtdolejafihgpmaaSn
import Derived.Lib.QuietBelow
namespace Go.Proofs.Ytdolejafihgpmaa
open Go.RowKit Go.Sort
attribute [local go_sem ↓] Go.wp_at_zero Go.wp_at_succ

/-- What the loads ahead of the two appends read. -/
structure R9S (gm pb : Nat) (sL sM : Value) (p : Pr) (w : World) : Prop where
  b : Box10 w pb p
  c3 : w.cell? ⟨gm, 3, none⟩ = some sL
  c4 : w.cell? ⟨gm, 4, none⟩ = some sM
theorem R9S.below {gm pb : Nat} {sL sM : Value} {p : Pr} {w w' : World} {B : Nat} (h : R9S gm pb sL sM p w) (hb : Below B w w') (h1 : gm < B) (h2 : pb < B) : R9S gm pb sL sM p w' :=
  ⟨h.b.kept (hb.block pb h2), (hb.cell (p := ⟨gm, 3, none⟩) h1).trans h.c3, (hb.cell (p := ⟨gm, 4, none⟩) h1).trans h.c4⟩


theorem St9.drew {wq : World} {gm pb : Nat} {acc : List Pr} {AL : Option Addr} {cL : Nat} {AM : Option Addr} {cM : Nat} {p : Pr} (h : St9 wq gm pb acc AL cL AM cM p) : St9 wq.drew gm pb acc AL cL AM cM p :=
  ⟨h.box.kept rfl, h.pbx.kept rfl, h.vl.below (below_drewN _ _ 1), h.vm.below (below_drewN _ _ 1), h.sep, h.gmlt, h.pblt, h.nl, h.nm⟩
theorem newsk1 (w : World) (p : Pr) : ∀ j u, p.kc[j]? = some u → (w.alloc (.cells #[.int .i64 p.x.k, .int .i64 p.x.n, .string p.x.s, .slice p.a1 p.x.l.length p.n1, .slice p.a2 p.x.m.length p.n2] 24)).cell? ((⟨w.heap.size, 0, none⟩ : Addr).add j) = some u := news1 w 24 p.kc
theorem newsk2 (w : World) (p : Pr) (o : Obj) : ∀ j u, p.kc[j]? = some u → ((w.alloc (.cells #[.int .i64 p.x.k, .int .i64 p.x.n, .string p.x.s, .slice p.a1 p.x.l.length p.n1, .slice p.a2 p.x.m.length p.n2] 24)).alloc o).cell? ((⟨w.heap.size, 0, none⟩ : Addr).add j) = some u := news2 w 24 p.kc o
theorem newsk3 (w : World) (p : Pr) (o : Obj) : ∀ j u, p.kc[j]? = some u → ((w.alloc o).alloc (.cells #[.int .i64 p.x.k, .int .i64 p.x.n, .string p.x.s, .slice p.a1 p.x.l.length p.n1, .slice p.a2 p.x.m.length p.n2] 24)).cell? ((⟨w.heap.size + 1, 0, none⟩ : Addr).add j) = some u := news3 w 24 p.kc o
theorem newsv2 (w : World) (p : Pr) (o : Obj) : ∀ j u, p.vc[j]? = some u → ((w.alloc (.cells #[.int .i64 p.y.k, .int .i64 p.y.n, .string p.y.s, .slice p.a3 p.y.l.length p.n3, .slice p.a4 p.y.m.length p.n4] 24)).alloc o).cell? ((⟨w.heap.size, 0, none⟩ : Addr).add j) = some u := news2 w 24 p.vc o
theorem newsv3 (w : World) (p : Pr) (o : Obj) : ∀ j u, p.vc[j]? = some u → ((w.alloc o).alloc (.cells #[.int .i64 p.y.k, .int .i64 p.y.n, .string p.y.s, .slice p.a3 p.y.l.length p.n3, .slice p.a4 p.y.m.length p.n4] 24)).cell? ((⟨w.heap.size + 1, 0, none⟩ : Addr).add j) = some u := news3 w 24 p.vc o

theorem map_post {w W0 w1 wr : World} {g B d n : Nat} {ps ps' : Array Pr} {acc : List Pr} {AL : Option Addr} {cL : Nat} {AM : Option Addr} {cM : Nat} (_ : Held w w g B d n ps) (hb : Below w.heap.size w W0) (hB : B ≤ g) (hg : g < w.heap.size) (hz0 : w.heap.size < W0.heap.size)
    (hs : Srt ps'.toList) (hf : FEq ps.toList ps'.toList) (hM : Mid W0 wr g B d n w1.heap.size w.heap.size ps' n acc AL cL AM cM) (hz1 : W0.heap.size ≤ w1.heap.size) (hl : acc.length ≤ 100000)
    (F : World) (hk : ∀ lo B, w.heap.size < lo → Kept lo B wr F) (hsz : F.heap.size = wr.heap.size) (hbel : ∀ B w0, B ≤ w.heap.size → Below B w0 wr → Below B w0 F) :
    MapPost w g B d ps (.returned (.agg #[.int .i64 7, .int .i64 0, .string ⟨#[]⟩, .slice AL acc.length cL, .slice AM acc.length cM])) F := by
  have hacc : acc = ps'.toList.foldl gat [] := by rw [hM.fold, List.take_of_length_le (by simp; rw [hM.held.sz]; exact Nat.le_refl _)]
  have hgm := hM.gmlt
  have hF : Below w.heap.size wr F := hbel _ _ (Nat.le_refl _) (Below.refl _ _)
  have hn := hM.held.near
  have hel : ∀ p ∈ acc, PrIn F 0 F.heap.size d p := fun p hp => by
    have hk : Kept 0 B W0 F := fun i _ hi => (hF.block i (by omega)).trans (hn.block i (by omega) (by omega))
    have hs := hn.size
    have := hM.els p hp
    exact ⟨Rd.imp hk (Nat.le_refl _) (by omega) (Nat.le_refl _) this.1, Rd.imp hk (Nat.le_refl _) (by omega) (Nat.le_refl _) this.2⟩
  have kv : ∀ b, w1.heap.size + 1 ≤ b → b < wr.heap.size → F.heap[b]? = wr.heap[b]? := fun b h1 h2 => hk (w.heap.size + 1) wr.heap.size (by omega) b (by omega) h2
  have rk := (hM.vl.keep (fun b _ h1 h2 => kv b h1 h2)).rdK hl hel
  have rv := (hM.vm.keep (fun b _ h1 h2 => kv b h1 h2)).rdV hl hel
  have e1 : (acc.map Pr.kv).map (·.1) = acc.map (·.x) := by rw [List.map_map]; rfl
  have e2 : (acc.map Pr.kv).map (·.2) = acc.map (·.y) := by rw [List.map_map]; rfl
  have e3 : mapV (acc.map Pr.kv) = .mk 7 0 ⟨#[]⟩ (acc.map (·.x)) (acc.map (·.y)) := by unfold mapV; rw [e1, e2]
  refine ⟨ps'.toList, AL, cL, AM, cM, hs, hf, ?_, ?_, ?_⟩
  · rw [← hacc, e3]
    simp [V.k, V.n, V.s, V.l, V.m]
  · rw [← hacc, e3]
    exact ⟨fld_mk _ _ (by decide) (by decide) (by decide) (by decide) (by decide), rk, rv⟩
  · exact ⟨hF.os.trans (hn.os.trans hb.os), hF.tape.trans (hn.tape.trans hb.tape), hF.output.trans (hn.output.trans hb.output), by rw [hsz]; have := hn.size; omega, fun i hi hne => (hF.block i hi).trans ((hn.block i (by omega) hne).trans (hb.block i hi))⟩

set_option maxHeartbeats 4000000 in
set_option maxRecDepth 100000 in
theorem mapOf_any (w : World) (g B d n : Nat) (ps : Array Pr) (h : Held w w g B d n ps) (hB : B ≤ g) (hg : g < w.heap.size) (hs : StableOk n) (hn : n ≤ 100000) :
    Calls Try.prog 40 #[.slice (some ⟨g, 0, none⟩) n n] w (MapPost w g B d ps) := by
  have H := Lib.hid h
  have HS := Lib.hid hs
  clear h hs
  go_enter Try.func40, Try.ntmps40
  go_wp2_with fail
  have k1 := Cell.new w (.int .i64 0) (.int .i64 0) (.string ⟨#[]⟩) (.slice none 0 0) (.slice none 0 0)
  generalize hW : World.alloc _ _ = W0
  have K1 : Hid (Cell W0 w.heap.size (.int .i64 0) (.int .i64 0) (.string ⟨#[]⟩) (.slice none 0 0) (.slice none 0 0)) := Lib.hid (by rw [← hW]; exact k1)
  have HB : Hid (Below w.heap.size w W0) := Lib.hid (by rw [← hW]; exact below_new _ _)
  have hzz : w.heap.size < W0.heap.size := by rw [← hW]; simp
  clear hW k1
  have hg0 : g < W0.heap.size := by omega
  refine (sortStable_any n HS.out W0 g B d n ps (H.out.rebase HB.out hB hg) hB hg0).mono ?_
  rintro e w1 ⟨rfl, ps', hh, hsrt, hfe⟩
  have HSR := Lib.hid hsrt
  have HFE := Lib.hid hfe
  have HH := Lib.hid hh
  have R1 := Lib.hid (K1.out.kept (hh.near.block w.heap.size hzz (by omega)))
  have hz1 : W0.heap.size ≤ w1.heap.size := hh.near.size
  clear hsrt hfe hh
  go_wp2_with fail
  have k2 := Cell.new w1 (.int .i64 7) (.int .i64 0) (.string ⟨#[]⟩) (.slice none 0 0) (.slice none 0 0)
  generalize hX : World.alloc w1 _ = X
  have hb2 : Below w1.heap.size w1 X := by rw [← hX]; exact below_new _ _
  have hzx : w1.heap.size < X.heap.size := by rw [← hX]; simp
  have M0 : Hid (Mid W0 X g B d n w1.heap.size w.heap.size ps' 0 [] none 0 none 0) := Lib.hid ⟨HH.out.below hb2 hg0, by rw [← hX]; exact k2, R1.out.below hb2 (by omega), VG.nil _ _ _, VG.nil _ _ _, (fun b h => by cases h), hzx, rfl, Nat.le_refl _, (by simp)⟩
  have N1 := Lib.hid HH.out.near
  clear hX k2 hb2
  go_loopw [12] (fun i wr => ∃ (k : Nat) (acc : List Pr) (AL : Option Addr) (cL : Nat) (AM : Option Addr) (cM : Nat), k ≤ n ∧ i = .int .i64 k ∧ Hid (Mid W0 wr g B d n w1.heap.size w.heap.size ps' k acc AL cL AM cM)) (fun i _ => n - (intOf i).toNat)
  case atStart => exact ⟨0, [], none, 0, none, 0, by omega, rfl, M0⟩
  case round =>
    obtain ⟨k, acc, AL, cL, AM, cM, hk, rfl, hM⟩ := hrel
    have hwr : w.heap.size < wr.heap.size := by have := hM.out.gmlt; omega
    have hlen := hM.out.len
    have hgm : w1.heap.size < wr.heap.size := hM.out.gmlt
    by_cases hlt : k < n
    · generalize hp : ps'[k]! = p
      obtain ⟨q0, q1, q2, q3, q4, q5, q6, q7, q8, q9, _, _, _, _, _, _, _, _, _, _⟩ := hM.out.held.ten k hlt hp
      have PI := Lib.hid (show PrIn W0 0 B d p by rw [← hp]; exact hM.out.held.els k hlt)
      have HP := Lib.hid hp
      obtain ⟨b0, b1, b2, b3, b4, _⟩ := hM.out.box
      clear hp
      have hl5 : acc.length ≤ 100000 := by omega
      by_cases hnil : acc.length = 0
      · have d1 : decide ((0 : Int) ≤ (acc.length : Int) - 1) = false := decide_eq_false (by omega)
        have d2 : decide ((1 : Int) ≤ (acc.length : Int)) = false := decide_eq_false (by omega)
        have d3 : decide (1 ≤ acc.length) = false := decide_eq_false (by omega)
        have d4 : ¬ (1 : Int) ≤ (acc.length : Int) := by omega
        have FOLD : Hid (acc ++ [p] = (ps'.toList.take (k + 1)).foldl gat []) := Lib.hid (by rw [fold_next ps' k (by rw [hM.out.held.sz]; exact hlt) hM.out.fold HP.out, show acc = [] from List.eq_nil_of_length_eq_zero hnil]; rfl)
        clear hnil
        go_wp2_with fail
        have pb1 := Box10.new wr p
        generalize hV : World.alloc wr _ = wv
        have PB0 : Hid (Box10 wv wr.heap.size p) := Lib.hid (by rw [← hV]; exact pb1)
        have BV : Hid (Below wr.heap.size wr wv) := Lib.hid (by rw [← hV]; exact below_new _ _)
        have hvz : wr.heap.size < wv.heap.size := by rw [← hV]; simp
        clear hV pb1
        go_quiet (fail)
        have MQ0 := Lib.hid ((hM.out.below BV.out hg0 hwr).below (below_drewN _ _ nq) hg0 (by omega))
        generalize hwq : World.drewN wv nq = wq at MQ0
        have PB : Hid (Box10 wq wr.heap.size p) := Lib.hid (by rw [← hwq]; exact PB0.out.kept rfl)
        have hpb : wr.heap.size < wq.heap.size := by rw [← hwq]; exact hvz
        have MQ := MQ0
        clear hwq MQ0
        have NL := Lib.hid (fun b e => Nat.ne_of_lt (hM.out.vl.lt b e).2)
        have NM := Lib.hid (fun b e => Nat.ne_of_lt (hM.out.vm.lt b e).2)
        generalize wr.heap.size = pb at PB hpb NL NM
        go_wp2_with fail
        have ST0 : Hid (St9 wq w1.heap.size pb acc AL cL AM cM p) := Lib.hid ⟨MQ.out.box, PB.out, MQ.out.vl, MQ.out.vm, MQ.out.sep, MQ.out.gmlt, hpb, NL.out, NM.out⟩
        have hgq : w1.heap.size + 1 ≤ wq.heap.size := MQ.out.gmlt
        have hgq' : w1.heap.size < wq.heap.size := MQ.out.gmlt
        have SQ : R9S w1.heap.size pb (.slice AL acc.length cL) (.slice AM acc.length cM) p wq.drew := ⟨ST0.out.pbx.kept rfl, ST0.out.box.c3, ST0.out.box.c4⟩
        have ST := Lib.hid (St9.drew ST0.out)
        have MD := Lib.hid (MQ.out.below (below_drewN _ _ 1) hg0 (by have := MQ.out.gmlt; omega))
        refine region_anyN (R9S w1.heap.size pb (.slice AL acc.length cL) (.slice AM acc.length cM) p) [13, 15] (by kernel_rfl) SQ (fun HS => ?_)
        clear SQ
        have HZ : wq.heap.size = wq.drew.heap.size := rfl
        rw [HZ] at hgq hgq' hpb
        clear HZ
        change Hid (Mid W0 wq.drew g B d n w1.heap.size w.heap.size ps' k acc AL cL AM cM) at MD
        generalize wq.drew = wd at *
        clear ST0 MQ
        refine anyN_take (i := 0) (oi := ({ dst := some 38, op := .fieldAddr 24 (.tmp 3) 3, type := 0, pos := "dict.go:45", after := #[], guard := none } : Oper)) (v := .pointer (some ⟨w1.heap.size, 3, none⟩)) [13, 15] rfl (by kernel_rfl) (by kernel_rfl) (by kernel_rfl) (by kernel_rfl) (fun _ _ _ h => h) (by rfl) (by rintro w' ⟨⟨t0, t1, t2, t3, t4, t5, t6, t7, t8, t9⟩, m3, m4⟩; go_simp) (by assumption) ?_
        try simp only [Act.put, List.setIfInBounds_toArray, List.set_cons_zero, List.set_cons_succ]
        refine anyN_take (i := 1) (oi := ({ dst := some 39, op := .load 22 (.tmp 38), type := 22, pos := "dict.go:45", after := #[{ on := 0, ground := .data }], guard := none } : Oper)) (v := .slice AL acc.length cL) [5, 11, 13, 15] rfl (by kernel_rfl) (by kernel_rfl) (by kernel_rfl) (by kernel_rfl) (fun _ _ _ h => h) (by rfl) (by rintro w' ⟨⟨t0, t1, t2, t3, t4, t5, t6, t7, t8, t9⟩, m3, m4⟩; go_simp) (by assumption) ?_
        try simp only [Act.put, List.setIfInBounds_toArray, List.set_cons_zero, List.set_cons_succ]
        refine anyN_take (i := 2) (oi := ({ dst := some 40, op := .fieldAddr 69 (.tmp 5) 0, type := 0, pos := "dict.go:45", after := #[], guard := none } : Oper)) (v := .pointer (some ⟨pb, 0, none⟩)) [13, 15] rfl (by kernel_rfl) (by kernel_rfl) (by kernel_rfl) (by kernel_rfl) (fun _ _ _ h => h) (by rfl) (by rintro w' ⟨⟨t0, t1, t2, t3, t4, t5, t6, t7, t8, t9⟩, m3, m4⟩; go_simp) (by assumption) ?_
        try simp only [Act.put, List.setIfInBounds_toArray, List.set_cons_zero, List.set_cons_succ]
        refine anyN_take (i := 3) (oi := ({ dst := some 41, op := .load 24 (.tmp 40), type := 24, pos := "dict.go:45", after := #[{ on := 2, ground := .data }], guard := none } : Oper)) (v := .agg #[.int .i64 p.x.k, .int .i64 p.x.n, .string p.x.s, .slice p.a1 p.x.l.length p.n1, .slice p.a2 p.x.m.length p.n2]) [4, 5, 11, 13, 15] rfl (by kernel_rfl) (by kernel_rfl) (by kernel_rfl) (by kernel_rfl) (fun _ _ _ h => h) (by rfl) (by rintro w' ⟨⟨t0, t1, t2, t3, t4, t5, t6, t7, t8, t9⟩, m3, m4⟩; go_simp) (by assumption) ?_
        try simp only [Act.put, List.setIfInBounds_toArray, List.set_cons_zero, List.set_cons_succ]
        refine anyN_take (i := 6) (oi := ({ dst := some 44, op := .fieldAddr 24 (.tmp 3) 4, type := 0, pos := "dict.go:45", after := #[], guard := none } : Oper)) (v := .pointer (some ⟨w1.heap.size, 4, none⟩)) [13, 15] rfl (by kernel_rfl) (by kernel_rfl) (by kernel_rfl) (by kernel_rfl) (fun _ _ _ h => h) (by rfl) (by rintro w' ⟨⟨t0, t1, t2, t3, t4, t5, t6, t7, t8, t9⟩, m3, m4⟩; go_simp) (by assumption) ?_
        try simp only [Act.put, List.setIfInBounds_toArray, List.set_cons_zero, List.set_cons_succ]
        refine anyN_take (i := 7) (oi := ({ dst := some 45, op := .load 22 (.tmp 44), type := 22, pos := "dict.go:45", after := #[{ on := 6, ground := .data }], guard := none } : Oper)) (v := .slice AM acc.length cM) [11, 13, 15] rfl (by kernel_rfl) (by kernel_rfl) (by kernel_rfl) (by kernel_rfl) (fun _ _ _ h => h) (by rfl) (by rintro w' ⟨⟨t0, t1, t2, t3, t4, t5, t6, t7, t8, t9⟩, m3, m4⟩; go_simp) (by assumption) ?_
        try simp only [Act.put, List.setIfInBounds_toArray, List.set_cons_zero, List.set_cons_succ]
        refine anyN_take (i := 8) (oi := ({ dst := some 46, op := .fieldAddr 69 (.tmp 5) 1, type := 0, pos := "dict.go:45", after := #[], guard := none } : Oper)) (v := .pointer (some ⟨pb, 5, none⟩)) [9, 10, 11, 13, 15] rfl (by kernel_rfl) (by kernel_rfl) (by kernel_rfl) (by kernel_rfl) (fun _ _ _ h => h) (by rfl) (by rintro w' ⟨⟨t0, t1, t2, t3, t4, t5, t6, t7, t8, t9⟩, m3, m4⟩; go_simp) (by assumption) ?_
        try simp only [Act.put, List.setIfInBounds_toArray, List.set_cons_zero, List.set_cons_succ]
        refine anyN_take (i := 9) (oi := ({ dst := some 47, op := .load 24 (.tmp 46), type := 24, pos := "dict.go:45", after := #[{ on := 8, ground := .data }], guard := none } : Oper)) (v := .agg #[.int .i64 p.y.k, .int .i64 p.y.n, .string p.y.s, .slice p.a3 p.y.l.length p.n3, .slice p.a4 p.y.m.length p.n4]) [10, 11, 13, 15] rfl (by kernel_rfl) (by kernel_rfl) (by kernel_rfl) (by kernel_rfl) (fun _ _ _ h => h) (by rfl) (by rintro w' ⟨⟨t0, t1, t2, t3, t4, t5, t6, t7, t8, t9⟩, m3, m4⟩; go_simp) (by assumption) ?_
        try simp only [Act.put, List.setIfInBounds_toArray, List.set_cons_zero, List.set_cons_succ]
        refine anyN_two (i := 4) (i' := 10) (o := ({ dst := some 42, op := .buildSlice 22 1 #[(0, .tmp 41)], type := 22, pos := "dict.go:45", after := #[{ on := 3, ground := .data }], guard := none } : Oper)) (o' := ({ dst := some 48, op := .buildSlice 22 1 #[(0, .tmp 47)], type := 22, pos := "dict.go:45", after := #[{ on := 9, ground := .data }], guard := none } : Oper)) (by kernel_rfl) rfl rfl (fun K hK => ?_) (fun K hK => ?_)
        · go_simp
          have S1 := HS.below (below_new _ (.cells #[.int .i64 p.x.k, .int .i64 p.x.n, .string p.x.s, .slice p.a1 p.x.l.length p.n1, .slice p.a2 p.x.m.length p.n2] 24)) hgq' hpb
          refine hK.out _ _ (fun _ => S1) ?_
          clear hK K
          try simp only [Act.put, List.setIfInBounds_toArray, List.set_cons_zero, List.set_cons_succ]
          refine anyN_two (i := 5) (i' := 10) (o := ({ dst := some 43, op := .call { callee := .builtin .append, args := #[.tmp 39, .tmp 42], argTypes := #[22, 22] }, type := 22, pos := "dict.go:45", after := #[{ on := 1, ground := .data }, { on := 4, ground := .data }], guard := none } : Oper)) (o' := ({ dst := some 48, op := .buildSlice 22 1 #[(0, .tmp 47)], type := 22, pos := "dict.go:45", after := #[{ on := 9, ground := .data }], guard := none } : Oper)) (by kernel_rfl) rfl rfl (fun K hK => ?_) (fun K hK => ?_)
          · refine step_append_VG (by rfl) (.tmp 39) (.tmp 42) (by rfl) (w1.heap.size + 1) AL cL Pr.kc acc p (by simp [Act.eval]) (ST.out.vl.below (below_new _ _)) ⟨wd.heap.size, 0, none⟩ (by simp [Act.eval]) (newsk1 wd p) (kc_len _) (kc_one _) hl5 (Nat.le_trans hgq ((below_new _ _)).size) ?_
            intro gL cL' wA hvA hgA hatA hltA
            obtain ⟨hcA, hpA, hmA, hlA, hsA⟩ := ST.out.first (below_new _ _) hgA
            have SA : R9S w1.heap.size pb (.slice AL acc.length cL) (.slice AM acc.length cM) p wA := ⟨hpA, hcA.c3, hcA.c4⟩
            have HCA := Lib.hid hcA
            have HPA := Lib.hid hpA
            have HMA := Lib.hid hmA
            have HBW := Lib.hid (below_of hgA (below_new _ _))
            have HVA := Lib.hid hvA
            have HGA := Lib.hid hgA
            have HAT := Lib.hid hatA
            have HLT := Lib.hid hltA
            clear hvA hgA hatA hcA hpA hmA
            refine hK.out _ _ (fun _ => SA) ?_
            clear hK K
            try simp only [Act.put, List.setIfInBounds_toArray, List.set_cons_zero, List.set_cons_succ]
            refine anyN_take (i := 12) (oi := ({ dst := some 50, op := .fieldAddr 24 (.tmp 3) 3, type := 0, pos := "dict.go:45", after := #[{ on := 0, ground := .phase }, { on := 1, ground := .phase }, { on := 2, ground := .phase }, { on := 3, ground := .phase }, { on := 4, ground := .phase }, { on := 5, ground := .phase }, { on := 6, ground := .phase }, { on := 7, ground := .phase }, { on := 8, ground := .textOnly .lateStores }, { on := 9, ground := .textOnly .lateStores }, { on := 10, ground := .textOnly .lateStores }, { on := 11, ground := .textOnly .lateStoresUnsure }], guard := none } : Oper)) (v := .pointer (some ⟨w1.heap.size, 3, none⟩)) [13, 15] rfl (by kernel_rfl) (by kernel_rfl) (by kernel_rfl) (by kernel_rfl) (fun _ _ _ h => h) (by rfl) (by rintro w' ⟨⟨t0, t1, t2, t3, t4, t5, t6, t7, t8, t9⟩, m3, m4⟩; go_simp) SA ?_
            try simp only [Act.put, List.setIfInBounds_toArray, List.set_cons_zero, List.set_cons_succ]
            refine anyN_one (i := 10) (o := ({ dst := some 48, op := .buildSlice 22 1 #[(0, .tmp 47)], type := 22, pos := "dict.go:45", after := #[{ on := 9, ground := .data }], guard := none } : Oper)) (by kernel_rfl) rfl (fun K hK => ?_)
            go_simp
            have SX := SA.below (below_new _ (.cells #[.int .i64 p.y.k, .int .i64 p.y.n, .string p.y.s, .slice p.a3 p.y.l.length p.n3, .slice p.a4 p.y.m.length p.n4] 24)) hlA (Nat.lt_of_lt_of_le hpb hsA)
            refine hK.out _ _ (fun _ => SX) ?_
            clear hK K
            try simp only [Act.put, List.setIfInBounds_toArray, List.set_cons_zero, List.set_cons_succ]
            refine anyN_one (i := 11) (o := ({ dst := some 49, op := .call { callee := .builtin .append, args := #[.tmp 45, .tmp 48], argTypes := #[22, 22] }, type := 22, pos := "dict.go:45", after := #[{ on := 7, ground := .data }, { on := 10, ground := .data }, { on := 5, ground := .chain }], guard := none } : Oper)) (by kernel_rfl) rfl (fun K hK => ?_)
            refine step_append_VG (by rfl) (.tmp 45) (.tmp 48) (by rfl) (w1.heap.size + 1) AM cM Pr.vc acc p (by simp [Act.eval]) (HMA.out.below (below_new _ _)) ⟨wA.heap.size, 0, none⟩ (by simp [Act.eval]) (newsV1 wA p) (vc_len _) (vc_one _) hl5 (Nat.le_trans hlA ((below_new _ _)).size) ?_
            intro gM cM' wB hvB hgB hatB hltB
            obtain ⟨hcB, hpB⟩ := ST.out.second (HCA.out.below (below_new _ _) hlA) (HPA.out.kept (((below_new _ _)).block pb (Nat.lt_of_lt_of_le ST.out.pblt hsA))) (Nat.lt_of_lt_of_le hlA ((below_new _ _)).size) (Nat.le_trans hsA ((below_new _ _)).size) hgB
            have HBX := Lib.hid (below_of hgB (below_new _ _))
            have HVB := Lib.hid hvB
            have HGB := Lib.hid hgB
            have HATB := Lib.hid hatB
            clear hvB hgB hatB hltB
            refine hK.out _ _ (fun _ => ⟨hpB, hcB.c3, hcB.c4⟩) ?_
            clear hK K
            try simp only [Act.put, List.setIfInBounds_toArray, List.set_cons_zero, List.set_cons_succ]
            obtain ⟨x0, x1, x2, x3, x4, y0, y1, y2, y3, y4, _⟩ := hcB
            clear hpB
            refine anyN_one (i := 13) (o := ({ dst := none, op := .store 22 (.tmp 50) (.tmp 43), type := 0, pos := "dict.go:45", after := #[{ on := 12, ground := .data }, { on := 5, ground := .data }, { on := 11, ground := .chain }, { on := 0, ground := .phase }, { on := 1, ground := .phase }, { on := 2, ground := .phase }, { on := 3, ground := .phase }, { on := 4, ground := .phase }, { on := 5, ground := .phase }, { on := 6, ground := .phase }, { on := 7, ground := .phase }, { on := 8, ground := .textOnly .lateStores }, { on := 9, ground := .textOnly .lateStores }, { on := 10, ground := .textOnly .lateStores }, { on := 11, ground := .textOnly .lateStoresUnsure }], guard := none } : Oper)) (by kernel_rfl) rfl (fun K hK => ?_)
            go_simp
            refine hK.out _ _ (fun h => absurd h (by decide +kernel)) ?_
            clear hK K
            try simp only [Act.put, List.setIfInBounds_toArray, List.set_cons_zero, List.set_cons_succ]
            refine anyN_one (i := 14) (o := ({ dst := some 51, op := .fieldAddr 24 (.tmp 3) 4, type := 0, pos := "dict.go:45", after := #[{ on := 0, ground := .phase }, { on := 1, ground := .phase }, { on := 2, ground := .phase }, { on := 3, ground := .phase }, { on := 4, ground := .phase }, { on := 5, ground := .phase }, { on := 6, ground := .phase }, { on := 7, ground := .phase }, { on := 8, ground := .phase }, { on := 9, ground := .phase }, { on := 10, ground := .phase }, { on := 11, ground := .phase }, { on := 12, ground := .phase }, { on := 13, ground := .phase }], guard := none } : Oper)) (by kernel_rfl) rfl (fun K hK => ?_)
            go_simp
            refine hK.out _ _ (fun h => absurd h (by decide +kernel)) ?_
            clear hK K
            try simp only [Act.put, List.setIfInBounds_toArray, List.set_cons_zero, List.set_cons_succ]
            refine anyN_one (i := 15) (o := ({ dst := none, op := .store 22 (.tmp 51) (.tmp 49), type := 0, pos := "dict.go:45", after := #[{ on := 14, ground := .data }, { on := 11, ground := .data }, { on := 13, ground := .chain }, { on := 0, ground := .phase }, { on := 1, ground := .phase }, { on := 2, ground := .phase }, { on := 3, ground := .phase }, { on := 4, ground := .phase }, { on := 5, ground := .phase }, { on := 6, ground := .phase }, { on := 7, ground := .phase }, { on := 8, ground := .phase }, { on := 9, ground := .phase }, { on := 10, ground := .phase }, { on := 11, ground := .phase }, { on := 12, ground := .phase }, { on := 13, ground := .phase }], guard := none } : Oper)) (by kernel_rfl) rfl (fun K hK => ?_)
            go_simp
            refine hK.out _ _ (fun h => absurd h (by decide +kernel)) ?_
            clear hK K
            try simp only [Act.put, List.setIfInBounds_toArray, List.set_cons_zero, List.set_cons_succ]
            refine anyN_done (by kernel_rfl) ?_ _
            have PUSH := Lib.hid (Mid.push MD.out ST.out hz1 hg0 (by omega) HBW.out HVA.out HGA.out HAT.out HLT.out HBX.out HVB.out HGB.out HATB.out FOLD.out PI.out)
            go_wp2
            go_roundw
            case rel => exact ⟨k + 1, acc ++ [p], some ⟨gL, 0, none⟩, cL', some ⟨gM, 0, none⟩, cM', by omega, by go_num, PUSH⟩
            case measure => simp [intOf]; omega
          · go_simp
            have S2 := S1.below (below_new _ (.cells #[.int .i64 p.y.k, .int .i64 p.y.n, .string p.y.s, .slice p.a3 p.y.l.length p.n3, .slice p.a4 p.y.m.length p.n4] 24)) (by simp; omega) (by simp; omega)
            refine hK.out _ _ (fun _ => S2) ?_
            clear hK K
            try simp only [Act.put, List.setIfInBounds_toArray, List.set_cons_zero, List.set_cons_succ]
            refine anyN_one (i := 5) (o := ({ dst := some 43, op := .call { callee := .builtin .append, args := #[.tmp 39, .tmp 42], argTypes := #[22, 22] }, type := 22, pos := "dict.go:45", after := #[{ on := 1, ground := .data }, { on := 4, ground := .data }], guard := none } : Oper)) (by kernel_rfl) rfl (fun K hK => ?_)
            refine step_append_VG (by rfl) (.tmp 39) (.tmp 42) (by rfl) (w1.heap.size + 1) AL cL Pr.kc acc p (by simp [Act.eval]) (ST.out.vl.below (below_new2 _ _ _)) ⟨wd.heap.size, 0, none⟩ (by simp [Act.eval]) (newsk2 wd p _) (kc_len _) (kc_one _) hl5 (Nat.le_trans hgq ((below_new2 _ _ _)).size) ?_
            intro gL cL' wA hvA hgA hatA hltA
            obtain ⟨hcA, hpA, hmA, hlA, hsA⟩ := ST.out.first (below_new2 _ _ _) hgA
            have SA : R9S w1.heap.size pb (.slice AL acc.length cL) (.slice AM acc.length cM) p wA := ⟨hpA, hcA.c3, hcA.c4⟩
            have HCA := Lib.hid hcA
            have HPA := Lib.hid hpA
            have HMA := Lib.hid hmA
            have NVA := Lib.hid (news_far (newsv3 wd p _) hgA (by simp <;> omega) (fun e => by have := (ST.out.vl.lt _ e.symm).2; omega))
            have HBW := Lib.hid (below_of hgA (below_new2 _ _ _))
            have HVA := Lib.hid hvA
            have HGA := Lib.hid hgA
            have HAT := Lib.hid hatA
            have HLT := Lib.hid hltA
            clear hvA hgA hatA hcA hpA hmA
            refine hK.out _ _ (fun _ => SA) ?_
            clear hK K
            try simp only [Act.put, List.setIfInBounds_toArray, List.set_cons_zero, List.set_cons_succ]
            refine anyN_take (i := 12) (oi := ({ dst := some 50, op := .fieldAddr 24 (.tmp 3) 3, type := 0, pos := "dict.go:45", after := #[{ on := 0, ground := .phase }, { on := 1, ground := .phase }, { on := 2, ground := .phase }, { on := 3, ground := .phase }, { on := 4, ground := .phase }, { on := 5, ground := .phase }, { on := 6, ground := .phase }, { on := 7, ground := .phase }, { on := 8, ground := .textOnly .lateStores }, { on := 9, ground := .textOnly .lateStores }, { on := 10, ground := .textOnly .lateStores }, { on := 11, ground := .textOnly .lateStoresUnsure }], guard := none } : Oper)) (v := .pointer (some ⟨w1.heap.size, 3, none⟩)) [13, 15] rfl (by kernel_rfl) (by kernel_rfl) (by kernel_rfl) (by kernel_rfl) (fun _ _ _ h => h) (by rfl) (by rintro w' ⟨⟨t0, t1, t2, t3, t4, t5, t6, t7, t8, t9⟩, m3, m4⟩; go_simp) SA ?_
            try simp only [Act.put, List.setIfInBounds_toArray, List.set_cons_zero, List.set_cons_succ]
            refine anyN_one (i := 11) (o := ({ dst := some 49, op := .call { callee := .builtin .append, args := #[.tmp 45, .tmp 48], argTypes := #[22, 22] }, type := 22, pos := "dict.go:45", after := #[{ on := 7, ground := .data }, { on := 10, ground := .data }, { on := 5, ground := .chain }], guard := none } : Oper)) (by kernel_rfl) rfl (fun K hK => ?_)
            refine step_append_VG (by rfl) (.tmp 45) (.tmp 48) (by rfl) (w1.heap.size + 1) AM cM Pr.vc acc p (by simp [Act.eval]) (HMA.out.below (Below.refl wA.heap.size wA)) ⟨wd.heap.size + 1, 0, none⟩ (by simp [Act.eval]) (NVA.out) (vc_len _) (vc_one _) hl5 (Nat.le_trans hlA ((Below.refl wA.heap.size wA)).size) ?_
            intro gM cM' wB hvB hgB hatB hltB
            obtain ⟨hcB, hpB⟩ := ST.out.second (HCA.out.below (Below.refl wA.heap.size wA) hlA) (HPA.out.kept (((Below.refl wA.heap.size wA)).block pb (Nat.lt_of_lt_of_le ST.out.pblt hsA))) (Nat.lt_of_lt_of_le hlA ((Below.refl wA.heap.size wA)).size) (Nat.le_trans hsA ((Below.refl wA.heap.size wA)).size) hgB
            have HBX := Lib.hid (below_of hgB (Below.refl wA.heap.size wA))
            have HVB := Lib.hid hvB
            have HGB := Lib.hid hgB
            have HATB := Lib.hid hatB
            clear hvB hgB hatB hltB
            refine hK.out _ _ (fun _ => ⟨hpB, hcB.c3, hcB.c4⟩) ?_
            clear hK K
            try simp only [Act.put, List.setIfInBounds_toArray, List.set_cons_zero, List.set_cons_succ]
            obtain ⟨x0, x1, x2, x3, x4, y0, y1, y2, y3, y4, _⟩ := hcB
            clear hpB
            refine anyN_one (i := 13) (o := ({ dst := none, op := .store 22 (.tmp 50) (.tmp 43), type := 0, pos := "dict.go:45", after := #[{ on := 12, ground := .data }, { on := 5, ground := .data }, { on := 11, ground := .chain }, { on := 0, ground := .phase }, { on := 1, ground := .phase }, { on := 2, ground := .phase }, { on := 3, ground := .phase }, { on := 4, ground := .phase }, { on := 5, ground := .phase }, { on := 6, ground := .phase }, { on := 7, ground := .phase }, { on := 8, ground := .textOnly .lateStores }, { on := 9, ground := .textOnly .lateStores }, { on := 10, ground := .textOnly .lateStores }, { on := 11, ground := .textOnly .lateStoresUnsure }], guard := none } : Oper)) (by kernel_rfl) rfl (fun K hK => ?_)
            go_simp
            refine hK.out _ _ (fun h => absurd h (by decide +kernel)) ?_
            clear hK K
            try simp only [Act.put, List.setIfInBounds_toArray, List.set_cons_zero, List.set_cons_succ]
            refine anyN_one (i := 14) (o := ({ dst := some 51, op := .fieldAddr 24 (.tmp 3) 4, type := 0, pos := "dict.go:45", after := #[{ on := 0, ground := .phase }, { on := 1, ground := .phase }, { on := 2, ground := .phase }, { on := 3, ground := .phase }, { on := 4, ground := .phase }, { on := 5, ground := .phase }, { on := 6, ground := .phase }, { on := 7, ground := .phase }, { on := 8, ground := .phase }, { on := 9, ground := .phase }, { on := 10, ground := .phase }, { on := 11, ground := .phase }, { on := 12, ground := .phase }, { on := 13, ground := .phase }], guard := none } : Oper)) (by kernel_rfl) rfl (fun K hK => ?_)
            go_simp
            refine hK.out _ _ (fun h => absurd h (by decide +kernel)) ?_
            clear hK K
            try simp only [Act.put, List.setIfInBounds_toArray, List.set_cons_zero, List.set_cons_succ]
            refine anyN_one (i := 15) (o := ({ dst := none, op := .store 22 (.tmp 51) (.tmp 49), type := 0, pos := "dict.go:45", after := #[{ on := 14, ground := .data }, { on := 11, ground := .data }, { on := 13, ground := .chain }, { on := 0, ground := .phase }, { on := 1, ground := .phase }, { on := 2, ground := .phase }, { on := 3, ground := .phase }, { on := 4, ground := .phase }, { on := 5, ground := .phase }, { on := 6, ground := .phase }, { on := 7, ground := .phase }, { on := 8, ground := .phase }, { on := 9, ground := .phase }, { on := 10, ground := .phase }, { on := 11, ground := .phase }, { on := 12, ground := .phase }, { on := 13, ground := .phase }], guard := none } : Oper)) (by kernel_rfl) rfl (fun K hK => ?_)
            go_simp
            refine hK.out _ _ (fun h => absurd h (by decide +kernel)) ?_
            clear hK K
            try simp only [Act.put, List.setIfInBounds_toArray, List.set_cons_zero, List.set_cons_succ]
            refine anyN_done (by kernel_rfl) ?_ _
            have PUSH := Lib.hid (Mid.push MD.out ST.out hz1 hg0 (by omega) HBW.out HVA.out HGA.out HAT.out HLT.out HBX.out HVB.out HGB.out HATB.out FOLD.out PI.out)
            go_wp2
            go_roundw
            case rel => exact ⟨k + 1, acc ++ [p], some ⟨gL, 0, none⟩, cL', some ⟨gM, 0, none⟩, cM', by omega, by go_num, PUSH⟩
            case measure => simp [intOf]; omega
        · go_simp
          have S1 := HS.below (below_new _ (.cells #[.int .i64 p.y.k, .int .i64 p.y.n, .string p.y.s, .slice p.a3 p.y.l.length p.n3, .slice p.a4 p.y.m.length p.n4] 24)) hgq' hpb
          refine hK.out _ _ (fun _ => S1) ?_
          clear hK K
          try simp only [Act.put, List.setIfInBounds_toArray, List.set_cons_zero, List.set_cons_succ]
          refine anyN_one (i := 4) (o := ({ dst := some 42, op := .buildSlice 22 1 #[(0, .tmp 41)], type := 22, pos := "dict.go:45", after := #[{ on := 3, ground := .data }], guard := none } : Oper)) (by kernel_rfl) rfl (fun K hK => ?_)
          go_simp
          have S2 := S1.below (below_new _ (.cells #[.int .i64 p.x.k, .int .i64 p.x.n, .string p.x.s, .slice p.a1 p.x.l.length p.n1, .slice p.a2 p.x.m.length p.n2] 24)) (by simp; omega) (by simp; omega)
          refine hK.out _ _ (fun _ => S2) ?_
          clear hK K
          try simp only [Act.put, List.setIfInBounds_toArray, List.set_cons_zero, List.set_cons_succ]
          refine anyN_one (i := 5) (o := ({ dst := some 43, op := .call { callee := .builtin .append, args := #[.tmp 39, .tmp 42], argTypes := #[22, 22] }, type := 22, pos := "dict.go:45", after := #[{ on := 1, ground := .data }, { on := 4, ground := .data }], guard := none } : Oper)) (by kernel_rfl) rfl (fun K hK => ?_)
          refine step_append_VG (by rfl) (.tmp 39) (.tmp 42) (by rfl) (w1.heap.size + 1) AL cL Pr.kc acc p (by simp [Act.eval]) (ST.out.vl.below (below_new2 _ _ _)) ⟨wd.heap.size + 1, 0, none⟩ (by simp [Act.eval]) (newsk3 wd p _) (kc_len _) (kc_one _) hl5 (Nat.le_trans hgq ((below_new2 _ _ _)).size) ?_
          intro gL cL' wA hvA hgA hatA hltA
          obtain ⟨hcA, hpA, hmA, hlA, hsA⟩ := ST.out.first (below_new2 _ _ _) hgA
          have SA : R9S w1.heap.size pb (.slice AL acc.length cL) (.slice AM acc.length cM) p wA := ⟨hpA, hcA.c3, hcA.c4⟩
          have HCA := Lib.hid hcA
          have HPA := Lib.hid hpA
          have HMA := Lib.hid hmA
          have NVA := Lib.hid (news_far (newsv2 wd p _) hgA (by simp <;> omega) (fun e => by have := (ST.out.vl.lt _ e.symm).2; omega))
          have HBW := Lib.hid (below_of hgA (below_new2 _ _ _))
          have HVA := Lib.hid hvA
          have HGA := Lib.hid hgA
          have HAT := Lib.hid hatA
          have HLT := Lib.hid hltA
          clear hvA hgA hatA hcA hpA hmA
          refine hK.out _ _ (fun _ => SA) ?_
          clear hK K
          try simp only [Act.put, List.setIfInBounds_toArray, List.set_cons_zero, List.set_cons_succ]
          refine anyN_take (i := 12) (oi := ({ dst := some 50, op := .fieldAddr 24 (.tmp 3) 3, type := 0, pos := "dict.go:45", after := #[{ on := 0, ground := .phase }, { on := 1, ground := .phase }, { on := 2, ground := .phase }, { on := 3, ground := .phase }, { on := 4, ground := .phase }, { on := 5, ground := .phase }, { on := 6, ground := .phase }, { on := 7, ground := .phase }, { on := 8, ground := .textOnly .lateStores }, { on := 9, ground := .textOnly .lateStores }, { on := 10, ground := .textOnly .lateStores }, { on := 11, ground := .textOnly .lateStoresUnsure }], guard := none } : Oper)) (v := .pointer (some ⟨w1.heap.size, 3, none⟩)) [13, 15] rfl (by kernel_rfl) (by kernel_rfl) (by kernel_rfl) (by kernel_rfl) (fun _ _ _ h => h) (by rfl) (by rintro w' ⟨⟨t0, t1, t2, t3, t4, t5, t6, t7, t8, t9⟩, m3, m4⟩; go_simp) SA ?_
          try simp only [Act.put, List.setIfInBounds_toArray, List.set_cons_zero, List.set_cons_succ]
          refine anyN_one (i := 11) (o := ({ dst := some 49, op := .call { callee := .builtin .append, args := #[.tmp 45, .tmp 48], argTypes := #[22, 22] }, type := 22, pos := "dict.go:45", after := #[{ on := 7, ground := .data }, { on := 10, ground := .data }, { on := 5, ground := .chain }], guard := none } : Oper)) (by kernel_rfl) rfl (fun K hK => ?_)
          refine step_append_VG (by rfl) (.tmp 45) (.tmp 48) (by rfl) (w1.heap.size + 1) AM cM Pr.vc acc p (by simp [Act.eval]) (HMA.out.below (Below.refl wA.heap.size wA)) ⟨wd.heap.size, 0, none⟩ (by simp [Act.eval]) (NVA.out) (vc_len _) (vc_one _) hl5 (Nat.le_trans hlA ((Below.refl wA.heap.size wA)).size) ?_
          intro gM cM' wB hvB hgB hatB hltB
          obtain ⟨hcB, hpB⟩ := ST.out.second (HCA.out.below (Below.refl wA.heap.size wA) hlA) (HPA.out.kept (((Below.refl wA.heap.size wA)).block pb (Nat.lt_of_lt_of_le ST.out.pblt hsA))) (Nat.lt_of_lt_of_le hlA ((Below.refl wA.heap.size wA)).size) (Nat.le_trans hsA ((Below.refl wA.heap.size wA)).size) hgB
          have HBX := Lib.hid (below_of hgB (Below.refl wA.heap.size wA))
          have HVB := Lib.hid hvB
          have HGB := Lib.hid hgB
          have HATB := Lib.hid hatB
          clear hvB hgB hatB hltB
          refine hK.out _ _ (fun _ => ⟨hpB, hcB.c3, hcB.c4⟩) ?_
          clear hK K
          try simp only [Act.put, List.setIfInBounds_toArray, List.set_cons_zero, List.set_cons_succ]
          obtain ⟨x0, x1, x2, x3, x4, y0, y1, y2, y3, y4, _⟩ := hcB
          clear hpB
          refine anyN_one (i := 13) (o := ({ dst := none, op := .store 22 (.tmp 50) (.tmp 43), type := 0, pos := "dict.go:45", after := #[{ on := 12, ground := .data }, { on := 5, ground := .data }, { on := 11, ground := .chain }, { on := 0, ground := .phase }, { on := 1, ground := .phase }, { on := 2, ground := .phase }, { on := 3, ground := .phase }, { on := 4, ground := .phase }, { on := 5, ground := .phase }, { on := 6, ground := .phase }, { on := 7, ground := .phase }, { on := 8, ground := .textOnly .lateStores }, { on := 9, ground := .textOnly .lateStores }, { on := 10, ground := .textOnly .lateStores }, { on := 11, ground := .textOnly .lateStoresUnsure }], guard := none } : Oper)) (by kernel_rfl) rfl (fun K hK => ?_)
          go_simp
          refine hK.out _ _ (fun h => absurd h (by decide +kernel)) ?_
          clear hK K
          try simp only [Act.put, List.setIfInBounds_toArray, List.set_cons_zero, List.set_cons_succ]
          refine anyN_one (i := 14) (o := ({ dst := some 51, op := .fieldAddr 24 (.tmp 3) 4, type := 0, pos := "dict.go:45", after := #[{ on := 0, ground := .phase }, { on := 1, ground := .phase }, { on := 2, ground := .phase }, { on := 3, ground := .phase }, { on := 4, ground := .phase }, { on := 5, ground := .phase }, { on := 6, ground := .phase }, { on := 7, ground := .phase }, { on := 8, ground := .phase }, { on := 9, ground := .phase }, { on := 10, ground := .phase }, { on := 11, ground := .phase }, { on := 12, ground := .phase }, { on := 13, ground := .phase }], guard := none } : Oper)) (by kernel_rfl) rfl (fun K hK => ?_)
          go_simp
          refine hK.out _ _ (fun h => absurd h (by decide +kernel)) ?_
          clear hK K
          try simp only [Act.put, List.setIfInBounds_toArray, List.set_cons_zero, List.set_cons_succ]
          refine anyN_one (i := 15) (o := ({ dst := none, op := .store 22 (.tmp 51) (.tmp 49), type := 0, pos := "dict.go:45", after := #[{ on := 14, ground := .data }, { on := 11, ground := .data }, { on := 13, ground := .chain }, { on := 0, ground := .phase }, { on := 1, ground := .phase }, { on := 2, ground := .phase }, { on := 3, ground := .phase }, { on := 4, ground := .phase }, { on := 5, ground := .phase }, { on := 6, ground := .phase }, { on := 7, ground := .phase }, { on := 8, ground := .phase }, { on := 9, ground := .phase }, { on := 10, ground := .phase }, { on := 11, ground := .phase }, { on := 12, ground := .phase }, { on := 13, ground := .phase }], guard := none } : Oper)) (by kernel_rfl) rfl (fun K hK => ?_)
          go_simp
          refine hK.out _ _ (fun h => absurd h (by decide +kernel)) ?_
          clear hK K
          try simp only [Act.put, List.setIfInBounds_toArray, List.set_cons_zero, List.set_cons_succ]
          refine anyN_done (by kernel_rfl) ?_ _
          have PUSH := Lib.hid (Mid.push MD.out ST.out hz1 hg0 (by omega) HBW.out HVA.out HGA.out HAT.out HLT.out HBX.out HVB.out HGB.out HATB.out FOLD.out PI.out)
          go_wp2
          go_roundw
          case rel => exact ⟨k + 1, acc ++ [p], some ⟨gL, 0, none⟩, cL', some ⟨gM, 0, none⟩, cM', by omega, by go_num, PUSH⟩
          case measure => simp [intOf]; omega
      · obtain ⟨acc0, q, HACC⟩ : ∃ acc0 q, Hid (acc = acc0 ++ [q]) := ⟨acc.dropLast, acc.getLast (fun e => hnil (by rw [e]; rfl)), Lib.hid (List.dropLast_concat_getLast _).symm⟩
        obtain ⟨m, HLM⟩ : ∃ m, Hid (acc0.length = m) := ⟨_, Lib.hid rfl⟩
        have hlm : acc.length = m + 1 := by rw [HACC.out, ← HLM.out]; simp
        have d1 : decide ((0 : Int) ≤ (acc.length : Int) - 1) = true := decide_eq_true (by omega)
        have d2 : decide ((1 : Int) ≤ (acc.length : Int)) = true := decide_eq_true (by omega)
        have d3 : decide (1 ≤ acc.length) = true := decide_eq_true (by omega)
        have d4 : (1 : Int) ≤ (acc.length : Int) := by omega
        have d5 : (acc.length : Int) - 1 < (acc.length : Int) := by omega
        have d6 : (0 : Int) ≤ (acc.length : Int) - 1 := by omega
        have e0 : ((acc.length : Int) - 1).toNat = m := by omega
        have hl1 : 1 ≤ acc.length := by omega
        have hl6 : (acc.length : Int) ≤ 100000 := by omega
        clear hnil
        have HLM1 := Lib.hid hlm
        clear hlm
        obtain ⟨gL0, hAL, hgLb, hgLs, hbL, hcL, hcl⟩ := VG.last (acc0 := acc0) (q := q) (by rw [← HACC.out]; exact hM.out.vl)
        obtain ⟨gM0, hAM, hgMb, hgMs, hbM, hcM, hcm⟩ := VG.last (acc0 := acc0) (q := q) (by rw [← HACC.out]; exact hM.out.vm)
        subst hAL; subst hAM
        rw [HLM.out] at hcl hcm
        have HCL := Lib.hid hcl
        have HCMM := Lib.hid hcm
        have HBM := Lib.hid hbM
        have hcM1 : m + 1 ≤ cM := by have := HLM.out; omega
        have QI := Lib.hid (show PrIn W0 0 B d q from hM.out.els q (by rw [HACC.out]; simp))
        clear hbL hbM hcl hcm hcL hcM
        go_wp2_with fail
        have pb1 := Box10.new wr p
        generalize hV : World.alloc wr _ = wv
        have PB0 : Hid (Box10 wv wr.heap.size p) := Lib.hid (by rw [← hV]; exact pb1)
        have BV : Hid (Below wr.heap.size wr wv) := Lib.hid (by rw [← hV]; exact below_new _ _)
        have hvz : wr.heap.size < wv.heap.size := by rw [← hV]; simp
        clear hV pb1
        have MV := Lib.hid (hM.out.below BV.out hg0 hwr)
        have BL := fun j (hj : j < 5) => (BV.out.cell (p := ⟨gL0, m * 5 + j, none⟩) hgLs).trans (HCL.out j hj)
        have l0 := cell_regrown (show wv.cell? ⟨gL0, m * 5, none⟩ = some (.int .i64 q.x.k) from BL 0 (by omega))
        have l1 := cell_regrown (show wv.cell? ⟨gL0, m * 5 + 1, none⟩ = some (.int .i64 q.x.n) from BL 1 (by omega))
        have l2 := cell_regrown (show wv.cell? ⟨gL0, m * 5 + 2, none⟩ = some (.string q.x.s) from BL 2 (by omega))
        have l3 := cell_regrown (show wv.cell? ⟨gL0, m * 5 + 3, none⟩ = some (.slice q.a1 q.x.l.length q.n1) from BL 3 (by omega))
        have l4 := cell_regrown (show wv.cell? ⟨gL0, m * 5 + 4, none⟩ = some (.slice q.a2 q.x.m.length q.n2) from BL 4 (by omega))
        have r3 := cell_regrown MV.out.box.c3
        have r4 := cell_regrown MV.out.box.c4
        have t0 := cell_regrown PB0.out.c0
        have t1 := cell_regrown PB0.out.c1
        have t2 := cell_regrown PB0.out.c2
        have t3 := cell_regrown PB0.out.c3
        have t4 := cell_regrown PB0.out.c4
        clear BL
        have cQ := Lib.hid (same_regrown (w := wv) (MV.out.prIn hB hg0 QI.out).1 (MV.out.prIn hB hg0 PI.out).1)
        generalize hr : (cmpV 12 q.x p.x == 0) = r at cQ
        have HR := Lib.hid hr
        clear hr
        refine wp_region_quiet_below (by kernel_rfl) (by kernel_rfl) ?_
        repeat (first | go_big_quiet_step (exact cQ.out _ _) | quiet_step (exact cQ.out _ _))
        refine wpQuiet_nil ?_
        intro _ hw'
        obtain ⟨⟨dq, osq⟩, hw''⟩ := hw'
        subst hw''
        have BQ := Lib.hid (below_regrown wv dq osq)
        have MQ := Lib.hid (MV.out.below BQ.out hg0 (Nat.lt_trans hwr hvz))
        have PB : Hid (Box10 (grow (redrawn wv dq) osq) wr.heap.size p) := Lib.hid (PB0.out.kept (BQ.out.block _ hvz))
        have hpb : wr.heap.size < (grow (redrawn wv dq) osq).heap.size := Nat.lt_of_lt_of_le hvz BQ.out.size
        have HCM2 := Lib.hid (fun j (hj : j < 5) => (BQ.out.cell (p := ⟨gM0, m * 5 + j, none⟩) (Nat.lt_trans hgMs hvz)).trans ((BV.out.cell (p := ⟨gM0, m * 5 + j, none⟩) hgMs).trans (HCMM.out j hj)))
        have HBM2 := Lib.hid (HBM.out.kept ((BQ.out.block gM0 (Nat.lt_trans hgMs hvz)).trans (BV.out.block gM0 hgMs)))
        generalize grow (redrawn wv dq) osq = wq at MQ PB hpb HCM2 HBM2
        clear l0 l1 l2 l3 l4 r3 r4 t0 t1 t2 t3 t4 cQ BQ
        have NL := Lib.hid (fun b e => Nat.ne_of_lt (hM.out.vl.lt b e).2)
        have NM := Lib.hid (fun b e => Nat.ne_of_lt (hM.out.vm.lt b e).2)
        clear b0 b1 b2 b3 b4 HCMM HCL HBM
        cases r
        · have FOLD : Hid (acc ++ [p] = (ps'.toList.take (k + 1)).foldl gat []) := Lib.hid (by rw [fold_next ps' k (by rw [hM.out.held.sz]; exact hlt) hM.out.fold HP.out, HACC.out]; exact (gat_no acc0 q p HR.out).symm)
          clear HCM2 HBM2 d1 d2 d3 d4 d5 d6 e0
          generalize wr.heap.size = pb at PB hpb NL NM
          go_wp2_with fail
          have ST0 : Hid (St9 wq w1.heap.size pb acc (some ⟨gL0, 0, none⟩) cL (some ⟨gM0, 0, none⟩) cM p) := Lib.hid ⟨MQ.out.box, PB.out, MQ.out.vl, MQ.out.vm, MQ.out.sep, MQ.out.gmlt, hpb, NL.out, NM.out⟩
          have hgq : w1.heap.size + 1 ≤ wq.heap.size := MQ.out.gmlt
          have hgq' : w1.heap.size < wq.heap.size := MQ.out.gmlt
          have SQ : R9S w1.heap.size pb (.slice (some ⟨gL0, 0, none⟩) acc.length cL) (.slice (some ⟨gM0, 0, none⟩) acc.length cM) p wq.drew := ⟨ST0.out.pbx.kept rfl, ST0.out.box.c3, ST0.out.box.c4⟩
          have ST := Lib.hid (St9.drew ST0.out)
          have MD := Lib.hid (MQ.out.below (below_drewN _ _ 1) hg0 (by have := MQ.out.gmlt; omega))
          refine region_anyN (R9S w1.heap.size pb (.slice (some ⟨gL0, 0, none⟩) acc.length cL) (.slice (some ⟨gM0, 0, none⟩) acc.length cM) p) [13, 15] (by kernel_rfl) SQ (fun HS => ?_)
          clear SQ
          have HZ : wq.heap.size = wq.drew.heap.size := rfl
          rw [HZ] at hgq hgq' hpb
          clear HZ
          change Hid (Mid W0 wq.drew g B d n w1.heap.size w.heap.size ps' k acc (some ⟨gL0, 0, none⟩) cL (some ⟨gM0, 0, none⟩) cM) at MD
          generalize wq.drew = wd at *
          clear ST0 MQ
          refine anyN_take (i := 0) (oi := ({ dst := some 38, op := .fieldAddr 24 (.tmp 3) 3, type := 0, pos := "dict.go:45", after := #[], guard := none } : Oper)) (v := .pointer (some ⟨w1.heap.size, 3, none⟩)) [13, 15] rfl (by kernel_rfl) (by kernel_rfl) (by kernel_rfl) (by kernel_rfl) (fun _ _ _ h => h) (by rfl) (by rintro w' ⟨⟨t0, t1, t2, t3, t4, t5, t6, t7, t8, t9⟩, m3, m4⟩; go_simp) (by assumption) ?_
          try simp only [Act.put, List.setIfInBounds_toArray, List.set_cons_zero, List.set_cons_succ]
          refine anyN_take (i := 1) (oi := ({ dst := some 39, op := .load 22 (.tmp 38), type := 22, pos := "dict.go:45", after := #[{ on := 0, ground := .data }], guard := none } : Oper)) (v := .slice (some ⟨gL0, 0, none⟩) acc.length cL) [5, 11, 13, 15] rfl (by kernel_rfl) (by kernel_rfl) (by kernel_rfl) (by kernel_rfl) (fun _ _ _ h => h) (by rfl) (by rintro w' ⟨⟨t0, t1, t2, t3, t4, t5, t6, t7, t8, t9⟩, m3, m4⟩; go_simp) (by assumption) ?_
          try simp only [Act.put, List.setIfInBounds_toArray, List.set_cons_zero, List.set_cons_succ]
          refine anyN_take (i := 2) (oi := ({ dst := some 40, op := .fieldAddr 69 (.tmp 5) 0, type := 0, pos := "dict.go:45", after := #[], guard := none } : Oper)) (v := .pointer (some ⟨pb, 0, none⟩)) [13, 15] rfl (by kernel_rfl) (by kernel_rfl) (by kernel_rfl) (by kernel_rfl) (fun _ _ _ h => h) (by rfl) (by rintro w' ⟨⟨t0, t1, t2, t3, t4, t5, t6, t7, t8, t9⟩, m3, m4⟩; go_simp) (by assumption) ?_
          try simp only [Act.put, List.setIfInBounds_toArray, List.set_cons_zero, List.set_cons_succ]
          refine anyN_take (i := 3) (oi := ({ dst := some 41, op := .load 24 (.tmp 40), type := 24, pos := "dict.go:45", after := #[{ on := 2, ground := .data }], guard := none } : Oper)) (v := .agg #[.int .i64 p.x.k, .int .i64 p.x.n, .string p.x.s, .slice p.a1 p.x.l.length p.n1, .slice p.a2 p.x.m.length p.n2]) [4, 5, 11, 13, 15] rfl (by kernel_rfl) (by kernel_rfl) (by kernel_rfl) (by kernel_rfl) (fun _ _ _ h => h) (by rfl) (by rintro w' ⟨⟨t0, t1, t2, t3, t4, t5, t6, t7, t8, t9⟩, m3, m4⟩; go_simp) (by assumption) ?_
          try simp only [Act.put, List.setIfInBounds_toArray, List.set_cons_zero, List.set_cons_succ]
          refine anyN_take (i := 6) (oi := ({ dst := some 44, op := .fieldAddr 24 (.tmp 3) 4, type := 0, pos := "dict.go:45", after := #[], guard := none } : Oper)) (v := .pointer (some ⟨w1.heap.size, 4, none⟩)) [13, 15] rfl (by kernel_rfl) (by kernel_rfl) (by kernel_rfl) (by kernel_rfl) (fun _ _ _ h => h) (by rfl) (by rintro w' ⟨⟨t0, t1, t2, t3, t4, t5, t6, t7, t8, t9⟩, m3, m4⟩; go_simp) (by assumption) ?_
          try simp only [Act.put, List.setIfInBounds_toArray, List.set_cons_zero, List.set_cons_succ]
          refine anyN_take (i := 7) (oi := ({ dst := some 45, op := .load 22 (.tmp 44), type := 22, pos := "dict.go:45", after := #[{ on := 6, ground := .data }], guard := none } : Oper)) (v := .slice (some ⟨gM0, 0, none⟩) acc.length cM) [11, 13, 15] rfl (by kernel_rfl) (by kernel_rfl) (by kernel_rfl) (by kernel_rfl) (fun _ _ _ h => h) (by rfl) (by rintro w' ⟨⟨t0, t1, t2, t3, t4, t5, t6, t7, t8, t9⟩, m3, m4⟩; go_simp) (by assumption) ?_
          try simp only [Act.put, List.setIfInBounds_toArray, List.set_cons_zero, List.set_cons_succ]
          refine anyN_take (i := 8) (oi := ({ dst := some 46, op := .fieldAddr 69 (.tmp 5) 1, type := 0, pos := "dict.go:45", after := #[], guard := none } : Oper)) (v := .pointer (some ⟨pb, 5, none⟩)) [9, 10, 11, 13, 15] rfl (by kernel_rfl) (by kernel_rfl) (by kernel_rfl) (by kernel_rfl) (fun _ _ _ h => h) (by rfl) (by rintro w' ⟨⟨t0, t1, t2, t3, t4, t5, t6, t7, t8, t9⟩, m3, m4⟩; go_simp) (by assumption) ?_
          try simp only [Act.put, List.setIfInBounds_toArray, List.set_cons_zero, List.set_cons_succ]
          refine anyN_take (i := 9) (oi := ({ dst := some 47, op := .load 24 (.tmp 46), type := 24, pos := "dict.go:45", after := #[{ on := 8, ground := .data }], guard := none } : Oper)) (v := .agg #[.int .i64 p.y.k, .int .i64 p.y.n, .string p.y.s, .slice p.a3 p.y.l.length p.n3, .slice p.a4 p.y.m.length p.n4]) [10, 11, 13, 15] rfl (by kernel_rfl) (by kernel_rfl) (by kernel_rfl) (by kernel_rfl) (fun _ _ _ h => h) (by rfl) (by rintro w' ⟨⟨t0, t1, t2, t3, t4, t5, t6, t7, t8, t9⟩, m3, m4⟩; go_simp) (by assumption) ?_
          try simp only [Act.put, List.setIfInBounds_toArray, List.set_cons_zero, List.set_cons_succ]
          refine anyN_two (i := 4) (i' := 10) (o := ({ dst := some 42, op := .buildSlice 22 1 #[(0, .tmp 41)], type := 22, pos := "dict.go:45", after := #[{ on := 3, ground := .data }], guard := none } : Oper)) (o' := ({ dst := some 48, op := .buildSlice 22 1 #[(0, .tmp 47)], type := 22, pos := "dict.go:45", after := #[{ on := 9, ground := .data }], guard := none } : Oper)) (by kernel_rfl) rfl rfl (fun K hK => ?_) (fun K hK => ?_)
          · go_simp
            have S1 := HS.below (below_new _ (.cells #[.int .i64 p.x.k, .int .i64 p.x.n, .string p.x.s, .slice p.a1 p.x.l.length p.n1, .slice p.a2 p.x.m.length p.n2] 24)) hgq' hpb
            refine hK.out _ _ (fun _ => S1) ?_
            clear hK K
            try simp only [Act.put, List.setIfInBounds_toArray, List.set_cons_zero, List.set_cons_succ]
            refine anyN_two (i := 5) (i' := 10) (o := ({ dst := some 43, op := .call { callee := .builtin .append, args := #[.tmp 39, .tmp 42], argTypes := #[22, 22] }, type := 22, pos := "dict.go:45", after := #[{ on := 1, ground := .data }, { on := 4, ground := .data }], guard := none } : Oper)) (o' := ({ dst := some 48, op := .buildSlice 22 1 #[(0, .tmp 47)], type := 22, pos := "dict.go:45", after := #[{ on := 9, ground := .data }], guard := none } : Oper)) (by kernel_rfl) rfl rfl (fun K hK => ?_) (fun K hK => ?_)
            · refine step_append_VG (by rfl) (.tmp 39) (.tmp 42) (by rfl) (w1.heap.size + 1) (some ⟨gL0, 0, none⟩) cL Pr.kc acc p (by simp [Act.eval]) (ST.out.vl.below (below_new _ _)) ⟨wd.heap.size, 0, none⟩ (by simp [Act.eval]) (newsk1 wd p) (kc_len _) (kc_one _) hl5 (Nat.le_trans hgq ((below_new _ _)).size) ?_
              intro gL cL' wA hvA hgA hatA hltA
              obtain ⟨hcA, hpA, hmA, hlA, hsA⟩ := ST.out.first (below_new _ _) hgA
              have SA : R9S w1.heap.size pb (.slice (some ⟨gL0, 0, none⟩) acc.length cL) (.slice (some ⟨gM0, 0, none⟩) acc.length cM) p wA := ⟨hpA, hcA.c3, hcA.c4⟩
              have HCA := Lib.hid hcA
              have HPA := Lib.hid hpA
              have HMA := Lib.hid hmA
              have HBW := Lib.hid (below_of hgA (below_new _ _))
              have HVA := Lib.hid hvA
              have HGA := Lib.hid hgA
              have HAT := Lib.hid hatA
              have HLT := Lib.hid hltA
              clear hvA hgA hatA hcA hpA hmA
              refine hK.out _ _ (fun _ => SA) ?_
              clear hK K
              try simp only [Act.put, List.setIfInBounds_toArray, List.set_cons_zero, List.set_cons_succ]
              refine anyN_take (i := 12) (oi := ({ dst := some 50, op := .fieldAddr 24 (.tmp 3) 3, type := 0, pos := "dict.go:45", after := #[{ on := 0, ground := .phase }, { on := 1, ground := .phase }, { on := 2, ground := .phase }, { on := 3, ground := .phase }, { on := 4, ground := .phase }, { on := 5, ground := .phase }, { on := 6, ground := .phase }, { on := 7, ground := .phase }, { on := 8, ground := .textOnly .lateStores }, { on := 9, ground := .textOnly .lateStores }, { on := 10, ground := .textOnly .lateStores }, { on := 11, ground := .textOnly .lateStoresUnsure }], guard := none } : Oper)) (v := .pointer (some ⟨w1.heap.size, 3, none⟩)) [13, 15] rfl (by kernel_rfl) (by kernel_rfl) (by kernel_rfl) (by kernel_rfl) (fun _ _ _ h => h) (by rfl) (by rintro w' ⟨⟨t0, t1, t2, t3, t4, t5, t6, t7, t8, t9⟩, m3, m4⟩; go_simp) SA ?_
              try simp only [Act.put, List.setIfInBounds_toArray, List.set_cons_zero, List.set_cons_succ]
              refine anyN_one (i := 10) (o := ({ dst := some 48, op := .buildSlice 22 1 #[(0, .tmp 47)], type := 22, pos := "dict.go:45", after := #[{ on := 9, ground := .data }], guard := none } : Oper)) (by kernel_rfl) rfl (fun K hK => ?_)
              go_simp
              have SX := SA.below (below_new _ (.cells #[.int .i64 p.y.k, .int .i64 p.y.n, .string p.y.s, .slice p.a3 p.y.l.length p.n3, .slice p.a4 p.y.m.length p.n4] 24)) hlA (Nat.lt_of_lt_of_le hpb hsA)
              refine hK.out _ _ (fun _ => SX) ?_
              clear hK K
              try simp only [Act.put, List.setIfInBounds_toArray, List.set_cons_zero, List.set_cons_succ]
              refine anyN_one (i := 11) (o := ({ dst := some 49, op := .call { callee := .builtin .append, args := #[.tmp 45, .tmp 48], argTypes := #[22, 22] }, type := 22, pos := "dict.go:45", after := #[{ on := 7, ground := .data }, { on := 10, ground := .data }, { on := 5, ground := .chain }], guard := none } : Oper)) (by kernel_rfl) rfl (fun K hK => ?_)
              refine step_append_VG (by rfl) (.tmp 45) (.tmp 48) (by rfl) (w1.heap.size + 1) (some ⟨gM0, 0, none⟩) cM Pr.vc acc p (by simp [Act.eval]) (HMA.out.below (below_new _ _)) ⟨wA.heap.size, 0, none⟩ (by simp [Act.eval]) (newsV1 wA p) (vc_len _) (vc_one _) hl5 (Nat.le_trans hlA ((below_new _ _)).size) ?_
              intro gM cM' wB hvB hgB hatB hltB
              obtain ⟨hcB, hpB⟩ := ST.out.second (HCA.out.below (below_new _ _) hlA) (HPA.out.kept (((below_new _ _)).block pb (Nat.lt_of_lt_of_le ST.out.pblt hsA))) (Nat.lt_of_lt_of_le hlA ((below_new _ _)).size) (Nat.le_trans hsA ((below_new _ _)).size) hgB
              have HBX := Lib.hid (below_of hgB (below_new _ _))
              have HVB := Lib.hid hvB
              have HGB := Lib.hid hgB
              have HATB := Lib.hid hatB
              clear hvB hgB hatB hltB
              refine hK.out _ _ (fun _ => ⟨hpB, hcB.c3, hcB.c4⟩) ?_
              clear hK K
              try simp only [Act.put, List.setIfInBounds_toArray, List.set_cons_zero, List.set_cons_succ]
              obtain ⟨x0, x1, x2, x3, x4, y0, y1, y2, y3, y4, _⟩ := hcB
              clear hpB
              refine anyN_one (i := 13) (o := ({ dst := none, op := .store 22 (.tmp 50) (.tmp 43), type := 0, pos := "dict.go:45", after := #[{ on := 12, ground := .data }, { on := 5, ground := .data }, { on := 11, ground := .chain }, { on := 0, ground := .phase }, { on := 1, ground := .phase }, { on := 2, ground := .phase }, { on := 3, ground := .phase }, { on := 4, ground := .phase }, { on := 5, ground := .phase }, { on := 6, ground := .phase }, { on := 7, ground := .phase }, { on := 8, ground := .textOnly .lateStores }, { on := 9, ground := .textOnly .lateStores }, { on := 10, ground := .textOnly .lateStores }, { on := 11, ground := .textOnly .lateStoresUnsure }], guard := none } : Oper)) (by kernel_rfl) rfl (fun K hK => ?_)
              go_simp
              refine hK.out _ _ (fun h => absurd h (by decide +kernel)) ?_
              clear hK K
              try simp only [Act.put, List.setIfInBounds_toArray, List.set_cons_zero, List.set_cons_succ]
              refine anyN_one (i := 14) (o := ({ dst := some 51, op := .fieldAddr 24 (.tmp 3) 4, type := 0, pos := "dict.go:45", after := #[{ on := 0, ground := .phase }, { on := 1, ground := .phase }, { on := 2, ground := .phase }, { on := 3, ground := .phase }, { on := 4, ground := .phase }, { on := 5, ground := .phase }, { on := 6, ground := .phase }, { on := 7, ground := .phase }, { on := 8, ground := .phase }, { on := 9, ground := .phase }, { on := 10, ground := .phase }, { on := 11, ground := .phase }, { on := 12, ground := .phase }, { on := 13, ground := .phase }], guard := none } : Oper)) (by kernel_rfl) rfl (fun K hK => ?_)
              go_simp
              refine hK.out _ _ (fun h => absurd h (by decide +kernel)) ?_
              clear hK K
              try simp only [Act.put, List.setIfInBounds_toArray, List.set_cons_zero, List.set_cons_succ]
              refine anyN_one (i := 15) (o := ({ dst := none, op := .store 22 (.tmp 51) (.tmp 49), type := 0, pos := "dict.go:45", after := #[{ on := 14, ground := .data }, { on := 11, ground := .data }, { on := 13, ground := .chain }, { on := 0, ground := .phase }, { on := 1, ground := .phase }, { on := 2, ground := .phase }, { on := 3, ground := .phase }, { on := 4, ground := .phase }, { on := 5, ground := .phase }, { on := 6, ground := .phase }, { on := 7, ground := .phase }, { on := 8, ground := .phase }, { on := 9, ground := .phase }, { on := 10, ground := .phase }, { on := 11, ground := .phase }, { on := 12, ground := .phase }, { on := 13, ground := .phase }], guard := none } : Oper)) (by kernel_rfl) rfl (fun K hK => ?_)
              go_simp
              refine hK.out _ _ (fun h => absurd h (by decide +kernel)) ?_
              clear hK K
              try simp only [Act.put, List.setIfInBounds_toArray, List.set_cons_zero, List.set_cons_succ]
              refine anyN_done (by kernel_rfl) ?_ _
              have PUSH := Lib.hid (Mid.push MD.out ST.out hz1 hg0 (by omega) HBW.out HVA.out HGA.out HAT.out HLT.out HBX.out HVB.out HGB.out HATB.out FOLD.out PI.out)
              go_wp2
              go_roundw
              case rel => exact ⟨k + 1, acc ++ [p], some ⟨gL, 0, none⟩, cL', some ⟨gM, 0, none⟩, cM', by omega, by go_num, PUSH⟩
              case measure => simp [intOf]; omega
            · go_simp
              have S2 := S1.below (below_new _ (.cells #[.int .i64 p.y.k, .int .i64 p.y.n, .string p.y.s, .slice p.a3 p.y.l.length p.n3, .slice p.a4 p.y.m.length p.n4] 24)) (by simp; omega) (by simp; omega)
              refine hK.out _ _ (fun _ => S2) ?_
              clear hK K
              try simp only [Act.put, List.setIfInBounds_toArray, List.set_cons_zero, List.set_cons_succ]
              refine anyN_one (i := 5) (o := ({ dst := some 43, op := .call { callee := .builtin .append, args := #[.tmp 39, .tmp 42], argTypes := #[22, 22] }, type := 22, pos := "dict.go:45", after := #[{ on := 1, ground := .data }, { on := 4, ground := .data }], guard := none } : Oper)) (by kernel_rfl) rfl (fun K hK => ?_)
              refine step_append_VG (by rfl) (.tmp 39) (.tmp 42) (by rfl) (w1.heap.size + 1) (some ⟨gL0, 0, none⟩) cL Pr.kc acc p (by simp [Act.eval]) (ST.out.vl.below (below_new2 _ _ _)) ⟨wd.heap.size, 0, none⟩ (by simp [Act.eval]) (newsk2 wd p _) (kc_len _) (kc_one _) hl5 (Nat.le_trans hgq ((below_new2 _ _ _)).size) ?_
              intro gL cL' wA hvA hgA hatA hltA
              obtain ⟨hcA, hpA, hmA, hlA, hsA⟩ := ST.out.first (below_new2 _ _ _) hgA
              have SA : R9S w1.heap.size pb (.slice (some ⟨gL0, 0, none⟩) acc.length cL) (.slice (some ⟨gM0, 0, none⟩) acc.length cM) p wA := ⟨hpA, hcA.c3, hcA.c4⟩
              have HCA := Lib.hid hcA
              have HPA := Lib.hid hpA
              have HMA := Lib.hid hmA
              have NVA := Lib.hid (news_far (newsv3 wd p _) hgA (by simp <;> omega) (fun e => by have := (ST.out.vl.lt _ e.symm).2; omega))
              have HBW := Lib.hid (below_of hgA (below_new2 _ _ _))
              have HVA := Lib.hid hvA
              have HGA := Lib.hid hgA
              have HAT := Lib.hid hatA
              have HLT := Lib.hid hltA
              clear hvA hgA hatA hcA hpA hmA
              refine hK.out _ _ (fun _ => SA) ?_
              clear hK K
              try simp only [Act.put, List.setIfInBounds_toArray, List.set_cons_zero, List.set_cons_succ]
              refine anyN_take (i := 12) (oi := ({ dst := some 50, op := .fieldAddr 24 (.tmp 3) 3, type := 0, pos := "dict.go:45", after := #[{ on := 0, ground := .phase }, { on := 1, ground := .phase }, { on := 2, ground := .phase }, { on := 3, ground := .phase }, { on := 4, ground := .phase }, { on := 5, ground := .phase }, { on := 6, ground := .phase }, { on := 7, ground := .phase }, { on := 8, ground := .textOnly .lateStores }, { on := 9, ground := .textOnly .lateStores }, { on := 10, ground := .textOnly .lateStores }, { on := 11, ground := .textOnly .lateStoresUnsure }], guard := none } : Oper)) (v := .pointer (some ⟨w1.heap.size, 3, none⟩)) [13, 15] rfl (by kernel_rfl) (by kernel_rfl) (by kernel_rfl) (by kernel_rfl) (fun _ _ _ h => h) (by rfl) (by rintro w' ⟨⟨t0, t1, t2, t3, t4, t5, t6, t7, t8, t9⟩, m3, m4⟩; go_simp) SA ?_
              try simp only [Act.put, List.setIfInBounds_toArray, List.set_cons_zero, List.set_cons_succ]
              refine anyN_one (i := 11) (o := ({ dst := some 49, op := .call { callee := .builtin .append, args := #[.tmp 45, .tmp 48], argTypes := #[22, 22] }, type := 22, pos := "dict.go:45", after := #[{ on := 7, ground := .data }, { on := 10, ground := .data }, { on := 5, ground := .chain }], guard := none } : Oper)) (by kernel_rfl) rfl (fun K hK => ?_)
              refine step_append_VG (by rfl) (.tmp 45) (.tmp 48) (by rfl) (w1.heap.size + 1) (some ⟨gM0, 0, none⟩) cM Pr.vc acc p (by simp [Act.eval]) (HMA.out.below (Below.refl wA.heap.size wA)) ⟨wd.heap.size + 1, 0, none⟩ (by simp [Act.eval]) (NVA.out) (vc_len _) (vc_one _) hl5 (Nat.le_trans hlA ((Below.refl wA.heap.size wA)).size) ?_
              intro gM cM' wB hvB hgB hatB hltB
              obtain ⟨hcB, hpB⟩ := ST.out.second (HCA.out.below (Below.refl wA.heap.size wA) hlA) (HPA.out.kept (((Below.refl wA.heap.size wA)).block pb (Nat.lt_of_lt_of_le ST.out.pblt hsA))) (Nat.lt_of_lt_of_le hlA ((Below.refl wA.heap.size wA)).size) (Nat.le_trans hsA ((Below.refl wA.heap.size wA)).size) hgB
              have HBX := Lib.hid (below_of hgB (Below.refl wA.heap.size wA))
              have HVB := Lib.hid hvB
              have HGB := Lib.hid hgB
              have HATB := Lib.hid hatB
              clear hvB hgB hatB hltB
              refine hK.out _ _ (fun _ => ⟨hpB, hcB.c3, hcB.c4⟩) ?_
              clear hK K
              try simp only [Act.put, List.setIfInBounds_toArray, List.set_cons_zero, List.set_cons_succ]
              obtain ⟨x0, x1, x2, x3, x4, y0, y1, y2, y3, y4, _⟩ := hcB
              clear hpB
              refine anyN_one (i := 13) (o := ({ dst := none, op := .store 22 (.tmp 50) (.tmp 43), type := 0, pos := "dict.go:45", after := #[{ on := 12, ground := .data }, { on := 5, ground := .data }, { on := 11, ground := .chain }, { on := 0, ground := .phase }, { on := 1, ground := .phase }, { on := 2, ground := .phase }, { on := 3, ground := .phase }, { on := 4, ground := .phase }, { on := 5, ground := .phase }, { on := 6, ground := .phase }, { on := 7, ground := .phase }, { on := 8, ground := .textOnly .lateStores }, { on := 9, ground := .textOnly .lateStores }, { on := 10, ground := .textOnly .lateStores }, { on := 11, ground := .textOnly .lateStoresUnsure }], guard := none } : Oper)) (by kernel_rfl) rfl (fun K hK => ?_)
              go_simp
              refine hK.out _ _ (fun h => absurd h (by decide +kernel)) ?_
              clear hK K
              try simp only [Act.put, List.setIfInBounds_toArray, List.set_cons_zero, List.set_cons_succ]
              refine anyN_one (i := 14) (o := ({ dst := some 51, op := .fieldAddr 24 (.tmp 3) 4, type := 0, pos := "dict.go:45", after := #[{ on := 0, ground := .phase }, { on := 1, ground := .phase }, { on := 2, ground := .phase }, { on := 3, ground := .phase }, { on := 4, ground := .phase }, { on := 5, ground := .phase }, { on := 6, ground := .phase }, { on := 7, ground := .phase }, { on := 8, ground := .phase }, { on := 9, ground := .phase }, { on := 10, ground := .phase }, { on := 11, ground := .phase }, { on := 12, ground := .phase }, { on := 13, ground := .phase }], guard := none } : Oper)) (by kernel_rfl) rfl (fun K hK => ?_)
              go_simp
              refine hK.out _ _ (fun h => absurd h (by decide +kernel)) ?_
              clear hK K
              try simp only [Act.put, List.setIfInBounds_toArray, List.set_cons_zero, List.set_cons_succ]
              refine anyN_one (i := 15) (o := ({ dst := none, op := .store 22 (.tmp 51) (.tmp 49), type := 0, pos := "dict.go:45", after := #[{ on := 14, ground := .data }, { on := 11, ground := .data }, { on := 13, ground := .chain }, { on := 0, ground := .phase }, { on := 1, ground := .phase }, { on := 2, ground := .phase }, { on := 3, ground := .phase }, { on := 4, ground := .phase }, { on := 5, ground := .phase }, { on := 6, ground := .phase }, { on := 7, ground := .phase }, { on := 8, ground := .phase }, { on := 9, ground := .phase }, { on := 10, ground := .phase }, { on := 11, ground := .phase }, { on := 12, ground := .phase }, { on := 13, ground := .phase }], guard := none } : Oper)) (by kernel_rfl) rfl (fun K hK => ?_)
              go_simp
              refine hK.out _ _ (fun h => absurd h (by decide +kernel)) ?_
              clear hK K
              try simp only [Act.put, List.setIfInBounds_toArray, List.set_cons_zero, List.set_cons_succ]
              refine anyN_done (by kernel_rfl) ?_ _
              have PUSH := Lib.hid (Mid.push MD.out ST.out hz1 hg0 (by omega) HBW.out HVA.out HGA.out HAT.out HLT.out HBX.out HVB.out HGB.out HATB.out FOLD.out PI.out)
              go_wp2
              go_roundw
              case rel => exact ⟨k + 1, acc ++ [p], some ⟨gL, 0, none⟩, cL', some ⟨gM, 0, none⟩, cM', by omega, by go_num, PUSH⟩
              case measure => simp [intOf]; omega
          · go_simp
            have S1 := HS.below (below_new _ (.cells #[.int .i64 p.y.k, .int .i64 p.y.n, .string p.y.s, .slice p.a3 p.y.l.length p.n3, .slice p.a4 p.y.m.length p.n4] 24)) hgq' hpb
            refine hK.out _ _ (fun _ => S1) ?_
            clear hK K
            try simp only [Act.put, List.setIfInBounds_toArray, List.set_cons_zero, List.set_cons_succ]
            refine anyN_one (i := 4) (o := ({ dst := some 42, op := .buildSlice 22 1 #[(0, .tmp 41)], type := 22, pos := "dict.go:45", after := #[{ on := 3, ground := .data }], guard := none } : Oper)) (by kernel_rfl) rfl (fun K hK => ?_)
            go_simp
            have S2 := S1.below (below_new _ (.cells #[.int .i64 p.x.k, .int .i64 p.x.n, .string p.x.s, .slice p.a1 p.x.l.length p.n1, .slice p.a2 p.x.m.length p.n2] 24)) (by simp; omega) (by simp; omega)
            refine hK.out _ _ (fun _ => S2) ?_
            clear hK K
            try simp only [Act.put, List.setIfInBounds_toArray, List.set_cons_zero, List.set_cons_succ]
            refine anyN_one (i := 5) (o := ({ dst := some 43, op := .call { callee := .builtin .append, args := #[.tmp 39, .tmp 42], argTypes := #[22, 22] }, type := 22, pos := "dict.go:45", after := #[{ on := 1, ground := .data }, { on := 4, ground := .data }], guard := none } : Oper)) (by kernel_rfl) rfl (fun K hK => ?_)
            refine step_append_VG (by rfl) (.tmp 39) (.tmp 42) (by rfl) (w1.heap.size + 1) (some ⟨gL0, 0, none⟩) cL Pr.kc acc p (by simp [Act.eval]) (ST.out.vl.below (below_new2 _ _ _)) ⟨wd.heap.size + 1, 0, none⟩ (by simp [Act.eval]) (newsk3 wd p _) (kc_len _) (kc_one _) hl5 (Nat.le_trans hgq ((below_new2 _ _ _)).size) ?_
            intro gL cL' wA hvA hgA hatA hltA
            obtain ⟨hcA, hpA, hmA, hlA, hsA⟩ := ST.out.first (below_new2 _ _ _) hgA
            have SA : R9S w1.heap.size pb (.slice (some ⟨gL0, 0, none⟩) acc.length cL) (.slice (some ⟨gM0, 0, none⟩) acc.length cM) p wA := ⟨hpA, hcA.c3, hcA.c4⟩
            have HCA := Lib.hid hcA
            have HPA := Lib.hid hpA
            have HMA := Lib.hid hmA
            have NVA := Lib.hid (news_far (newsv2 wd p _) hgA (by simp <;> omega) (fun e => by have := (ST.out.vl.lt _ e.symm).2; omega))
            have HBW := Lib.hid (below_of hgA (below_new2 _ _ _))
            have HVA := Lib.hid hvA
            have HGA := Lib.hid hgA
            have HAT := Lib.hid hatA
            have HLT := Lib.hid hltA
            clear hvA hgA hatA hcA hpA hmA
            refine hK.out _ _ (fun _ => SA) ?_
            clear hK K
            try simp only [Act.put, List.setIfInBounds_toArray, List.set_cons_zero, List.set_cons_succ]
            refine anyN_take (i := 12) (oi := ({ dst := some 50, op := .fieldAddr 24 (.tmp 3) 3, type := 0, pos := "dict.go:45", after := #[{ on := 0, ground := .phase }, { on := 1, ground := .phase }, { on := 2, ground := .phase }, { on := 3, ground := .phase }, { on := 4, ground := .phase }, { on := 5, ground := .phase }, { on := 6, ground := .phase }, { on := 7, ground := .phase }, { on := 8, ground := .textOnly .lateStores }, { on := 9, ground := .textOnly .lateStores }, { on := 10, ground := .textOnly .lateStores }, { on := 11, ground := .textOnly .lateStoresUnsure }], guard := none } : Oper)) (v := .pointer (some ⟨w1.heap.size, 3, none⟩)) [13, 15] rfl (by kernel_rfl) (by kernel_rfl) (by kernel_rfl) (by kernel_rfl) (fun _ _ _ h => h) (by rfl) (by rintro w' ⟨⟨t0, t1, t2, t3, t4, t5, t6, t7, t8, t9⟩, m3, m4⟩; go_simp) SA ?_
            try simp only [Act.put, List.setIfInBounds_toArray, List.set_cons_zero, List.set_cons_succ]
            refine anyN_one (i := 11) (o := ({ dst := some 49, op := .call { callee := .builtin .append, args := #[.tmp 45, .tmp 48], argTypes := #[22, 22] }, type := 22, pos := "dict.go:45", after := #[{ on := 7, ground := .data }, { on := 10, ground := .data }, { on := 5, ground := .chain }], guard := none } : Oper)) (by kernel_rfl) rfl (fun K hK => ?_)
            refine step_append_VG (by rfl) (.tmp 45) (.tmp 48) (by rfl) (w1.heap.size + 1) (some ⟨gM0, 0, none⟩) cM Pr.vc acc p (by simp [Act.eval]) (HMA.out.below (Below.refl wA.heap.size wA)) ⟨wd.heap.size, 0, none⟩ (by simp [Act.eval]) (NVA.out) (vc_len _) (vc_one _) hl5 (Nat.le_trans hlA ((Below.refl wA.heap.size wA)).size) ?_
            intro gM cM' wB hvB hgB hatB hltB
            obtain ⟨hcB, hpB⟩ := ST.out.second (HCA.out.below (Below.refl wA.heap.size wA) hlA) (HPA.out.kept (((Below.refl wA.heap.size wA)).block pb (Nat.lt_of_lt_of_le ST.out.pblt hsA))) (Nat.lt_of_lt_of_le hlA ((Below.refl wA.heap.size wA)).size) (Nat.le_trans hsA ((Below.refl wA.heap.size wA)).size) hgB
            have HBX := Lib.hid (below_of hgB (Below.refl wA.heap.size wA))
            have HVB := Lib.hid hvB
            have HGB := Lib.hid hgB
            have HATB := Lib.hid hatB
            clear hvB hgB hatB hltB
            refine hK.out _ _ (fun _ => ⟨hpB, hcB.c3, hcB.c4⟩) ?_
            clear hK K
            try simp only [Act.put, List.setIfInBounds_toArray, List.set_cons_zero, List.set_cons_succ]
            obtain ⟨x0, x1, x2, x3, x4, y0, y1, y2, y3, y4, _⟩ := hcB
            clear hpB
            refine anyN_one (i := 13) (o := ({ dst := none, op := .store 22 (.tmp 50) (.tmp 43), type := 0, pos := "dict.go:45", after := #[{ on := 12, ground := .data }, { on := 5, ground := .data }, { on := 11, ground := .chain }, { on := 0, ground := .phase }, { on := 1, ground := .phase }, { on := 2, ground := .phase }, { on := 3, ground := .phase }, { on := 4, ground := .phase }, { on := 5, ground := .phase }, { on := 6, ground := .phase }, { on := 7, ground := .phase }, { on := 8, ground := .textOnly .lateStores }, { on := 9, ground := .textOnly .lateStores }, { on := 10, ground := .textOnly .lateStores }, { on := 11, ground := .textOnly .lateStoresUnsure }], guard := none } : Oper)) (by kernel_rfl) rfl (fun K hK => ?_)
            go_simp
            refine hK.out _ _ (fun h => absurd h (by decide +kernel)) ?_
            clear hK K
            try simp only [Act.put, List.setIfInBounds_toArray, List.set_cons_zero, List.set_cons_succ]
            refine anyN_one (i := 14) (o := ({ dst := some 51, op := .fieldAddr 24 (.tmp 3) 4, type := 0, pos := "dict.go:45", after := #[{ on := 0, ground := .phase }, { on := 1, ground := .phase }, { on := 2, ground := .phase }, { on := 3, ground := .phase }, { on := 4, ground := .phase }, { on := 5, ground := .phase }, { on := 6, ground := .phase }, { on := 7, ground := .phase }, { on := 8, ground := .phase }, { on := 9, ground := .phase }, { on := 10, ground := .phase }, { on := 11, ground := .phase }, { on := 12, ground := .phase }, { on := 13, ground := .phase }], guard := none } : Oper)) (by kernel_rfl) rfl (fun K hK => ?_)
            go_simp
            refine hK.out _ _ (fun h => absurd h (by decide +kernel)) ?_
            clear hK K
            try simp only [Act.put, List.setIfInBounds_toArray, List.set_cons_zero, List.set_cons_succ]
            refine anyN_one (i := 15) (o := ({ dst := none, op := .store 22 (.tmp 51) (.tmp 49), type := 0, pos := "dict.go:45", after := #[{ on := 14, ground := .data }, { on := 11, ground := .data }, { on := 13, ground := .chain }, { on := 0, ground := .phase }, { on := 1, ground := .phase }, { on := 2, ground := .phase }, { on := 3, ground := .phase }, { on := 4, ground := .phase }, { on := 5, ground := .phase }, { on := 6, ground := .phase }, { on := 7, ground := .phase }, { on := 8, ground := .phase }, { on := 9, ground := .phase }, { on := 10, ground := .phase }, { on := 11, ground := .phase }, { on := 12, ground := .phase }, { on := 13, ground := .phase }], guard := none } : Oper)) (by kernel_rfl) rfl (fun K hK => ?_)
            go_simp
            refine hK.out _ _ (fun h => absurd h (by decide +kernel)) ?_
            clear hK K
            try simp only [Act.put, List.setIfInBounds_toArray, List.set_cons_zero, List.set_cons_succ]
            refine anyN_done (by kernel_rfl) ?_ _
            have PUSH := Lib.hid (Mid.push MD.out ST.out hz1 hg0 (by omega) HBW.out HVA.out HGA.out HAT.out HLT.out HBX.out HVB.out HGB.out HATB.out FOLD.out PI.out)
            go_wp2
            go_roundw
            case rel => exact ⟨k + 1, acc ++ [p], some ⟨gL, 0, none⟩, cL', some ⟨gM, 0, none⟩, cM', by omega, by go_num, PUSH⟩
            case measure => simp [intOf]; omega
        · have FOLD : Hid (acc0 ++ [q.with p] = (ps'.toList.take (k + 1)).foldl gat []) := Lib.hid (by rw [fold_next ps' k (by rw [hM.out.held.sz]; exact hlt) hM.out.fold HP.out, HACC.out]; exact (gat_yes acc0 q p HR.out).symm)
          have PUT := Lib.hid (Mid.put (N := acc.length) (p := p) (q := q) (acc0 := acc0) (by rw [HACC.out]) (by have := MQ.out; rw [HACC.out] at this; exact this) hz1 hg0 (by omega) PI.out FOLD.out)
          have v0 := show wq.cell? ⟨gM0, m * 5, none⟩ = some (.int .i64 q.y.k) from HCM2.out 0 (by omega)
          have v1 := show wq.cell? ⟨gM0, m * 5 + 1, none⟩ = some (.int .i64 q.y.n) from HCM2.out 1 (by omega)
          have v2 := show wq.cell? ⟨gM0, m * 5 + 2, none⟩ = some (.string q.y.s) from HCM2.out 2 (by omega)
          have v3 := show wq.cell? ⟨gM0, m * 5 + 3, none⟩ = some (.slice q.a3 q.y.l.length q.n3) from HCM2.out 3 (by omega)
          have v4 := show wq.cell? ⟨gM0, m * 5 + 4, none⟩ = some (.slice q.a4 q.y.m.length q.n4) from HCM2.out 4 (by omega)
          have z0 := HBM2.out.frozen (m * 5)
          have z1 := HBM2.out.frozen (m * 5 + 1)
          have z2 := HBM2.out.frozen (m * 5 + 2)
          have z3 := HBM2.out.frozen (m * 5 + 3)
          have z4 := HBM2.out.frozen (m * 5 + 4)
          obtain ⟨m0, m1, m2, m3, m4, n0, n1, n2, n3, n4, _⟩ := MQ.out.box
          obtain ⟨t0, t1, t2, t3, t4, t5, t6, t7, t8, t9⟩ := PB.out
          rw [HLM.out] at PUT
          go_wp2
          go_roundw
          case rel => exact ⟨k + 1, acc0 ++ [q.with p], some ⟨gL0, 0, none⟩, cL, some ⟨gM0, 0, none⟩, cM, by omega, by go_num, PUT⟩
          case measure => simp [intOf]; omega
    · obtain rfl : k = n := by omega
      have hl5 : acc.length ≤ 100000 := by omega
      obtain ⟨m0, m1, m2, m3, m4, n0, n1, n2, n3, n4, _⟩ := hM.out.box
      obtain ⟨s0, s1, s2, s3, s4, p0, p1, p2, p3, p4, hblk⟩ := hM.out.res
      have HR := Lib.hid (ret_box hblk (.int .i64 7) (.int .i64 0) (.string ⟨#[]⟩) (.slice AL acc.length cL) (.slice AM acc.length cM))
      have FIN := Lib.hid (map_post H.out HB.out hB hg hzz HSR.out HFE.out hM.out hz1 hl5)
      clear hblk hM
      go_wp2
      obtain ⟨F, hF, ⟨r0, r1, r2, r3, r4, _⟩, hk, hs, hbel⟩ := HR.out
      rw [← hF]
      clear hF
      exact bodyPost_ret (v := .agg #[.int .i64 7, .int .i64 0, .string ⟨#[]⟩, .slice AL acc.length cL, .slice AM acc.length cM]) (by simp [results, Try.results40, go_sem, r0, r1, r2, r3, r4]) rfl (FIN.out F hk hs hbel)
end Go.Proofs.Ytdolejafihgpmaa
