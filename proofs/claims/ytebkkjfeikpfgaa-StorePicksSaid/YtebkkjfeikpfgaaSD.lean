/- What lies on each side, plain; edgesOf. -/
import Derived.Test.YtebkkjfeikpfgaaSC
import Derived.Deep.CutBlock
import Derived.StillTailTactics
import Derived.Lib.QuietBelow
namespace Go.Proofs.Ytebkkjfeikpfgaa
open Go.RowKit Go.Sort
set_option maxRecDepth 100000
attribute [local go_sem ↓] Go.wp_at_zero Go.wp_at_succ

def outO (t : TV) : SP := ⟨t.id, t.label, t.i⟩
def inI (t : TV) : SP := ⟨t.id, t.label, t.o⟩
/-- The spokes on one side. -/
def spk (es : List TV) (v way : Int) : List SP := if way = 1 then (es.filter fun t => t.o == v).map outO else if way = 2 then (es.filter fun t => t.i == v).map inI else []
theorem spk_snoc (es : List TV) (t : TV) : spk (es ++ [t]) = updS (updS (spk es) t.o 1 (spk es t.o 1 ++ [outO t])) t.i 2 (updS (spk es) t.o 1 (spk es t.o 1 ++ [outO t]) t.i 2 ++ [inI t]) := by
  funext v way
  unfold updS spk
  by_cases h1 : way = 1
  · subst h1
    by_cases h : t.o = v
    · subst h; simp
    · have : ¬ v = t.o := fun e => h e.symm
      simp [h, this]
  · by_cases h2 : way = 2
    · subst h2
      by_cases h : t.i = v
      · subst h; simp
      · have : ¬ v = t.i := fun e => h e.symm
        simp [h, this]
    · simp [h1, h2]
theorem spk_nil : spk [] = fun _ _ => [] := by
  funext v way
  unfold spk
  by_cases h1 : way = 1
  · simp [h1]
  · by_cases h2 : way = 2 <;> simp [h1, h2]
theorem spk_len (es : List TV) (v way : Int) : (spk es v way).length ≤ es.length := by
  unfold spk
  split
  · rw [List.length_map]; exact List.length_filter_le _ _
  · split
    · rw [List.length_map]; exact List.length_filter_le _ _
    · exact Nat.zero_le _
theorem updS_len {S : Int → Int → List SP} {v way : Int} {s : SP} {m : Nat} (h : ∀ a b, (S a b).length ≤ m) (a b : Int) : (updS S v way (S v way ++ [s]) a b).length ≤ m + 1 := by
  by_cases e : a = v ∧ b = way
  · obtain ⟨rfl, rfl⟩ := e
    rw [updS_at]; have := h a b; simp; omega
  · rw [updS_off _ _ e]; have := h a b; omega
def Cut5 (W : World) (o i : Int) (s6 s7 : Value) (w : World) : Prop := ∃ g6 g7, s6 = .pointer (some ⟨g6, 0, none⟩) ∧ s7 = .pointer (some ⟨g7, 0, none⟩) ∧ Hid (Below W.heap.size W w) ∧ Hid (w.cell? ⟨g6, 0, none⟩ = some (.int .i64 o) ∧ w.cell? ⟨g6, 1, none⟩ = some (.int .i64 1) ∧ w.cell? ⟨g7, 0, none⟩ = some (.int .i64 i) ∧ w.cell? ⟨g7, 1, none⟩ = some (.int .i64 2) ∧ g6 < w.heap.size ∧ g7 < w.heap.size ∧ W.heap.size ≤ g7)
theorem two_boxes (W : World) (a b c d : Value) (X : World) (hX : ((W.alloc (.cells #[a, b] 94)).alloc (.cells #[c, d] 94)).drew = X) : Below W.heap.size W X ∧ X.cell? ⟨W.heap.size, 0, none⟩ = some a ∧ X.cell? ⟨W.heap.size, 1, none⟩ = some b ∧ X.cell? ⟨W.heap.size + 1, 0, none⟩ = some c ∧ X.cell? ⟨W.heap.size + 1, 1, none⟩ = some d ∧ W.heap.size < X.heap.size ∧ W.heap.size + 1 < X.heap.size := by
  subst hX
  have hb : Below (W.alloc (.cells #[a, b] 94)).heap.size (W.alloc (.cells #[a, b] 94)) ((W.alloc (.cells #[a, b] 94)).alloc (.cells #[c, d] 94)).drew := (below_new _ _).drew
  have hs : (W.alloc (.cells #[a, b] 94)).heap.size = W.heap.size + 1 := by simp
  refine ⟨(below_new2 _ _ _).drew, cell_below hb ?_ (by show W.heap.size < _; omega), cell_below hb ?_ (by show W.heap.size < _; omega), ?_, ?_, by show W.heap.size < ((W.alloc _).alloc _).heap.size; simp; omega, by show W.heap.size + 1 < ((W.alloc _).alloc _).heap.size; simp⟩
  · rw [World.cell?_alloc_at _ _ _ _ rfl]; rfl
  · rw [World.cell?_alloc_at _ _ _ _ rfl]; rfl
  · show ((W.alloc (.cells #[a, b] 94)).alloc (.cells #[c, d] 94)).cell? _ = _
    rw [← hs, World.cell?_alloc_at _ _ _ _ rfl]; rfl
  · show ((W.alloc (.cells #[a, b] 94)).alloc (.cells #[c, d] 94)).cell? _ = _
    rw [← hs, World.cell?_alloc_at _ _ _ _ rfl]; rfl
theorem cut5_a {W X : World} {o i : Int} (hX : ((W.alloc (.cells #[.int .i64 o, .int .i64 1] 94)).alloc (.cells #[.int .i64 i, .int .i64 2] 94)).drew = X) : Cut5 W o i (.pointer (some ⟨W.heap.size, 0, none⟩)) (.pointer (some ⟨W.heap.size + 1, 0, none⟩)) X := by
  obtain ⟨hb, c0, c1, c2, c3, l0, l1⟩ := two_boxes W _ _ _ _ X hX
  exact ⟨_, _, rfl, rfl, Lib.hid hb, Lib.hid ⟨c0, c1, c2, c3, l0, l1, by omega⟩⟩
theorem cut5_b {W X : World} {o i : Int} (hX : ((W.alloc (.cells #[.int .i64 i, .int .i64 2] 94)).alloc (.cells #[.int .i64 o, .int .i64 1] 94)).drew = X) : Cut5 W o i (.pointer (some ⟨W.heap.size + 1, 0, none⟩)) (.pointer (some ⟨W.heap.size, 0, none⟩)) X := by
  obtain ⟨hb, c0, c1, c2, c3, l0, l1⟩ := two_boxes W _ _ _ _ X hX
  exact ⟨_, _, rfl, rfl, Lib.hid hb, Lib.hid ⟨c2, c3, c0, c1, l1, l0, Nat.le_refl _⟩⟩
/-- What stays while the map grows: all that the caller had, and the box of the result. -/
structure Lp (w wr : World) : Prop where
  bel : Below w.heap.size w wr
  box : ∃ cs, wr.heap[w.heap.size]? = some (.cells cs 67 (0, 0)) ∧ cs.size = 2
theorem Lp.next {w a b : World} (h : Lp w a) (hb : Below a.heap.size a b) : Lp w b :=
  ⟨bnext h.bel hb, by
    obtain ⟨cs, h1, h2⟩ := h.box
    exact ⟨cs, (hb.block _ (Array.getElem?_eq_some_iff.1 h1).1).trans h1, h2⟩⟩
theorem push_all {w wc X wa wb wd : World} {mb n : Nat} {D : DataW Value} {val : Int → Int → Value} {S : Int → Int → List SP} {v way : Int} {s : SP} {v0 v' : Value}
    (hmb : mb = w.heap.size + 1) (L : Lp w wc) (h : Aro wc (mb + 1) mb n D val S) (hv : WfI v) (hway : WfI way) (hX : Below wc.heap.size wc X) (ht1 : X.mapTurned wa mb) (hv0 : v0 = val v way) (hg : wa.grownBy wb v0.ownBlock)
    (hown : wb.ownsRow (mb + 1) 74 3 v' ((S v way).length + 1) (flatS (S v way) ++ s.cs)) (hloc : v'.ownBlock = v0.ownBlock ∨ v'.ownBlock = some wa.heap.size)
    (hmap : wd.ownsMap Try.prog 94 exR mb (n + 1) (D.put (kl v way) (.held v'))) (ht2 : wb.mapTurned wd mb) :
    Lp w wd ∧ (∃ D' val', Aro wd (mb + 1) mb (n + 1) D' val' (updS S v way (S v way ++ [s]))) ∧ ∀ k, k < wc.heap.size → k ≠ mb → some k ≠ v0.ownBlock → wd.heap[k]? = wc.heap[k]? := by
  obtain ⟨g', cap, rfl, hg1, hg2⟩ := hown.form (by omega)
  have sz1 := hX.size
  have sz2 := turned_size ht1
  have sz3 := hg.size
  have sz4 := turned_size ht2
  have hblk : ∀ k, v0.ownBlock = some k → mb + 1 ≤ k := fun k hk => by
    subst hv0
    obtain ⟨A, c, e, ho⟩ := h.row v way
    rw [e] at hk
    exact (World.ownsRow.lt ho k hk).1
  have hsame : ∀ k, k < wc.heap.size → k ≠ mb → some k ≠ v0.ownBlock → wb.heap[k]? = wc.heap[k]? := fun k hk h1 h2 =>
    (hg.block k (by omega) h2).trans ((turned_block ht1 h1).trans (hX.block k hk))
  have hlow : ∀ k, k < wc.heap.size → k ≤ w.heap.size → wd.heap[k]? = wc.heap[k]? := fun k hk h1 =>
    (turned_block ht2 (by omega)).trans (hsame k hk (by omega) (fun e => by have := hblk k e.symm; omega))
  have hbb := L.bel.size
  obtain ⟨cs, b1, b2⟩ := L.box
  have hlt := (Array.getElem?_eq_some_iff.1 b1).1
  have hown3 : SOwn wb (mb + 1) (some ⟨g', 0, none⟩) ((S v way).length + 1) cap (S v way ++ [s]) := by
    unfold SOwn
    rw [flatS_app]
    simpa [flatS] using hown
  have hloc3 : (Value.slice (some ⟨g', 0, none⟩) ((S v way).length + 1) cap).ownBlock = (val v way).ownBlock ∨ ∃ g, (Value.slice (some ⟨g', 0, none⟩) ((S v way).length + 1) cap).ownBlock = some g ∧ wc.heap.size ≤ g := by
    rcases hloc with e | e
    · exact .inl (by rw [e, hv0])
    · exact .inr ⟨_, e, by omega⟩
  exact ⟨⟨⟨ht2.grown.os.trans (hg.os.trans (ht1.grown.os.trans (hX.os.trans L.bel.os))), ht2.grown.tape.trans (hg.tape.trans (ht1.grown.tape.trans (hX.tape.trans L.bel.tape))), ht2.grown.output.trans (hg.output.trans (ht1.grown.output.trans (hX.output.trans L.bel.output))), by omega, fun k hk => (hlow k (by omega) (by omega)).trans (L.bel.block k hk)⟩, cs, (hlow _ hlt (Nat.le_refl _)).trans b1, b2⟩, ⟨_, _, h.push (w3 := wb) (s := s) hv hway (fun k h1 h2 h3 => hsame k h1 h2 (by rw [hv0]; exact h3)) hown3 hloc3 hmap ht2⟩, fun k h1 h2 h3 => (turned_block ht2 h2).trans (hsame k h1 h2 h3)⟩
theorem info74 : (Try.prog.info? 74).map (fun i => (i.zero, i.size, i.bytes)) = some (some (.agg #[.int .i64 0, .string ⟨#[]⟩, .int .i64 0]), 3, 32) := by kernel_rfl
theorem own_turned {X wa : World} {mb nn c : Nat} {A : Option Addr} {l : List SP} (h : SOwn X (mb + 1) A nn c l) (ht : X.mapTurned wa mb) : SOwn wa (mb + 1) A nn c l := h.keep (fun _ hk _ => turned_block ht (by omega))
theorem box_turned {wc wa : World} {mb : Nat} {e o : Int} {l : ByteArray} (hmb : mb < wc.heap.size) (ht : (wc.alloc (.cells #[.int .i64 e, .string l, .int .i64 o] 74)).mapTurned wa mb) :
    ∀ j u, [Value.int .i64 e, .string l, .int .i64 o][j]? = some u → wa.cell? ((⟨wc.heap.size, 0, none⟩ : Addr).add j) = some u := by
  have b := box3 wc ⟨e, l, o⟩
  have hk : ∀ i, wa.cell? ⟨wc.heap.size, i, none⟩ = (wc.alloc (.cells #[.int .i64 e, .string l, .int .i64 o] 74)).cell? ⟨wc.heap.size, i, none⟩ := fun i => World.cell?_of_block (a := ⟨wc.heap.size, i, none⟩) (turned_block ht (by show wc.heap.size ≠ mb; omega))
  intro j u hj
  rw [add_none, hk]
  match j, hj with
  | 0, hj => injection hj with hj; subst hj; exact b.c0
  | 1, hj => injection hj with hj; subst hj; exact b.c1
  | 2, hj => injection hj with hj; subst hj; exact b.c2
theorem cell3_one {e o : Int} {l : ByteArray} : ∀ u ∈ [Value.int .i64 e, .string l, .int .i64 o], u.oneCell' = true := by
  intro u hu
  simp at hu
  rcases hu with rfl | rfl | rfl <;> rfl
theorem make_sides (w : World) : (Instr.makeMap 65 none).run Try.prog w = .ok (.map (some w.heap.size)) (w.alloc (.map #[] 0)) := by
  simp [Instr.makeMap, Result.andThen]
def EdgesPost (w : World) (A : Option Addr) (c : Nat) (ts : List TA) (e : Ending) (w' : World) : Prop := ∃ base mb n D val, e = .returned (.agg #[.slice A ts.length c, .map (some mb)]) ∧ Aro w' base mb n D val (spk (ts.map TA.tv')) ∧ w.heap.size ≤ mb ∧ Below w.heap.size w w'

set_option maxHeartbeats 16000000 in
theorem edgesOf_any (w : World) (d : Nat) (A : Option Addr) (c : Nat) (ts : List TA) (h : TRow w d A c ts) (hf : ∀ t ∈ ts, TFld t) : Calls Try.prog 32 #[.slice A ts.length c] w (EdgesPost w A c ts) := by
  have hbig : ts.length ≤ 2199023255488 := h.big
  have H := Lib.hid h
  have HF := Lib.hid hf
  clear h hf
  obtain ⟨n, hn⟩ : ∃ n, n = ts.length := ⟨_, rfl⟩
  rw [← hn] at hbig ⊢
  have HN := Lib.hid hn
  clear hn
  have hmk := make_sides
  go_enter Try.func32, Try.ntmps32
  go_wp2
  clear hmk
  have A0 := Lib.hid (Aro.new (w.alloc (.cells #[.slice none 0 0, .map none] 67)))
  have B0 := Lib.hid (below_new2 w (.cells #[.slice none 0 0, .map none] 67) (.map #[] 0))
  have S0 : (w.alloc (.cells #[.slice none 0 0, .map none] 67)).heap.size = w.heap.size + 1 := by simp
  have L0 := Lib.hid (show Lp w ((w.alloc (.cells #[.slice none 0 0, .map none] 67)).alloc (.map #[] 0)) from ⟨B0.out, #[.slice none 0 0, .map none], ((below_new _ _).block _ (by simp)).trans (heap_alloc_new w _), rfl⟩)
  rw [S0] at A0
  clear S0 B0
  generalize World.alloc (w.alloc _) (.map #[] 0) = W at A0 L0 ⊢
  obtain ⟨mb, hmb⟩ : ∃ mb, mb = w.heap.size + 1 := ⟨_, rfl⟩
  rw [← hmb] at A0
  try rw [← hmb]
  have MB := Lib.hid hmb
  clear hmb
  obtain ⟨i0, hi, hz0, hz1, hz2⟩ := info_parts info74
  have WW1 : Hid (WfI 1) := Lib.hid (by decide)
  have WW2 : Hid (WfI 2) := Lib.hid (by decide)
  go_loopw [11] (fun i wr => ∃ (k : Nat) (D : DataW Value) (val : Int → Int → Value), k ≤ n ∧ i = .int .i64 k ∧ Hid (Lp w wr) ∧ Hid (Aro wr (mb + 1) mb (2 * k) D val (spk ((ts.take k).map TA.tv')))) (fun i _ => n - (intOf i).toNat)
  case atStart => exact ⟨0, _, _, by omega, rfl, L0, by rw [show (ts.take 0).map TA.tv' = [] from rfl, spk_nil]; exact A0⟩
  case round =>
    obtain ⟨k, D, val, hk, rfl, hL, hA⟩ := hrel
    by_cases hlt : k < n
    · obtain ⟨b, off, t, rfl, hb, ht, q5, -⟩ := (H.out.next hL.out.bel).elem (k := k) (by have := HN.out; omega)
      obtain ⟨q0, q1, q2, q3, q4⟩ := q5
      have HT := Lib.hid ht
      have WO := Lib.hid (HF.out t (List.mem_of_getElem? ht)).2.1
      have WI := Lib.hid (HF.out t (List.mem_of_getElem? ht)).2.2
      clear ht
      go_upto_region 5 with fail
      have bx := CellT.new wr (.int .i64 t.id) (.string t.label) (.int .i64 t.o) (.int .i64 t.i) (.slice t.A t.l.length t.c)
      generalize hW : World.alloc wr _ = W1 at bx
      have BW : Hid (Below wr.heap.size wr W1) := Lib.hid (by rw [← hW]; exact below_new _ _)
      have g5lt : wr.heap.size < W1.heap.size := bx.blk.lt
      have K5 := Lib.hid bx
      clear hW q0 q1 q2 q3 q4
      have L1 := Lib.hid (hL.out.next BW.out)
      have A1 := Lib.hid (hA.out.next BW.out)
      have OB : Hid (∀ a b g, (val a b).ownBlock = some g → g < wr.heap.size) := Lib.hid (fun a b g hg => hA.out.lt hg)
      have MLT : mb < wr.heap.size := hA.out.map.lt
      clear hL hA BW
      generalize wr.heap.size = g5 at bx g5lt K5 OB MLT ⊢
      obtain ⟨r0, r1, r2, r3, r4, -⟩ := bx
      go_cut [6, 7] (fun s6 s7 wx => Cut5 W1 t.o t.i s6 s7 wx)
      case first =>
        go_region
        all_goals
          go_wp2_with fail
          go_meet
          first | exact cut5_a rfl | exact cut5_b rfl
      case rest =>
        obtain ⟨g6, g7, rfl, rfl, HB, HC⟩ := hcut
        replace K5 := Lib.hid (K5.out.next HB.out)
        have LP := Lib.hid (L1.out.next HB.out)
        have AR := Lib.hid (A1.out.next HB.out)
        clear L1 A1 HB
        have g5lt2 : g5 < wc.heap.size := K5.out.blk.lt
        clear r0 r1 r2 r3 r4
        obtain ⟨wq, hwq⟩ : ∃ wq, wq = wc := ⟨_, rfl⟩
        rw [← hwq] at K5 LP AR HC g5lt2 ⊢
        clear hwq
        have HG6 := Lib.hid (show wq.cell? ⟨g6, 0, none⟩ = some (.int .i64 t.o) ∧ wq.cell? ⟨g6, 1, none⟩ = some (.int .i64 1) from ⟨HC.out.1, HC.out.2.1⟩)
        have HG7 := Lib.hid (show wq.cell? ⟨g7, 0, none⟩ = some (.int .i64 t.i) ∧ wq.cell? ⟨g7, 1, none⟩ = some (.int .i64 2) from ⟨HC.out.2.2.1, HC.out.2.2.2.1⟩)
        have g6lt : g6 < wq.heap.size := HC.out.2.2.2.2.1
        have g7lt : g7 < wq.heap.size := HC.out.2.2.2.2.2.1
        have g7ge : g5 ≤ g7 := by have := HC.out.2.2.2.2.2.2; omega
        clear HC
        have tkl : ((ts.take k).map TA.tv').length ≤ k := by rw [List.length_map]; exact List.length_take_le _ _
        have NEXT := Lib.hid (show spk ((ts.take (k + 1)).map TA.tv') = _ by rw [List.take_add_one, HT.out, Option.toList_some, List.map_append, List.map_singleton, spk_snoc])
        have SL : Hid (∀ a b, ((spk ((ts.take k).map TA.tv')) a b).length ≤ k) := Lib.hid (fun a b => Nat.le_trans (spk_len _ a b) tkl)
        clear tkl
        generalize spk ((ts.take k).map TA.tv') = S at AR NEXT SL
        have hn6 : 2 * k < maxLen := by unfold maxLen; omega
        have hn7 : 2 * k + 1 < maxLen := by unfold maxLen; omega
        obtain ⟨x0a, x1a⟩ : wq.cell? ⟨g6, 0, none⟩ = some (.int .i64 t.o) ∧ wq.cell? ⟨g6, 1, none⟩ = some (.int .i64 1) := HG6.out
        obtain ⟨r0, r1, r2, r3, r4, -⟩ := K5.out
        obtain ⟨A0a, c0a, ev, ho⟩ := AR.out.row t.o 1
        have EVa := Lib.hid ev
        have HOa := Lib.hid ho
        have ATTa := Lib.hid (AR.out.at_ t.o 1 WO.out WW1.out)
        have LENa := Lib.hid (SL.out t.o 1)
        have mlta := AR.out.map.lt
        have HMa := Lib.hid (fun (X : World) (hX : Below wq.heap.size wq X) => (AR.out.next hX).map)
        clear ev ho
        go_upto_region 7 with (first
            | (refine wpList_entry rfl 65 _ _ rfl (HMa.out _ (below_new _ _)) rfl Try.underlying65 zero75 hn6 rfl (keyOf_side WO.out WW1.out) ?_; intro v0a sta waa hat htn hbk; have HVa : Hid (v0a = val t.o 1) := Lib.hid (by have := hat.symm.trans ATTa.out; injection this); have HT1a := Lib.hid htn; have HBKa := Lib.hid hbk; have HOWa : Hid (waa.ownsRow (mb + 1) 74 3 v0a (S t.o 1).length (flatS (S t.o 1))) := Lib.hid (by rw [HVa.out, EVa.out]; exact own_turned (HOa.out.next (below_new _ _)) htn); have SZa : Hid (mb + 1 ≤ waa.heap.size) := Lib.hid (by rw [turned_size htn]; simp; omega); clear hat htn hbk)
            | (at_builtin; refine wpList_append_own_at _ rfl _ _ 75 rfl (mb + 1) 74 i0 (.agg #[.int .i64 0, .string ⟨#[]⟩, .int .i64 0]) 3 32 Try.underlying75 hi hz0 hz1 hz2 rfl (by decide) _ _ _ rfl HOWa.out ⟨wq.heap.size, 0, none⟩ 1 1 [.int .i64 t.id, .string t.label, .int .i64 t.i] rfl rfl (box_turned mlta HT1a.out) cell3_one (by have := LENa.out; unfold maxLen; omega) (by have := LENa.out; omega) SZa.out ?_; intro v1a wba hown2 hgrow2 _ hloc2; have OW2a := Lib.hid hown2; have GR2a := Lib.hid hgrow2; have LO2a := Lib.hid hloc2; clear hown2 hgrow2 hloc2)
            | (refine wpList_back rfl 65 _ _ _ rfl HBKa.out rfl rfl rfl (GR2a.out.block mb (by have := SZa.out; omega) (fun e => by have := (World.ownsRow.lt HOWa.out mb e.symm).1; omega)) ?_; intro wda hmd htd; have MDa := Lib.hid hmd; have TDa := Lib.hid htd; clear hmd htd))
        obtain ⟨lpa, ⟨Da, vala, ara⟩, kpa⟩ := push_all (s := ⟨t.id, t.label, t.i⟩) MB.out LP.out AR.out WO.out WW1.out (below_new _ _) HT1a.out HVa.out GR2a.out OW2a.out LO2a.out MDa.out TDa.out
        have LPa := Lib.hid lpa
        have ARa := Lib.hid ara
        have KPa := Lib.hid kpa
        clear lpa ara kpa r0 r1 r2 r3 r4 x0a x1a
        have KK := Lib.hid (fun j (h1 : g5 ≤ j) (h2 : j < wq.heap.size) => KPa.out j h2 (by omega) (fun e => by rw [HVa.out] at e; have := OB.out _ _ _ e.symm; omega))
        replace K5 := Lib.hid (K5.out.kept (KK.out g5 (Nat.le_refl _) g5lt2))
        have HG7a := Lib.hid (show wda.cell? ⟨g7, 0, none⟩ = some (.int .i64 t.i) ∧ wda.cell? ⟨g7, 1, none⟩ = some (.int .i64 2) from ⟨(World.cell?_of_block (a := ⟨g7, 0, none⟩) (KK.out g7 g7ge g7lt)).trans HG7.out.1, (World.cell?_of_block (a := ⟨g7, 1, none⟩) (KK.out g7 g7ge g7lt)).trans HG7.out.2⟩)
        clear HG7
        have HG7 := HG7a
        have sda : Hid (wq.heap.size ≤ wda.heap.size) := Lib.hid (by rw [turned_size TDa.out]; exact Nat.le_trans (by rw [turned_size HT1a.out]; simp) GR2a.out.size)
        have g5lt3 : g5 < wda.heap.size := Nat.lt_of_lt_of_le g5lt2 sda.out
        have g7lt3 : g7 < wda.heap.size := Nat.lt_of_lt_of_le g7lt sda.out
        have SL2 := Lib.hid (updS_len (v := t.o) (way := 1) (s := ⟨t.id, t.label, t.i⟩) SL.out)
        clear KK KPa HVa OB LP AR HT1a GR2a OW2a LO2a MDa TDa HOWa HBKa EVa HOa ATTa LENa HMa SZa sda g5lt2 g6lt g7lt HG6 HG7a mlta
        have NX : Hid (spk ((ts.take (k + 1)).map TA.tv') = updS (updS S t.o 1 (S t.o 1 ++ [⟨t.id, t.label, t.i⟩])) t.i 2 (updS S t.o 1 (S t.o 1 ++ [⟨t.id, t.label, t.i⟩]) t.i 2 ++ [⟨t.id, t.label, t.o⟩])) := Lib.hid NEXT.out
        clear NEXT SL
        generalize updS S t.o 1 (S t.o 1 ++ [⟨t.id, t.label, t.i⟩]) = S2 at ARa NX SL2
        obtain ⟨x0b, x1b⟩ : wda.cell? ⟨g7, 0, none⟩ = some (.int .i64 t.i) ∧ wda.cell? ⟨g7, 1, none⟩ = some (.int .i64 2) := HG7.out
        obtain ⟨r0, r1, r2, r3, r4, -⟩ := K5.out
        obtain ⟨A0b, c0b, ev, ho⟩ := ARa.out.row t.i 2
        have EVb := Lib.hid ev
        have HOb := Lib.hid ho
        have ATTb := Lib.hid (ARa.out.at_ t.i 2 WI.out WW2.out)
        have LENb := Lib.hid (SL2.out t.i 2)
        have mltb := ARa.out.map.lt
        have HMb := Lib.hid (fun (X : World) (hX : Below wda.heap.size wda X) => (ARa.out.next hX).map)
        clear ev ho
        go_upto_region 8 with (first
            | (refine wpList_entry rfl 65 _ _ rfl (HMb.out _ (below_new _ _)) rfl Try.underlying65 zero75 hn7 rfl (keyOf_side WI.out WW2.out) ?_; intro v0b stb wab hat htn hbk; have HVb : Hid (v0b = vala t.i 2) := Lib.hid (by have := hat.symm.trans ATTb.out; injection this); have HT1b := Lib.hid htn; have HBKb := Lib.hid hbk; have HOWb : Hid (wab.ownsRow (mb + 1) 74 3 v0b (S2 t.i 2).length (flatS (S2 t.i 2))) := Lib.hid (by rw [HVb.out, EVb.out]; exact own_turned (HOb.out.next (below_new _ _)) htn); have SZb : Hid (mb + 1 ≤ wab.heap.size) := Lib.hid (by rw [turned_size htn]; simp; omega); clear hat htn hbk)
            | (at_builtin; refine wpList_append_own_at _ rfl _ _ 75 rfl (mb + 1) 74 i0 (.agg #[.int .i64 0, .string ⟨#[]⟩, .int .i64 0]) 3 32 Try.underlying75 hi hz0 hz1 hz2 rfl (by decide) _ _ _ rfl HOWb.out ⟨wda.heap.size, 0, none⟩ 1 1 [.int .i64 t.id, .string t.label, .int .i64 t.o] rfl rfl (box_turned mltb HT1b.out) cell3_one (by have := LENb.out; unfold maxLen; omega) (by have := LENb.out; omega) SZb.out ?_; intro v1b wbb hown2 hgrow2 _ hloc2; have OW2b := Lib.hid hown2; have GR2b := Lib.hid hgrow2; have LO2b := Lib.hid hloc2; clear hown2 hgrow2 hloc2)
            | (refine wpList_back rfl 65 _ _ _ rfl HBKb.out rfl rfl rfl (GR2b.out.block mb (by have := SZb.out; omega) (fun e => by have := (World.ownsRow.lt HOWb.out mb e.symm).1; omega)) ?_; intro wdb hmd htd; have MDb := Lib.hid hmd; have TDb := Lib.hid htd; clear hmd htd))
        obtain ⟨lpb, ⟨Db, valb, arb⟩, kpb⟩ := push_all (s := ⟨t.id, t.label, t.o⟩) MB.out LPa.out ARa.out WI.out WW2.out (below_new _ _) HT1b.out HVb.out GR2b.out OW2b.out LO2b.out MDb.out TDb.out
        have LPb := Lib.hid lpb
        have ARb := Lib.hid arb
        have KPb := Lib.hid kpb
        clear lpb arb kpb r0 r1 r2 r3 r4 x0b x1b
        clear HVb LPa ARa HT1b GR2b OW2b LO2b MDb TDb HOWb HBKb EVb HOb ATTb LENb HMb SZb HG7 KPb
        have kb : (k : Int) < (n : Int) := by omega
        go_wp2
        go_roundw
        case rel => exact ⟨k + 1, _, _, by omega, by go_num, LPb, by rw [NX.out]; exact ARb⟩
        case measure => simp [intOf]; omega
    · obtain rfl : k = n := by omega
      obtain ⟨cs, b1, b2⟩ := hL.out.box
      obtain ⟨u0, y0⟩ : ∃ u, wr.cell? ⟨w.heap.size, 0, none⟩ = some u := ⟨cs[0], by rw [cell_of_row wr _ 0 cs 67 (0, 0) b1]; exact Array.getElem?_eq_getElem (by omega)⟩
      obtain ⟨u1, y1⟩ : ∃ u, wr.cell? ⟨w.heap.size, 1, none⟩ = some u := ⟨cs[1], by rw [cell_of_row wr _ 1 cs 67 (0, 0) b1]; exact Array.getElem?_eq_getElem (by omega)⟩
      have f0 : wr.frozen? ⟨w.heap.size, 0, none⟩ = false := by simp [World.frozen?, b1]
      have f1 : wr.frozen? ⟨w.heap.size, 1, none⟩ = false := by simp [World.frozen?, b1]
      have SC := Lib.hid (store2 y0 y1 (.slice A k c) (.map (some mb)))
      clear b1 b2
      go_wp2
      obtain ⟨s0, s1⟩ := SC.out
      have e1 := HN.out
      have ar := hA.out
      rw [List.take_of_length_le (by omega)] at ar
      have hb : Below w.heap.size w ((wr.setCell ⟨w.heap.size, 0, none⟩ (.slice A k c)).setCell ⟨w.heap.size, 1, none⟩ (.map (some mb))) := (hL.out.bel.setCell (p := ⟨w.heap.size, 0, none⟩) (Nat.le_refl _) _).setCell (p := ⟨w.heap.size, 1, none⟩) (Nat.le_refl _) _
      have har : Aro ((wr.setCell ⟨w.heap.size, 0, none⟩ (.slice A k c)).setCell ⟨w.heap.size, 1, none⟩ (.map (some mb))) (mb + 1) mb (2 * k) D val (spk (ts.map TA.tv')) := ar.keep (fun j h1 _ => by
        have := MB.out
        rw [Below.heap_setCell _ _ _ _ (by show j ≠ w.heap.size; omega), Below.heap_setCell _ _ _ _ (by show j ≠ w.heap.size; omega)])
      generalize World.setCell (World.setCell wr _ _) _ _ = F at s0 s1 hb har ⊢
      exact bodyPost_ret (v := .agg #[.slice A k c, .map (some mb)]) (by simp [results, Try.results32, go_sem, s0, s1]) rfl ⟨_, mb, _, _, _, by rw [← e1], har, by have := MB.out; omega, hb⟩
end Go.Proofs.Ytebkkjfeikpfgaa
