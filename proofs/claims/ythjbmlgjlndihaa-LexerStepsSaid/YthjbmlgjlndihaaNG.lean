/- LexerSteps, walked. -/
import Derived.Test.YthjbmlgjlndihaaNF
import Derived.Test.YthjbmlgjlndihaaLJ
import Derived.Test.YthjbmlgjlndihaaLS
namespace Go.Proofs.Ythjbmlgjlndihaa
set_option maxRecDepth 100000
open Go.RowKit Go.Shelf Go.Sort
attribute [local go_sem] Oper.semAt_some

theorem range_blk {α : Type} {n : Nat} {P : Program} {g : Operand} {ps : Array Tmp} {assign body : Code} {Q : Exit → Act → World → Prop} {a : Act} {w : World}
    {gf : Nat} {lb : Array Value} {encs : α → Array Value} {L : List α} {Ok : World → Prop} (c0 : Nat)
    (hg : a.eval g = .func (.func gf) #[] lb) (eg : ∀ args w, (callFunc gf args).run P w = .ok (.enter gf args) w) (hps : ∀ x, (encs x).size = ps.size)
    (hC : HandsK (n - 1) P gf (fun l => #[.func (.yield l) #[] #[]] ++ lb) encs L Ok) (hOk : ∀ W', Below w.heap.size w W' → Ok W')
    (I Ix : List α → World → Prop) (hI : OwnFrom w.heap.size I) (hIx : OwnFrom w.heap.size Ix) (h0 : I [] w)
    (Ax : α → Act → World → Prop) (hAx : ∀ x a', OwnFrom w.heap.size (fun (_ : Unit) W => Ax x a' W))
    (hassign : ∀ (l : Nat) (pre : List α) (x : α) (W : World) (K : Act → World → Prop), I pre W → (∀ a' W', KeepK w.heap.size W W' → I pre W' → Ax x a' W' → K a' W') →
      assign.wpIn (Fence.wide.inRound l) (n - 1 - 1) P (Exit.then K (fun _ _ _ => False)) { tmps := (ps.zip (encs x)).foldl (fun t (p, v) => t.setIfInBounds p v) a.tmps, defers := [] } W)
    (hbody : ∀ (l : Nat) (pre : List α) (x : α) (a' : Act) (W : World), w.heap.size ≤ l → pre ++ [x] <+: L → I pre W → Ax x a' W →
      body.wpIn (Fence.wide.inRound l) (n - 1 - 1) P (LeavesK c0 w.heap.size (I (pre ++ [x])) (Ix (pre ++ [x])) W) a' W)
    (hend : ∀ (D : Nat) (W : World), w.heap.size ≤ D → (I L W ∨ ∃ pre, pre <+: L ∧ Ix pre W) → W.heap[D]? = some (.deferred (some [])) → Q .normal { a with defers := { target := .collected D, args := #[] } :: a.defers } W) :
    (Code.rangeFunc g ps assign body).wpIn Fence.wide n P (Exit.inBlock c0 Q) a w :=
  range_own c0 hg eg hps hC hOk I Ix hI hIx h0 Ax hAx hassign hbody (fun D W h1 h2 h3 => hend D W h1 (.inl h2) h3) (fun D pre W h1 h2 h3 h4 => wpIn_exit (by
    simp only [Exit.inBlock, if_true]
    exact hend D W h1 (.inr ⟨pre, h2, h3⟩) h4))
theorem Boxed.nextB {W W' : World} {g : Nat} {t : TypeId} {v : Value} (h : Boxed W g t v) (hb : Below W.heap.size W W') : Boxed W' g t v := (hb.block g h.lt).trans h
theorem box_new2 (w : World) (v : Value) : Boxed (w.alloc (.cells #[v] 3)) w.heap.size 3 v := Boxed.new _ _ _
def FewD (r n K : Nat) : Prop := r = 0 → n < K
theorem fn_nil (g : Nat) (w : World) : (binOp .eql 28 (.func (.func 19) #[] #[.pointer (some ⟨g, 0, none⟩)]) .nilFunc).run Try.prog w = .ok (.bool false) w := rfl
theorem steps_1 (W : World) (A : Option Addr) (n c : Nat) (z : Int) (h : ¬ n ≤ 4000) : Calls Try.prog 3 #[.slice A n c, .int .i64 z] W (Tr W) := by
  have h1i : (4000 : Int) < (n : Int) := by omega
  clear h
  go_enter Try.func3, Try.ntmps3
  go_wp2_with fail
  refine (known_any _).mono ?_
  rintro e w' ⟨rfl, hb⟩
  have HB := Lib.hid hb
  clear hb
  go_wp2
  go_ret
  exact ⟨rfl, HB.out⟩


set_option maxHeartbeats 16000000 in
theorem steps_a (w : World) (A : Option Addr) (n c : Nat) (z : Int) (q : Bs) (hA : BRow w A c q) (hn : n = q.length) (h1 : n ≤ 4000) (T : List TK) (hT : Hid (T = toksL q)) (m : Nat) (hm : Hid (m = T.length)) (hmm : m ≤ 4001) (hR : Hid (allL q = (T, 0, 0))) : Calls Try.prog 3 #[.slice A n c, .int .i64 z] w (Tr w) := by
  have h1i : (n : Int) ≤ 4000 := by omega
  have HN := Lib.hid hn
  have HA := Lib.hid hA
  obtain ⟨K, hK1, hK2⟩ := uint_rem2 z m hmm
  obtain ⟨i0, hi0, hz0, hz1, hz2⟩ := info_parts info32
  clear hn hA
  refine (callsIn_wide (n := 12)).1 ?_
  refine callsIn_of_wp_marks Try.func3 rfl trivial ?_ rfl
  simp only [Try.ntmps3, List.size_toArray, List.length_cons, List.length_nil, Nat.reduceAdd, Nat.reduceSub, Array.replicate_succ, Array.replicate_zero, List.push_toArray, List.append_toArray, List.nil_append, List.cons_append]
  gi_wp2_with fail
  refine ⟨trivial, (callsIn_wide.2 (rall_at (by have := HN.out; omega) HN.out hR.out hm.out HA.out)).mono ?_⟩
  rintro e w1 ⟨A1, c1, rfl, hO1, hb1⟩
  have O1 := Lib.hid hO1.row
  have B1 := Lib.hid hb1
  have HA1 := Lib.hid (HA.out.next hb1)
  clear hO1 hb1
  gi_wp2_with fail
  refine ⟨trivial, (callsIn_wide.2 (tokens_any w1 A n c q HA1.out HN.out h1)).mono ?_⟩
  rintro e wb ⟨go, rfl, hgo, hbo, hb2⟩
  have O2 := Lib.hid (O1.out.next hb2)
  have B2 := Lib.hid (bnext B1.out hb2)
  have HBo := Lib.hid hbo
  clear hb2 hbo
  have hfn := fn_nil go
  gi_wp2_with fail
  clear hfn
  generalize hcK : wrap64 ((IntKind.u64.wrap z).tmod ((m : Int) + 2)) = zK at hK2 ⊢
  clear hcK
  subst hK2
  have b9 : Boxed ((wb.alloc (.cells #[.int .i64 (K : Int)] 3)).alloc (.cells #[.int .i64 0] 3)) wb.heap.size 3 (.int .i64 (K : Nat)) := (Boxed.new wb 3 (.int .i64 (K : Int))).alloc _
  have b10 : Boxed ((wb.alloc (.cells #[.int .i64 (K : Int)] 3)).alloc (.cells #[.int .i64 0] 3)) (wb.heap.size + 1) 3 (.int .i64 ((0 : Nat) : Int)) := by
    have := Boxed.new (wb.alloc (.cells #[.int .i64 (K : Int)] 3)) 3 (.int .i64 0)
    simpa using this
  have hbel0 : Below wb.heap.size wb ((wb.alloc (.cells #[.int .i64 (K : Int)] 3)).alloc (.cells #[.int .i64 0] 3)) := ((Below.refl _ _).alloc (Nat.le_refl _) _).alloc (by simp) _
  have hsz0 : ((wb.alloc (.cells #[.int .i64 (K : Int)] 3)).alloc (.cells #[.int .i64 0] 3)).heap.size = wb.heap.size + 1 + 1 := by simp
  generalize hg9 : wb.heap.size = g9 at b9 b10 hbel0 hsz0 ⊢
  generalize hg10 : g9 + 1 = g10 at b10 hsz0 ⊢
  generalize World.alloc _ _ = W0 at b9 b10 hbel0 hsz0 ⊢
  have HH := Lib.hid (tokens_hands (bs q) (by rw [bs_size]; have := HN.out; omega) go (12 - 1) (by decide))
  rw [bs_toList, ← hT.out] at HH
  have HBO : Hid (go < wb.heap.size) := Lib.hid HBo.out.lt
  have HBg : Hid (∀ W', Below wb.heap.size wb W' → Boxed W' go 48 (.string (bs q))) := Lib.hid (fun W' hb => (hb.block go HBo.out.lt).trans HBo.out)
  have HOA : Hid (∀ W', Below wb.heap.size wb W' → TRow W' A1 c1 T) := Lib.hid (fun W' hb => O2.out.next hb)
  rw [hg9] at HBg HOA
  have hn910 : g9 ≠ g10 := by omega
  have hwb9 : wb.heap.size ≤ g9 := by omega
  have hlt9 : g9 < W0.heap.size := by omega
  have hlt10 : g10 < W0.heap.size := by omega
  clear hg10 hsz0
  rw [← hg9] at hbel0 HBg HOA
  have HW0 := Lib.hid hbel0
  clear hbel0 HBo O2 O1
  refine wpIn_loop_rounds 3 ?_
  rw [roundsIn_succ]
  have c100 := b10.cell
  gi_wp2_with fail
  clear c100
  have S0 : SI wb g9 g10 W0.heap.size K 0 none [] (W0.alloc (.cells #[.slice none 0 0] 24)) := ⟨⟨none, 0, Boxed.new _ _ _, town_nil _ _⟩, b9.alloc _, b10.alloc _, HW0.out.alloc HW0.out.size _, (fun d e => by cases e), fun _ => by simp⟩
  have hzU0 : (W0.alloc (.cells #[.slice none 0 0] 24)).heap.size = W0.heap.size + 1 := by simp
  have hwG0 : wb.heap.size ≤ W0.heap.size := HW0.out.size
  generalize World.alloc _ _ = U0 at S0 hzU0 ⊢
  generalize hGG0 : W0.heap.size = G0 at S0 hzU0 hwG0 hlt9 hlt10 ⊢
  clear hGG0
  have ow0 : OwnFrom U0.heap.size (SI wb g9 g10 G0 K 0 none) := SI.own S0.bel.size (fun d e => by cases e)
  refine range_blk (L := T) (encs := encT) (gf := 19) (lb := #[.pointer (some ⟨go, 0, none⟩)]) (Ok := fun W => Boxed W go 48 (.string (bs q))) 2 rfl (enters_of Try.func19 (by kernel_rfl) rfl) (fun _ => rfl) HH.out (fun W' hb => HBg.out W' (S0.bel.trans (hb.mono S0.bel.size)))
    (SI wb g9 g10 G0 K 0 none) (SX wb g9 g10 G0 K 0 none) ow0 (SX.own S0.bel.size (fun d e => by cases e)) S0
    (fun x a' W => ∃ Bt, Tok W Bt x ∧ a' = { tmps := #[Value.slice A n c, Value.int IntKind.i64 z, undef, undef, Value.bool false, Value.slice A1 m c1, Value.int IntKind.i64 0, Value.int IntKind.i64 0, Value.func (Fn.func 19) #[] #[Value.pointer (some { block := go, off := 0 })], Value.pointer (some { block := g9, off := 0 }), Value.pointer (some { block := g10, off := 0 }), Value.pointer (some { block := G0, off := 0 }), Value.pointer (some { block := Bt, off := 0 }), undef, Value.slice A n c, Value.int IntKind.i64 ↑n, Value.bool (decide ((4000 : Int) < (n : Int))), undef, Value.tuple #[Value.slice A1 m c1, Value.int IntKind.i64 0, Value.int IntKind.i64 0], Value.slice A n c, Value.tuple #[Value.slice A1 m c1, Value.int IntKind.i64 0, Value.int IntKind.i64 0], Value.slice A1 m c1, Value.int IntKind.i64 0, Value.int IntKind.i64 0, Value.int IntKind.i64 0, Value.bool false, undef, undef, undef, undef, undef, undef, undef, undef, Value.slice A n c, Value.func (Fn.func 19) #[] #[Value.pointer (some { block := go, off := 0 })], Value.func (Fn.func 19) #[] #[Value.pointer (some { block := go, off := 0 })], Value.bool false, Value.int IntKind.i64 z, Value.int IntKind.u64 (IntKind.u64.wrap z), Value.slice A1 m c1, Value.int IntKind.i64 ↑m, Value.int IntKind.i64 (↑m + 2), Value.int IntKind.u64 (↑m + 2), Value.int IntKind.u64 ((IntKind.u64.wrap z).tmod (↑m + 2)), Value.int IntKind.i64 ↑K, Value.int IntKind.i64 0, Value.bool true, undef, undef, Value.func (Fn.func 19) #[] #[Value.pointer (some { block := go, off := 0 })], x.v, undef, undef, undef, undef, undef, undef, undef, undef, undef, undef, undef, undef, undef, undef, undef, undef, undef, undef, undef, undef, undef, undef, undef, undef, undef, undef, undef], defers := [] }) ?hAx0 ?assign0 ?body0 ?hend0
  case hAx0 =>
    rintro x a' u X Y row ⟨Bt, h2, h3⟩ hg hr
    exact ⟨Bt, tok_cells h2 hg (fun r e => (hr r e).2), h3⟩
  case assign0 =>
    rintro l0 pre x W K' hi hK
    rw [show encT x = #[x.v] from rfl]
    gi_wp2_with fail
    have hb := below_new W (.cells #[.int .i64 x.k, .int .i64 x.p, .string (bs x.s), .int .i64 x.n] 32)
    exact hK _ _ ⟨(KeepsOthers.alloc _ _).from _, KeepF.alloc _ _⟩ (OwnFrom.below ow0 hi hb) ⟨W.heap.size, Tok.new W x, rfl⟩
  case body0 =>
    rintro l0 pre x a' W hl0 hin hi ⟨Bt, hT', rfl⟩
    obtain ⟨A', c', hbx, hown⟩ := hi.l
    obtain ⟨t0, t1, t2, t3⟩ := hT'.cells
    simp only [Nat.zero_add] at t0 t1 t2 t3
    have hlen : pre.length ≤ 4001 := by
      obtain ⟨y, hy⟩ := hin
      have h1 := congrArg List.length hy
      have h2 := hm.out
      simp at h1; omega
    have cx := hbx.cell
    have fx := hbx.frozen
    have c9' := hi.b9.cell
    have c10' := hi.b10.cell
    have hrow : W.ownsRow wb.heap.size 32 4 (.slice A' pre.length c') pre.length (flatT pre) := hown
    have n9 : g9 ≠ G0 := by omega
    have n10 : g10 ≠ G0 := by omega
    have mixed : Try.prog.follows .mixedOrders = true := by kernel_rfl
    by_cases hk : pre.length = K
    · have e1 : (((pre.length : Nat) : Int) == (K : Int)) = true := by simp; omega
      have HKK := Lib.hid hk
      clear hk
      gi_wp2_with fail
      exact ⟨rfl, KeepK.refl _ _, ⟨⟨pre, x, rfl, HKK.out, rfl, hi⟩⟩⟩
    · have e1 : (((pre.length : Nat) : Int) == (K : Int)) = false := by simp; omega
      have HFEW : Hid (FewD 0 pre.length K) := Lib.hid (fun e => by have := hi.few e; omega)
      clear hk
      gi_wp2_with (gi_at_builtin; refine wpListIn_append_own _ rfl _ _ 24 rfl wb.heap.size 32 i0 (.agg #[.int .i64 0, .int .i64 0, .string ⟨#[]⟩, .int .i64 0]) 4 40 Try.underlying24 hi0 hz0 hz1 hz2 rfl (by decide) _ _ _ rfl (hrow.alloc _) ⟨W.heap.size, 0, none⟩ 1 1 (flatT [x]) rfl rfl (cell_tok_new _ _) (flatT_cell x) (by unfold maxLen; omega) (by omega) (by have := hi.bel.size; simp; omega) ?_; intro v' w5 hown' hgrow _; obtain ⟨g', cap', rfl⟩ := ownsRow_succ hown'; obtain ⟨hv1, hv2, hr2, hk2, hb2⟩ := hbx.appended (by decide) hrow hi.bel.size hwG0 hown' hgrow; have hc1 := hv1.cell; have hf1 := hv1.frozen)
      exact ⟨⟨hk2.from _, (keepF_append hrow hgrow).trans (KeepF.setCell hv1 (by decide) _)⟩, si_next hi hrow hgrow n9 n10 HFEW.out hv2 hr2 hk2 hb2⟩
  case hend0 =>
    intro D0 W hD hor hK
    obtain ⟨gl, hgl, hS⟩ : ∃ gl, gl = T.take (min K m) ∧ SI wb g9 g10 G0 K 0 none gl W := by
      rcases hor with h | ⟨pre, hpre, hX⟩
      · refine ⟨T, ?_, h⟩
        have h1 := h.few rfl
        have h2 := hm.out
        rw [Nat.min_eq_right (by omega), h2, List.take_length]
      · obtain ⟨a, x, rfl, ha, _, h⟩ := hX.x
        refine ⟨a, ?_, h⟩
        obtain ⟨s, hs⟩ := hpre
        have h2 := hm.out
        have h3 := congrArg List.length hs
        simp at h3
        rw [Nat.min_eq_left (by omega), ← hs, List.append_assoc, ← ha, List.take_append_of_le_length (Nat.le_refl _), List.take_length]
    obtain ⟨A', c', hbx, hown⟩ := hS.l
    have cx := hbx.cell
    have c9' := hS.b9.cell
    have c10' := hS.b10.cell
    have hglm : gl.length = min K m := by rw [hgl]; have := hm.out; rw [List.length_take]; omega
    rw [hglm] at hown cx
    have RG := hown.row
    have RA := Lib.hid (HOA.out W hS.bel)
    obtain ⟨X, runX, rowX⟩ := RA.out.front m (min K m) (by have := hm.out; omega)
    have RX := Lib.hid (show TRow W X c1 gl by rw [hgl]; exact rowX)
    rw [show ((min K m : Nat) : Int) = min (K : Int) (m : Int) from by omega] at runX
    clear rowX
    generalize hmk : min K m = mk at runX hglm hown cx RG
    have HMK := Lib.hid hmk
    clear hmk
    replace RG := Lib.hid RG
    have HGL := Lib.hid hglm
    clear hglm hgl hor hown
    gi_wp2_with fail
    refine ⟨trivial, (callsIn_wide.2 (same_any W A' X mk c' c1 gl RG.out RX.out HGL.out.symm (by have := HMK.out; omega))).mono ?_⟩
    rintro e w5 ⟨rfl, hb5⟩
    have b9q := Boxed.nextB hS.b9 hb5
    have b10q := Boxed.nextB hS.b10 hb5
    have hDm := (hb5.block D0 (Array.getElem?_eq_some_iff.1 hK).1).trans hK
    have HB5 := Lib.hid (hS.bel.trans (hb5.mono hS.bel.size))
    have cz := Boxed.cell b10q
    clear hb5 cx c9' c10' runX RG RX RA hK hbx HMK HGL
    gi_wp2_with fail
    have b13 : Boxed (w5.alloc (.cells #[.int .i64 1] 3)) w5.heap.size 3 (.int .i64 ((1 : Nat) : Int)) := box_new2 _ _
    have b9q0 := b9q
    replace b9q := b9q.alloc (.cells #[.int .i64 1] 3)
    have HV1 := Lib.hid (HB5.out.alloc HB5.out.size (.cells #[.int .i64 1] 3))
    have hDlt0 := (Array.getElem?_eq_some_iff.1 hDm).1
    replace hDm := (Below.heap_alloc w5 (.cells #[.int .i64 1] 3) _ hDlt0).trans hDm
    have hzV : (w5.alloc (.cells #[.int .i64 1] 3)).heap.size = w5.heap.size + 1 := by simp
    have hwb5 : g9 < w5.heap.size := Boxed.lt b9q0
    clear cz b10q HB5 b9q0
    generalize hg13 : w5.heap.size = g13 at b13 hzV hDlt0 hwb5 ⊢
    generalize World.alloc _ _ = V1 at b13 b9q HV1 hDm hzV ⊢
    have hlt9q : g9 < V1.heap.size := by omega
    have hlt13 : g13 < V1.heap.size := by omega
    have hDlt : D0 < V1.heap.size := by omega
    have n913 : g9 ≠ g13 := by omega
    clear hzV hg13
    rw [roundsIn_succ]
    have c101 := b13.cell
    gi_wp2_with fail
    clear c101
    have S1 : SI wb g9 g13 V1.heap.size K 1 (some D0) [] (V1.alloc (.cells #[.slice none 0 0] 24)) := ⟨⟨none, 0, Boxed.new _ _ _, town_nil _ _⟩, b9q.alloc _, b13.alloc _, HV1.out.alloc HV1.out.size _, (fun d e => by cases e; exact (Below.heap_alloc _ _ _ hDlt).trans hDm), fun _ => by simp⟩
    have hzU1 : (V1.alloc (.cells #[.slice none 0 0] 24)).heap.size = V1.heap.size + 1 := by simp
    have hwG1 : wb.heap.size ≤ V1.heap.size := HV1.out.size
    generalize World.alloc _ _ = U1 at S1 hzU1 ⊢
    generalize hGG1 : V1.heap.size = G1 at S1 hzU1 hwG1 hlt9q hDlt hlt13 ⊢
    clear hGG1
    have ow1 : OwnFrom U1.heap.size (SI wb g9 g13 G1 K 1 (some D0)) := SI.own S1.bel.size (fun d e => by cases e; omega)
    refine range_blk (L := T) (encs := encT) (gf := 19) (lb := #[.pointer (some ⟨go, 0, none⟩)]) (Ok := fun W => Boxed W go 48 (.string (bs q))) 2 rfl (enters_of Try.func19 (by kernel_rfl) rfl) (fun _ => rfl) HH.out (fun W' hb => HBg.out W' (S1.bel.trans (hb.mono S1.bel.size)))
      (SI wb g9 g13 G1 K 1 (some D0)) (SX wb g9 g13 G1 K 1 (some D0)) ow1 (SX.own S1.bel.size (fun d e => by cases e; omega)) S1
      (fun x a' W => ∃ Bt, Tok W Bt x ∧ a' = { tmps := #[Value.slice A n c, Value.int IntKind.i64 z, undef, undef, Value.bool false, Value.slice A1 m c1, Value.int IntKind.i64 0, Value.int IntKind.i64 0, Value.func (Fn.func 19) #[] #[Value.pointer (some { block := go, off := 0 })], Value.pointer (some { block := g9, off := 0 }), Value.pointer (some { block := g13, off := 0 }), Value.pointer (some { block := G1, off := 0 }), Value.pointer (some { block := Bt, off := 0 }), Value.slice X mk c1, Value.slice A n c, Value.int IntKind.i64 ↑n, Value.bool (decide ((4000 : Int) < (n : Int))), undef, Value.tuple #[Value.slice A1 m c1, Value.int IntKind.i64 0, Value.int IntKind.i64 0], Value.slice A n c, Value.tuple #[Value.slice A1 m c1, Value.int IntKind.i64 0, Value.int IntKind.i64 0], Value.slice A1 m c1, Value.int IntKind.i64 0, Value.int IntKind.i64 0, Value.int IntKind.i64 0, Value.bool false, undef, undef, undef, undef, undef, undef, undef, undef, Value.slice A n c, Value.func (Fn.func 19) #[] #[Value.pointer (some { block := go, off := 0 })], Value.func (Fn.func 19) #[] #[Value.pointer (some { block := go, off := 0 })], Value.bool false, Value.int IntKind.i64 z, Value.int IntKind.u64 (IntKind.u64.wrap z), Value.slice A1 m c1, Value.int IntKind.i64 ↑m, Value.int IntKind.i64 (↑m + 2), Value.int IntKind.u64 (↑m + 2), Value.int IntKind.u64 ((IntKind.u64.wrap z).tmod (↑m + 2)), Value.int IntKind.i64 ↑K, Value.int IntKind.i64 1, Value.bool true, Value.int IntKind.i64 0, Value.int IntKind.i64 1, Value.func (Fn.func 19) #[] #[Value.pointer (some { block := go, off := 0 })], x.v, undef, undef, undef, undef, undef, undef, undef, undef, undef, undef, undef, undef, Value.slice A1 m c1, Value.int IntKind.i64 0, Value.bool true, Value.slice A1 m c1, Value.int IntKind.i64 ↑K, Value.slice A1 m c1, Value.int IntKind.i64 ↑m, Value.int IntKind.i64 (min ↑K ↑m), Value.slice X mk c1, Value.slice A' mk c', Value.slice X mk c1, Value.bool true, Value.bool false, Value.int IntKind.i64 0, undef], defers := [] }) ?hAx1 ?assign1 ?body1 ?hend1
    case hAx1 =>
      rintro x a' u X Y row ⟨Bt, h2, h3⟩ hg hr
      exact ⟨Bt, tok_cells h2 hg (fun r e => (hr r e).2), h3⟩
    case assign1 =>
      rintro l0 pre x W K' hi hK
      rw [show encT x = #[x.v] from rfl]
      gi_wp2_with fail
      have hb := below_new W (.cells #[.int .i64 x.k, .int .i64 x.p, .string (bs x.s), .int .i64 x.n] 32)
      exact hK _ _ ⟨(KeepsOthers.alloc _ _).from _, KeepF.alloc _ _⟩ (OwnFrom.below ow1 hi hb) ⟨W.heap.size, Tok.new W x, rfl⟩
    case body1 =>
      rintro l0 pre x a' W hl0 hin hi ⟨Bt, hT', rfl⟩
      obtain ⟨A', c', hbx, hown⟩ := hi.l
      obtain ⟨t0, t1, t2, t3⟩ := hT'.cells
      simp only [Nat.zero_add] at t0 t1 t2 t3
      have hlen : pre.length ≤ 4001 := by
        obtain ⟨y, hy⟩ := hin
        have h1 := congrArg List.length hy
        have h2 := hm.out
        simp at h1; omega
      have cx := hbx.cell
      have fx := hbx.frozen
      have c9' := hi.b9.cell
      have c10' := hi.b10.cell
      have hrow : W.ownsRow wb.heap.size 32 4 (.slice A' pre.length c') pre.length (flatT pre) := hown
      have n9 : g9 ≠ G1 := by omega
      have n10 : g13 ≠ G1 := by omega
      have mixed : Try.prog.follows .mixedOrders = true := by kernel_rfl
      by_cases hk : pre.length = K
      · have e1 : (((pre.length : Nat) : Int) == (K : Int)) = true := by simp; omega
        have HKK := Lib.hid hk
        clear hk
        have HFEW : Hid (FewD 1 pre.length K) := Lib.hid (fun e => by cases e)
        gi_wp2_with (gi_at_builtin; refine wpListIn_append_own _ rfl _ _ 24 rfl wb.heap.size 32 i0 (.agg #[.int .i64 0, .int .i64 0, .string ⟨#[]⟩, .int .i64 0]) 4 40 Try.underlying24 hi0 hz0 hz1 hz2 rfl (by decide) _ _ _ rfl (hrow.alloc _) ⟨W.heap.size, 0, none⟩ 1 1 (flatT [x]) rfl rfl (cell_tok_new _ _) (flatT_cell x) (by unfold maxLen; omega) (by omega) (by have := hi.bel.size; simp; omega) ?_; intro v' w5 hown' hgrow _; obtain ⟨g', cap', rfl⟩ := ownsRow_succ hown'; obtain ⟨hv1, hv2, hr2, hk2, hb2⟩ := hbx.appended (by decide) hrow hi.bel.size hwG1 hown' hgrow; have hc1 := hv1.cell; have hf1 := hv1.frozen)
        exact ⟨⟨hk2.from _, (keepF_append hrow hgrow).trans (KeepF.setCell hv1 (by decide) _)⟩, si_next hi hrow hgrow n9 n10 HFEW.out hv2 hr2 hk2 hb2⟩
      · have e1 : (((pre.length : Nat) : Int) == (K : Int)) = false := by simp; omega
        have HFEW : Hid (FewD 1 pre.length K) := Lib.hid (fun e => by cases e)
        clear hk
        gi_wp2_with (gi_at_builtin; refine wpListIn_append_own _ rfl _ _ 24 rfl wb.heap.size 32 i0 (.agg #[.int .i64 0, .int .i64 0, .string ⟨#[]⟩, .int .i64 0]) 4 40 Try.underlying24 hi0 hz0 hz1 hz2 rfl (by decide) _ _ _ rfl (hrow.alloc _) ⟨W.heap.size, 0, none⟩ 1 1 (flatT [x]) rfl rfl (cell_tok_new _ _) (flatT_cell x) (by unfold maxLen; omega) (by omega) (by have := hi.bel.size; simp; omega) ?_; intro v' w5 hown' hgrow _; obtain ⟨g', cap', rfl⟩ := ownsRow_succ hown'; obtain ⟨hv1, hv2, hr2, hk2, hb2⟩ := hbx.appended (by decide) hrow hi.bel.size hwG1 hown' hgrow; have hc1 := hv1.cell; have hf1 := hv1.frozen)
        exact ⟨⟨hk2.from _, (keepF_append hrow hgrow).trans (KeepF.setCell hv1 (by decide) _)⟩, si_next hi hrow hgrow n9 n10 HFEW.out hv2 hr2 hk2 hb2⟩
    case hend1 =>
      intro D1 W hD hor hK
      obtain ⟨gl, hgl, hS⟩ : ∃ gl, gl = T ∧ SI wb g9 g13 G1 K 1 (some D0) gl W := by
        rcases hor with h | ⟨pre, hpre, hX⟩
        · exact ⟨T, rfl, h⟩
        · obtain ⟨a, x, _, _, h0, _⟩ := hX.x
          cases h0
      obtain ⟨A', c', hbx, hown⟩ := hS.l
      have cx := hbx.cell
      have c9' := hS.b9.cell
      have c10' := hS.b10.cell
      have hglm : gl.length = m := by rw [hgl]; have := hm.out; omega
      rw [hglm] at hown cx
      have RG := hown.row
      have RA := Lib.hid (HOA.out W hS.bel)
      have RX := Lib.hid (show TRow W A1 c1 gl by rw [hgl]; exact RA.out)
      replace RG := Lib.hid RG
      have HGL := Lib.hid hglm
      clear hglm hgl hor hown
      gi_wp2_with fail
      refine ⟨trivial, (callsIn_wide.2 (same_any W A' A1 m c' c1 gl RG.out RX.out HGL.out.symm (by omega))).mono ?_⟩
      rintro e w5 ⟨rfl, hb5⟩
      have b10q := Boxed.nextB hS.b10 hb5
      have hDm1 := (hb5.block D1 (Array.getElem?_eq_some_iff.1 hK).1).trans hK
      have hDm0 := (hb5.block D0 (Array.getElem?_eq_some_iff.1 (hS.mrk D0 rfl)).1).trans (hS.mrk D0 rfl)
      have HB5 := Lib.hid (hS.bel.trans (hb5.mono hS.bel.size))
      have cz := Boxed.cell b10q
      clear hb5 cx c9' c10' RG RX RA hK hbx HGL
      gi_wp2_with fail
      have b14 : Boxed (w5.alloc (.cells #[.int .i64 2] 3)) w5.heap.size 3 (.int .i64 2) := box_new2 _ _
      have HV2 := Lib.hid (HB5.out.alloc HB5.out.size (.cells #[.int .i64 2] 3))
      have hl1 := (Array.getElem?_eq_some_iff.1 hDm1).1
      have hl0 := (Array.getElem?_eq_some_iff.1 hDm0).1
      replace hDm1 := (Below.heap_alloc w5 (.cells #[.int .i64 2] 3) _ hl1).trans hDm1
      replace hDm0 := (Below.heap_alloc w5 (.cells #[.int .i64 2] 3) _ hl0).trans hDm0
      clear cz b10q HB5 hl1 hl0
      generalize w5.heap.size = g14 at b14 ⊢
      generalize World.alloc _ _ = V2 at b14 HV2 hDm1 hDm0 ⊢
      rw [roundsIn_succ]
      have c14 := b14.cell
      gi_wp2_with fail
      refine ⟨trivial, (callsIn_wide.2 (known_any _)).mono ?_⟩
      rintro e w7 ⟨rfl, hb7⟩
      have HF := Lib.hid (B2.out.trans ((HV2.out.trans (hb7.mono HV2.out.size)).mono B2.out.size))
      have k1 := (hb7.block D1 (Array.getElem?_eq_some_iff.1 hDm1).1).trans hDm1
      have k0 := (hb7.block D0 (Array.getElem?_eq_some_iff.1 hDm0).1).trans hDm0
      have hsz1 : w.heap.size ≤ wb.heap.size := B2.out.size
      have hsz2 : wb.heap.size ≤ U1.heap.size := S1.bel.size
      have hsz3 : w.heap.size ≤ w7.heap.size := HF.out.size
      have hsz4 : w.heap.size ≤ D0 := by omega
      have k0' : (w7.putObj D1 (.deferred none)).heap[D0]? = some (.deferred (some [])) := (World.putObj_heap_other (by omega)).trans k0
      have HF1 := HF.out.grown (grownBy_putObj' w7 D1 (.deferred none)) hsz3 (fun k e => by cases e; omega)
      have HF2 := HF1.grown (grownBy_putObj' (w7.putObj D1 (.deferred none)) D0 (.deferred none)) HF1.size (fun k e => by cases e; omega)
      clear b14 c14 hb7 HV2
      gi_wp2_with fail
      refine ⟨by simp, .inl ⟨_, _, rfl, run_takeDeferred k1, ?_⟩⟩
      refine ⟨by simp, .inl ⟨_, _, rfl, run_takeDeferred k0', ?_⟩⟩
      exact ⟨.bool true, by simp [results, Try.results3, go_sem], rfl, HF2⟩


set_option maxHeartbeats 16000000 in
theorem steps_b (w : World) (A : Option Addr) (n c : Nat) (z : Int) (q : Bs) (hA : BRow w A c q) (hn : n = q.length) (h1 : n ≤ 4000) (T : List TK) (hT : Hid (T = toksL q)) (m : Nat) (hm : Hid (m = T.length)) (hmm : m ≤ 4001) (P : Nat) (hP : P ≤ n) (hR0 : Hid (allL q = ([], (P : Int), 30))) (hR : Hid (allL (q.take P) = (T, 0, 0))) : Calls Try.prog 3 #[.slice A n c, .int .i64 z] w (Tr w) := by
  have h1i : (n : Int) ≤ 4000 := by omega
  have HN := Lib.hid hn
  have HA := Lib.hid hA
  obtain ⟨K, hK1, hK2⟩ := uint_rem2 z m hmm
  obtain ⟨i0, hi0, hz0, hz1, hz2⟩ := info_parts info32
  clear hn hA
  refine (callsIn_wide (n := 12)).1 ?_
  refine callsIn_of_wp_marks Try.func3 rfl trivial ?_ rfl
  simp only [Try.ntmps3, List.size_toArray, List.length_cons, List.length_nil, Nat.reduceAdd, Nat.reduceSub, Array.replicate_succ, Array.replicate_zero, List.push_toArray, List.append_toArray, List.nil_append, List.cons_append]
  gi_wp2_with fail
  refine ⟨trivial, (callsIn_wide.2 (rall_at (m := 0) (by have := HN.out; omega) HN.out hR0.out rfl HA.out)).mono ?_⟩
  rintro e w0 ⟨A0, c0, rfl, hO0, hb0⟩
  have B0 := Lib.hid hb0
  have HA0 := Lib.hid (HA.out.next hb0)
  clear hO0 hb0
  obtain ⟨Xe, runXe, rowXe⟩ := HA0.out.front n P (by have := HN.out; omega)
  have HX := Lib.hid rowXe
  clear rowXe
  gi_wp2_with fail
  refine ⟨trivial, (callsIn_wide.2 (rall_at (by omega) (by rw [List.length_take]; have := HN.out; omega) hR.out hm.out HX.out)).mono ?_⟩
  rintro e w1 ⟨A1, c1, rfl, hO1, hb1⟩
  have O1 := Lib.hid hO1.row
  have B1 := Lib.hid (bnext B0.out hb1)
  have HA1 := Lib.hid (HA0.out.next hb1)
  clear hO1 hb1 runXe
  gi_wp2_with fail
  refine ⟨trivial, (callsIn_wide.2 (tokens_any w1 A n c q HA1.out HN.out h1)).mono ?_⟩
  rintro e wb ⟨go, rfl, hgo, hbo, hb2⟩
  have O2 := Lib.hid (O1.out.next hb2)
  have B2 := Lib.hid (bnext B1.out hb2)
  have HBo := Lib.hid hbo
  clear hb2 hbo
  have hfn := fn_nil go
  gi_wp2_with fail
  clear hfn
  generalize hcK : wrap64 ((IntKind.u64.wrap z).tmod ((m : Int) + 2)) = zK at hK2 ⊢
  clear hcK
  subst hK2
  have b9 : Boxed ((wb.alloc (.cells #[.int .i64 (K : Int)] 3)).alloc (.cells #[.int .i64 0] 3)) wb.heap.size 3 (.int .i64 (K : Nat)) := (Boxed.new wb 3 (.int .i64 (K : Int))).alloc _
  have b10 : Boxed ((wb.alloc (.cells #[.int .i64 (K : Int)] 3)).alloc (.cells #[.int .i64 0] 3)) (wb.heap.size + 1) 3 (.int .i64 ((0 : Nat) : Int)) := by
    have := Boxed.new (wb.alloc (.cells #[.int .i64 (K : Int)] 3)) 3 (.int .i64 0)
    simpa using this
  have hbel0 : Below wb.heap.size wb ((wb.alloc (.cells #[.int .i64 (K : Int)] 3)).alloc (.cells #[.int .i64 0] 3)) := ((Below.refl _ _).alloc (Nat.le_refl _) _).alloc (by simp) _
  have hsz0 : ((wb.alloc (.cells #[.int .i64 (K : Int)] 3)).alloc (.cells #[.int .i64 0] 3)).heap.size = wb.heap.size + 1 + 1 := by simp
  generalize hg9 : wb.heap.size = g9 at b9 b10 hbel0 hsz0 ⊢
  generalize hg10 : g9 + 1 = g10 at b10 hsz0 ⊢
  generalize World.alloc _ _ = W0 at b9 b10 hbel0 hsz0 ⊢
  have HH := Lib.hid (tokens_hands (bs q) (by rw [bs_size]; have := HN.out; omega) go (12 - 1) (by decide))
  rw [bs_toList, ← hT.out] at HH
  have HBO : Hid (go < wb.heap.size) := Lib.hid HBo.out.lt
  have HBg : Hid (∀ W', Below wb.heap.size wb W' → Boxed W' go 48 (.string (bs q))) := Lib.hid (fun W' hb => (hb.block go HBo.out.lt).trans HBo.out)
  have HOA : Hid (∀ W', Below wb.heap.size wb W' → TRow W' A1 c1 T) := Lib.hid (fun W' hb => O2.out.next hb)
  rw [hg9] at HBg HOA
  have hn910 : g9 ≠ g10 := by omega
  have hwb9 : wb.heap.size ≤ g9 := by omega
  have hlt9 : g9 < W0.heap.size := by omega
  have hlt10 : g10 < W0.heap.size := by omega
  clear hg10 hsz0
  rw [← hg9] at hbel0 HBg HOA
  have HW0 := Lib.hid hbel0
  clear hbel0 HBo O2 O1
  refine wpIn_loop_rounds 3 ?_
  rw [roundsIn_succ]
  have c100 := b10.cell
  gi_wp2_with fail
  clear c100
  have S0 : SI wb g9 g10 W0.heap.size K 0 none [] (W0.alloc (.cells #[.slice none 0 0] 24)) := ⟨⟨none, 0, Boxed.new _ _ _, town_nil _ _⟩, b9.alloc _, b10.alloc _, HW0.out.alloc HW0.out.size _, (fun d e => by cases e), fun _ => by simp⟩
  have hzU0 : (W0.alloc (.cells #[.slice none 0 0] 24)).heap.size = W0.heap.size + 1 := by simp
  have hwG0 : wb.heap.size ≤ W0.heap.size := HW0.out.size
  generalize World.alloc _ _ = U0 at S0 hzU0 ⊢
  generalize hGG0 : W0.heap.size = G0 at S0 hzU0 hwG0 hlt9 hlt10 ⊢
  clear hGG0
  have ow0 : OwnFrom U0.heap.size (SI wb g9 g10 G0 K 0 none) := SI.own S0.bel.size (fun d e => by cases e)
  refine range_blk (L := T) (encs := encT) (gf := 19) (lb := #[.pointer (some ⟨go, 0, none⟩)]) (Ok := fun W => Boxed W go 48 (.string (bs q))) 2 rfl (enters_of Try.func19 (by kernel_rfl) rfl) (fun _ => rfl) HH.out (fun W' hb => HBg.out W' (S0.bel.trans (hb.mono S0.bel.size)))
    (SI wb g9 g10 G0 K 0 none) (SX wb g9 g10 G0 K 0 none) ow0 (SX.own S0.bel.size (fun d e => by cases e)) S0
    (fun x a' W => ∃ Bt, Tok W Bt x ∧ a' = { tmps := #[Value.slice A n c, Value.int IntKind.i64 z, undef, undef, Value.bool false, Value.slice A1 m c1, Value.int IntKind.i64 ↑P, Value.int IntKind.i64 30, Value.func (Fn.func 19) #[] #[Value.pointer (some { block := go, off := 0 })], Value.pointer (some { block := g9, off := 0 }), Value.pointer (some { block := g10, off := 0 }), Value.pointer (some { block := G0, off := 0 }), Value.pointer (some { block := Bt, off := 0 }), undef, Value.slice A n c, Value.int IntKind.i64 ↑n, Value.bool (decide ((4000 : Int) < (n : Int))), undef, Value.tuple #[Value.slice A0 0 c0, Value.int IntKind.i64 ↑P, Value.int IntKind.i64 30], Value.slice A n c, Value.tuple #[Value.slice A0 0 c0, Value.int IntKind.i64 ↑P, Value.int IntKind.i64 30], Value.slice A0 0 c0, Value.int IntKind.i64 ↑P, Value.int IntKind.i64 30, Value.int IntKind.i64 30, Value.bool true, Value.tuple #[Value.slice A1 m c1, Value.int IntKind.i64 0, Value.int IntKind.i64 0], Value.slice A n c, Value.int IntKind.i64 ↑P, Value.slice Xe P c, Value.tuple #[Value.slice A1 m c1, Value.int IntKind.i64 0, Value.int IntKind.i64 0], Value.slice A1 m c1, Value.int IntKind.i64 0, Value.int IntKind.i64 0, Value.slice A n c, Value.func (Fn.func 19) #[] #[Value.pointer (some { block := go, off := 0 })], Value.func (Fn.func 19) #[] #[Value.pointer (some { block := go, off := 0 })], Value.bool false, Value.int IntKind.i64 z, Value.int IntKind.u64 (IntKind.u64.wrap z), Value.slice A1 m c1, Value.int IntKind.i64 ↑m, Value.int IntKind.i64 (↑m + 2), Value.int IntKind.u64 (↑m + 2), Value.int IntKind.u64 ((IntKind.u64.wrap z).tmod (↑m + 2)), Value.int IntKind.i64 ↑K, Value.int IntKind.i64 0, Value.bool true, undef, undef, Value.func (Fn.func 19) #[] #[Value.pointer (some { block := go, off := 0 })], x.v, undef, undef, undef, undef, undef, undef, undef, undef, undef, undef, undef, undef, undef, undef, undef, undef, undef, undef, undef, undef, undef, undef, undef, undef, undef, undef, undef], defers := [] }) ?hAx0 ?assign0 ?body0 ?hend0
  case hAx0 =>
    rintro x a' u X Y row ⟨Bt, h2, h3⟩ hg hr
    exact ⟨Bt, tok_cells h2 hg (fun r e => (hr r e).2), h3⟩
  case assign0 =>
    rintro l0 pre x W K' hi hK
    rw [show encT x = #[x.v] from rfl]
    gi_wp2_with fail
    have hb := below_new W (.cells #[.int .i64 x.k, .int .i64 x.p, .string (bs x.s), .int .i64 x.n] 32)
    exact hK _ _ ⟨(KeepsOthers.alloc _ _).from _, KeepF.alloc _ _⟩ (OwnFrom.below ow0 hi hb) ⟨W.heap.size, Tok.new W x, rfl⟩
  case body0 =>
    rintro l0 pre x a' W hl0 hin hi ⟨Bt, hT', rfl⟩
    obtain ⟨A', c', hbx, hown⟩ := hi.l
    obtain ⟨t0, t1, t2, t3⟩ := hT'.cells
    simp only [Nat.zero_add] at t0 t1 t2 t3
    have hlen : pre.length ≤ 4001 := by
      obtain ⟨y, hy⟩ := hin
      have h1 := congrArg List.length hy
      have h2 := hm.out
      simp at h1; omega
    have cx := hbx.cell
    have fx := hbx.frozen
    have c9' := hi.b9.cell
    have c10' := hi.b10.cell
    have hrow : W.ownsRow wb.heap.size 32 4 (.slice A' pre.length c') pre.length (flatT pre) := hown
    have n9 : g9 ≠ G0 := by omega
    have n10 : g10 ≠ G0 := by omega
    have mixed : Try.prog.follows .mixedOrders = true := by kernel_rfl
    by_cases hk : pre.length = K
    · have e1 : (((pre.length : Nat) : Int) == (K : Int)) = true := by simp; omega
      have HKK := Lib.hid hk
      clear hk
      gi_wp2_with fail
      exact ⟨rfl, KeepK.refl _ _, ⟨⟨pre, x, rfl, HKK.out, rfl, hi⟩⟩⟩
    · have e1 : (((pre.length : Nat) : Int) == (K : Int)) = false := by simp; omega
      have HFEW : Hid (FewD 0 pre.length K) := Lib.hid (fun e => by have := hi.few e; omega)
      clear hk
      gi_wp2_with (gi_at_builtin; refine wpListIn_append_own _ rfl _ _ 24 rfl wb.heap.size 32 i0 (.agg #[.int .i64 0, .int .i64 0, .string ⟨#[]⟩, .int .i64 0]) 4 40 Try.underlying24 hi0 hz0 hz1 hz2 rfl (by decide) _ _ _ rfl (hrow.alloc _) ⟨W.heap.size, 0, none⟩ 1 1 (flatT [x]) rfl rfl (cell_tok_new _ _) (flatT_cell x) (by unfold maxLen; omega) (by omega) (by have := hi.bel.size; simp; omega) ?_; intro v' w5 hown' hgrow _; obtain ⟨g', cap', rfl⟩ := ownsRow_succ hown'; obtain ⟨hv1, hv2, hr2, hk2, hb2⟩ := hbx.appended (by decide) hrow hi.bel.size hwG0 hown' hgrow; have hc1 := hv1.cell; have hf1 := hv1.frozen)
      exact ⟨⟨hk2.from _, (keepF_append hrow hgrow).trans (KeepF.setCell hv1 (by decide) _)⟩, si_next hi hrow hgrow n9 n10 HFEW.out hv2 hr2 hk2 hb2⟩
  case hend0 =>
    intro D0 W hD hor hK
    obtain ⟨gl, hgl, hS⟩ : ∃ gl, gl = T.take (min K m) ∧ SI wb g9 g10 G0 K 0 none gl W := by
      rcases hor with h | ⟨pre, hpre, hX⟩
      · refine ⟨T, ?_, h⟩
        have h1 := h.few rfl
        have h2 := hm.out
        rw [Nat.min_eq_right (by omega), h2, List.take_length]
      · obtain ⟨a, x, rfl, ha, _, h⟩ := hX.x
        refine ⟨a, ?_, h⟩
        obtain ⟨s, hs⟩ := hpre
        have h2 := hm.out
        have h3 := congrArg List.length hs
        simp at h3
        rw [Nat.min_eq_left (by omega), ← hs, List.append_assoc, ← ha, List.take_append_of_le_length (Nat.le_refl _), List.take_length]
    obtain ⟨A', c', hbx, hown⟩ := hS.l
    have cx := hbx.cell
    have c9' := hS.b9.cell
    have c10' := hS.b10.cell
    have hglm : gl.length = min K m := by rw [hgl]; have := hm.out; rw [List.length_take]; omega
    rw [hglm] at hown cx
    have RG := hown.row
    have RA := Lib.hid (HOA.out W hS.bel)
    obtain ⟨X, runX, rowX⟩ := RA.out.front m (min K m) (by have := hm.out; omega)
    have RX := Lib.hid (show TRow W X c1 gl by rw [hgl]; exact rowX)
    rw [show ((min K m : Nat) : Int) = min (K : Int) (m : Int) from by omega] at runX
    clear rowX
    generalize hmk : min K m = mk at runX hglm hown cx RG
    have HMK := Lib.hid hmk
    clear hmk
    replace RG := Lib.hid RG
    have HGL := Lib.hid hglm
    clear hglm hgl hor hown
    gi_wp2_with fail
    refine ⟨trivial, (callsIn_wide.2 (same_any W A' X mk c' c1 gl RG.out RX.out HGL.out.symm (by have := HMK.out; omega))).mono ?_⟩
    rintro e w5 ⟨rfl, hb5⟩
    have b9q := Boxed.nextB hS.b9 hb5
    have b10q := Boxed.nextB hS.b10 hb5
    have hDm := (hb5.block D0 (Array.getElem?_eq_some_iff.1 hK).1).trans hK
    have HB5 := Lib.hid (hS.bel.trans (hb5.mono hS.bel.size))
    have cz := Boxed.cell b10q
    clear hb5 cx c9' c10' runX RG RX RA hK hbx HMK HGL
    gi_wp2_with fail
    have b13 : Boxed (w5.alloc (.cells #[.int .i64 1] 3)) w5.heap.size 3 (.int .i64 ((1 : Nat) : Int)) := box_new2 _ _
    have b9q0 := b9q
    replace b9q := b9q.alloc (.cells #[.int .i64 1] 3)
    have HV1 := Lib.hid (HB5.out.alloc HB5.out.size (.cells #[.int .i64 1] 3))
    have hDlt0 := (Array.getElem?_eq_some_iff.1 hDm).1
    replace hDm := (Below.heap_alloc w5 (.cells #[.int .i64 1] 3) _ hDlt0).trans hDm
    have hzV : (w5.alloc (.cells #[.int .i64 1] 3)).heap.size = w5.heap.size + 1 := by simp
    have hwb5 : g9 < w5.heap.size := Boxed.lt b9q0
    clear cz b10q HB5 b9q0
    generalize hg13 : w5.heap.size = g13 at b13 hzV hDlt0 hwb5 ⊢
    generalize World.alloc _ _ = V1 at b13 b9q HV1 hDm hzV ⊢
    have hlt9q : g9 < V1.heap.size := by omega
    have hlt13 : g13 < V1.heap.size := by omega
    have hDlt : D0 < V1.heap.size := by omega
    have n913 : g9 ≠ g13 := by omega
    clear hzV hg13
    rw [roundsIn_succ]
    have c101 := b13.cell
    gi_wp2_with fail
    clear c101
    have S1 : SI wb g9 g13 V1.heap.size K 1 (some D0) [] (V1.alloc (.cells #[.slice none 0 0] 24)) := ⟨⟨none, 0, Boxed.new _ _ _, town_nil _ _⟩, b9q.alloc _, b13.alloc _, HV1.out.alloc HV1.out.size _, (fun d e => by cases e; exact (Below.heap_alloc _ _ _ hDlt).trans hDm), fun _ => by simp⟩
    have hzU1 : (V1.alloc (.cells #[.slice none 0 0] 24)).heap.size = V1.heap.size + 1 := by simp
    have hwG1 : wb.heap.size ≤ V1.heap.size := HV1.out.size
    generalize World.alloc _ _ = U1 at S1 hzU1 ⊢
    generalize hGG1 : V1.heap.size = G1 at S1 hzU1 hwG1 hlt9q hDlt hlt13 ⊢
    clear hGG1
    have ow1 : OwnFrom U1.heap.size (SI wb g9 g13 G1 K 1 (some D0)) := SI.own S1.bel.size (fun d e => by cases e; omega)
    refine range_blk (L := T) (encs := encT) (gf := 19) (lb := #[.pointer (some ⟨go, 0, none⟩)]) (Ok := fun W => Boxed W go 48 (.string (bs q))) 2 rfl (enters_of Try.func19 (by kernel_rfl) rfl) (fun _ => rfl) HH.out (fun W' hb => HBg.out W' (S1.bel.trans (hb.mono S1.bel.size)))
      (SI wb g9 g13 G1 K 1 (some D0)) (SX wb g9 g13 G1 K 1 (some D0)) ow1 (SX.own S1.bel.size (fun d e => by cases e; omega)) S1
      (fun x a' W => ∃ Bt, Tok W Bt x ∧ a' = { tmps := #[Value.slice A n c, Value.int IntKind.i64 z, undef, undef, Value.bool false, Value.slice A1 m c1, Value.int IntKind.i64 ↑P, Value.int IntKind.i64 30, Value.func (Fn.func 19) #[] #[Value.pointer (some { block := go, off := 0 })], Value.pointer (some { block := g9, off := 0 }), Value.pointer (some { block := g13, off := 0 }), Value.pointer (some { block := G1, off := 0 }), Value.pointer (some { block := Bt, off := 0 }), Value.slice X mk c1, Value.slice A n c, Value.int IntKind.i64 ↑n, Value.bool (decide ((4000 : Int) < (n : Int))), undef, Value.tuple #[Value.slice A0 0 c0, Value.int IntKind.i64 ↑P, Value.int IntKind.i64 30], Value.slice A n c, Value.tuple #[Value.slice A0 0 c0, Value.int IntKind.i64 ↑P, Value.int IntKind.i64 30], Value.slice A0 0 c0, Value.int IntKind.i64 ↑P, Value.int IntKind.i64 30, Value.int IntKind.i64 30, Value.bool true, Value.tuple #[Value.slice A1 m c1, Value.int IntKind.i64 0, Value.int IntKind.i64 0], Value.slice A n c, Value.int IntKind.i64 ↑P, Value.slice Xe P c, Value.tuple #[Value.slice A1 m c1, Value.int IntKind.i64 0, Value.int IntKind.i64 0], Value.slice A1 m c1, Value.int IntKind.i64 0, Value.int IntKind.i64 0, Value.slice A n c, Value.func (Fn.func 19) #[] #[Value.pointer (some { block := go, off := 0 })], Value.func (Fn.func 19) #[] #[Value.pointer (some { block := go, off := 0 })], Value.bool false, Value.int IntKind.i64 z, Value.int IntKind.u64 (IntKind.u64.wrap z), Value.slice A1 m c1, Value.int IntKind.i64 ↑m, Value.int IntKind.i64 (↑m + 2), Value.int IntKind.u64 (↑m + 2), Value.int IntKind.u64 ((IntKind.u64.wrap z).tmod (↑m + 2)), Value.int IntKind.i64 ↑K, Value.int IntKind.i64 1, Value.bool true, Value.int IntKind.i64 0, Value.int IntKind.i64 1, Value.func (Fn.func 19) #[] #[Value.pointer (some { block := go, off := 0 })], x.v, undef, undef, undef, undef, undef, undef, undef, undef, undef, undef, undef, undef, Value.slice A1 m c1, Value.int IntKind.i64 0, Value.bool true, Value.slice A1 m c1, Value.int IntKind.i64 ↑K, Value.slice A1 m c1, Value.int IntKind.i64 ↑m, Value.int IntKind.i64 (min ↑K ↑m), Value.slice X mk c1, Value.slice A' mk c', Value.slice X mk c1, Value.bool true, Value.bool false, Value.int IntKind.i64 0, undef], defers := [] }) ?hAx1 ?assign1 ?body1 ?hend1
    case hAx1 =>
      rintro x a' u X Y row ⟨Bt, h2, h3⟩ hg hr
      exact ⟨Bt, tok_cells h2 hg (fun r e => (hr r e).2), h3⟩
    case assign1 =>
      rintro l0 pre x W K' hi hK
      rw [show encT x = #[x.v] from rfl]
      gi_wp2_with fail
      have hb := below_new W (.cells #[.int .i64 x.k, .int .i64 x.p, .string (bs x.s), .int .i64 x.n] 32)
      exact hK _ _ ⟨(KeepsOthers.alloc _ _).from _, KeepF.alloc _ _⟩ (OwnFrom.below ow1 hi hb) ⟨W.heap.size, Tok.new W x, rfl⟩
    case body1 =>
      rintro l0 pre x a' W hl0 hin hi ⟨Bt, hT', rfl⟩
      obtain ⟨A', c', hbx, hown⟩ := hi.l
      obtain ⟨t0, t1, t2, t3⟩ := hT'.cells
      simp only [Nat.zero_add] at t0 t1 t2 t3
      have hlen : pre.length ≤ 4001 := by
        obtain ⟨y, hy⟩ := hin
        have h1 := congrArg List.length hy
        have h2 := hm.out
        simp at h1; omega
      have cx := hbx.cell
      have fx := hbx.frozen
      have c9' := hi.b9.cell
      have c10' := hi.b10.cell
      have hrow : W.ownsRow wb.heap.size 32 4 (.slice A' pre.length c') pre.length (flatT pre) := hown
      have n9 : g9 ≠ G1 := by omega
      have n10 : g13 ≠ G1 := by omega
      have mixed : Try.prog.follows .mixedOrders = true := by kernel_rfl
      by_cases hk : pre.length = K
      · have e1 : (((pre.length : Nat) : Int) == (K : Int)) = true := by simp; omega
        have HKK := Lib.hid hk
        clear hk
        have HFEW : Hid (FewD 1 pre.length K) := Lib.hid (fun e => by cases e)
        gi_wp2_with (gi_at_builtin; refine wpListIn_append_own _ rfl _ _ 24 rfl wb.heap.size 32 i0 (.agg #[.int .i64 0, .int .i64 0, .string ⟨#[]⟩, .int .i64 0]) 4 40 Try.underlying24 hi0 hz0 hz1 hz2 rfl (by decide) _ _ _ rfl (hrow.alloc _) ⟨W.heap.size, 0, none⟩ 1 1 (flatT [x]) rfl rfl (cell_tok_new _ _) (flatT_cell x) (by unfold maxLen; omega) (by omega) (by have := hi.bel.size; simp; omega) ?_; intro v' w5 hown' hgrow _; obtain ⟨g', cap', rfl⟩ := ownsRow_succ hown'; obtain ⟨hv1, hv2, hr2, hk2, hb2⟩ := hbx.appended (by decide) hrow hi.bel.size hwG1 hown' hgrow; have hc1 := hv1.cell; have hf1 := hv1.frozen)
        exact ⟨⟨hk2.from _, (keepF_append hrow hgrow).trans (KeepF.setCell hv1 (by decide) _)⟩, si_next hi hrow hgrow n9 n10 HFEW.out hv2 hr2 hk2 hb2⟩
      · have e1 : (((pre.length : Nat) : Int) == (K : Int)) = false := by simp; omega
        have HFEW : Hid (FewD 1 pre.length K) := Lib.hid (fun e => by cases e)
        clear hk
        gi_wp2_with (gi_at_builtin; refine wpListIn_append_own _ rfl _ _ 24 rfl wb.heap.size 32 i0 (.agg #[.int .i64 0, .int .i64 0, .string ⟨#[]⟩, .int .i64 0]) 4 40 Try.underlying24 hi0 hz0 hz1 hz2 rfl (by decide) _ _ _ rfl (hrow.alloc _) ⟨W.heap.size, 0, none⟩ 1 1 (flatT [x]) rfl rfl (cell_tok_new _ _) (flatT_cell x) (by unfold maxLen; omega) (by omega) (by have := hi.bel.size; simp; omega) ?_; intro v' w5 hown' hgrow _; obtain ⟨g', cap', rfl⟩ := ownsRow_succ hown'; obtain ⟨hv1, hv2, hr2, hk2, hb2⟩ := hbx.appended (by decide) hrow hi.bel.size hwG1 hown' hgrow; have hc1 := hv1.cell; have hf1 := hv1.frozen)
        exact ⟨⟨hk2.from _, (keepF_append hrow hgrow).trans (KeepF.setCell hv1 (by decide) _)⟩, si_next hi hrow hgrow n9 n10 HFEW.out hv2 hr2 hk2 hb2⟩
    case hend1 =>
      intro D1 W hD hor hK
      obtain ⟨gl, hgl, hS⟩ : ∃ gl, gl = T ∧ SI wb g9 g13 G1 K 1 (some D0) gl W := by
        rcases hor with h | ⟨pre, hpre, hX⟩
        · exact ⟨T, rfl, h⟩
        · obtain ⟨a, x, _, _, h0, _⟩ := hX.x
          cases h0
      obtain ⟨A', c', hbx, hown⟩ := hS.l
      have cx := hbx.cell
      have c9' := hS.b9.cell
      have c10' := hS.b10.cell
      have hglm : gl.length = m := by rw [hgl]; have := hm.out; omega
      rw [hglm] at hown cx
      have RG := hown.row
      have RA := Lib.hid (HOA.out W hS.bel)
      have RX := Lib.hid (show TRow W A1 c1 gl by rw [hgl]; exact RA.out)
      replace RG := Lib.hid RG
      have HGL := Lib.hid hglm
      clear hglm hgl hor hown
      gi_wp2_with fail
      refine ⟨trivial, (callsIn_wide.2 (same_any W A' A1 m c' c1 gl RG.out RX.out HGL.out.symm (by omega))).mono ?_⟩
      rintro e w5 ⟨rfl, hb5⟩
      have b10q := Boxed.nextB hS.b10 hb5
      have hDm1 := (hb5.block D1 (Array.getElem?_eq_some_iff.1 hK).1).trans hK
      have hDm0 := (hb5.block D0 (Array.getElem?_eq_some_iff.1 (hS.mrk D0 rfl)).1).trans (hS.mrk D0 rfl)
      have HB5 := Lib.hid (hS.bel.trans (hb5.mono hS.bel.size))
      have cz := Boxed.cell b10q
      clear hb5 cx c9' c10' RG RX RA hK hbx HGL
      gi_wp2_with fail
      have b14 : Boxed (w5.alloc (.cells #[.int .i64 2] 3)) w5.heap.size 3 (.int .i64 2) := box_new2 _ _
      have HV2 := Lib.hid (HB5.out.alloc HB5.out.size (.cells #[.int .i64 2] 3))
      have hl1 := (Array.getElem?_eq_some_iff.1 hDm1).1
      have hl0 := (Array.getElem?_eq_some_iff.1 hDm0).1
      replace hDm1 := (Below.heap_alloc w5 (.cells #[.int .i64 2] 3) _ hl1).trans hDm1
      replace hDm0 := (Below.heap_alloc w5 (.cells #[.int .i64 2] 3) _ hl0).trans hDm0
      clear cz b10q HB5 hl1 hl0
      generalize w5.heap.size = g14 at b14 ⊢
      generalize World.alloc _ _ = V2 at b14 HV2 hDm1 hDm0 ⊢
      rw [roundsIn_succ]
      have c14 := b14.cell
      gi_wp2_with fail
      refine ⟨trivial, (callsIn_wide.2 (known_any _)).mono ?_⟩
      rintro e w7 ⟨rfl, hb7⟩
      have HF := Lib.hid (B2.out.trans ((HV2.out.trans (hb7.mono HV2.out.size)).mono B2.out.size))
      have k1 := (hb7.block D1 (Array.getElem?_eq_some_iff.1 hDm1).1).trans hDm1
      have k0 := (hb7.block D0 (Array.getElem?_eq_some_iff.1 hDm0).1).trans hDm0
      have hsz1 : w.heap.size ≤ wb.heap.size := B2.out.size
      have hsz2 : wb.heap.size ≤ U1.heap.size := S1.bel.size
      have hsz3 : w.heap.size ≤ w7.heap.size := HF.out.size
      have hsz4 : w.heap.size ≤ D0 := by omega
      have k0' : (w7.putObj D1 (.deferred none)).heap[D0]? = some (.deferred (some [])) := (World.putObj_heap_other (by omega)).trans k0
      have HF1 := HF.out.grown (grownBy_putObj' w7 D1 (.deferred none)) hsz3 (fun k e => by cases e; omega)
      have HF2 := HF1.grown (grownBy_putObj' (w7.putObj D1 (.deferred none)) D0 (.deferred none)) HF1.size (fun k e => by cases e; omega)
      clear b14 c14 hb7 HV2
      gi_wp2_with fail
      refine ⟨by simp, .inl ⟨_, _, rfl, run_takeDeferred k1, ?_⟩⟩
      refine ⟨by simp, .inl ⟨_, _, rfl, run_takeDeferred k0', ?_⟩⟩
      exact ⟨.bool true, by simp [results, Try.results3, go_sem], rfl, HF2⟩

theorem steps_law (w : World) (A : Option Addr) (c : Nat) (q : Bs) (z : Int) (hA : BRow w A c q) : Calls Try.prog 3 #[.slice A q.length c, .int .i64 z] w (Tr w) := by
  by_cases h : q.length ≤ 4000
  · have hl := toks_len q
    rcases steps_all q (by omega) with hR | ⟨P, hP, hR0, hR⟩
    · exact steps_a w A q.length c z q hA rfl h (toksL q) (Lib.hid rfl) (toksL q).length (Lib.hid rfl) (by omega) (Lib.hid hR)
    · exact steps_b w A q.length c z q hA rfl h (toksL q) (Lib.hid rfl) (toksL q).length (Lib.hid rfl) (by omega) P hP (Lib.hid hR0) (Lib.hid hR)
  · exact steps_1 w A q.length c z h
end Go.Proofs.Ythjbmlgjlndihaa
