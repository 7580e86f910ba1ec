/- Contracts of graph.copyThing, of slices.Grow of nil, and of slices.Concat, over properties. -/
import Derived.Test.YtciipggccjiaiaaNE
import Derived.Laws.AppendOwnNone
namespace Go.Proofs.Ytciipggccjiaiaa
open Go.RowKit Go.Sort
set_option maxRecDepth 100000

abbrev tv (id : Int) (label : ByteArray) (o n : Int) (A : Option Addr) (k c : Nat) : Value := .agg #[.int .i64 id, .string label, .int .i64 o, .int .i64 n, .slice A k c]
theorem boxesT2 (w : World) (v0 v1 v2 v3 v4 u0 u1 u2 u3 u4 : Value) (W : World) (hW : (w.alloc (.cells #[v0, v1, v2, v3, v4] 34)).alloc (.cells #[u0, u1, u2, u3, u4] 34) = W) :
    CellT W w.heap.size v0 v1 v2 v3 v4 ∧ CellT W (w.heap.size + 1) u0 u1 u2 u3 u4 ∧ Below w.heap.size w W ∧ W.heap.size = w.heap.size + 2 := by
  subst hW
  refine ⟨(CellT.new w _ _ _ _ _).next (below_new _ _), ?_, below_new2 _ _ _, by simp⟩
  have := CellT.new (w.alloc (.cells #[v0, v1, v2, v3, v4] 34)) u0 u1 u2 u3 u4
  rw [size_alloc] at this
  exact this
/-- A thing whose properties are copies. -/
def CThing (w : World) (id : Int) (label : ByteArray) (o n : Int) (l : List PA) (e : Ending) (w' : World) : Prop :=
  ∃ A c r, e = .returned (tv id label o n A r.length c) ∧ PRow w' w.heap.size 13 A c r ∧ r.map PA.kv = l.map PA.ckv ∧ MineP w' A r.length ∧ Below w.heap.size w w'

set_option maxHeartbeats 3200000 in
theorem copyThing_any (w : World) (d : Nat) (id : Int) (label : ByteArray) (o n : Int) (A : Option Addr) (c : Nat) (l : List PA) (h : PRow w 0 d A c l) : Calls Try.prog 43 #[tv id label o n A l.length c] w (CThing w id label o n l) := by
  have H := Lib.hid h
  clear h
  go_enter Try.func43, Try.ntmps43
  go_upto_region 1 with fail
  generalize hW : World.alloc (World.alloc _ _) _ = W
  obtain ⟨k1, k2, hb, hs⟩ := boxesT2 _ _ _ _ _ _ _ _ _ _ _ _ hW
  have K1 := Lib.hid k1
  have K2 := Lib.hid k2
  have HB := Lib.hid hb
  have hsW : w.heap.size + 1 < W.heap.size := by omega
  obtain ⟨c0, c1, c2, c3, c4, _⟩ := k1
  clear hW k2 hb hs
  go_wp2_with fail
  refine (copyProps_any W d A c l (H.out.next HB.out)).mono ?_
  rintro e w1 ⟨E, e1, r, rfl, hr, hm, hmp, hb1⟩
  have MP := Lib.hid hmp
  have B1 := Lib.hid (bnext HB.out hb1)
  have HR := Lib.hid hr
  have HM := Lib.hid hm
  have S1 := Lib.hid hb1.size
  have K1n := Lib.hid (K1.out.next hb1)
  have K2n := Lib.hid (K2.out.next hb1)
  clear hr hm hmp hb1 c0 c1 c2 c3 c4 K1 K2
  obtain ⟨c0, c1, c2, c3, c4, f0, f1, f2, f3, f4, _⟩ := K1n.out
  obtain ⟨d0, d1, d2, d3, d4, g0, g1, g2, g3, g4, _⟩ := K2n.out
  have hX : BlkT (w1.setCell ⟨w.heap.size, 4, none⟩ (.slice E r.length e1)) (w.heap.size + 1) 1 := K2n.out.blk.kept (Below.heap_setCell _ _ _ _ (by simp))
  have HRT := Lib.hid (retT_box hX (.int .i64 id) (.string label) (.int .i64 o) (.int .i64 n) (.slice E r.length e1))
  clear hX
  go_wp2
  obtain ⟨F, hF, ⟨r0', r1', r2', r3', r4', _⟩, hk, hsz, hbel⟩ := HRT.out
  rw [← hF]
  clear hF
  have hsF : F.heap.size = w1.heap.size := by rw [hsz]; simp [World.setCell]
  have hkF : Kept W.heap.size w1.heap.size w1 F := (Kept.setCell (.inl (by show w.heap.size < W.heap.size; omega)) _).trans (hk W.heap.size w1.heap.size hsW)
  have hbF : Below w.heap.size w F := hbel _ _ (by omega) (B1.out.setCell (p := ⟨w.heap.size, 4, none⟩) (Nat.le_refl _) _)
  exact bodyPost_ret (v := tv id label o n E r.length e1) (by simp [results, Try.results43, go_sem, r0', r1', r2', r3', r4']) rfl ⟨E, e1, r, rfl, HR.out.imp hkF (by omega) (by rw [hsF]; exact Nat.le_refl _), HM.out, MP.out.keep HR.out hkF, hbF⟩

/-- What slices.Grow gives of nil: room for n. -/
def GrowPost (w : World) (_n : Nat) (e : Ending) (w' : World) : Prop := ∃ g c, e = .returned (.slice (some ⟨g, 0, none⟩) 0 c) ∧ w'.ownsRow w.heap.size 39 6 (.slice (some ⟨g, 0, none⟩) 0 c) 0 [] ∧ Below w.heap.size w w'
set_option maxHeartbeats 3200000 in
theorem grow_nil (w : World) (n : Nat) (h0 : 0 < n) (hn : n ≤ 1466015503658) : Calls Try.prog 63 #[.slice none 0 0, .int .i64 n] w (GrowPost w n) := by
  obtain ⟨i0, hi, hz0, hz1, hz2⟩ := info_parts info39
  have hr := fun ty => Lib.run_append_nil_zeros (P := Try.prog) w 32 3 ty 39 i0 _ .i64 .i64 Try.underlying32 Try.underlying3 hi hz0 n h0 (by rw [hz1]; omega) (by omega) (by rw [hz2]; omega)
  have hG := grownCap_ge w n 0 39
  have hG2 := grownCap_le_maxLen w n 0 39 (by unfold maxLen; omega)
  generalize grownCap w n 0 39 = G at hr hG hG2
  generalize hZ : (Builtin.zeroCells (Value.agg #[.string ⟨#[]⟩, .int .i64 0, .int .i64 0, .string ⟨#[]⟩, .slice none 0 0, .slice none 0 0]).cells n ++ Builtin.zeroCells (Value.agg #[.string ⟨#[]⟩, .int .i64 0, .int .i64 0, .string ⟨#[]⟩, .slice none 0 0, .slice none 0 0]).cells (G - n)) = Z at hr
  have hZs : Z.size = G * 6 := by rw [← hZ]; simp [size_zeroCells, Value.cells]; omega
  have hm := hG2
  unfold maxLen at hm
  have h1 : ¬ ((n : Int) < 0) := by omega
  have h4 : (0 : Int) < (n : Int) := by omega
  have HP : Hid (GrowPost w n (.returned (.slice (some ⟨w.heap.size, 0, none⟩) 0 G)) (w.drew.alloc (.cells Z 39))) := Lib.hid ⟨w.heap.size, G, rfl, ⟨rfl, .inr ⟨w.heap.size, G, Z, rfl, Nat.le_refl _, heap_alloc_new w.drew _, Nat.zero_le _, hG2, hZs, by simp⟩⟩, bnext (below_drewN _ _ 1) (below_new _ _)⟩
  clear hZ hZs hi hz0 hz1 hz2 hG2
  go_enter Try.func63, Try.ntmps63
  go_wp2_with (at_builtin; refine Lib.wpList_append_run _ rfl _ _ _ _ rfl _ _ rfl rfl _ _ (hr _) ?_)
  all_goals
    go_ret
    exact HP.out

/-- append of none to a row of properties. -/
theorem append_zeroP {ops : Array Oper} {rest : List Oper} {o : Oper} {a : Act} {W : World} {Q : Exit → Act → World → Prop} (hgd : o.guard = none) (s x : Operand)
    (ho : o.op = .call { callee := .builtin .append, args := #[s, x], argTypes := #[32, 32] }) (base g n c : Nat) (xs : List Value)
    (hs : a.eval s = .slice (some ⟨g, 0, none⟩) n c) (hown : W.ownsRow base 39 6 (.slice (some ⟨g, 0, none⟩) n c) n xs) (X : Option Addr) (m cx : Nat) (hx : a.eval x = .slice X m cx) (hm : m = 0) (hX : X = none → cx = 0)
    (h : wpList Try.prog ops Q rest (a.put o.dst (.slice (some ⟨g, 0, none⟩) n c)) W) : wpList Try.prog ops Q (o :: rest) a W := by
  subst hm
  obtain ⟨i0, hi, hz0, hz1, hz2⟩ := info_parts info39
  cases X with
  | none =>
    have := hX rfl
    subst this
    exact wpList_append_own_none hgd s x 32 ho base 39 i0 6 Try.underlying32 hi _ _ _ hs hown hx h
  | some ad =>
    have hnc : n ≤ c := by
      rcases hown.2 with ⟨e, _⟩ | ⟨g', cap, cur, e, _, _, h4, _⟩
      · cases e
      · injection e with _ _ e3
        subst e3
        exact h4
    have hrun := run_append_room_cells (P := Try.prog) (w := W) 32 o.type 39 i0 Try.underlying32 hi g 0 n c ad 0 cx [] (by simp) (by simp) (by simp) (by omega) (by simp) (by simp)
    refine wpList_plain hgd fun K hK => ?_
    unfold Oper.wp
    simp [execOp, ho, resolve, invoke, builtin, hs, hx, hrun, Result.andThen]
    exact hK _ _ h
/-- append of some properties, at least one. -/
theorem append_someP {ops : Array Oper} {rest : List Oper} {o : Oper} {a : Act} {W : World} {Q : Exit → Act → World → Prop} (hgd : o.guard = none) (s x : Operand)
    (ho : o.op = .call { callee := .builtin .append, args := #[s, x], argTypes := #[32, 32] }) (base g n c : Nat) (xs : List Value)
    (hs : a.eval s = .slice (some ⟨g, 0, none⟩) n c) (hown : W.ownsRow base 39 6 (.slice (some ⟨g, 0, none⟩) n c) n xs) (d : Nat) (X : Option Addr) (cx : Nat) (l : List PA) (hx : a.eval x = .slice X l.length cx) (hl : PRow W 0 d X cx l) (h0 : 0 < l.length) (hlen : n + l.length ≤ 1466015503658) (hbase : base ≤ W.heap.size)
    (h : ∀ g' cap w', w'.ownsRow base 39 6 (.slice (some ⟨g', 0, none⟩) (n + l.length) cap) (n + l.length) (xs ++ flatP l) → W.grownBy w' (some g) → (g' = g ∨ g' = W.heap.size) → g' < w'.heap.size → wpList Try.prog ops Q rest (a.put o.dst (.slice (some ⟨g', 0, none⟩) (n + l.length) cap)) w') : wpList Try.prog ops Q (o :: rest) a W := by
  obtain ⟨i0, hi, hz0, hz1, hz2⟩ := info_parts info39
  obtain ⟨b, off, rfl, _, hb, hc⟩ := hl.at_ h0
  refine wpList_append_lies W hgd s x 32 ho base 39 i0 _ 6 96 Try.underlying32 hi hz0 hz1 hz2 rfl (by decide) _ n xs hs hown ⟨b, off, none⟩ l.length cx (flatP l) hx (flatP_len l) (fun j u hj => ?_) (fun u hu => ?_) h0 (by unfold maxLen; omega) (by omega) hbase W.heap.size rfl (fun g' cap w' h1 h2 h3 h4 => h g' cap w' h1 h2 (by rcases h3 with e | e; injection e with e; exact .inl e.symm; exact .inr e) h4)
  · have ad : (⟨b, off, none⟩ : Addr).add j = ⟨b, off + j, none⟩ := by unfold Addr.add; split <;> simp_all
    rw [ad]
    have hj1 := (List.getElem?_eq_some_iff.1 hj).1
    rw [flatP_len] at hj1
    have hq : l[j / 6]? = some l[j / 6] := List.getElem?_eq_getElem (by omega)
    have hv := flatP_at l (j / 6) _ hq (j % 6) (Nat.mod_lt _ (by omega))
    rw [show j / 6 * 6 + j % 6 = j by omega, hj] at hv
    obtain ⟨k0, k1, k2, k3, k4, k5⟩ := hc (j / 6) _ hq
    have hm6 : j % 6 < 6 := Nat.mod_lt _ (by omega)
    have hsp : off + j = off + j / 6 * 6 + j % 6 := by omega
    rw [hsp]
    generalize j % 6 = m at hv hm6
    have : m = 0 ∨ m = 1 ∨ m = 2 ∨ m = 3 ∨ m = 4 ∨ m = 5 := by omega
    rcases this with rfl | rfl | rfl | rfl | rfl | rfl <;> (injection hv with hv; subst hv)
    · exact k0
    · exact k1
    · exact k2
    · exact k3
    · exact k4
    · exact k5
  · obtain ⟨q, _, hq⟩ := List.mem_flatMap.1 hu
    simp [PA.cs] at hq
    rcases hq with rfl | rfl | rfl | rfl | rfl | rfl <;> rfl
end Go.Proofs.Ytciipggccjiaiaa
