/- Spokes appended; slices.Grow and slices.Concat over rows of spokes. -/
import Derived.Test.YtebkkjfeikpfgaaSB
import Derived.Laws.AppendOwnNone
import Derived.Lib.AppendZeros
import Derived.Deep.CutBlock
namespace Go.Proofs.Ytebkkjfeikpfgaa
open Go.RowKit Go.Sort
set_option maxRecDepth 100000

theorem info74f : (Try.prog.info? 74).map (fun i => (i.zero, i.size, i.bytes)) = some (some (.agg #[.int .i64 0, .string ⟨#[]⟩, .int .i64 0]), 3, 32) := by kernel_rfl
theorem own_shape {w : World} {base sz n : Nat} {e : TypeId} {v : Value} {xs : List Value} (h : w.ownsRow base e sz v n xs) : ∃ A c, v = .slice A n c := by
  rcases h.2 with ⟨rfl, rfl⟩ | ⟨g, cap, cur, rfl, _⟩
  · exact ⟨none, 0, rfl⟩
  · exact ⟨_, _, rfl⟩
theorem flatS_one {l : List SP} {u : Value} (hu : u ∈ flatS l) : u.oneCell' = true := by
  obtain ⟨q, _, hq⟩ := List.mem_flatMap.1 hu
  simp [SP.cs] at hq
  rcases hq with rfl | rfl | rfl <;> rfl
theorem flatS_cell {w : World} {b off : Nat} {l : List SP} (hc : ∀ (j : Nat) x, l[j]? = some x → cells3 w b (off + j * 3) x) (j : Nat) (u : Value) (hj : (flatS l)[j]? = some u) : w.cell? ((⟨b, off, none⟩ : Addr).add j) = some u := by
  rw [add_none]
  have hj1 := (List.getElem?_eq_some_iff.1 hj).1
  rw [flatS_len] at hj1
  have hq : l[j / 3]? = some l[j / 3] := List.getElem?_eq_getElem (by omega)
  have hv := flatS_at l (j / 3) _ hq (j % 3) (Nat.mod_lt _ (by omega))
  rw [show j / 3 * 3 + j % 3 = j by omega, hj] at hv
  obtain ⟨k0, k1, k2⟩ := hc (j / 3) _ hq
  have hm : j % 3 < 3 := Nat.mod_lt _ (by omega)
  rw [show off + j = off + j / 3 * 3 + j % 3 by omega]
  generalize j % 3 = m at hv hm
  have : m = 0 ∨ m = 1 ∨ m = 2 := by omega
  rcases this with rfl | rfl | rfl <;> (injection hv with hv; subst hv)
  · exact k0
  · exact k1
  · exact k2
/-- append of spokes, however many. -/
theorem append_anyS {w : World} {ops : Array Oper} {rest : List Oper} {o : Oper} {a : Act} {Q : Exit → Act → World → Prop} (hgd : o.guard = none) (s x : Operand)
    (ho : o.op = .call { callee := .builtin .append, args := #[s, x], argTypes := #[75, 75] })
    (base : Nat) {A : Option Addr} {n c : Nat} {l : List SP} (hown : SOwn w base A n c l) (hs : a.eval s = .slice A n c)
    {X : Option Addr} {m cx : Nat} {l2 : List SP} (hx : a.eval x = .slice X m cx) (hr : SRow w X cx l2) (hm : l2.length = m) (hlen : n + m ≤ 4398046511104) (hbase : base ≤ w.heap.size)
    (h : ∀ A' c' w', SOwn w' base A' (n + m) c' (l ++ l2) → w.grownBy w' (Value.ownBlock (.slice A n c)) → wpList Try.prog ops Q rest (a.put o.dst (.slice A' (n + m) c')) w') : wpList Try.prog ops Q (o :: rest) a w := by
  obtain ⟨i0, hi, hz0, hz1, hz2⟩ := info_parts info74f
  subst hm
  have fin : ∀ v' w', w'.ownsRow base 74 3 v' (n + l2.length) (flatS l ++ flatS l2) → w.grownBy w' (Value.ownBlock (.slice A n c)) → wpList Try.prog ops Q rest (a.put o.dst v') w' := fun v' w' h1 h2 => by
    obtain ⟨A', c', rfl⟩ := own_shape h1
    exact h A' c' w' (by unfold SOwn; rw [flatS_app]; exact h1) h2
  rcases Nat.eq_zero_or_pos l2.length with h0 | h0
  · obtain rfl : l2 = [] := List.eq_nil_of_length_eq_zero h0
    cases X with
    | none =>
      have := hr.nil rfl
      subst this
      refine wpList_append_own_none hgd s x 75 ho base 74 i0 3 Try.underlying75 hi _ _ _ hs hown hx ?_
      exact fin _ w (by have := hown; unfold SOwn at this; simpa [flatS] using this) ⟨rfl, rfl, rfl, Nat.le_refl _, fun _ _ _ => rfl⟩
    | some ad =>
      refine wpList_append_own _ hgd s x 75 ho base 74 i0 _ 3 32 Try.underlying75 hi hz0 hz1 hz2 rfl (by decide) _ _ _ hs hown ad 0 cx [] hx rfl (by simp) (by simp) (by unfold maxLen; simp at hlen; omega) (by simp at hlen; omega) hbase ?_
      intro v' w' h1 h2 _
      exact fin v' w' (by simpa [flatS] using h1) h2
  · obtain ⟨b, off, rfl, hb, hc⟩ := hr.at_ h0
    refine wpList_append_own _ hgd s x 75 ho base 74 i0 _ 3 32 Try.underlying75 hi hz0 hz1 hz2 rfl (by decide) _ _ _ hs hown ⟨b, off, none⟩ l2.length cx (flatS l2) hx (flatS_len l2) (flatS_cell hc) (fun u hu => flatS_one hu) (by unfold maxLen; omega) (by omega) hbase ?_
    intro v' w' h1 h2 _
    exact fin v' w' h1 h2
theorem srow_box (w : World) (s : SP) : SRow (w.alloc (.cells #[.int .i64 s.e, .string s.l, .int .i64 s.o] 74)) (some ⟨w.heap.size, 0, none⟩) 1 [s] :=
  ⟨by simp, by unfold maxLen; omega, (fun e => by cases e), fun _ => ⟨w.heap.size, 0, rfl, by simp, fun j x hj => by
    match j, hj with
    | 0, hj =>
      injection hj with hj
      subst hj
      exact box3 w s⟩⟩
def GrowS (w : World) (e : Ending) (w' : World) : Prop := ∃ A c, e = .returned (.slice A 0 c) ∧ SOwn w' w.heap.size A 0 c [] ∧ Below w.heap.size w w'
set_option maxHeartbeats 1600000 in
theorem growS_any (w : World) (n : Nat) (hn : n ≤ 4398046511104) : Calls Try.prog 65 #[.slice none 0 0, .int .i64 n] w (GrowS w) := by
  rcases Nat.eq_zero_or_pos n with h0 | h0
  · subst h0
    go_enter Try.func65, Try.ntmps65
    go_wp2
    go_ret
    exact ⟨none, 0, rfl, sown_nil _ _, Below.refl _ _⟩
  · obtain ⟨i0, hi, hz0, hz1, hz2⟩ := info_parts info74f
    have hr := fun ty => Lib.run_append_nil_zeros (P := Try.prog) w 75 3 ty 74 i0 _ .i64 .i64 Try.underlying75 Try.underlying3 hi hz0 n h0 (by rw [hz1]; omega) (by omega) (by rw [hz2]; omega)
    have hG := grownCap_ge w n 0 74
    have hG2 := grownCap_le_maxLen w n 0 74 (by unfold maxLen; omega)
    generalize grownCap w n 0 74 = G at hr hG hG2
    generalize hZ : (Builtin.zeroCells (Value.agg #[.int .i64 0, .string ⟨#[]⟩, .int .i64 0]).cells n ++ Builtin.zeroCells (Value.agg #[.int .i64 0, .string ⟨#[]⟩, .int .i64 0]).cells (G - n)) = Z at hr
    have hZs : Z.size = G * 3 := by rw [← hZ]; simp [size_zeroCells, Value.cells]; omega
    have hm := hG2
    unfold maxLen at hm
    have h1 : ¬ ((n : Int) < 0) := by omega
    have h4 : (0 : Int) < (n : Int) := by omega
    have HP : Hid (GrowS w (.returned (.slice (some ⟨w.heap.size, 0, none⟩) 0 G)) (w.drew.alloc (.cells Z 74))) := Lib.hid ⟨_, G, rfl, ⟨rfl, .inr ⟨w.heap.size, G, Z, rfl, Nat.le_refl _, heap_alloc_new w.drew _, Nat.zero_le _, hG2, hZs, by simp [flatS]⟩⟩, bnext (below_drewN _ _ 1) (below_new _ _)⟩
    clear hZ hZs hi hz0 hz1 hz2 hG2
    go_enter Try.func65, Try.ntmps65
    go_wp2_with (at_builtin; refine Lib.wpList_append_run _ rfl _ _ _ _ rfl _ _ rfl rfl _ _ (hr _) ?_)
    all_goals
      go_ret
      exact HP.out
structure PtS where
  A : Option Addr
  c : Nat
  l : List SP
def allS (ps : List PtS) : List SP := ps.flatMap (·.l)
theorem allS_next {ps : List PtS} {k : Nat} {p : PtS} (h : ps[k]? = some p) : allS (ps.take (k + 1)) = allS (ps.take k) ++ p.l := by
  obtain ⟨h1, e1⟩ := List.getElem?_eq_some_iff.1 h
  unfold allS
  rw [List.take_succ_eq_append_getElem h1, e1, List.flatMap_append]; simp
theorem allS_take_le (ps : List PtS) (k : Nat) : (allS (ps.take k)).length ≤ (allS ps).length := by
  conv => rhs; rw [← List.take_append_drop k ps]
  unfold allS
  rw [List.flatMap_append, List.length_append]; omega
/-- Rows of spokes, side by side in a block. -/
structure PartsS (w : World) (b : Nat) (ps : List PtS) : Prop where
  lt : b < w.heap.size
  at_ : ∀ (k : Nat) (p : PtS), ps[k]? = some p → w.cell? ⟨b, k, none⟩ = some (.slice p.A p.l.length p.c) ∧ SRow w p.A p.c p.l
theorem PartsS.next {a b : World} {g : Nat} {ps : List PtS} (h : PartsS a g ps) (hb : Below a.heap.size a b) : PartsS b g ps :=
  ⟨Nat.lt_of_lt_of_le h.lt hb.size, fun k p hk => ⟨cell_below hb (h.at_ k p hk).1 h.lt, (h.at_ k p hk).2.next hb⟩⟩
/-- A row of spokes, read. -/
def SPost (w : World) (l : List SP) (e : Ending) (w' : World) : Prop := ∃ A c, e = .returned (.slice A l.length c) ∧ SRow w' A c l ∧ Below w.heap.size w w'
set_option maxHeartbeats 3200000 in
theorem concatS_any (w : World) (b : Nat) (ps : List PtS) (h : PartsS w b ps) (hm : ps.length ≤ 1000) (hn : (allS ps).length ≤ 4398046511104) : Calls Try.prog 51 #[.slice (some ⟨b, 0, none⟩) ps.length ps.length] w (SPost w (allS ps)) := by
  have H := Lib.hid h
  have hb := h.lt
  clear h
  go_enter Try.func51, Try.ntmps51
  go_wp2
  go_loopw [11, 3] (fun i s wr => ∃ (k n : Nat), k ≤ ps.length ∧ i = .int .i64 k ∧ s = .int .i64 n ∧ n ≤ 4398046511104 ∧ wr = w ∧ Hid (n = (allS (ps.take k)).length)) (fun i _ _ => ps.length - (intOf i).toNat)
  case atStart => exact ⟨0, 0, by omega, rfl, rfl, by omega, rfl, Lib.hid rfl⟩
  case round =>
    obtain ⟨k, n, hk, rfl, rfl, hn1, rfl, hN⟩ := hrel
    by_cases hlt : k < ps.length
    · have hp : ps[k]? = some ps[k] := List.getElem?_eq_getElem hlt
      obtain ⟨hc, hr⟩ := H.out.at_ k _ hp
      have hnx := allS_next hp
      have hle := allS_take_le ps (k + 1)
      generalize ps[k] = p at hp hc hr hnx
      rw [hnx, List.length_append, ← hN.out] at hle
      have hsum : n + p.l.length ≤ 4398046511104 := by omega
      have HX : Hid (n + p.l.length = (allS (ps.take (k + 1))).length) := Lib.hid (by rw [hnx, List.length_append, hN.out])
      have k0 : (0 : Int) ≤ (k : Int) := by omega
      have k1 : (k : Int) < (ps.length : Int) := by omega
      have hw : wrap64 ((n : Int) + (p.l.length : Int)) = ((n + p.l.length : Nat) : Int) := by unfold wrap64; omega
      have hneg : ¬ (((n + p.l.length : Nat) : Int) < 0) := by omega
      clear hp hr hnx hle
      go_wp2
      go_roundw
      case rel => exact ⟨k + 1, n + p.l.length, by omega, by go_num, by first | rfl | (simp; done) | trivial, hsum, trivial, HX⟩
      case measure => simp [intOf]; omega
    · obtain rfl : k = ps.length := by omega
      rw [List.take_length] at hN
      obtain ⟨W0, hW0⟩ : ∃ W0 : World, W0 = wr := ⟨_, rfl⟩
      subst hW0
      go_wp2_with fail
      refine (growS_any W0 n hn1).mono ?_
      rintro e w1 ⟨A, c, rfl, hown, hb1⟩
      have OW := Lib.hid hown
      have B1 := Lib.hid hb1
      clear hown hb1
      go_wp2_with fail
      go_loopw [27, 6] (fun i v wx => ∃ (k m : Nat) (A' : Option Addr) (c' : Nat), k ≤ ps.length ∧ i = .int .i64 k ∧ v = .slice A' m c' ∧ m ≤ 4398046511104 ∧ Hid (m = (allS (ps.take k)).length) ∧ Hid (SOwn wx W0.heap.size A' m c' (allS (ps.take k))) ∧ Hid (Below W0.heap.size W0 wx)) (fun i _ _ => ps.length - (intOf i).toNat)
      case atStart => exact ⟨0, 0, A, c, by omega, rfl, rfl, by omega, Lib.hid rfl, OW, B1⟩
      case round =>
        clear OW B1
        obtain ⟨k, m, A', c', hk, rfl, rfl, hm1, hM, hO, hB⟩ := hrel
        by_cases hlt : k < ps.length
        · have HW := Lib.hid (H.out.next hB.out)
          have hp : ps[k]? = some ps[k] := List.getElem?_eq_getElem hlt
          obtain ⟨hc, hr⟩ := HW.out.at_ k _ hp
          have hnx := allS_next hp
          have hle := allS_take_le ps (k + 1)
          generalize ps[k] = p at hp hc hr hnx
          rw [hnx, List.length_append, ← hM.out] at hle
          have hsum : m + p.l.length ≤ 4398046511104 := by omega
          have k0 : (0 : Int) ≤ (k : Int) := by omega
          have k1 : (k : Int) < (ps.length : Int) := by omega
          have HR := Lib.hid hr
          have HX : Hid (m + p.l.length = (allS (ps.take (k + 1))).length) := Lib.hid (by rw [hnx, List.length_append, hM.out])
          have HF := Lib.hid hnx
          clear hp hr hnx hle
          go_wp2_with (at_builtin; refine append_anyS rfl (.tmp 31) (.tmp 32) rfl W0.heap.size hO.out rfl rfl HR.out rfl hsum hB.out.size ?_; intro A2 c2 w2 hown hgr; have OW := Lib.hid hown; have BG := Lib.hid (grown_below (Nat.le_refl _) hB.out hgr (own_block hO.out)); clear hown hgr)
          go_roundw
          case rel => exact ⟨k + 1, m + p.l.length, A2, c2, by omega, by go_num, rfl, hsum, HX, Lib.hid (by rw [HF.out]; exact OW.out), BG⟩
          case measure => simp [intOf]; omega
        · obtain rfl : k = ps.length := by omega
          rw [List.take_length] at hM hO
          have HM := Lib.hid hM.out
          go_wp2
          go_ret
          exact ⟨A', c', by rw [← HM.out]; rfl, hO.out.row, hB.out⟩
end Go.Proofs.Ytebkkjfeikpfgaa
