/- Rows of things of one's own; numbers appended; a graph that is laid; StoreTurned: the walk. -/
import Derived.Test.YtebkkjfeikpfgaaTB
import Derived.Laws.AppendOwnNone
namespace Go.Proofs.Ytebkkjfeikpfgaa
open Go.RowKit Go.Sort
set_option maxRecDepth 100000
attribute [local go_sem ↓] Go.wp_at_zero Go.wp_at_succ

def flatTA (l : List TA) : List Value := l.flatMap TA.cs
theorem flatTA_len : ∀ l : List TA, (flatTA l).length = l.length * 5
  | [] => rfl
  | p :: r => by
    have := flatTA_len r
    unfold flatTA at *
    rw [List.flatMap_cons, List.length_append, this, List.length_cons]; simp [TA.cs]; omega
theorem flatTA_app (a b : List TA) : flatTA (a ++ b) = flatTA a ++ flatTA b := List.flatMap_append
theorem flatTA_at : ∀ (l : List TA) (j : Nat) (p : TA), l[j]? = some p → ∀ c, c < 5 → (flatTA l)[j * 5 + c]? = p.cs[c]?
  | [], _, _, h => by simp at h
  | q :: l, 0, p, h => fun c hc => by
    simp at h
    subst h
    unfold flatTA
    rw [List.flatMap_cons, List.getElem?_append_left (by simp [TA.cs]; omega)]
    simp
  | q :: l, j + 1, p, h => fun c hc => by
    have ih := flatTA_at l j p (by simpa using h) c hc
    unfold flatTA at *
    rw [List.flatMap_cons, List.getElem?_append_right (by simp [TA.cs]; omega), ← ih]
    congr 1
    simp [TA.cs]; omega
theorem flatTA_one {l : List TA} {u : Value} (hu : u ∈ flatTA l) : u.oneCell' = true := by
  obtain ⟨q, _, hq⟩ := List.mem_flatMap.1 hu
  simp [TA.cs] at hq
  rcases hq with rfl | rfl | rfl | rfl | rfl <;> rfl
theorem flatTA_cell {w : World} {b off : Nat} {l : List TA} (hc : ∀ (j : Nat) x, l[j]? = some x → cellsT w b (off + j * 5) x) (j : Nat) (u : Value) (hj : (flatTA l)[j]? = some u) : w.cell? ((⟨b, off, none⟩ : Addr).add j) = some u := by
  rw [add_none]
  have hj1 := (List.getElem?_eq_some_iff.1 hj).1
  rw [flatTA_len] at hj1
  have hq : l[j / 5]? = some l[j / 5] := List.getElem?_eq_getElem (by omega)
  have hv := flatTA_at l (j / 5) _ hq (j % 5) (Nat.mod_lt _ (by omega))
  rw [show j / 5 * 5 + j % 5 = j by omega, hj] at hv
  obtain ⟨k0, k1, k2, k3, k4⟩ := hc (j / 5) _ hq
  have hm : j % 5 < 5 := Nat.mod_lt _ (by omega)
  rw [show off + j = off + j / 5 * 5 + j % 5 by omega]
  generalize j % 5 = m at hv hm
  have : m = 0 ∨ m = 1 ∨ m = 2 ∨ m = 3 ∨ m = 4 := by omega
  rcases this with rfl | rfl | rfl | rfl | rfl <;> (injection hv with hv; subst hv)
  · exact k0
  · exact k1
  · exact k2
  · exact k3
  · exact k4
/-- Things in a row of one's own. -/
def TOwn (w : World) (base : Nat) (A : Option Addr) (n c : Nat) (l : List TA) : Prop := w.ownsRow base 42 5 (.slice A n c) n (flatTA l)
theorem TOwn.len {w : World} {base n c : Nat} {A : Option Addr} {l : List TA} (h : TOwn w base A n c l) : l.length = n := by have := h.1; rw [flatTA_len] at this; omega
theorem TOwn.next {a b : World} {base n c : Nat} {A : Option Addr} {l : List TA} (h : TOwn a base A n c l) (hb : Below a.heap.size a b) : TOwn b base A n c l := by
  refine ⟨h.1, ?_⟩
  rcases h.2 with e | ⟨g', cap, cur, e, h1, h2, h3⟩
  · exact .inl e
  · exact .inr ⟨g', cap, cur, e, h1, (hb.block g' (Array.getElem?_eq_some_iff.1 h2).1).trans h2, h3⟩
theorem town_nil (w : World) (base : Nat) : TOwn w base none 0 0 [] := World.ownsRow_nil _ _ _ _
theorem TOwn.row {w : World} {base d c : Nat} {A : Option Addr} {l : List TA} {n : Nat} (h : TOwn w base A n c l) (hbig : n ≤ 2199023255488) (hv : ∀ t ∈ l, PRow w 0 d t.A t.c t.l) : TRow w d A c l := by
  have hl := h.len
  rcases h.2 with ⟨e, e0⟩ | ⟨g, cap, cur, e, hb, hg, hnc, hcm, hcs, ht⟩
  · injection e with e1 e2 e3
    obtain rfl : l = [] := List.eq_nil_of_length_eq_zero (by omega)
    exact ⟨by simp, by simp, fun h => absurd h (by simp), fun t ht => by cases ht⟩
  · injection e with e1 e2 e3
    subst e1 e3
    refine ⟨by omega, by omega, fun h0 => ⟨g, 0, rfl, (Array.getElem?_eq_some_iff.1 hg).1, fun j x hj => ?_⟩, hv⟩
    have hc := fun (i : Nat) u (hu : (flatTA l)[i]? = some u) => World.ownsRow.cells (g := g) h rfl i u hu
    have ha : ∀ i, (⟨g, 0, none⟩ : Addr).add i = ⟨g, 0 + i, none⟩ := fun i => add_none _ _ _
    simp only [ha] at hc
    have f := flatTA_at l j x hj
    exact ⟨hc _ _ (f 0 (by omega)), by have := hc _ _ (f 1 (by omega)); rwa [← Nat.add_assoc] at this, by have := hc _ _ (f 2 (by omega)); rwa [← Nat.add_assoc] at this, by have := hc _ _ (f 3 (by omega)); rwa [← Nat.add_assoc] at this, by have := hc _ _ (f 4 (by omega)); rwa [← Nat.add_assoc] at this⟩
/-- append of things, however many. -/
theorem append_anyT {w : World} {ops : Array Oper} {rest : List Oper} {o : Oper} {a : Act} {Q : Exit → Act → World → Prop} (hgd : o.guard = none) (s x : Operand)
    (ho : o.op = .call { callee := .builtin .append, args := #[s, x], argTypes := #[22, 22] })
    (base : Nat) {A : Option Addr} {n c : Nat} {l : List TA} (hown : TOwn w base A n c l) (hs : a.eval s = .slice A n c)
    {d : Nat} {X : Option Addr} {m cx : Nat} {l2 : List TA} (hx : a.eval x = .slice X m cx) (hr : TRow w d X cx l2) (hnil : X = none → cx = 0) (hm : l2.length = m) (hlen : n + m ≤ 2199023255488) (hbase : base ≤ w.heap.size)
    (h : ∀ A' c' w', TOwn w' base A' (n + m) c' (l ++ l2) → w.grownBy w' (Value.ownBlock (.slice A n c)) → wpList Try.prog ops Q rest (a.put o.dst (.slice A' (n + m) c')) w') : wpList Try.prog ops Q (o :: rest) a w := by
  obtain ⟨i0, hi, hz0, hz1, hz2⟩ := info_parts info34
  subst hm
  have fin : ∀ v' w', w'.ownsRow base 42 5 v' (n + l2.length) (flatTA l ++ flatTA l2) → w.grownBy w' (Value.ownBlock (.slice A n c)) → wpList Try.prog ops Q rest (a.put o.dst v') w' := fun v' w' h1 h2 => by
    obtain ⟨A', c', rfl⟩ := own_shape h1
    exact h A' c' w' (by unfold TOwn; rw [flatTA_app]; exact h1) h2
  rcases Nat.eq_zero_or_pos l2.length with h0 | h0
  · obtain rfl : l2 = [] := List.eq_nil_of_length_eq_zero h0
    cases X with
    | none =>
      have := hnil rfl
      subst this
      refine wpList_append_own_none hgd s x 22 ho base 42 i0 5 Try.underlying22 hi _ _ _ hs hown hx ?_
      exact fin _ w (by have := hown; unfold TOwn at this; simpa [flatTA] using this) ⟨rfl, rfl, rfl, Nat.le_refl _, fun _ _ _ => rfl⟩
    | some ad =>
      refine wpList_append_own _ hgd s x 22 ho base 42 i0 _ 5 64 Try.underlying22 hi hz0 hz1 hz2 rfl (by decide) _ _ _ hs hown ad 0 cx [] hx rfl (by simp) (by simp) (by unfold maxLen; simp at hlen; omega) (by simp at hlen; omega) hbase ?_
      intro v' w' h1 h2 _
      exact fin v' w' (by simpa [flatTA] using h1) h2
  · obtain ⟨b, off, rfl, hb, hc⟩ := hr.at_ h0
    refine wpList_append_own _ hgd s x 22 ho base 42 i0 _ 5 64 Try.underlying22 hi hz0 hz1 hz2 rfl (by decide) _ _ _ hs hown ⟨b, off, none⟩ l2.length cx (flatTA l2) hx (flatTA_len l2) (flatTA_cell hc) (fun u hu => flatTA_one hu) (by unfold maxLen; omega) (by omega) hbase ?_
    intro v' w' h1 h2 _
    exact fin v' w' h1 h2
theorem trow_box (w : World) (d : Nat) (t : TA) (h : PRow w 0 d t.A t.c t.l) : TRow (w.alloc (.cells #[.int .i64 t.id, .string t.label, .int .i64 t.o, .int .i64 t.i, .slice t.A t.l.length t.c] 42)) d (some ⟨w.heap.size, 0, none⟩) 1 [t] :=
  ⟨by simp, by simp, fun _ => ⟨w.heap.size, 0, rfl, by simp, fun j x hj => by
    match j, hj with
    | 0, hj =>
      injection hj with hj
      subst hj
      have k := CellT.new w (.int .i64 t.id) (.string t.label) (.int .i64 t.o) (.int .i64 t.i) (.slice t.A t.l.length t.c)
      exact ⟨k.c0, k.c1, k.c2, k.c3, k.c4⟩⟩, fun u hu => by
    simp at hu
    subst hu
    exact h.next (below_new _ _)⟩
/-- append of numbers, however many. -/
theorem append_anyI {w : World} {ops : Array Oper} {rest : List Oper} {o : Oper} {a : Act} {Q : Exit → Act → World → Prop} (hgd : o.guard = none) (s x : Operand)
    (ho : o.op = .call { callee := .builtin .append, args := #[s, x], argTypes := #[34, 34] })
    (base : Nat) {A : Option Addr} {n c : Nat} {l : List Int} (hown : IOwn w base A n c l) (hs : a.eval s = .slice A n c)
    {X : Option Addr} {m cx : Nat} {l2 : List Int} (hx : a.eval x = .slice X m cx) (hr : IRow w X cx l2) (hnil : X = none → cx = 0) (hm : l2.length = m) (hlen : n + m ≤ 17592186044416) (hbase : base ≤ w.heap.size)
    (h : ∀ A' c' w', IOwn w' base A' (n + m) c' (l ++ l2) → w.grownBy w' (Value.ownBlock (.slice A n c)) → wpList Try.prog ops Q rest (a.put o.dst (.slice A' (n + m) c')) w') : wpList Try.prog ops Q (o :: rest) a w := by
  obtain ⟨i0, hi, hz0, hz1, hz2⟩ := info_parts info3
  subst hm
  have fin : ∀ v' w', w'.ownsRow base 3 1 v' (n + l2.length) (l.map (Value.int .i64) ++ l2.map (Value.int .i64)) → w.grownBy w' (Value.ownBlock (.slice A n c)) → wpList Try.prog ops Q rest (a.put o.dst v') w' := fun v' w' h1 h2 => by
    obtain ⟨A', c', rfl⟩ := own_shape h1
    exact h A' c' w' (by unfold IOwn; rw [List.map_append]; exact h1) h2
  rcases Nat.eq_zero_or_pos l2.length with h0 | h0
  · obtain rfl : l2 = [] := List.eq_nil_of_length_eq_zero h0
    cases X with
    | none =>
      have := hnil rfl
      subst this
      refine wpList_append_own_none hgd s x 34 ho base 3 i0 1 Try.underlying34 hi _ _ _ hs hown hx ?_
      exact fin _ w (by have := hown; unfold IOwn at this; simpa using this) ⟨rfl, rfl, rfl, Nat.le_refl _, fun _ _ _ => rfl⟩
    | some ad =>
      refine wpList_append_own _ hgd s x 34 ho base 3 i0 _ 1 8 Try.underlying34 hi hz0 hz1 hz2 rfl (by decide) _ _ _ hs hown ad 0 cx [] hx rfl (by simp) (by simp) (by unfold maxLen; simp at hlen; omega) (by simp at hlen; omega) hbase ?_
      intro v' w' h1 h2 _
      exact fin v' w' (by simpa using h1) h2
  · obtain ⟨b, off, rfl, hb, hc⟩ := hr.at_ h0
    refine wpList_append_own _ hgd s x 34 ho base 3 i0 _ 1 8 Try.underlying34 hi hz0 hz1 hz2 rfl (by decide) _ _ _ hs hown ⟨b, off, none⟩ l2.length cx (l2.map (Value.int .i64)) hx (by simp) (fun j u hj => ?_) (fun u hu => ?_) (by unfold maxLen; omega) (by omega) hbase ?_
    · rw [add_none]
      rw [List.getElem?_map] at hj
      obtain ⟨y, hy, rfl⟩ := Option.map_eq_some_iff.1 hj
      exact hc j y hy
    · obtain ⟨z, _, rfl⟩ := List.mem_map.1 hu
      rfl
    · intro v' w' h1 h2 _
      exact fin v' w' h1 h2
theorem IOwn.nil {w : World} {base n c : Nat} {A : Option Addr} {l : List Int} (h : IOwn w base A n c l) : A = none → c = 0 := fun e => by
  rcases h.2 with ⟨e1, _⟩ | ⟨g, cap, cur, e1, _⟩
  · injection e1
  · injection e1 with e2 _ _; rw [e] at e2; cases e2
/-- A graph that is laid: its box, and a row of edges that grows. -/
structure HS (w0 : World) (gh : Nat) (v0 : Value) (wr : World) (A : Option Addr) (c : Nat) (l : List TA) : Prop where
  ge : w0.heap.size ≤ gh
  bel : Below w0.heap.size w0 wr
  box : K24' wr gh v0 (.slice A l.length c)
  own : TOwn wr (gh + 1) A l.length c l
theorem HS.next {w0 : World} {gh : Nat} {v0 : Value} {a b : World} {A : Option Addr} {c : Nat} {l : List TA} (h : HS w0 gh v0 a A c l) (hb : Below a.heap.size a b) : HS w0 gh v0 b A c l := ⟨h.ge, bnext h.bel hb, h.box.next hb, h.own.next hb⟩
theorem HS.push {w0 : World} {gh : Nat} {v0 : Value} {X w' : World} {A A' : Option Addr} {c c' m : Nat} {l l2 : List TA} (h : HS w0 gh v0 X A c l) (hg : X.grownBy w' (Value.ownBlock (.slice A l.length c))) (hown : TOwn w' (gh + 1) A' (l.length + m) c' (l ++ l2)) :
    HS w0 gh v0 (w'.setCell ⟨gh, 1, none⟩ (.slice A' (l.length + m) c')) A' c' (l ++ l2) := by
  have hl := hown.len
  have hlt := h.box.lt
  have hsame : ∀ k, k ≤ gh → w'.heap[k]? = X.heap[k]? := fun k hk => hg.block k (by omega) (fun e => by have := (World.ownsRow.lt h.own k e.symm).1; omega)
  have bel' : Below w0.heap.size w0 w' := ⟨hg.os.trans h.bel.os, hg.tape.trans h.bel.tape, hg.output.trans h.bel.output, Nat.le_trans h.bel.size hg.size, fun k hk => (hsame k (by have := h.ge; omega)).trans (h.bel.block k hk)⟩
  have hb := hsame gh (Nat.le_refl _)
  have c0 : w'.cell? ⟨gh, 0, none⟩ = some v0 := (World.cell?_of_block (a := ⟨gh, 0, none⟩) hb).trans h.box.c0
  have c1 := (World.cell?_of_block (a := ⟨gh, 1, none⟩) hb).trans h.box.c1
  have f0 : w'.frozen? ⟨gh, 0, none⟩ = false := (World.frozen?_of_block (a := ⟨gh, 0, none⟩) hb).trans h.box.f0
  have f1 : w'.frozen? ⟨gh, 1, none⟩ = false := (World.frozen?_of_block (a := ⟨gh, 1, none⟩) hb).trans h.box.f1
  refine ⟨h.ge, bel'.setCell (p := ⟨gh, 1, none⟩) h.ge _, ⟨?_, ?_, ?_, ?_, ?_⟩, ?_⟩
  · simp [go_sem, c0]
  · rw [hl]; simp [go_sem, c1]
  · simpa [go_sem] using f0
  · simpa [go_sem] using f1
  · have := hg.size; simp [World.setCell]; omega
  · rw [hl]
    refine ⟨hown.1, ?_⟩
    rcases hown.2 with e | ⟨g', cap, cur, e, h1, h2, h3⟩
    · exact .inl e
    · exact .inr ⟨g', cap, cur, e, h1, (Below.heap_setCell _ _ _ _ (by show g' ≠ gh; omega)).trans h2, h3⟩
end Go.Proofs.Ytebkkjfeikpfgaa
