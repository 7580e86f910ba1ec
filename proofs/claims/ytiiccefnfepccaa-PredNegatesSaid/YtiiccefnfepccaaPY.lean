/- Rows of predicates of one's own; PredJoins: the walk. -/
import Derived.Test.YtiiccefnfepccaaPR
import Derived.Laws.AppendOwnNone
import Derived.Laws.AppendOwn
import Derived.IntWalk
import Derived.Lib.OwnBridge
namespace Go.Proofs.Ytiiccefnfepccaa
set_option maxRecDepth 100000
open Go.RowKit Go.Sort

theorem flatP_one {l : List Pt} {u : Value} (hu : u ∈ flatP l) : u.oneCell' = true := by
  obtain ⟨q, _, hq⟩ := List.mem_flatMap.1 hu
  simp [Pt.cs] at hq
  rcases hq with rfl | rfl | rfl <;> rfl
theorem add_n (b off j : Nat) : (⟨b, off, none⟩ : Addr).add j = ⟨b, off + j, none⟩ := by unfold Addr.add; split <;> simp_all
/-- The three cells of each, laid in a row. -/
def CellsAt (w : World) (b off : Nat) (l : List Pt) : Prop := ∀ (j : Nat) (x : Pt), l[j]? = some x → cells3 w b (off + j * 3) x.t x.A x.c x.A' x.c'
theorem flatP_cell {w : World} {b off : Nat} {l : List Pt} (hc : CellsAt w b off l) (j : Nat) (u : Value) (hj : (flatP l)[j]? = some u) : w.cell? ((⟨b, off, none⟩ : Addr).add j) = some u := by
  rw [add_n]
  have hj1 := (List.getElem?_eq_some_iff.1 hj).1
  rw [flatP_len] at hj1
  have hq : l[j / 3]? = some l[j / 3] := List.getElem?_eq_getElem (by omega)
  have hv := flatP_at l (j / 3) _ hq (j % 3) (Nat.mod_lt _ (by omega))
  rw [show j / 3 * 3 + j % 3 = j by omega, hj] at hv
  obtain ⟨k0, k1, k2⟩ := hc (j / 3) _ hq
  have hm : j % 3 < 3 := Nat.mod_lt _ (by omega)
  rw [show off + j = off + j / 3 * 3 + j % 3 by omega]
  generalize j % 3 = m at hv hm
  have : m = 0 ∨ m = 1 ∨ m = 2 := by omega
  rcases this with rfl | rfl | rfl <;> (injection hv with hv; subst hv)
  · exact k0
  · exact k1
  · exact k2
/-- Predicates in a row of one's own. -/
def POwn (w : World) (base : Nat) (A : Option Addr) (n c : Nat) (l : List Pt) : Prop := w.ownsRow base 25 3 (.slice A n c) n (flatP l)
theorem POwn.len {w : World} {base n c : Nat} {A : Option Addr} {l : List Pt} (h : POwn w base A n c l) : l.length = n := by have := h.1; rw [flatP_len] at this; omega
theorem POwn.next {a b : World} {base n c : Nat} {A : Option Addr} {l : List Pt} (h : POwn a base A n c l) (hb : Below a.heap.size a b) : POwn b base A n c l := by
  refine ⟨h.1, ?_⟩
  rcases h.2 with e | ⟨g', cap, cur, e, h1, h2, h3⟩
  · exact .inl e
  · exact .inr ⟨g', cap, cur, e, h1, (hb.block g' (Array.getElem?_eq_some_iff.1 h2).1).trans h2, h3⟩
theorem pown_nil (w : World) (base : Nat) : POwn w base none 0 0 [] := World.ownsRow_nil _ _ _ _
theorem POwn.row {w : World} {base d c : Nat} {A : Option Addr} {l : List Pt} {n : Nat} (h : POwn w base A n c l) (hbig : n ≤ 2513169434843) (hv : ∀ t ∈ l, t.In w d) : Pw w 0 w.heap.size d A c (l.map (·.t)) := by
  have hl := h.len
  rcases h.2 with ⟨e, e0⟩ | ⟨g, cap, cur, e, hb, hg, hnc, hcm, hcs, ht⟩
  · injection e with e1 e2 e3
    obtain rfl : l = [] := List.eq_nil_of_length_eq_zero (by omega)
    subst e1
    subst e3
    exact pw_nil _ _ _ _
  · injection e with e1 e2 e3
    subst e1 e3
    refine ⟨by simp; omega, by omega, by simp; omega, (fun e => by cases e), fun h0 => ⟨g, 0, rfl, Nat.zero_le _, (Array.getElem?_eq_some_iff.1 hg).1, fun j t hj => ?_⟩⟩
    rw [List.getElem?_map] at hj
    obtain ⟨x, hx, rfl⟩ := Option.map_eq_some_iff.1 hj
    have hc := fun (i : Nat) u (hu : (flatP l)[i]? = some u) => World.ownsRow.cells (g := g) h rfl i u hu
    have ha : ∀ i, (⟨g, 0, none⟩ : Addr).add i = ⟨g, 0 + i, none⟩ := fun i => add_n _ _ _
    simp only [ha] at hc
    have f := flatP_at l j x hx
    exact ⟨x.A, x.c, x.A', x.c', ⟨hc _ _ (f 0 (by omega)), by have := hc _ _ (f 1 (by omega)); rwa [← Nat.add_assoc] at this, by have := hc _ _ (f 2 (by omega)); rwa [← Nat.add_assoc] at this⟩, hv x (List.mem_of_getElem? hx)⟩
theorem own_shape {w : World} {base sz n : Nat} {e : TypeId} {v : Value} {xs : List Value} (h : w.ownsRow base e sz v n xs) : ∃ A c, v = .slice A n c := by
  rcases h.2 with ⟨h, e0⟩ | ⟨g, cap, cur, h, _⟩
  · exact ⟨none, 0, by rw [h, e0]⟩
  · exact ⟨_, _, h⟩
/-- append of one predicate that lies in a block of its own. -/
theorem append_oneP {w : World} {ops : Array Oper} {rest : List Oper} {o : Oper} {a : Act} {Q : Exit → Act → World → Prop} (hgd : o.guard = none) (s x : Operand)
    (ho : o.op = .call { callee := .builtin .append, args := #[s, x], argTypes := #[23, 23] })
    (base : Nat) {A : Option Addr} {n c : Nat} {l : List Pt} (hown : POwn w base A n c l) (hs : a.eval s = .slice A n c)
    {g cx : Nat} {y : Pt} (hx : a.eval x = .slice (some ⟨g, 0, none⟩) 1 cx) (hc : CellsAt w g 0 [y]) (hlen : n + 1 ≤ 2513169434843) (hbase : base ≤ w.heap.size)
    (h : ∀ A' c' w', POwn w' base A' (n + 1) c' (l ++ [y]) → w.grownBy w' (Value.ownBlock (.slice A n c)) → wpList Try.prog ops Q rest (a.put o.dst (.slice A' (n + 1) c')) w') : wpList Try.prog ops Q (o :: rest) a w := by
  obtain ⟨i0, hi, hz0, hz1, hz2⟩ := info_parts info25
  have fin : ∀ v' w', w'.ownsRow base 25 3 v' (n + 1) (flatP l ++ flatP [y]) → w.grownBy w' (Value.ownBlock (.slice A n c)) → wpList Try.prog ops Q rest (a.put o.dst v') w' := fun v' w' h1 h2 => by
    obtain ⟨A', c', rfl⟩ := own_shape h1
    exact h A' c' w' (by unfold POwn; rw [flatP_app]; exact h1) h2
  refine wpList_append_own _ hgd s x 23 ho base 25 i0 _ 3 56 Try.underlying23 hi hz0 hz1 hz2 rfl (by decide) _ _ _ hs hown ⟨g, 0, none⟩ 1 cx (flatP [y]) hx (flatP_len [y]) (flatP_cell hc) (fun u hu => flatP_one hu) (by unfold maxLen; omega) (by omega) hbase ?_
  intro v' w' h1 h2 _
  exact fin v' w' h1 h2
theorem cells_one (w : World) (y : Pt) : CellsAt (w.alloc (.cells #[.int .i64 y.t.k, .slice y.A y.t.v.length y.c, .slice y.A' y.t.p.length y.c'] 25)) w.heap.size 0 [y] := fun j x hj => by
  match j, hj with
  | 0, hj =>
    injection hj with hj
    subst hj
    have k := BP.new w y
    exact ⟨k.c0, k.c1, k.c2⟩
end Go.Proofs.Ytiiccefnfepccaa
