/- All, as the laws call it; bytes in rows of one's own. -/
import Derived.Test.YthjbmlgjlndihaaLM
import Derived.Test.YthjbmlgjlndihaaLH
import Derived.Laws.AppendOwnNone
namespace Go.Proofs.Ythjbmlgjlndihaa
set_option maxRecDepth 100000
open Go.RowKit Go.Sort

theorem all_ok {l : Bs} (hl : l.length ≤ 20000) (h : ∀ x ∈ its l 0, x.ok = true) : allL l = ((its l 0).map (·.t), 0, 0) := by
  rw [← items_its] at h ⊢
  exact all_yes (by omega) h
theorem all_bad {l : Bs} (hl : l.length ≤ 20000) {xs : List IT} {x : IT} (he : its l 0 = xs ++ [x]) (h : ∀ y ∈ xs, y.ok = true) (hx : x.ok = false) : allL l = ([], x.t.p, 30) := by
  refine all_no (by omega) xs [] x ?_ h hx
  rw [items_its, he]
def AP (W : World) (ts : List TK) (m : Nat) (p r : Int) (e : Ending) (w' : World) : Prop :=
  ∃ A c, e = .returned (.tuple #[.slice A m c, .int .i64 p, .int .i64 r]) ∧ TOwn w' W.heap.size A m c ts ∧ Below W.heap.size W w'
theorem all_at {l : Bs} {n m : Nat} {ts : List TK} {p r : Int} (hl : l.length ≤ 20000) (hn : n = l.length) (hR : allL l = (ts, p, r)) (hm : m = ts.length) {W : World} {A : Option Addr} {c : Nat} (h : BRow W A c l) :
    Calls Try.prog 13 #[.slice A n c] W (AP W ts m p r) := by
  subst hn hm
  refine (all_short W A c l h hl).mono fun e w' h1 => ?_
  exact all_post hR h1

/-- Bytes in a row of one's own. -/
def BOwn (w : World) (base : Nat) (A : Option Addr) (n c : Nat) (l : Bs) : Prop := w.ownsRow base 5 1 (.slice A n c) n (l.map u8v)
theorem BOwn.len {w : World} {base n c : Nat} {A : Option Addr} {l : Bs} (h : BOwn w base A n c l) : l.length = n := by have := h.1; rw [List.length_map] at this; omega
theorem BOwn.next {a b : World} {base n c : Nat} {A : Option Addr} {l : Bs} (h : BOwn a base A n c l) (hb : Below a.heap.size a b) : BOwn b base A n c l := own_keep h fun k _ hk => hb.block k hk
theorem bown_nil (w : World) (base : Nat) : BOwn w base none 0 0 [] := World.ownsRow_nil _ _ _ _
theorem BOwn.row {w : World} {base c : Nat} {A : Option Addr} {l : Bs} {n : Nat} (h : BOwn w base A n c l) : BRow w A c l := by
  have hl := h.len
  rcases h.2 with ⟨e, e0⟩ | ⟨g, cap, cur, e, hb, hg, hnc, hcm, hcs, ht⟩
  · injection e with e1 e2 e3
    obtain rfl : l = [] := List.eq_nil_of_length_eq_zero (by omega)
    subst e1 e3
    exact ⟨by simp, by unfold maxLen; omega, fun _ => rfl, fun h => absurd h (by simp)⟩
  · injection e with e1 e2 e3
    subst e1 e3
    refine ⟨by omega, hcm, (fun e => by cases e), fun h0 => ⟨g, 0, rfl, (Array.getElem?_eq_some_iff.1 hg).1, fun j x hj => ?_⟩⟩
    have hc := fun (i : Nat) u (hu : (l.map u8v)[i]? = some u) => World.ownsRow.cells (g := g) h rfl i u hu
    have := hc j (u8v x) (by simp [hj])
    rwa [add_none] at this
/-- append of bytes, however many. -/
theorem append_anyB {w : World} {ops : Array Oper} {rest : List Oper} {o : Oper} {a : Act} {Q : Exit → Act → World → Prop} (hgd : o.guard = none) (s x : Operand)
    (ho : o.op = .call { callee := .builtin .append, args := #[s, x], argTypes := #[22, 22] })
    (base : Nat) {A : Option Addr} {n c : Nat} {l : Bs} (hown : BOwn w base A n c l) (hs : a.eval s = .slice A n c)
    {X : Option Addr} {m cx : Nat} {l2 : Bs} (hx : a.eval x = .slice X m cx) (hr : BRow w X cx l2) (hm : l2.length = m) (hlen : n + m ≤ 140737488355328) (hbase : base ≤ w.heap.size)
    (h : ∀ A' c' w', BOwn w' base A' (n + m) c' (l ++ l2) → w.grownBy w' (Value.ownBlock (.slice A n c)) → wpList Try.prog ops Q rest (a.put o.dst (.slice A' (n + m) c')) w') : wpList Try.prog ops Q (o :: rest) a w := by
  obtain ⟨i0, hi, hz0, hz1, hz2⟩ := info_parts info5
  subst hm
  have fin : ∀ v' w', w'.ownsRow base 5 1 v' (n + l2.length) (l.map u8v ++ l2.map u8v) → w.grownBy w' (Value.ownBlock (.slice A n c)) → wpList Try.prog ops Q rest (a.put o.dst v') w' := fun v' w' h1 h2 => by
    obtain ⟨A', c', rfl⟩ := own_shape h1
    exact h A' c' w' (by unfold BOwn; rw [List.map_append]; exact h1) h2
  rcases Nat.eq_zero_or_pos l2.length with h0 | h0
  · obtain rfl : l2 = [] := List.eq_nil_of_length_eq_zero h0
    cases X with
    | none =>
      have := hr.nil rfl
      subst this
      refine wpList_append_own_none hgd s x 22 ho base 5 i0 1 Try.underlying22 hi _ _ _ hs hown hx ?_
      exact fin _ w (by have := hown; unfold BOwn at this; simpa using this) ⟨rfl, rfl, rfl, Nat.le_refl _, fun _ _ _ => rfl⟩
    | some ad =>
      refine wpList_append_own _ hgd s x 22 ho base 5 i0 _ 1 1 Try.underlying22 hi hz0 hz1 hz2 rfl (by decide) _ _ _ hs hown ad 0 cx [] hx rfl (by simp) (by simp) (by unfold maxLen; simp at hlen; omega) (by simp at hlen; omega) hbase ?_
      intro v' w' h1 h2 _
      exact fin v' w' (by simpa using h1) h2
  · obtain ⟨b, off, rfl, hb, hc⟩ := hr.at_ h0
    refine wpList_append_own _ hgd s x 22 ho base 5 i0 _ 1 1 Try.underlying22 hi hz0 hz1 hz2 rfl (by decide) _ _ _ hs hown ⟨b, off, none⟩ l2.length cx (l2.map u8v) hx (by simp) (fun j u hj => ?_) (fun u hu => ?_) (by unfold maxLen; omega) (by omega) hbase ?_
    · rw [add_none]
      rw [List.getElem?_map] at hj
      cases hk : l2[j]? with
      | none => rw [hk] at hj; cases hj
      | some y => rw [hk] at hj; injection hj with hj; subst hj; exact hc j y hk
    · obtain ⟨y, _, rfl⟩ := List.mem_map.1 hu; rfl
    · intro v' w' h1 h2 _
      exact fin v' w' h1 h2
theorem brow_one (w : World) (x : UInt8) : BRow (w.alloc (.cells #[u8v x] 5)) (some ⟨w.heap.size, 0, none⟩) 1 [x] := brow_new w [x] (0, 0) (by unfold maxLen; simp)
theorem brow_two (w : World) (x y : UInt8) : BRow (w.alloc (.cells #[u8v x, u8v y] 5)) (some ⟨w.heap.size, 0, none⟩) 2 [x, y] := brow_new w [x, y] (0, 0) (by unfold maxLen; simp)
end Go.Proofs.Ythjbmlgjlndihaa
