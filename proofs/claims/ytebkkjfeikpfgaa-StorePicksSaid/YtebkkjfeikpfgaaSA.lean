/- Rows of numbers: read, owned, appended to; SameInts. -/
import Derived.Test.YtebkkjfeikpfgaaBNE
import Derived.Maps.AppendAt
import Derived.LoopTactic
import Derived.RegionTactic
import Derived.Deep.QuietTactic
import Derived.BigQuiet
import Derived.Deep.AppendLies
namespace Go.Proofs.Ytebkkjfeikpfgaa
open Go.RowKit
set_option maxRecDepth 100000

/-- A slice that reads as numbers. -/
structure IRow (w : World) (A : Option Addr) (c : Nat) (l : List Int) : Prop where
  le : l.length ≤ c
  big : l.length ≤ 17592186044416
  at_ : 0 < l.length → ∃ b off, A = some ⟨b, off, none⟩ ∧ b < w.heap.size ∧ ∀ (j : Nat) x, l[j]? = some x → w.cell? ⟨b, off + j, none⟩ = some (.int .i64 x)
theorem IRow.next {a b : World} {A : Option Addr} {c : Nat} {l : List Int} (h : IRow a A c l) (hb : Below a.heap.size a b) : IRow b A c l :=
  ⟨h.le, h.big, fun h0 => by
    obtain ⟨g, off, e, hg, hc⟩ := h.at_ h0
    exact ⟨g, off, e, Nat.lt_of_lt_of_le hg hb.size, fun j x hj => cell_below hb (hc j x hj) hg⟩⟩
theorem IRow.elem {w : World} {A : Option Addr} {c : Nat} {l : List Int} (h : IRow w A c l) {k : Nat} (hk : k < l.length) : ∃ b off x, A = some ⟨b, off, none⟩ ∧ b < w.heap.size ∧ l[k]? = some x ∧ w.cell? ⟨b, off + k, none⟩ = some (.int .i64 x) := by
  obtain ⟨b, off, e, hb, hc⟩ := h.at_ (by omega)
  exact ⟨b, off, l[k], e, hb, List.getElem?_eq_getElem hk, hc k _ (List.getElem?_eq_getElem hk)⟩
theorem irow_nil (w : World) (A : Option Addr) (c : Nat) : IRow w A c [] := ⟨by simp, by simp, fun h => absurd h (by simp)⟩
/-- Numbers in a row of one's own. -/
def IOwn (w : World) (base : Nat) (A : Option Addr) (n c : Nat) (l : List Int) : Prop := w.ownsRow base 3 1 (.slice A n c) n (l.map (Value.int .i64))
theorem IOwn.len {w : World} {base n c : Nat} {A : Option Addr} {l : List Int} (h : IOwn w base A n c l) : l.length = n := by have := h.1; simpa using this
theorem IOwn.next {a b : World} {base n c : Nat} {A : Option Addr} {l : List Int} (h : IOwn a base A n c l) (hb : Below a.heap.size a b) : IOwn b base A n c l := by
  refine ⟨h.1, ?_⟩
  rcases h.2 with e | ⟨g', cap, cur, e, h1, h2, h3⟩
  · exact .inl e
  · exact .inr ⟨g', cap, cur, e, h1, (hb.block g' (Array.getElem?_eq_some_iff.1 h2).1).trans h2, h3⟩
theorem IOwn.row {w : World} {base c : Nat} {A : Option Addr} {l : List Int} {n : Nat} (h : IOwn w base A n c l) (hbig : n ≤ 17592186044416) : IRow w A c l := by
  have hl := h.len
  rcases h.2 with ⟨e, e0⟩ | ⟨g, cap, cur, e, hb, hg, hnc, hcm, hcs, ht⟩
  · injection e with e1 e2 e3
    obtain rfl : l = [] := List.eq_nil_of_length_eq_zero (by omega)
    exact irow_nil _ _ _
  · injection e with e1 e2 e3
    subst e1 e3
    refine ⟨by omega, by omega, fun h0 => ⟨g, 0, rfl, (Array.getElem?_eq_some_iff.1 hg).1, fun j x hj => ?_⟩⟩
    have := World.ownsRow.cells (g := g) h rfl j (.int .i64 x) (by simp [hj])
    have e : (⟨g, 0, none⟩ : Addr).add j = ⟨g, 0 + j, none⟩ := by unfold Addr.add; split <;> simp_all
    rwa [e] at this
theorem own_block {w : World} {base n c sz : Nat} {A : Option Addr} {e : TypeId} {xs : List Value} (h : w.ownsRow base e sz (.slice A n c) n xs) : ∀ k, Value.ownBlock (.slice A n c) = some k → base ≤ k := fun k hk => (h.lt k hk).1
theorem grown_below {B : Nat} {w a b : World} {row : Option Nat} (hB : B ≤ w.heap.size) (h : Below B w a) (hg : a.grownBy b row) (hrow : ∀ k, row = some k → B ≤ k) : Below B w b :=
  ⟨hg.os.trans h.os, hg.tape.trans h.tape, hg.output.trans h.output, Nat.le_trans h.size hg.size, fun k hk => (hg.block k (by have := h.size; omega) (fun e => by have := hrow k e.symm; omega)).trans (h.block k hk)⟩

theorem info3 : (Try.prog.info? 3).map (fun i => (i.zero, i.size, i.bytes)) = some (some (.int .i64 0), 1, 8) := by kernel_rfl
def zrowI (n : Nat) : Array Value := madeCells #[.int .i64 0] (n * 1)
theorem make0 (n : Nat) (hn : n ≤ 17592186044416) (W : World) : (Instr.makeSlice 34 (.int .i64 0) (.int .i64 (n : Int))).run Try.prog W = .ok (.slice (some ⟨W.heap.size, 0, none⟩) 0 n) (W.alloc (.cells (zrowI n) 3)) := by
  obtain ⟨i0, hi, hz0, hz1, hz2⟩ := info_parts info3
  have := run_make (P := Try.prog) W 34 3 i0 _ Try.underlying34 hi hz0 .i64 .i64 0 (n : Int) (by omega) (by omega) (by rw [hz2]; omega) (by omega)
  rw [this, hz1]; rfl
theorem own0 (w : World) (n : Nat) (hn : n ≤ 17592186044416) : IOwn (w.alloc (.cells (zrowI n) 3)) w.heap.size (some ⟨w.heap.size, 0, none⟩) 0 n [] :=
  World.ownsRow_made w (zrowI n) n (Nat.le_refl _) (by unfold maxLen; omega) (size_madeCells _ _)
theorem iown_nil (w : World) (base : Nat) : IOwn w base none 0 0 [] := World.ownsRow_nil _ _ _ _
/-- append of one number. -/
theorem append_oneI {w : World} {ops : Array Oper} {rest : List Oper} {o : Oper} {a : Act} {Q : Exit → Act → World → Prop} (hgd : o.guard = none) (s x : Operand)
    (ho : o.op = .call { callee := .builtin .append, args := #[s, x], argTypes := #[34, 34] })
    (base : Nat) {A : Option Addr} {n c : Nat} {l : List Int} (hown : IOwn w base A n c l) (hs : a.eval s = .slice A n c)
    (g : Nat) (y : Int) (hx : a.eval x = .slice (some ⟨g, 0, none⟩) 1 1) (hc : w.cell? ⟨g, 0, none⟩ = some (.int .i64 y)) (hlen : n + 1 ≤ 17592186044416) (hbase : base ≤ w.heap.size)
    (h : ∀ A' c' w', IOwn w' base A' (n + 1) c' (l ++ [y]) → w.grownBy w' (Value.ownBlock (.slice A n c)) → wpList Try.prog ops Q rest (a.put o.dst (.slice A' (n + 1) c')) w') : wpList Try.prog ops Q (o :: rest) a w := by
  obtain ⟨i0, hi, hz0, hz1, hz2⟩ := info_parts info3
  refine wpList_append_own _ hgd s x 34 ho base 3 i0 (.int .i64 0) 1 8 Try.underlying34 hi hz0 hz1 hz2 rfl (by decide) _ _ _ hs hown ⟨g, 0, none⟩ 1 1 [.int .i64 y] hx rfl ?_ ?_ (by unfold maxLen; omega) (by omega) hbase ?_
  · intro j u hj
    match j, hj with
    | 0, hj =>
      simp at hj
      subst hj
      have e : (⟨g, 0, none⟩ : Addr).add 0 = ⟨g, 0, none⟩ := by unfold Addr.add; simp
      rw [e]; exact hc
  · intro u hu
    simp at hu
    subst hu
    rfl
  · intro v' w' h1 h2 _
    obtain ⟨g', cap, rfl, -⟩ := h1.form (by omega)
    exact h _ _ w' (by unfold IOwn; rw [List.map_append]; exact h1) h2

theorem take_eq_next {l1 l2 : List Int} {k : Nat} {x y : Int} (h1 : l1[k]? = some x) (h2 : l2[k]? = some y) (h : l1.take k = l2.take k) (e : x = y) : l1.take (k + 1) = l2.take (k + 1) := by
  rw [List.take_add_one, List.take_add_one, h1, h2, h, e]
theorem ne_at {l1 l2 : List Int} {k : Nat} {x y : Int} (h1 : l1[k]? = some x) (h2 : l2[k]? = some y) (e : x ≠ y) : (l1 == l2) = false := by
  refine beq_eq_false_iff_ne.2 (fun e' => e ?_)
  rw [e', h2] at h1
  injection h1 with h1
  exact h1.symm
set_option maxHeartbeats 1600000 in
theorem sameInts_any (w : World) (A1 A2 : Option Addr) (c1 c2 : Nat) (l1 l2 : List Int) (h1 : IRow w A1 c1 l1) (h2 : IRow w A2 c2 l2) :
    Calls Try.prog 18 #[.slice A1 l1.length c1, .slice A2 l2.length c2] w fun e w' => e = .returned (.bool (l1 == l2)) ∧ Below w.heap.size w w' := by
  have b1 := h1.big
  have H1 := Lib.hid h1
  have H2 := Lib.hid h2
  clear h1 h2
  obtain ⟨n, hn⟩ : ∃ n, n = l1.length := ⟨_, rfl⟩
  by_cases hl : l1.length = l2.length
  · rw [← hl, ← hn]
    have N1 := Lib.hid hn
    have N2 := Lib.hid (hn.trans hl)
    rw [← hn] at b1
    clear hn hl
    go_enter Try.func18, Try.ntmps18
    go_wp2
    go_loopw [5] (fun i wr => ∃ k : Nat, k ≤ n ∧ i = .int .i64 k ∧ Hid (Below w.heap.size w wr) ∧ Hid (l1.take k = l2.take k)) (fun i _ => n - (intOf i).toNat)
    case atStart => exact ⟨0, by omega, rfl, Lib.hid (Below.refl _ _), Lib.hid rfl⟩
    case round =>
      obtain ⟨k, hk, rfl, hbel, hT⟩ := hrel
      by_cases hlt : k < n
      · obtain ⟨b1, off1, x, rfl, hb1, hx, g1⟩ := (H1.out.next hbel.out).elem (k := k) (by have := N1.out; omega)
        obtain ⟨b2, off2, y, rfl, hb2, hy, g2⟩ := (H2.out.next hbel.out).elem (k := k) (by have := N2.out; omega)
        have HX := Lib.hid hx
        have HY := Lib.hid hy
        clear hx hy
        have hklt : (k : Int) < (n : Int) := by omega
        by_cases hxy : x = y
        · subst hxy
          go_wp2
          go_region
          go_wp2
          go_roundw
          case rel => exact ⟨k + 1, by omega, by go_num, Lib.hid hbel.out.drew, Lib.hid (take_eq_next HX.out HY.out hT.out rfl)⟩
          case measure => simp [intOf]; omega
        · have hne := Lib.hid (ne_at HX.out HY.out hxy)
          have q1 : (x == y) = false := beq_eq_false_iff_ne.2 hxy
          have q2 : (x != y) = true := by simp [hxy]
          go_wp2
          go_region
          go_wp2
          go_ret
          exact ⟨by rw [hne.out]; rfl, hbel.out.drew⟩
      · go_wp2
        go_ret
        refine ⟨?_, hbel.out⟩
        have e1 := hT.out
        rw [List.take_of_length_le (by have := N1.out; omega), List.take_of_length_le (by have := N2.out; omega)] at e1
        rw [e1]; simp
  · have e0 : (l1 == l2) = false := beq_eq_false_iff_ne.2 (fun e => hl (by rw [e]))
    rw [e0]
    obtain ⟨m, hm⟩ : ∃ m, m = l2.length := ⟨_, rfl⟩
    rw [← hn, ← hm] at hl ⊢
    have q1 : (n == m) = false := beq_eq_false_iff_ne.2 hl
    have q2 : ((n : Int) == (m : Int)) = false := beq_eq_false_iff_ne.2 (by omega)
    have q3 : ((n : Int) != (m : Int)) = true := by simp; omega
    have q4 : (n != m) = true := by simp; omega
    clear hn hm b1
    go_enter Try.func18, Try.ntmps18
    go_wp2
    go_ret
    exact ⟨rfl, Below.refl _ _⟩
end Go.Proofs.Ytebkkjfeikpfgaa
