/- The document's own answers for chapter 7: fits, Around, Pick; how much is looked at. -/
import Derived.Test.YtebkkjfeikpfgaaSG
import Derived.Test.YtebkkjfeikpfgaaSH
import Derived.Test.YtebkkjfeikpfgaaBPe
import Derived.Test.YtebkkjfeikpfgaaBXB
namespace Go.Proofs.Ytebkkjfeikpfgaa
open Go.RowKit Go.Sort
set_option maxRecDepth 100000
attribute [local go_sem ↓] Go.wp_at_zero Go.wp_at_succ

/-- Two rows of numbers of one's own, in two blocks. -/
structure TwoI (w : World) (base : Nat) (A1 : Option Addr) (n1 c1 : Nat) (l1 : List Int) (A2 : Option Addr) (n2 c2 : Nat) (l2 : List Int) : Prop where
  a : IOwn w base A1 n1 c1 l1
  b : IOwn w base A2 n2 c2 l2
  ne : ∀ g, Value.ownBlock (.slice A1 n1 c1) = some g → Value.ownBlock (.slice A2 n2 c2) = some g → False
theorem TwoI.next {w w' : World} {base n1 c1 n2 c2 : Nat} {A1 A2 : Option Addr} {l1 l2 : List Int} (h : TwoI w base A1 n1 c1 l1 A2 n2 c2 l2) (hb : Below w.heap.size w w') : TwoI w' base A1 n1 c1 l1 A2 n2 c2 l2 := ⟨h.a.next hb, h.b.next hb, h.ne⟩
theorem ne_or {o1 o2 : Option Nat} (h : ∀ g, o1 = some g → o2 = some g → False) : o1 = none ∨ o1 ≠ o2 := by
  cases o1 with
  | none => exact .inl rfl
  | some g => exact .inr (fun e => h g rfl e.symm)
theorem append_oneL {w : World} {ops : Array Oper} {rest : List Oper} {o : Oper} {a : Act} {Q : Exit → Act → World → Prop} (hgd : o.guard = none) (s x : Operand)
    (ho : o.op = .call { callee := .builtin .append, args := #[s, x], argTypes := #[34, 34] })
    (base : Nat) {A : Option Addr} {n c : Nat} {l : List Int} (hown : IOwn w base A n c l) (hs : a.eval s = .slice A n c)
    (g : Nat) (y : Int) (hx : a.eval x = .slice (some ⟨g, 0, none⟩) 1 1) (hc : w.cell? ⟨g, 0, none⟩ = some (.int .i64 y)) (hlen : n + 1 ≤ 17592186044416) (hbase : base ≤ w.heap.size)
    (h : ∀ A' c' w', IOwn w' base A' (n + 1) c' (l ++ [y]) → w.grownBy w' (Value.ownBlock (.slice A n c)) → (Value.ownBlock (.slice A' (n + 1) c') = Value.ownBlock (.slice A n c) ∨ Value.ownBlock (.slice A' (n + 1) c') = some w.heap.size) → wpList Try.prog ops Q rest (a.put o.dst (.slice A' (n + 1) c')) w') : wpList Try.prog ops Q (o :: rest) a w := by
  obtain ⟨i0, hi, hz0, hz1, hz2⟩ := info_parts info3
  refine wpList_append_own_at _ hgd s x 34 ho base 3 i0 (.int .i64 0) 1 8 Try.underlying34 hi hz0 hz1 hz2 rfl (by decide) _ _ _ hs hown ⟨g, 0, none⟩ 1 1 [.int .i64 y] hx rfl ?_ ?_ (by unfold maxLen; omega) (by omega) hbase ?_
  · intro j u hj
    match j, hj with
    | 0, hj =>
      simp at hj
      subst hj
      have e : (⟨g, 0, none⟩ : Addr).add 0 = ⟨g, 0, none⟩ := by unfold Addr.add; simp
      rw [e]; exact hc
  · intro u hu
    simp at hu
    subst hu
    rfl
  · intro v' w' h1 h2 _ h4
    obtain ⟨g', cap, rfl, -⟩ := h1.form (by omega)
    exact h _ _ w' (by unfold IOwn; rw [List.map_append]; exact h1) h2 h4
theorem TwoI.push1 {w w' : World} {base n1 c1 n2 c2 c' : Nat} {A1 A2 A' : Option Addr} {l1 l2 l' : List Int} (h : TwoI w base A1 n1 c1 l1 A2 n2 c2 l2) (hown : IOwn w' base A' (n1 + 1) c' l') (hg : w.grownBy w' (Value.ownBlock (.slice A1 n1 c1))) (hl : Value.ownBlock (.slice A' (n1 + 1) c') = Value.ownBlock (.slice A1 n1 c1) ∨ Value.ownBlock (.slice A' (n1 + 1) c') = some w.heap.size) : TwoI w' base A' (n1 + 1) c' l' A2 n2 c2 l2 :=
  ⟨hown, World.ownsRow.kept h.b hg (ne_or (fun g e1 e2 => h.ne g e2 e1)), fun g e1 e2 => by
    rcases hl with e | e
    · exact h.ne g (e.symm.trans e1) e2
    · rw [e] at e1; injection e1 with e1; have := (World.ownsRow.lt h.b g e2).2; omega⟩
theorem TwoI.push2 {w w' : World} {base n1 c1 n2 c2 c' : Nat} {A1 A2 A' : Option Addr} {l1 l2 l' : List Int} (h : TwoI w base A1 n1 c1 l1 A2 n2 c2 l2) (hown : IOwn w' base A' (n2 + 1) c' l') (hg : w.grownBy w' (Value.ownBlock (.slice A2 n2 c2))) (hl : Value.ownBlock (.slice A' (n2 + 1) c') = Value.ownBlock (.slice A2 n2 c2) ∨ Value.ownBlock (.slice A' (n2 + 1) c') = some w.heap.size) : TwoI w' base A1 n1 c1 l1 A' (n2 + 1) c' l' :=
  ⟨World.ownsRow.kept h.a hg (ne_or (fun g e1 e2 => h.ne g e1 e2)), hown, fun g e1 e2 => by
    rcases hl with e | e
    · exact h.ne g e1 (e.symm.trans e2)
    · rw [e] at e2; injection e2 with e2; have := (World.ownsRow.lt h.a g e1).2; omega⟩
theorem twoI_nil (w : World) (base : Nat) : TwoI w base none 0 0 [] none 0 0 [] := ⟨iown_nil _ _, iown_nil _ _, fun g h => by cases h⟩

/-- Is a label one of some, or are there none? -/
def fitA (ls : List ByteArray) (b : ByteArray) : Bool := ls.any (fun s => s.toList == b.toList) || decide (ls.length = 0)
theorem anyL_next {α : Type} (p : α → Bool) (l : List α) (k : Nat) {x : α} (hx : l[k]? = some x) (hp : p x = false) (h : (l.take k).any p = false) : (l.take (k + 1)).any p = false := by
  rw [List.take_add_one, hx]; simp [hp, h]
set_option maxHeartbeats 1600000 in
theorem fits34_any (w : World) (b : ByteArray) (A : Option Addr) (c : Nat) (ls : List ByteArray) (h : LRow w A c ls) : Calls Try.prog 34 #[.string b, .slice A ls.length c] w fun e w' => e = .returned (.bool (fitA ls b)) ∧ w' = w := by
  have hbig : ls.length ≤ 8796093022208 := h.big
  have H := Lib.hid h
  clear h
  obtain ⟨n, hn⟩ : ∃ n, n = ls.length := ⟨_, rfl⟩
  rw [← hn] at hbig ⊢
  have HN := Lib.hid hn
  clear hn
  go_enter Try.func34, Try.ntmps34
  go_wp2
  go_loop [5] (fun i => ∃ k : Nat, k ≤ n ∧ i = .int .i64 k ∧ Hid ((ls.take k).any (fun s => s.toList == b.toList) = false)) (fun i => n - (intOf i).toNat)
  case atStart => exact ⟨0, by omega, rfl, Lib.hid rfl⟩
  case round =>
    obtain ⟨k, hk, rfl, hA⟩ := hrel
    by_cases hlt : k < n
    · obtain ⟨g, off, x, rfl, hb, hx, q0⟩ := H.out.elem (k := k) (by have := HN.out; omega)
      have klt : (k : Int) < (n : Int) := by omega
      have HX := Lib.hid hx
      clear hx
      cases hp : (x.toList == b.toList)
      · have NX := Lib.hid (anyL_next (fun s : ByteArray => s.toList == b.toList) ls k HX.out hp hA.out)
        go_wp2
        go_round
        case rel => exact ⟨k + 1, by omega, by go_num, NX⟩
        case measure => simp [intOf]; omega
      · have YX : Hid (fitA ls b = true) := Lib.hid (by unfold fitA; rw [List.any_eq_true.2 ⟨x, List.mem_of_getElem? HX.out, hp⟩]; rfl)
        go_wp2
        go_ret
        exact ⟨by rw [YX.out]; rfl, rfl⟩
    · obtain rfl : k = n := by omega
      have hA' := hA.out
      rw [List.take_of_length_le (by have := HN.out; omega)] at hA'
      have EX : Hid (fitA ls b = decide (k = 0)) := Lib.hid (by unfold fitA; rw [hA', ← HN.out]; rfl)
      clear hA'
      by_cases h0 : k = 0
      · subst h0
        go_wp2
        go_ret
        exact ⟨by rw [EX.out]; rfl, rfl⟩
      · have e0 : ((k : Int) == 0) = false := beq_eq_false_iff_ne.2 (by omega)
        have E2 : Hid (decide (k = 0) = false) := Lib.hid (by simp [h0])
        clear h0
        go_wp2
        go_ret
        exact ⟨by rw [EX.out, E2.out]; rfl, rfl⟩
end Go.Proofs.Ytebkkjfeikpfgaa
