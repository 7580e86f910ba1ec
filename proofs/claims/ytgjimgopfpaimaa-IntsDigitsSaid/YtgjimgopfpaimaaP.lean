/- SameInts at two slices that read as one list: true. And append, at a slice of numbers of the call's own, of a slice of numbers, nil or not. -/
import Derived.Test.YtgjimgopfpaimaaO
import Derived.Laws.AppendOwnNone
import Derived.RegionTactic
import Derived.Deep.QuietTactic
import Derived.BigQuiet
import Derived.Deep.AppendLies
namespace Go.Proofs.Ytgjimgopfpaimaa
open Go.RowKit

theorem Ints.keep {w w' : World} {B n : Nat} {A : Option Addr} {l : List Int} (h : Ints w B A n l) (hk : ∀ p : Addr, p.block < B → w'.cell? p = w.cell? p) : Ints w' B A n l :=
  ⟨h.1, h.2.1, h.2.2.1, fun h0 => by
    obtain ⟨b, off, e, hb, hc⟩ := h.2.2.2 h0
    exact ⟨b, off, e, hb, fun j hj => (hk _ hb).trans (hc j hj)⟩⟩
theorem Ints.below {w w' : World} {B B' n : Nat} {A : Option Addr} {l : List Int} (h : Ints w B A n l) (hb : Below B' w w') (hB : B ≤ B') : Ints w' B A n l := h.keep fun _ hp => hb.cell (Nat.lt_of_lt_of_le hp hB)
theorem Ints.more {w : World} {B B' n : Nat} {A : Option Addr} {l : List Int} (h : Ints w B A n l) (hB : B ≤ B') : Ints w B' A n l :=
  ⟨h.1, h.2.1, h.2.2.1, fun h0 => by
    obtain ⟨b, off, e, hb, hc⟩ := h.2.2.2 h0
    exact ⟨b, off, e, by omega, hc⟩⟩
theorem Ints.front {w : World} {B n : Nat} {A : Option Addr} {l : List Int} (h : Ints w B A n l) (k : Nat) (hk : k ≤ n) : Ints w B A k (l.take k) := by
  obtain ⟨h1, h2, h3, h4⟩ := h
  refine ⟨by rw [List.length_take]; omega, by omega, fun x hx => h3 x (List.mem_of_mem_take hx), fun h0 => ?_⟩
  obtain ⟨b, off, e, hb, hc⟩ := h4 (by omega)
  exact ⟨b, off, e, hb, fun j hj => (hc j (by omega)).trans (by simp [List.getD, hj])⟩
theorem Ints.back {w : World} {B n k : Nat} {b off : Nat} {l : List Int} (h : Ints w B (some ⟨b, off, none⟩) n l) (hk : k ≤ n) : Ints w B (some ⟨b, off + k, none⟩) (n - k) (l.drop k) := by
  obtain ⟨h1, h2, h3, h4⟩ := h
  refine ⟨by rw [List.length_drop]; omega, by omega, fun x hx => h3 x (List.mem_of_mem_drop hx), fun h0 => ?_⟩
  obtain ⟨b', off', e, hb, hc⟩ := h4 (by omega)
  injection e with e
  injection e with e1 e2
  subst e1; subst e2
  refine ⟨b, off + k, rfl, hb, fun j hj => ?_⟩
  have := hc (k + j) (by omega)
  rw [← Nat.add_assoc] at this
  rw [this]
  simp [List.getD]

set_option maxHeartbeats 800000 in
theorem same_yes (A1 A2 : Option Addr) (B n c1 c2 : Nat) (l : List Int) (w : World) (hI1 : Ints w B A1 n l) (hI2 : Ints w B A2 n l) (hB : B ≤ w.heap.size) :
    Calls Try.prog 23 #[.slice A1 n c1, .slice A2 n c2] w fun e w' => e = .returned (.bool true) ∧ Below w.heap.size w w' := by
  have hn := hI1.2.1
  have H1 := Lib.hid hI1
  have H2 := Lib.hid hI2
  clear hI1 hI2
  go_enter Try.func23, Try.ntmps23
  go_wp2
  go_loopw [5] (fun i wr => ∃ k : Nat, k ≤ n ∧ i = .int .i64 k ∧ Hid (Below w.heap.size w wr)) (fun i _ => n - (intOf i).toNat)
  case atStart => exact ⟨0, by omega, rfl, Lib.hid (Below.refl _ _)⟩
  case round =>
    obtain ⟨k, hk, rfl, hbel⟩ := hrel
    by_cases hlt : k < n
    · obtain ⟨b1, off1, rfl, hb1, hc1⟩ := (H1.out.below hbel.out hB).2.2.2 (by omega)
      obtain ⟨b2, off2, rfl, hb2, hc2⟩ := (H2.out.below hbel.out hB).2.2.2 (by omega)
      have g1 := hc1 k hlt
      have g2 := hc2 k hlt
      clear hc1 hc2
      generalize l.getD k 0 = x at g1 g2
      have hklt : (k : Int) < (n : Int) := by omega
      go_wp2
      go_region
      go_wp2
      go_roundw
      case rel => exact ⟨k + 1, by omega, by go_num, Lib.hid hbel.out.drew⟩
      case measure => simp [intOf]; omega
    · go_wp2
      go_ret
      exact ⟨rfl, hbel.out⟩

/-- A slice of numbers that the call itself made. -/
def OwnInts (w : World) (base : Nat) (v : Value) (l : List Int) : Prop := w.ownsRow base 3 1 v l.length (l.map (Value.int .i64))
theorem ownInts_nil (w : World) (base : Nat) : OwnInts w base (.slice none 0 0) [] := World.ownsRow_nil w base 3 1

theorem OwnInts.ints {w : World} {base : Nat} {v : Value} {l : List Int} (h : OwnInts w base v l) (h0 : 0 < l.length) (hl : l.length ≤ 140737488355328) (hf : ∀ x ∈ l, fitsB x = true) :
    ∃ g cap, v = .slice (some ⟨g, 0, none⟩) l.length cap ∧ l.length ≤ cap ∧ cap ≤ maxLen ∧ base ≤ g ∧ Ints w w.heap.size (some ⟨g, 0, none⟩) l.length l := by
  rcases h.2 with ⟨_, e⟩ | ⟨g, cap, cur, rfl, hb, hg, hnc, hcm, hcs, ht⟩
  · omega
  · refine ⟨g, cap, rfl, hnc, hcm, hb, rfl, hl, hf, fun _ => ⟨g, 0, rfl, (Array.getElem?_eq_some_iff.1 hg).1, fun j hj => ?_⟩⟩
    have := World.ownsRow.cells (g := g) h rfl j (.int .i64 (l.getD j 0)) (by simp [hj])
    have e : (⟨g, 0, none⟩ : Addr).add j = ⟨g, 0 + j, none⟩ := by unfold Addr.add; split <;> simp_all
    rwa [e] at this

theorem info3 : (Try.prog.info? 3).map (fun i => (i.zero, i.size, i.bytes)) = some (some (.int .i64 0), 1, 8) := by kernel_rfl

/-- append(v, x...): v of the call's own, x any slice of numbers. -/
theorem append_ints {w : World} {ops : Array Oper} {rest : List Oper} {o : Oper} {a : Act} {Q : Exit → Act → World → Prop} (hgd : o.guard = none) (s x : Operand)
    (ho : o.op = .call { callee := .builtin .append, args := #[s, x], argTypes := #[22, 22] })
    (base : Nat) (v : Value) (l : List Int) (hs : a.eval s = v) (hown : OwnInts w base v l)
    (A : Option Addr) (B m c : Nat) (l2 : List Int) (hx : a.eval x = .slice A m c) (hnil : A = none → c = 0) (hr : Ints w B A m l2)
    (hlen : l.length + m ≤ 65536) (hbase : base ≤ w.heap.size)
    (h : ∀ v' w', OwnInts w' base v' (l ++ l2) → w.grownBy w' v.ownBlock → wpList Try.prog ops Q rest (a.put o.dst v') w') : wpList Try.prog ops Q (o :: rest) a w := by
  obtain ⟨i0, hi, hz0, hz1, hz2⟩ := info_parts info3
  have hl2 : l2.length = m := hr.1
  rcases Nat.eq_zero_or_pos m with hm | hm
  · subst hm
    have e2 : l2 = [] := List.eq_nil_of_length_eq_zero hl2
    subst e2
    cases A with
    | none =>
      have hc := hnil rfl
      subst hc
      refine wpList_append_own_none hgd s x 22 ho base 3 i0 1 Try.underlying22 hi v _ _ hs hown hx ?_
      exact h v w (by simpa using hown) ⟨rfl, rfl, rfl, Nat.le_refl _, fun _ _ _ => rfl⟩
    | some ad =>
      refine wpList_append_own _ hgd s x 22 ho base 3 i0 (.int .i64 0) 1 8 Try.underlying22 hi hz0 hz1 hz2 rfl (by decide) v _ _ hs hown ad 0 c [] hx rfl (by simp) (by simp) (by unfold maxLen; omega) (by omega) hbase ?_
      intro v' w' h1 h2 _
      exact h v' w' (by simpa [OwnInts] using h1) h2
  · obtain ⟨b, off, rfl, hb, hc⟩ := hr.2.2.2 hm
    refine wpList_append_own _ hgd s x 22 ho base 3 i0 (.int .i64 0) 1 8 Try.underlying22 hi hz0 hz1 hz2 rfl (by decide) v _ _ hs hown ⟨b, off, none⟩ m c (l2.map (Value.int .i64)) hx (by simp [hl2]) ?_ ?_ (by unfold maxLen; omega) (by omega) hbase ?_
    · intro j u hj
      have hjm : j < l2.length := by
        rcases Nat.lt_or_ge j l2.length with h | h
        · exact h
        · rw [List.getElem?_eq_none (by simpa using h)] at hj; cases hj
      have e : (⟨b, off, none⟩ : Addr).add j = ⟨b, off + j, none⟩ := by unfold Addr.add; split <;> simp_all
      rw [e, hc j (by omega)]
      simp [hjm] at hj ⊢
      exact hj
    · intro u hu
      obtain ⟨z, _, rfl⟩ := List.mem_map.1 hu
      rfl
    · intro v' w' h1 h2 _
      refine h v' w' ?_ h2
      unfold OwnInts
      rw [List.length_append, hl2, List.map_append]
      exact h1
end Go.Proofs.Ytgjimgopfpaimaa
