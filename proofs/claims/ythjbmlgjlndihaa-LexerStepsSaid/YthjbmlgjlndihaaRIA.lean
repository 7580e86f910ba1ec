/- Carried over from an earlier seat. -/
import Derived.Test.YthjbmlgjlndihaaRVA
import Derived.Test.YthjbmlgjlndihaaLN
import Derived.WalkKit
import Derived.Lib.Mul64
import Derived.Laws.Bits64b
import Derived.Laws.Externs
import Derived.Lib.Hide
import Derived.Below
import Derived.LoopTactic
import Derived.Deep.LoopGhost
import Derived.Lib.Walk
import Derived.Sort.WalkB12
import Derived.Lib.SlicesMore
import Derived.Lib.OwnBridge
import Derived.RegionTactic
import Derived.Laws.Cover4
import Derived.Deep.AppendLies
import Derived.OpenShut
import Derived.Laws.AppendOwnNone
import Derived.Deep.QuietTactic
import Derived.BigQuiet
namespace Go.Proofs.Ythjbmlgjlndihaa
set_option maxRecDepth 100000
set_option maxRecDepth 100000
open Go.RowKit

namespace Mul64
set_option maxRecDepth 100000
end Mul64

end Go.Proofs.Ythjbmlgjlndihaa

namespace Go.Proofs.Ythjbmlgjlndihaa
set_option maxRecDepth 100000
set_option maxRecDepth 100000
open Go.RowKit

end Go.Proofs.Ythjbmlgjlndihaa

namespace Go.Proofs.Ythjbmlgjlndihaa
set_option maxRecDepth 100000
set_option maxRecDepth 100000
open Go.RowKit

/-- A slice that reads as a list of ints, below block B. -/
def Ints (w : World) (B : Nat) (A : Option Addr) (n : Nat) (l : List Int) : Prop :=
  l.length = n ∧ n ≤ 140737488355328 ∧ (∀ x ∈ l, fitsB x = true) ∧ (0 < n → ∃ b off, A = some ⟨b, off, none⟩ ∧ b < B ∧ ∀ j, j < n → w.cell? ⟨b, off + j, none⟩ = some (.int .i64 (l.getD j 0)))

theorem drop_cons (l : List Int) (k : Nat) (h : k < l.length) : l.drop k = l.getD k 0 :: l.drop (k + 1) := by
  rw [List.drop_eq_getElem_cons h]; simp [h]
end Go.Proofs.Ythjbmlgjlndihaa

namespace Go.Proofs.Ythjbmlgjlndihaa
set_option maxRecDepth 100000
set_option maxRecDepth 100000
open Go.RowKit

end Go.Proofs.Ythjbmlgjlndihaa
namespace Go.Proofs.Ythjbmlgjlndihaa
set_option maxRecDepth 100000
set_option maxRecDepth 100000
open Go.RowKit

end Go.Proofs.Ythjbmlgjlndihaa
namespace Go.Proofs.Ythjbmlgjlndihaa
set_option maxRecDepth 100000
set_option maxRecDepth 100000
open Go.RowKit

end Go.Proofs.Ythjbmlgjlndihaa
namespace Go.Proofs.Ythjbmlgjlndihaa
set_option maxRecDepth 100000
set_option maxRecDepth 100000
open Go.RowKit Go.Sort Go.Lib

end Go.Proofs.Ythjbmlgjlndihaa
namespace Go.Proofs.Ythjbmlgjlndihaa
set_option maxRecDepth 100000
set_option maxRecDepth 100000
open Go.RowKit Go.Sort Go.Lib

theorem ret_str {a b : ByteArray} (h : a = b) : Ending.returned (.string a) = .returned (.string b) := by rw [h]
end Go.Proofs.Ythjbmlgjlndihaa
namespace Go.Proofs.Ythjbmlgjlndihaa
set_option maxRecDepth 100000
set_option maxRecDepth 100000
open Go.RowKit

end Go.Proofs.Ythjbmlgjlndihaa

namespace Go.Proofs.Ythjbmlgjlndihaa
set_option maxRecDepth 100000
set_option maxRecDepth 100000
open Go.RowKit

def errB (n : Int) : Int := if fitsB n then 0 else 10
theorem errB_ok {n : Int} (h : fitsB n = true) : errB n = 0 := by simp [errB, h]
theorem errB_no {n : Int} (h : fitsB n = false) : errB n = 10 := by simp [errB, h]

end Go.Proofs.Ythjbmlgjlndihaa

namespace Go.Proofs.Ythjbmlgjlndihaa
set_option maxRecDepth 100000
set_option maxRecDepth 100000
open Go.RowKit

theorem Ints.keep {w w' : World} {B n : Nat} {A : Option Addr} {l : List Int} (h : Ints w B A n l) (hk : ∀ p : Addr, p.block < B → w'.cell? p = w.cell? p) : Ints w' B A n l :=
  ⟨h.1, h.2.1, h.2.2.1, fun h0 => by
    obtain ⟨b, off, e, hb, hc⟩ := h.2.2.2 h0
    exact ⟨b, off, e, hb, fun j hj => (hk _ hb).trans (hc j hj)⟩⟩
theorem Ints.below {w w' : World} {B B' n : Nat} {A : Option Addr} {l : List Int} (h : Ints w B A n l) (hb : Below B' w w') (hB : B ≤ B') : Ints w' B A n l := h.keep fun _ hp => hb.cell (Nat.lt_of_lt_of_le hp hB)
theorem Ints.more {w : World} {B B' n : Nat} {A : Option Addr} {l : List Int} (h : Ints w B A n l) (hB : B ≤ B') : Ints w B' A n l :=
  ⟨h.1, h.2.1, h.2.2.1, fun h0 => by
    obtain ⟨b, off, e, hb, hc⟩ := h.2.2.2 h0
    exact ⟨b, off, e, by omega, hc⟩⟩
theorem Ints.front {w : World} {B n : Nat} {A : Option Addr} {l : List Int} (h : Ints w B A n l) (k : Nat) (hk : k ≤ n) : Ints w B A k (l.take k) := by
  obtain ⟨h1, h2, h3, h4⟩ := h
  refine ⟨by rw [List.length_take]; omega, by omega, fun x hx => h3 x (List.mem_of_mem_take hx), fun h0 => ?_⟩
  obtain ⟨b, off, e, hb, hc⟩ := h4 (by omega)
  exact ⟨b, off, e, hb, fun j hj => (hc j (by omega)).trans (by simp [List.getD, hj])⟩
/-- A slice of numbers that the call itself made. -/
def OwnInts (w : World) (base : Nat) (v : Value) (l : List Int) : Prop := w.ownsRow base 3 1 v l.length (l.map (Value.int .i64))
theorem OwnInts.ints {w : World} {base : Nat} {v : Value} {l : List Int} (h : OwnInts w base v l) (h0 : 0 < l.length) (hl : l.length ≤ 140737488355328) (hf : ∀ x ∈ l, fitsB x = true) :
    ∃ g cap, v = .slice (some ⟨g, 0, none⟩) l.length cap ∧ l.length ≤ cap ∧ cap ≤ maxLen ∧ base ≤ g ∧ Ints w w.heap.size (some ⟨g, 0, none⟩) l.length l := by
  rcases h.2 with ⟨_, e⟩ | ⟨g, cap, cur, rfl, hb, hg, hnc, hcm, hcs, ht⟩
  · omega
  · refine ⟨g, cap, rfl, hnc, hcm, hb, rfl, hl, hf, fun _ => ⟨g, 0, rfl, (Array.getElem?_eq_some_iff.1 hg).1, fun j hj => ?_⟩⟩
    have := World.ownsRow.cells (g := g) h rfl j (.int .i64 (l.getD j 0)) (by simp [hj])
    have e : (⟨g, 0, none⟩ : Addr).add j = ⟨g, 0 + j, none⟩ := by unfold Addr.add; split <;> simp_all
    rwa [e] at this

theorem info3 : (Try.prog.info? 3).map (fun i => (i.zero, i.size, i.bytes)) = some (some (.int .i64 0), 1, 8) := by kernel_rfl

/-- append(v, x...): v of the call's own, x any slice of numbers. -/
theorem append_ints {w : World} {ops : Array Oper} {rest : List Oper} {o : Oper} {a : Act} {Q : Exit → Act → World → Prop} (hgd : o.guard = none) (s x : Operand)
    (ho : o.op = .call { callee := .builtin .append, args := #[s, x], argTypes := #[51, 51] })
    (base : Nat) (v : Value) (l : List Int) (hs : a.eval s = v) (hown : OwnInts w base v l)
    (A : Option Addr) (B m c : Nat) (l2 : List Int) (hx : a.eval x = .slice A m c) (hnil : A = none → c = 0) (hr : Ints w B A m l2)
    (hlen : l.length + m ≤ 65536) (hbase : base ≤ w.heap.size)
    (h : ∀ v' w', OwnInts w' base v' (l ++ l2) → w.grownBy w' v.ownBlock → wpList Try.prog ops Q rest (a.put o.dst v') w') : wpList Try.prog ops Q (o :: rest) a w := by
  obtain ⟨i0, hi, hz0, hz1, hz2⟩ := info_parts info3
  have hl2 : l2.length = m := hr.1
  rcases Nat.eq_zero_or_pos m with hm | hm
  · subst hm
    have e2 : l2 = [] := List.eq_nil_of_length_eq_zero hl2
    subst e2
    cases A with
    | none =>
      have hc := hnil rfl
      subst hc
      refine wpList_append_own_none hgd s x 51 ho base 3 i0 1 Try.underlying51 hi v _ _ hs hown hx ?_
      exact h v w (by simpa using hown) ⟨rfl, rfl, rfl, Nat.le_refl _, fun _ _ _ => rfl⟩
    | some ad =>
      refine wpList_append_own _ hgd s x 51 ho base 3 i0 (.int .i64 0) 1 8 Try.underlying51 hi hz0 hz1 hz2 rfl (by decide) v _ _ hs hown ad 0 c [] hx rfl (by simp) (by simp) (by unfold maxLen; omega) (by omega) hbase ?_
      intro v' w' h1 h2 _
      exact h v' w' (by simpa [OwnInts] using h1) h2
  · obtain ⟨b, off, rfl, hb, hc⟩ := hr.2.2.2 hm
    refine wpList_append_own _ hgd s x 51 ho base 3 i0 (.int .i64 0) 1 8 Try.underlying51 hi hz0 hz1 hz2 rfl (by decide) v _ _ hs hown ⟨b, off, none⟩ m c (l2.map (Value.int .i64)) hx (by simp [hl2]) ?_ ?_ (by unfold maxLen; omega) (by omega) hbase ?_
    · intro j u hj
      have hjm : j < l2.length := by
        rcases Nat.lt_or_ge j l2.length with h | h
        · exact h
        · rw [List.getElem?_eq_none (by simpa using h)] at hj; cases hj
      have e : (⟨b, off, none⟩ : Addr).add j = ⟨b, off + j, none⟩ := by unfold Addr.add; split <;> simp_all
      rw [e, hc j (by omega)]
      simp [hjm] at hj ⊢
      exact hj
    · intro u hu
      obtain ⟨z, _, rfl⟩ := List.mem_map.1 hu
      rfl
    · intro v' w' h1 h2 _
      refine h v' w' ?_ h2
      unfold OwnInts
      rw [List.length_append, hl2, List.map_append]
      exact h1
end Go.Proofs.Ythjbmlgjlndihaa


