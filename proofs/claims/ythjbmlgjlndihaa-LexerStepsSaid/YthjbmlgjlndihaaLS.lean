/- Slices of bytes: their ends. -/
import Derived.Test.YthjbmlgjlndihaaLN
namespace Go.Proofs.Ythjbmlgjlndihaa
set_option maxRecDepth 100000
open Go.RowKit

theorem BRow.take {w : World} {A : Option Addr} {c : Nat} {l : Bs} (h : BRow w A c l) (p : Nat) : BRow w A c (l.take p) :=
  ⟨by rw [List.length_take]; have := h.le; omega, h.cap, h.nil, fun h0 => by
    rw [List.length_take] at h0
    obtain ⟨b, off, e, hb, hc⟩ := h.at_ (by omega)
    refine ⟨b, off, e, hb, fun j x hj => hc j x ?_⟩
    rw [List.getElem?_take] at hj
    split at hj
    · exact hj
    · cases hj⟩
theorem run_front (A : Option Addr) (n c p : Nat) (hp : p ≤ c) (W : World) : (Instr.sliceAt 22 (.slice A n c) none (some (.int .i64 (p : Int))) none).run Try.prog W = .ok (.slice (if c = 0 then A else A.map (·.add 0)) p c) W := by
  have h1 : (p : Int) ≤ (c : Int) := by omega
  simp [Instr.sliceAt, go_sem, Try.underlying22, hp]
theorem run_rest (A : Option Addr) (n c p : Nat) (hp : p ≤ n) (W : World) : (Instr.sliceAt 22 (.slice A n c) (some (.int .i64 (p : Int))) none none).run Try.prog W = .ok (.slice (if c = p then A else A.map (·.add p)) (n - p) (c - p)) W := by
  have h1 : (p : Int) ≤ (n : Int) := by omega
  simp [Instr.sliceAt, go_sem, Try.underlying22, hp]
theorem brow_end {w : World} {A : Option Addr} {c : Nat} (hc : c ≤ maxLen) (hn : A = none → c = 0) : BRow w A c [] := ⟨by simp, hc, hn, fun h => absurd h (by simp)⟩
theorem BRow.front {w : World} {A : Option Addr} {c : Nat} {l : Bs} (h : BRow w A c l) (n p : Nat) (hp : p ≤ l.length) :
    ∃ X, (∀ W, (Instr.sliceAt 22 (.slice A n c) none (some (.int .i64 (p : Int))) none).run Try.prog W = .ok (.slice X p c) W) ∧ BRow w X c (l.take p) := by
  have hle := h.le
  refine ⟨_, run_front A n c p (by omega), ?_⟩
  have ht := h.take p
  split
  · exact ht
  · cases A with
    | none => exact ht
    | some a =>
      refine ⟨ht.le, ht.cap, (fun e => by cases e), fun h0 => ?_⟩
      obtain ⟨b, off, e, hb, hc⟩ := ht.at_ h0
      injection e with e
      subst e
      exact ⟨b, off, by simp [add_none], hb, hc⟩
theorem BRow.rest {w : World} {A : Option Addr} {c : Nat} {l : Bs} (h : BRow w A c l) (n p : Nat) (hn : n = l.length) (hp : p ≤ n) :
    ∃ X, (∀ W, (Instr.sliceAt 22 (.slice A n c) (some (.int .i64 (p : Int))) none none).run Try.prog W = .ok (.slice X (n - p) (c - p)) W) ∧ BRow w X (c - p) (l.drop p) := by
  have hle := h.le
  have hcap := h.cap
  refine ⟨_, run_rest A n c p hp, ?_⟩
  split
  · rename_i hcp
    rw [List.drop_eq_nil_of_le (by omega)]
    exact brow_end (by omega) (fun e => by omega)
  · rename_i hcp
    cases A with
    | none => have := h.nil rfl; omega
    | some a =>
      refine ⟨by rw [List.length_drop]; omega, by omega, (fun e => by cases e), fun h0 => ?_⟩
      rw [List.length_drop] at h0
      obtain ⟨b, off, e, hb, hc⟩ := h.at_ (by omega)
      injection e with e
      subst e
      refine ⟨b, off + p, by simp [add_none], hb, fun j x hj => ?_⟩
      rw [List.getElem?_drop] at hj
      have := hc _ x hj
      rwa [← Nat.add_assoc] at this
end Go.Proofs.Ythjbmlgjlndihaa
