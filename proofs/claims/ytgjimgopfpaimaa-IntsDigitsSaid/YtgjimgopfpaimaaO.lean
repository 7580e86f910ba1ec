/- IntsEnds: of any slice of numbers the law's call answers true. -/
import Derived.Test.YtgjimgopfpaimaaL
namespace Go.Proofs.Ytgjimgopfpaimaa
open Go.RowKit

/-- A slice of numbers that came in, as a list. -/
theorem ints_of {w : World} {A : Option Addr} {len cap : Nat} {zs : List Int}
    (h : (A = none ∧ len = 0 ∧ cap = 0 ∧ zs = []) ∨ ∃ x, A = some x ∧ len ≤ cap ∧ cap ≤ maxLen ∧ zs.length = cap ∧ (∀ i, i < zs.length → w.cell? (x.add i) = some (.int .i64 (zs.getD i 0))) ∧ ∀ n ∈ zs, (Lit.int .i64 n).wf = true)
    (hl : len ≤ 140737488355328) : Ints w w.heap.size A len (zs.take len) := by
  rcases h with ⟨rfl, rfl, rfl, rfl⟩ | ⟨x, rfl, hlc, hm, hz, hc, hw⟩
  · exact ⟨rfl, by omega, by simp, fun h => absurd h (by omega)⟩
  · refine ⟨by rw [List.length_take]; omega, hl, fun n hn => fits_of_wf (hw n (List.mem_of_mem_take hn)), fun h0 => ?_⟩
    obtain ⟨b, off, spot⟩ := x
    have c0 := hc 0 (by omega)
    have hs : spot = none := by simpa [Addr.add] using World.cell?_spot c0
    subst hs
    refine ⟨b, off, rfl, ?_, fun j hj => ?_⟩
    · have := World.block_lt_of_cell? w _ c0
      simpa [Addr.add] using this
    · have := hc j (by omega)
      have e : (⟨b, off, none⟩ : Addr).add j = ⟨b, off + j, none⟩ := by unfold Addr.add; split <;> simp_all
      rw [e] at this
      rw [this]
      simp [List.getD, hj]

set_option maxHeartbeats 800000 in
set_option maxRecDepth 100000 in
theorem ends_big (A : Option Addr) (n c : Nat) (w : World) (h : 1000 < n) :
    Calls Try.prog 6 #[.slice A n c] w fun e w' => e = .returned (.bool true) ∧ Below w.heap.size w w' := by
  go_enter Try.func6, Try.ntmps6
  go_wp2_with fail
  refine (known_any _).mono ?_
  rintro e w1 ⟨rfl, hb⟩
  have B1 := Lib.hid hb
  clear hb
  go_wp2
  go_ret
  exact ⟨rfl, B1.out⟩

set_option maxHeartbeats 800000 in
set_option maxRecDepth 100000 in
theorem ends_none (A : Option Addr) (c : Nat) (w : World) :
    Calls Try.prog 6 #[.slice A 0 c] w fun e w' => e = .returned (.bool true) ∧ Below w.heap.size w w' := by
  go_enter Try.func6, Try.ntmps6
  go_wp2_with fail
  refine (least_none _ _ _).mono ?_
  rintro e w1 ⟨rfl, rfl⟩
  go_wp2_with fail
  refine (greatest_none _ _ _).mono ?_
  rintro e w1 ⟨rfl, rfl⟩
  go_wp2_with fail
  go_loop [7, 8, 9] (fun u v i => u = .bool false ∧ v = .bool false ∧ i = .int .i64 0) (fun _ _ _ => 0)
  case atStart => exact ⟨rfl, rfl, rfl⟩
  case round =>
    obtain ⟨rfl, rfl, rfl⟩ := hrel
    go_wp2_with fail
    refine (known_any _).mono ?_
    rintro e w1 ⟨rfl, hb⟩
    have B1 := Lib.hid hb
    clear hb
    go_wp2
    go_ret
    exact ⟨rfl, B1.out⟩

theorem any_next (l : List Int) (m : Int) (k : Nat) (lb : Bool) (h : lb = true ↔ ∃ i, i < k ∧ l.getD i 0 = m) : ((lb || l.getD k 0 == m) = true ↔ ∃ i, i < k + 1 ∧ l.getD i 0 = m) := by
  rw [Bool.or_eq_true, h, beq_iff_eq]
  constructor
  · rintro (⟨i, hi, e⟩ | e)
    · exact ⟨i, by omega, e⟩
    · exact ⟨k, by omega, e⟩
  · rintro ⟨i, hi, e⟩
    by_cases hk : i = k
    · subst hk; exact .inr e
    · exact .inl ⟨i, by omega, e⟩

set_option maxHeartbeats 1600000 in
set_option maxRecDepth 100000 in
theorem ends_some (A : Option Addr) (n c : Nat) (l : List Int) (w : World) (h : Ints w w.heap.size A n l) (h0 : 0 < n) (hn : n ≤ 1000) :
    Calls Try.prog 6 #[.slice A n c] w fun e w' => e = .returned (.bool true) ∧ Below w.heap.size w w' := by
  have HI := Lib.hid h
  obtain ⟨b, off, rfl, hbl, hcell⟩ := h.2.2.2 h0
  have HC := Lib.hid hcell
  clear hcell h
  go_enter Try.func6, Try.ntmps6
  go_wp2_with fail
  refine (least_some _ _ _ _ _ _ HI.out h0).mono ?_
  rintro e w1 ⟨⟨m, rfl, hm⟩, rfl⟩
  have Hm := Lib.hid hm
  clear hm
  go_wp2_with fail
  refine (greatest_some _ _ _ _ _ _ HI.out h0).mono ?_
  rintro e w1 ⟨⟨M, rfl, hm⟩, rfl⟩
  have HM := Lib.hid hm
  clear hm
  go_wp2_with fail
  go_loop [7, 8, 9] (fun u v i => ∃ (k : Nat) (lb hb : Bool), k ≤ n ∧ i = .int .i64 k ∧ u = .bool lb ∧ v = .bool hb ∧ Hid (lb = true ↔ ∃ i, i < k ∧ l.getD i 0 = m) ∧ Hid (hb = true ↔ ∃ i, i < k ∧ l.getD i 0 = M)) (fun _ _ i => n - (intOf i).toNat)
  case atStart => exact ⟨0, false, false, by omega, rfl, rfl, rfl, Lib.hid (by simp), Lib.hid (by simp)⟩
  case round =>
    obtain ⟨k, lb, hb, hk, rfl, rfl, rfl, R1, R2⟩ := hrel
    by_cases hlt : k < n
    · have hck := HC.out k hlt
      have N1 := Lib.hid (any_next l m k lb R1.out)
      have N2 := Lib.hid (any_next l M k hb R2.out)
      have g1 := Hm.out.2 k hlt
      have g2 := HM.out.2 k hlt
      clear R1 R2
      generalize l.getD k 0 = x at hck N1 N2 g1 g2
      generalize ht1 : (x == m) = t1 at N1
      generalize ht2 : (x == M) = t2 at N2
      cases lb <;> cases hb
      all_goals
        go_wp2
        go_round
        case rel => exact ⟨k + 1, _, _, by omega, by go_num, rfl, rfl, N1, N2⟩
        case measure => simp [intOf]; omega
    · obtain rfl : k = n := by omega
      obtain rfl : lb = true := R1.out.2 Hm.out.1
      obtain rfl : hb = true := R2.out.2 HM.out.1
      clear R1 R2
      have h0' : (0 : Int) < (k : Int) := by omega
      go_wp2_with fail
      refine (known_any _).mono ?_
      rintro e w1 ⟨rfl, hb⟩
      have B1 := Lib.hid hb
      clear hb
      go_wp2
      go_ret
      exact ⟨rfl, B1.out⟩

theorem ends_walk (A : Option Addr) (len cap : Nat) (zs : List Int) (w : World)
    (h : (A = none ∧ len = 0 ∧ cap = 0 ∧ zs = []) ∨ ∃ x, A = some x ∧ len ≤ cap ∧ cap ≤ maxLen ∧ zs.length = cap ∧ (∀ i, i < zs.length → w.cell? (x.add i) = some (.int .i64 (zs.getD i 0))) ∧ ∀ n ∈ zs, (Lit.int .i64 n).wf = true) :
    Calls Try.prog 6 #[.slice A len cap] w fun e w' => e = .returned (.bool true) ∧ Below w.heap.size w w' := by
  by_cases h1 : 1000 < len
  · exact ends_big A len cap w h1
  · by_cases h2 : 0 < len
    · exact ends_some A len cap _ w (ints_of h (by omega)) h2 (by omega)
    · obtain rfl : len = 0 := by omega
      exact ends_none A cap w
end Go.Proofs.Ytgjimgopfpaimaa
