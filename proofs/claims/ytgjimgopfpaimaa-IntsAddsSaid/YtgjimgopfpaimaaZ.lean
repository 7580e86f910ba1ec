/- IntsAdds: of any slice of numbers the law's call answers true. -/
import Derived.Test.YtgjimgopfpaimaaY
namespace Go.Proofs.Ytgjimgopfpaimaa
open Go.RowKit

set_option maxHeartbeats 800000 in
theorem adds_big (A : Option Addr) (n c : Nat) (w : World) (h : 300 < n) :
    Calls Try.prog 3 #[.slice A n c] w fun e w' => e = .returned (.bool true) ∧ Below w.heap.size w w' := by
  go_enter Try.func3, Try.ntmps3
  go_wp2_with fail
  refine (known_any _).mono ?_
  rintro e w1 ⟨rfl, hb⟩
  have B1 := Lib.hid hb
  clear hb
  go_wp2
  go_ret
  exact ⟨rfl, B1.out⟩

set_option maxHeartbeats 800000 in
theorem adds_small (A : Option Addr) (n c : Nat) (l : List Int) (w : World) (h : Ints w w.heap.size A n l) (hn : n ≤ 300) :
    Calls Try.prog 3 #[.slice A n c] w fun e w' => e = .returned (.bool true) ∧ Below w.heap.size w w' := by
  have C1 := Lib.hid (add_any A w.heap.size n c l w h)
  have C2 := Lib.hid (refAdd_any A n c l w h)
  clear h
  generalize valOf (runs (· + ·) 0 l) = x at C1 C2
  generalize errOf (runs (· + ·) 0 l) = y at C1 C2
  go_enter Try.func3, Try.ntmps3
  go_wp2_with fail
  refine C1.out.mono ?_
  rintro e w1 ⟨rfl, rfl⟩
  go_wp2_with fail
  refine C2.out.mono ?_
  rintro e w2 ⟨rfl, hb⟩
  have B2 := Lib.hid hb
  clear hb
  go_wp2_with fail
  refine (known_any _).mono ?_
  rintro e w3 ⟨rfl, hb⟩
  have B3 := Lib.hid hb
  clear hb
  go_wp2
  go_ret
  exact ⟨rfl, bnext B2.out B3.out⟩

theorem adds_walk (A : Option Addr) (len cap : Nat) (zs : List Int) (w : World)
    (h : (A = none ∧ len = 0 ∧ cap = 0 ∧ zs = []) ∨ ∃ x, A = some x ∧ len ≤ cap ∧ cap ≤ maxLen ∧ zs.length = cap ∧ (∀ i, i < zs.length → w.cell? (x.add i) = some (.int .i64 (zs.getD i 0))) ∧ ∀ n ∈ zs, (Lit.int .i64 n).wf = true) :
    Calls Try.prog 3 #[.slice A len cap] w fun e w' => e = .returned (.bool true) ∧ Below w.heap.size w w' := by
  by_cases h1 : 300 < len
  · exact adds_big A len cap w h1
  · exact adds_small A len cap _ w (ints_of h (by omega)) (by omega)
end Go.Proofs.Ytgjimgopfpaimaa
