/- IntsSteps: of any slice of numbers and any number the law's call answers true. -/
import Derived.Test.YtgjimgopfpaimaaQ
namespace Go.Proofs.Ytgjimgopfpaimaa
open Go.RowKit

theorem runs_append (f : Int → Int → Int) (l1 l2 : List Int) : ∀ s, runs f s (l1 ++ l2) = (runs f s l1).bind fun t => runs f t l2 := by
  induction l1 with
  | nil => intro s; rfl
  | cons x r ih =>
    intro s
    simp only [List.cons_append, runs]
    split
    · exact ih _
    · rfl
theorem runs_fits (f : Int → Int → Int) (l : List Int) : ∀ s t, fitsB s = true → runs f s l = some t → fitsB t = true := by
  induction l with
  | nil => intro s t hs h; simp only [runs, Option.some.injEq] at h; subst h; exact hs
  | cons x r ih =>
    intro s t hs h
    simp only [runs] at h
    split at h
    · rename_i hf; exact ih _ _ hf h
    · cases h
theorem runs_one (l : List Int) : runs (· * ·) 1 (l ++ [1]) = runs (· * ·) 1 l := by
  rw [runs_append]
  cases h : runs (· * ·) 1 l with
  | none => rfl
  | some t =>
    have := runs_fits _ _ _ _ (by decide) h
    simp [runs, this]
theorem fits_val (f : Int → Int → Int) (l : List Int) (s : Int) (hs : fitsB s = true) : fitsB (valOf (runs f s l)) = true := by
  cases h : runs f s l with
  | none => decide
  | some t => exact runs_fits f l s t hs h

theorem step_tests (l : List Int) (k : Nat) :
    StepTests (errOf (runs (· + ·) 0 (l.take k))) (valOf (runs (· + ·) 0 ([] ++ [valOf (runs (· + ·) 0 (l.take k))] ++ l.drop k))) (errOf (runs (· + ·) 0 ([] ++ [valOf (runs (· + ·) 0 (l.take k))] ++ l.drop k))) (valOf (runs (· + ·) 0 l)) (errOf (runs (· + ·) 0 l)) := by
  have e : runs (· + ·) 0 l = (runs (· + ·) 0 (l.take k)).bind fun t => runs (· + ·) t (l.drop k) := by
    rw [← runs_append, List.take_append_drop]
  cases h : runs (· + ·) 0 (l.take k) with
  | none => rw [e, h]; exact .inr ⟨by decide, by decide, rfl⟩
  | some t =>
    have hf := runs_fits _ _ _ _ (by decide) h
    have e2 : runs (· + ·) 0 ([] ++ [valOf (some t)] ++ l.drop k) = runs (· + ·) 0 l := by
      rw [e, h]
      simp [runs, valOf, hf]
    rw [e2]
    exact .inl ⟨rfl, rfl, by simp, by simp⟩

set_option maxHeartbeats 800000 in
set_option maxRecDepth 100000 in
theorem steps_big (A : Option Addr) (n c : Nat) (cut : Int) (w : World) (h : 200 < n) :
    Calls Try.prog 8 #[.slice A n c, .int .i64 cut] w fun e w' => e = .returned (.bool true) ∧ Below w.heap.size w w' := by
  go_enter Try.func8, Try.ntmps8
  go_wp2_with fail
  refine (known_any _).mono ?_
  rintro e w1 ⟨rfl, hb⟩
  have B1 := Lib.hid hb
  clear hb
  go_wp2
  go_ret
  exact ⟨rfl, B1.out⟩

theorem steps_walk (A : Option Addr) (len cap : Nat) (zs : List Int) (cut : Int) (w : World)
    (h : (A = none ∧ len = 0 ∧ cap = 0 ∧ zs = []) ∨ ∃ x, A = some x ∧ len ≤ cap ∧ cap ≤ maxLen ∧ zs.length = cap ∧ (∀ i, i < zs.length → w.cell? (x.add i) = some (.int .i64 (zs.getD i 0))) ∧ ∀ n ∈ zs, (Lit.int .i64 n).wf = true) :
    Calls Try.prog 8 #[.slice A len cap, .int .i64 cut] w fun e w' => e = .returned (.bool true) ∧ Below w.heap.size w w' := by
  by_cases h1 : 200 < len
  · exact steps_big A len cap cut w h1
  · have hI := ints_of h (by omega)
    have hc : len ≤ cap ∧ cap ≤ maxLen ∧ (A = none → cap = 0) := by
      rcases h with ⟨rfl, rfl, rfl, rfl⟩ | ⟨x, rfl, h2, h3, _⟩
      · exact ⟨Nat.le_refl _, by unfold maxLen; omega, fun _ => rfl⟩
      · exact ⟨h2, h3, fun e => by cases e⟩
    have hu := wrapu_nonneg cut
    have htm : (IntKind.u64.wrap cut).tmod ((len : Int) + 1) = IntKind.u64.wrap cut % ((len : Int) + 1) := Int.tmod_eq_emod_of_nonneg hu
    have hm0 := Int.emod_nonneg (IntKind.u64.wrap cut) (show ((len : Int) + 1) ≠ 0 by omega)
    have hm1 := Int.emod_lt_of_pos (IntKind.u64.wrap cut) (show 0 < ((len : Int) + 1) by omega)
    obtain ⟨k, hk⟩ := Int.eq_ofNat_of_zero_le hm0
    refine steps_core A len cap k _ cut w hI hc.1 hc.2.1 (by omega) hc.2.2 ?_ (by omega) _ _ _ _ _ _ _ _ (Lib.hid (fits_val _ _ 0 (by decide))) (Lib.hid rfl) (Lib.hid rfl) (Lib.hid rfl) (Lib.hid rfl) (Lib.hid rfl) (Lib.hid rfl) (Lib.hid rfl) (Lib.hid rfl) (Lib.hid ?_) (Lib.hid ?_) (Lib.hid ?_) (Lib.hid ?_) (step_tests _ k)
    · rw [htm, hk]; unfold wrap64; omega
    · rw [List.nil_append, runs_one]
    · rw [List.nil_append, runs_one]
    · intro x hx
      simp only [List.nil_append, List.cons_append, List.mem_cons] at hx
      rcases hx with rfl | hx
      · exact fits_val _ _ 0 (by decide)
      · exact hI.2.2.1 x (List.mem_of_mem_drop hx)
    · intro x hx
      simp only [List.nil_append, List.mem_append, List.mem_singleton] at hx
      rcases hx with hx | rfl
      · exact hI.2.2.1 x hx
      · decide
end Go.Proofs.Ytgjimgopfpaimaa
