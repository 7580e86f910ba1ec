/- Contracts of ints.Add and ints.Mul over a slice of numbers of 64 bits, of ints.Times and ints.Neg. -/
import Derived.Test.YtgjimgopfpaimaaB
import Derived.LoopTactic
namespace Go.Proofs.Ytgjimgopfpaimaa
open Go.RowKit

/-- A slice that reads as a list of ints, below block B. -/
def Ints (w : World) (B : Nat) (A : Option Addr) (n : Nat) (l : List Int) : Prop :=
  l.length = n ∧ n ≤ 140737488355328 ∧ (∀ x ∈ l, fitsB x = true) ∧ (0 < n → ∃ b off, A = some ⟨b, off, none⟩ ∧ b < B ∧ ∀ j, j < n → w.cell? ⟨b, off + j, none⟩ = some (.int .i64 (l.getD j 0)))

def runs (f : Int → Int → Int) (s : Int) : List Int → Option Int
  | [] => some s
  | x :: r => if fitsB (f s x) then runs f (f s x) r else none
def valOf (o : Option Int) : Int := o.getD 0
def errOf (o : Option Int) : Int := if o.isSome then 0 else 10

theorem drop_cons (l : List Int) (k : Nat) (h : k < l.length) : l.drop k = l.getD k 0 :: l.drop (k + 1) := by
  rw [List.drop_eq_getElem_cons h]; simp [h]
theorem runs_yes (f : Int → Int → Int) (s : Int) (l : List Int) (k : Nat) (h : k < l.length) (hf : fitsB (f s (l.getD k 0)) = true) : runs f s (l.drop k) = runs f (f s (l.getD k 0)) (l.drop (k + 1)) := by
  rw [drop_cons l k h]; simp only [runs, hf, if_true]
theorem runs_no (f : Int → Int → Int) (s : Int) (l : List Int) (k : Nat) (h : k < l.length) (hf : fitsB (f s (l.getD k 0)) = false) : runs f s (l.drop k) = none := by
  rw [drop_cons l k h]; simp only [runs, hf]; rfl
theorem getD_fits (l : List Int) (k : Nat) (h : k < l.length) (hl : ∀ x ∈ l, fitsB x = true) : fitsB (l.getD k 0) = true := by
  apply hl; simp [h]

set_option maxHeartbeats 400000 in
theorem add_any (A : Option Addr) (B n c : Nat) (l : List Int) (w : World) (h : Ints w B A n l) :
    Calls Try.prog 11 #[.slice A n c] w fun e w' => e = .returned (.tuple #[.int .i64 (valOf (runs (· + ·) 0 l)), .int .i64 (errOf (runs (· + ·) 0 l))]) ∧ w = w' := by
  obtain ⟨hl, hn, hfit, hcell⟩ := h
  have HL := Lib.hid hl
  have HC := Lib.hid hcell
  have HF := Lib.hid hfit
  clear hl hcell hfit
  go_enter Try.func11, Try.ntmps11
  go_wp2
  go_loop [4, 11] (fun t i => ∃ (k : Nat) (s : Int), k ≤ n ∧ i = .int .i64 k ∧ t = .int .i64 s ∧ Hid (fitsB s = true) ∧ Hid (runs (· + ·) s (l.drop k) = runs (· + ·) 0 l)) (fun _ i => n - (intOf i).toNat)
  case atStart => exact ⟨0, 0, Nat.zero_le _, rfl, rfl, Lib.hid (by simp [fitsB]), Lib.hid (by simp)⟩
  case round =>
    obtain ⟨k, s, hk, rfl, rfl, hs, hr⟩ := hrel
    by_cases hlt : k < n
    · obtain ⟨b, off, rfl, hb, hc⟩ := HC.out (by omega)
      have hck := hc k hlt
      have HX := Lib.hid (getD_fits l k (by have := HL.out; omega) HF.out)
      clear hc
      have Y := Lib.hid (runs_yes (· + ·) s l k (by have := HL.out; omega))
      have N := Lib.hid (runs_no (· + ·) s l k (by have := HL.out; omega))
      generalize l.getD k 0 = x at hck HX Y N
      cases hf : fitsB (s + x)
      · have hro := room_no hf
        go_wp2_with (go_at_call 24; refine (plus_any _ _ _ hs.out HX.out).mono ?_; rintro e w' ⟨rfl, rfl⟩)
        go_ret2
        exact ⟨by rw [← hr.out, N.out hf]; rfl, rfl⟩
      · have hro := room_ok hf
        go_wp2_with (go_at_call 24; refine (plus_any _ _ _ hs.out HX.out).mono ?_; rintro e w' ⟨rfl, rfl⟩)
        go_round
        case rel => exact ⟨k + 1, s + x, by omega, by go_num, rfl, Lib.hid hf, Lib.hid (by rw [← hr.out, Y.out hf])⟩
        case measure => simp [intOf]; omega
    · go_wp2
      go_ret2
      exact ⟨by rw [← hr.out, List.drop_eq_nil_of_le (by have := HL.out; omega)]; rfl, rfl⟩
set_option maxHeartbeats 400000 in
theorem mul_any (A : Option Addr) (B n c : Nat) (l : List Int) (w : World) (h : Ints w B A n l) :
    Calls Try.prog 13 #[.slice A n c] w fun e w' => e = .returned (.tuple #[.int .i64 (valOf (runs (· * ·) 1 l)), .int .i64 (errOf (runs (· * ·) 1 l))]) ∧ w = w' := by
  obtain ⟨hl, hn, hfit, hcell⟩ := h
  have HL := Lib.hid hl
  have HC := Lib.hid hcell
  have HF := Lib.hid hfit
  clear hl hcell hfit
  go_enter Try.func13, Try.ntmps13
  go_wp2
  go_loop [4, 11] (fun t i => ∃ (k : Nat) (s : Int), k ≤ n ∧ i = .int .i64 k ∧ t = .int .i64 s ∧ Hid (fitsB s = true) ∧ Hid (runs (· * ·) s (l.drop k) = runs (· * ·) 1 l)) (fun _ i => n - (intOf i).toNat)
  case atStart => exact ⟨0, 1, Nat.zero_le _, rfl, rfl, Lib.hid (by simp [fitsB]), Lib.hid (by simp)⟩
  case round =>
    obtain ⟨k, s, hk, rfl, rfl, hs, hr⟩ := hrel
    by_cases hlt : k < n
    · obtain ⟨b, off, rfl, hb, hc⟩ := HC.out (by omega)
      have hck := hc k hlt
      have HX := Lib.hid (getD_fits l k (by have := HL.out; omega) HF.out)
      clear hc
      have Y := Lib.hid (runs_yes (· * ·) s l k (by have := HL.out; omega))
      have N := Lib.hid (runs_no (· * ·) s l k (by have := HL.out; omega))
      generalize l.getD k 0 = x at hck HX Y N
      cases hf : fitsB (s * x)
      · have hro := room_no hf
        go_wp2_with (go_at_call 29; refine (by_any _ _ _ hs.out HX.out).mono ?_; rintro e w' ⟨rfl, rfl⟩)
        go_ret2
        exact ⟨by rw [← hr.out, N.out hf]; rfl, rfl⟩
      · have hro := room_ok hf
        go_wp2_with (go_at_call 29; refine (by_any _ _ _ hs.out HX.out).mono ?_; rintro e w' ⟨rfl, rfl⟩)
        go_round
        case rel => exact ⟨k + 1, s * x, by omega, by go_num, rfl, Lib.hid hf, Lib.hid (by rw [← hr.out, Y.out hf])⟩
        case measure => simp [intOf]; omega
    · go_wp2
      go_ret2
      exact ⟨by rw [← hr.out, List.drop_eq_nil_of_le (by have := HL.out; omega)]; rfl, rfl⟩

set_option maxHeartbeats 400000 in
theorem neg_min (n : Int) (w : World) (h : (n == -9223372036854775808) = true) :
    Calls Try.prog 16 #[.int .i64 n] w fun e w' => e = .returned (.tuple #[.int .i64 0, .int .i64 10]) ∧ w = w' := by
  go_enter Try.func16, Try.ntmps16
  go_wp2
  go_ret2
  exact ⟨rfl, rfl⟩

set_option maxHeartbeats 400000 in
theorem neg_ok (n : Int) (w : World) (h : (n == -9223372036854775808) = false) (hf : fitsB (-n) = true) :
    Calls Try.prog 16 #[.int .i64 n] w fun e w' => e = .returned (.tuple #[.int .i64 (-n), .int .i64 0]) ∧ w = w' := by
  have h1 := (fits_iff _).1 hf
  clear hf
  go_enter Try.func16, Try.ntmps16
  go_wp2
  go_ret2
  exact ⟨rfl, rfl⟩

theorem two_new (w : World) (t : TypeId) (x y : Int) (hx : fitsB x = true) (hy : fitsB y = true) :
    Ints (w.alloc (.cells #[.int .i64 x, .int .i64 y] t)) (w.heap.size + 1) (some ⟨w.heap.size, 0, none⟩) 2 [x, y] := by
  refine ⟨rfl, by omega, ?_, fun _ => ⟨_, _, rfl, by omega, ?_⟩⟩
  · intro z hz; simp at hz; rcases hz with rfl | rfl <;> assumption
  · intro j hj
    rw [World.cell?_alloc_at _ _ _ _ rfl]
    have : j = 0 ∨ j = 1 := by omega
    rcases this with rfl | rfl <;> rfl

set_option maxHeartbeats 400000 in
theorem times_neg (n k : Int) (w : World) (h : k < 0) :
    Calls Try.prog 15 #[.int .i64 n, .int .i64 k] w fun e w' => e = .returned (.tuple #[.int .i64 0, .int .i64 2]) ∧ w = w' := by
  go_enter Try.func15, Try.ntmps15
  go_wp2
  go_ret2
  exact ⟨rfl, rfl⟩

set_option maxHeartbeats 400000 in
theorem times_pos (n k : Int) (w : World) (h : 0 ≤ k) (hn : fitsB n = true) (hk : fitsB k = true) :
    Calls Try.prog 15 #[.int .i64 n, .int .i64 k] w fun e w' => e = .returned (.tuple #[.int .i64 (valOf (runs (· * ·) 1 [n, k])), .int .i64 (errOf (runs (· * ·) 1 [n, k]))]) ∧ Below w.heap.size w w' := by
  have HN := Lib.hid hn
  have HK := Lib.hid hk
  clear hn hk
  go_enter Try.func15, Try.ntmps15
  go_wp2_with fail
  refine (mul_any _ _ _ _ [n, k] _ (two_new _ _ _ _ HN.out HK.out)).mono ?_
  rintro e w' ⟨rfl, rfl⟩
  go_wp2
  go_ret2
  exact ⟨rfl, (Below.refl _ _).alloc (Nat.le_refl _) _⟩
end Go.Proofs.Ytgjimgopfpaimaa
