/- Carried over from an earlier seat. -/
import Derived.Test.YtllkimdlmnjoiaaGreatDoorKIA
import Derived.Test.YtllkimdlmnjoiaaGreatDoorVRr
import Derived.Test.YtllkimdlmnjoiaaGreatDoorVVb
import Derived.Lib.Hide
import Derived.Laws.ResultCell
import Derived.Deep.RegionWith
import Derived.Laws.BytesString
import Derived.StillTailTactics
namespace Go.Proofs.YtllkimdlmnjoiaaGreatDoor
set_option maxRecDepth 100000
set_option maxRecDepth 100000
set_option maxRecDepth 100000
set_option maxRecDepth 100000

def valD : List Int → Int
  | [] => 0
  | d :: r => d + 10 * valD r
def Digs (l : List Int) : Prop := ∀ d ∈ l, 0 ≤ d ∧ d ≤ 9
/-- No nought behind. -/
def Norm (l : List Int) : Prop := l.getLastD 1 ≠ 0
def ten (n : Nat) : Int := 10 ^ n
theorem ten_zero : ten 0 = 1 := rfl
theorem ten_succ (n : Nat) : ten (n + 1) = 10 * ten n := by unfold ten; rw [Int.pow_succ, Int.mul_comm]
theorem ten_pos : ∀ n, 0 < ten n
  | 0 => by decide
  | n + 1 => by have := ten_pos n; rw [ten_succ]; omega
theorem digs_nil : Digs [] := fun _ h => by cases h
theorem digs_cons {d : Int} {r : List Int} (h : Digs (d :: r)) : (0 ≤ d ∧ d ≤ 9) ∧ Digs r := ⟨h d (by simp), fun x hx => h x (by simp [hx])⟩
theorem valD_nonneg : ∀ {l : List Int}, Digs l → 0 ≤ valD l
  | [], _ => Int.le_refl _
  | d :: r, h => by
    have := digs_cons h
    have := valD_nonneg this.2
    simp only [valD]; omega
theorem norm_ge : ∀ {l : List Int}, Digs l → Norm l → l ≠ [] → ten (l.length - 1) ≤ valD l
  | [], _, _, h => absurd rfl h
  | [d], h, hn, _ => by
    have := digs_cons h
    have h1 : d ≠ 0 := by simpa [Norm] using hn
    simp [valD, ten_zero]; omega
  | d :: e :: r, h, hn, _ => by
    have h1 := digs_cons h
    have h2 := norm_ge h1.2 (by simpa [Norm] using hn) (by simp)
    have e2 : (d :: e :: r).length - 1 = ((e :: r).length - 1) + 1 := by simp
    have e1 : valD (d :: e :: r) = d + 10 * valD (e :: r) := rfl
    rw [e1, e2, ten_succ]
    omega
theorem last_snoc (m : List Int) (x : Int) : (m ++ [x]).getLastD 1 = x := by rw [List.getLastD_eq_getLast?]; simp
end Go.Proofs.YtllkimdlmnjoiaaGreatDoor
namespace Go.Proofs.YtllkimdlmnjoiaaGreatDoor
set_option maxRecDepth 100000
set_option maxRecDepth 100000
set_option maxRecDepth 100000
set_option maxRecDepth 100000
open Go.RowKit

/-- What trim answers: the sign, if anything is left, and the row without its noughts behind. -/
def TrimPost (m : Bool) (A : Option Addr) (n c : Nat) (l : List Int) (e : Ending) : Prop :=
  ∃ k, e = .returned (.agg #[.bool (m && decide (0 < k)), .slice A k c]) ∧ k ≤ n ∧ valD (l.take k) = valD l ∧ Norm (l.take k)

/-- A number of any greatness, as the document's own arithmetic keeps it: its sign, its digits, at most k of them. -/
def NumV (w : World) (k : Nat) (v : Value) (x : Int) : Prop :=
  ∃ (m : Bool) (A : Option Addr) (n c : Nat) (ds : List Int), v = .agg #[.bool m, .slice A n c] ∧ Ints w w.heap.size A n ds ∧ n ≤ c ∧ c ≤ maxLen ∧ n ≤ k ∧ Digs ds ∧ Norm ds ∧ (m = true → 0 < n) ∧ x = (if m then -valD ds else valD ds)
def SomeNum (w : World) (k : Nat) (e : Ending) (x : Int) : Prop := ∃ v, e = .returned v ∧ NumV w k v x

end Go.Proofs.YtllkimdlmnjoiaaGreatDoor

namespace Go.Proofs.YtllkimdlmnjoiaaGreatDoor
set_option maxRecDepth 100000
set_option maxRecDepth 100000
set_option maxRecDepth 100000
set_option maxRecDepth 100000
open Go.RowKit

end Go.Proofs.YtllkimdlmnjoiaaGreatDoor
namespace Go.Proofs.YtllkimdlmnjoiaaGreatDoor
set_option maxRecDepth 100000
set_option maxRecDepth 100000
set_option maxRecDepth 100000
set_option maxRecDepth 100000
open Go.RowKit

end Go.Proofs.YtllkimdlmnjoiaaGreatDoor

namespace Go.Proofs.YtllkimdlmnjoiaaGreatDoor
set_option maxRecDepth 100000
set_option maxRecDepth 100000
set_option maxRecDepth 100000
set_option maxRecDepth 100000
open Go.RowKit

end Go.Proofs.YtllkimdlmnjoiaaGreatDoor

namespace Go.Proofs.YtllkimdlmnjoiaaGreatDoor
set_option maxRecDepth 100000
set_option maxRecDepth 100000
set_option maxRecDepth 100000
set_option maxRecDepth 100000
open Go.RowKit

def byteD (d : Int) : UInt8 := UInt8.ofNat (48 + d).toNat
/-- The digits, the highest first, as bytes. -/
def highL (ds : List Int) : List UInt8 := ds.reverse.map byteD
theorem highL_snoc (ds : List Int) (d : Int) : highL (ds ++ [d]) = byteD d :: highL ds := by simp [highL]
def textL (m : Bool) (ds : List Int) : List UInt8 := if ds = [] then [48] else (if m then [45] else []) ++ highL ds

end Go.Proofs.YtllkimdlmnjoiaaGreatDoor
namespace Go.Proofs.YtllkimdlmnjoiaaGreatDoor
set_option maxRecDepth 100000
set_option maxRecDepth 100000
set_option maxRecDepth 100000
set_option maxRecDepth 100000
open Go.RowKit

theorem norm_cons {d : Int} {r : List Int} (h : Norm (d :: r)) : (r = [] ∧ d ≠ 0) ∨ (r ≠ [] ∧ Norm r) := by
  cases r with
  | nil => exact .inl ⟨rfl, by simpa [Norm] using h⟩
  | cons e t => exact .inr ⟨by simp, by simpa [Norm] using h⟩
theorem norm_pos {l : List Int} (h : Digs l) (hn : Norm l) (hne : l ≠ []) : 0 < valD l := by
  have h1 := norm_ge h hn hne
  have := ten_pos (l.length - 1)
  omega
theorem lows_of : ∀ (ds : List Int), Digs ds → Norm ds → lows (valD ds).toNat = ds.map (48 + ·)
  | [], _, _ => by simp [valD, lows_zero]
  | d :: r, hd, hn => by
    have h1 := digs_cons hd
    have hp := norm_pos hd hn (by simp)
    have h0 := valD_nonneg h1.2
    have e : valD (d :: r) = d + 10 * valD r := rfl
    rw [lows_pos _ (by omega)]
    have e1 : ((valD (d :: r)).toNat : Int) % 10 = d := by rw [e]; omega
    have e2 : (valD (d :: r)).toNat / 10 = (valD r).toNat := by rw [e]; omega
    rw [e1, e2]
    rcases norm_cons hn with ⟨rfl, _⟩ | ⟨_, hr⟩
    · simp [valD, lows_zero]
    · rw [lows_of r h1.2 hr]; rfl
theorem lowsAll_of (ds : List Int) (hd : Digs ds) (hn : Norm ds) (hne : ds ≠ []) : lowsAll (valD ds).toNat = ds.map (48 + ·) := by
  have hp := norm_pos hd hn hne
  rw [← lows_of ds hd hn, lows_pos _ (by omega)]
  rfl
/-- The document's text of a number is what the program's digits are. -/
theorem text_digL (m : Bool) (ds : List Int) (x : Int) (hd : Digs ds) (hn : Norm ds) (hm : m = true → ds ≠ []) (hx : x = if m then -valD ds else valD ds) : textL m ds = digL x := by
  unfold textL digL
  by_cases hne : ds = []
  · subst hne
    have : m = false := by cases m; rfl; exact absurd rfl (hm rfl)
    subst this
    simp [valD] at hx
    subst hx
    rw [if_pos rfl, show lowsAll (0 : Int).natAbs = [48] from by simp [lowsAll, lows_zero]]
    decide
  · have hp := norm_pos hd hn hne
    have ha : x.natAbs = (valD ds).toNat := by cases m <;> simp at hx <;> omega
    rw [if_neg hne, ha, lowsAll_of ds hd hn hne]
    congr 1
    · cases m <;> simp at hx <;> simp <;> omega
    · simp [highL, byteD, Function.comp_def]

/-- The values of digits, the last one first. -/
def dvals (bs : List UInt8) : List Int := bs.reverse.map fun c => (c.toNat : Int) - 48
theorem dig_of {c : UInt8} (h : digB c = true) : 48 ≤ c.toNat ∧ c.toNat ≤ 57 := by simpa [digB] using h
theorem valL_snoc (bs : List UInt8) (c : UInt8) : valL (bs ++ [c]) = valL bs * 10 + (c.toNat - 48) := by simp [valL, valStep]
theorem valD_rev : ∀ rs : List UInt8, rs.all digB = true → valD (rs.map fun c => (c.toNat : Int) - 48) = valL rs.reverse
  | [], _ => rfl
  | c :: r, h => by
    simp only [List.all_cons, Bool.and_eq_true] at h
    have h1 := dig_of h.1
    have ih := valD_rev r h.2
    rw [List.reverse_cons, valL_snoc, List.map_cons]
    simp only [valD, ih]
    omega
theorem valD_dvals (bs : List UInt8) (h : bs.all digB = true) : valD (dvals bs) = valL bs := by
  unfold dvals
  rw [valD_rev bs.reverse (by simpa using h), List.reverse_reverse]

end Go.Proofs.YtllkimdlmnjoiaaGreatDoor
namespace Go.Proofs.YtllkimdlmnjoiaaGreatDoor
set_option maxRecDepth 100000
set_option maxRecDepth 100000
set_option maxRecDepth 100000
set_option maxRecDepth 100000
open Go.RowKit

end Go.Proofs.YtllkimdlmnjoiaaGreatDoor
namespace Go.Proofs.YtllkimdlmnjoiaaGreatDoor
set_option maxRecDepth 100000
set_option maxRecDepth 100000
set_option maxRecDepth 100000
set_option maxRecDepth 100000
open Go.RowKit

end Go.Proofs.YtllkimdlmnjoiaaGreatDoor
namespace Go.Proofs.YtllkimdlmnjoiaaGreatDoor
set_option maxRecDepth 100000
set_option maxRecDepth 100000
set_option maxRecDepth 100000
set_option maxRecDepth 100000
open Go.RowKit

theorem dig_exist : ∀ (b N : Nat), N < b → ∃ ds, Digs ds ∧ Norm ds ∧ valD ds = N
  | 0, _, h => absurd h (by omega)
  | b + 1, N, h => by
    by_cases h0 : N = 0
    · exact ⟨[], digs_nil, by simp [Norm], by simp [valD, h0]⟩
    · obtain ⟨ds, h1, h2, h3⟩ := dig_exist b (N / 10) (by omega)
      refine ⟨((N : Int) % 10) :: ds, ?_, ?_, ?_⟩
      · intro x hx
        rcases List.mem_cons.1 hx with rfl | hx
        · omega
        · exact h1 x hx
      · cases ds with
        | nil => simp [valD] at h3; simp [Norm]; omega
        | cons e t => simpa [Norm] using h2
      · simp only [valD, h3]; omega

theorem byteD_nat (d : Int) (h0 : 0 ≤ d) (h9 : d ≤ 9) : ((byteD d).toNat : Int) = 48 + d := by
  unfold byteD
  rw [UInt8.toNat_ofNat']
  omega
theorem high_all (ds : List Int) (h : Digs ds) : (highL ds).all digB = true := by
  rw [List.all_eq_true]
  intro c hc
  obtain ⟨d, hd, rfl⟩ := List.mem_map.1 hc
  have h1 := h d (by simpa using hd)
  have := byteD_nat d h1.1 h1.2
  simp [digB]; omega
theorem dvals_high (ds : List Int) (h : Digs ds) : dvals (highL ds) = ds := by
  unfold dvals highL
  rw [← List.map_reverse, List.reverse_reverse, List.map_map]
  conv => rhs; rw [← List.map_id ds]
  apply List.map_congr_left
  intro d hd
  have h1 := h d hd
  have := byteD_nat d h1.1 h1.2
  simp only [Function.comp_def, id]
  omega
theorem head_digit (l : List UInt8) (h : l.all digB = true) : minusB l = false := by
  cases l with
  | nil => rfl
  | cons c r =>
    have := dig_of (List.all_eq_true.1 h c (by simp))
    have hc : c ≠ 45 := by intro e; subst e; revert this; decide
    simp [minusB, hc]

/-- Digits are read as their number. -/
theorem parse_digL (x : Int) (hf : fitsB x = true) : parseV (digL x) = x ∧ parseE (digL x) = 0 := by
  obtain ⟨ds, hd, hn, hv⟩ := dig_exist (x.natAbs + 1) x.natAbs (by omega)
  have ht : textL (decide (x < 0)) ds = digL x := by
    refine text_digL _ ds x hd hn ?_ ?_
    · intro e he
      subst he
      simp [valD] at hv
      simp at e
      omega
    · by_cases h : x < 0
      · simp [h]; omega
      · simp [h]; omega
  by_cases hne : ds = []
  · subst hne
    simp [valD] at hv
    have : x = 0 := by omega
    subst this
    rw [← ht]
    decide
  · have hb : digsOf (digL x) = highL ds ∧ minusB (digL x) = decide (x < 0) := by
      rw [← ht]
      unfold textL
      rw [if_neg hne]
      by_cases h : x < 0
      · simp [h, digsOf, minusB]
      · simp only [h, decide_false, Bool.false_eq_true, if_false, List.nil_append]
        have := head_digit _ (high_all ds hd)
        exact ⟨by simp [digsOf, this], this⟩
    have hw : wholeL (highL ds) = true := by
      unfold wholeL
      rw [high_all ds hd]
      have : highL ds ≠ [] := by simp [highL, hne]
      have hh : (highL ds).headD 0 ≠ 48 := by
        intro e
        obtain ⟨i, d, rfl⟩ : ∃ i d, ds = i ++ [d] := ⟨ds.dropLast, ds.getLast hne, (List.dropLast_concat_getLast hne).symm⟩
        rw [highL_snoc] at e
        simp at e
        have h9 := hd d (by simp)
        have := byteD_nat d h9.1 h9.2
        rw [e] at this
        have hl := hn
        unfold Norm at hl
        rw [last_snoc] at hl
        apply hl
        have e48 : ((48 : UInt8).toNat : Int) = 48 := rfl
        omega
      simp [this]
      exact .inr (by simpa using hh)
    have hz : (highL ds == ([48] : List UInt8)) = false ∨ minusB (digL x) = false := by
      by_cases h : highL ds = [48]
      · have h1 := dvals_high ds hd
        rw [h] at h1
        have : ds = [0] := by rw [← h1]; decide
        subst this
        exact absurd hn (by simp [Norm])
      · exact .inl (by simp [h])
    have hpa : parseArg (digL x) = false := by
      unfold parseArg
      rw [hb.1, hw]
      rcases hz with h | h <;> simp [h]
    have hpn : parseN (minusB (digL x)) (digsOf (digL x)) = x := by
      rw [hb.1, hb.2]
      unfold parseN
      have h2 := valD_dvals (highL ds) (high_all ds hd)
      rw [dvals_high ds hd, hv] at h2
      rw [← h2]
      by_cases h : x < 0
      · simp [h]; omega
      · simp [h]; omega
    unfold parseV parseE
    rw [hpa, hpn]
    simp [hf, room_ok hf]

end Go.Proofs.YtllkimdlmnjoiaaGreatDoor




