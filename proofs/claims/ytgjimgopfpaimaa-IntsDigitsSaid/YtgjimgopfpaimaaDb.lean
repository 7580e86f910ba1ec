/- Plain facts on texts of numbers: the document's digits and the program's are the same bytes; a text is its number's own, just if it is whole. -/
import Derived.Test.YtgjimgopfpaimaaDa
import Derived.Test.YtgjimgopfpaimaaG
namespace Go.Proofs.Ytgjimgopfpaimaa
open Go.RowKit

theorem norm_cons {d : Int} {r : List Int} (h : Norm (d :: r)) : (r = [] ∧ d ≠ 0) ∨ (r ≠ [] ∧ Norm r) := by
  cases r with
  | nil => exact .inl ⟨rfl, by simpa [Norm] using h⟩
  | cons e t => exact .inr ⟨by simp, by simpa [Norm] using h⟩
theorem norm_pos {l : List Int} (h : Digs l) (hn : Norm l) (hne : l ≠ []) : 0 < valD l := by
  have h1 := norm_ge h hn hne
  have := ten_pos (l.length - 1)
  omega
theorem lows_of : ∀ (ds : List Int), Digs ds → Norm ds → lows (valD ds).toNat = ds.map (48 + ·)
  | [], _, _ => by simp [valD, lows_zero]
  | d :: r, hd, hn => by
    have h1 := digs_cons hd
    have hp := norm_pos hd hn (by simp)
    have h0 := valD_nonneg h1.2
    have e : valD (d :: r) = d + 10 * valD r := rfl
    rw [lows_pos _ (by omega)]
    have e1 : ((valD (d :: r)).toNat : Int) % 10 = d := by rw [e]; omega
    have e2 : (valD (d :: r)).toNat / 10 = (valD r).toNat := by rw [e]; omega
    rw [e1, e2]
    rcases norm_cons hn with ⟨rfl, _⟩ | ⟨_, hr⟩
    · simp [valD, lows_zero]
    · rw [lows_of r h1.2 hr]; rfl
theorem lowsAll_of (ds : List Int) (hd : Digs ds) (hn : Norm ds) (hne : ds ≠ []) : lowsAll (valD ds).toNat = ds.map (48 + ·) := by
  have hp := norm_pos hd hn hne
  rw [← lows_of ds hd hn, lows_pos _ (by omega)]
  rfl
/-- The document's text of a number is what the program's digits are. -/
theorem text_digL (m : Bool) (ds : List Int) (x : Int) (hd : Digs ds) (hn : Norm ds) (hm : m = true → ds ≠ []) (hx : x = if m then -valD ds else valD ds) : textL m ds = digL x := by
  unfold textL digL
  by_cases hne : ds = []
  · subst hne
    have : m = false := by cases m; rfl; exact absurd rfl (hm rfl)
    subst this
    simp [valD] at hx
    subst hx
    rw [if_pos rfl, show lowsAll (0 : Int).natAbs = [48] from by simp [lowsAll, lows_zero]]
    decide
  · have hp := norm_pos hd hn hne
    have ha : x.natAbs = (valD ds).toNat := by cases m <;> simp at hx <;> omega
    rw [if_neg hne, ha, lowsAll_of ds hd hn hne]
    congr 1
    · cases m <;> simp at hx <;> simp <;> omega
    · simp [highL, byteD, Function.comp_def]

/-- The values of digits, the last one first. -/
def dvals (bs : List UInt8) : List Int := bs.reverse.map fun c => (c.toNat : Int) - 48
theorem dvals_snoc (bs : List UInt8) (c : UInt8) : dvals (bs ++ [c]) = ((c.toNat : Int) - 48) :: dvals bs := by simp [dvals]
theorem dig_of {c : UInt8} (h : digB c = true) : 48 ≤ c.toNat ∧ c.toNat ≤ 57 := by simpa [digB] using h
theorem dvals_digs (bs : List UInt8) (h : bs.all digB = true) : Digs (dvals bs) := by
  intro d hd
  obtain ⟨c, hc, rfl⟩ := List.mem_map.1 hd
  have := dig_of (List.all_eq_true.1 h c (by simpa using hc))
  omega
theorem high_dvals (bs : List UInt8) (h : bs.all digB = true) : highL (dvals bs) = bs := by
  unfold highL dvals
  rw [← List.map_reverse, List.reverse_reverse, List.map_map]
  conv => rhs; rw [← List.map_id bs]
  apply List.map_congr_left
  intro c hc
  have := dig_of (List.all_eq_true.1 h c hc)
  simp only [Function.comp_def, byteD, id]
  rw [show (48 + ((c.toNat : Int) - 48)).toNat = c.toNat from by omega]
  simp
theorem valL_snoc (bs : List UInt8) (c : UInt8) : valL (bs ++ [c]) = valL bs * 10 + (c.toNat - 48) := by simp [valL, valStep]
theorem valD_rev : ∀ rs : List UInt8, rs.all digB = true → valD (rs.map fun c => (c.toNat : Int) - 48) = valL rs.reverse
  | [], _ => rfl
  | c :: r, h => by
    simp only [List.all_cons, Bool.and_eq_true] at h
    have h1 := dig_of h.1
    have ih := valD_rev r h.2
    rw [List.reverse_cons, valL_snoc, List.map_cons]
    simp only [valD, ih]
    omega
theorem valD_dvals (bs : List UInt8) (h : bs.all digB = true) : valD (dvals bs) = valL bs := by
  unfold dvals
  rw [valD_rev bs.reverse (by simpa using h), List.reverse_reverse]

/-- What has been read behind k bytes: without a minus ahead. -/
def procL (l : List UInt8) (k : Nat) : List UInt8 := if minusB l then (l.take k).drop 1 else l.take k
theorem procL_zero (l : List UInt8) : procL l 0 = [] := by unfold procL; split <;> simp
theorem procL_all (l : List UInt8) (k : Nat) (h : l.length ≤ k) : procL l k = digsOf l := by
  unfold procL digsOf; rw [List.take_of_length_le h]
theorem minus_cons (l : List UInt8) : minusB l = true ↔ ∃ r, l = 45 :: r := by
  unfold minusB
  cases l with
  | nil => simp
  | cons c r => simp
theorem procL_skip (l : List UInt8) (h : minusB l = true) : procL l 1 = [] := by
  unfold procL; rw [if_pos h]
  obtain ⟨r, rfl⟩ := (minus_cons l).1 h
  simp
theorem procL_next (l : List UInt8) (k : Nat) (hk : k < l.length) (h : ¬ (k = 0 ∧ minusB l = true)) : procL l (k + 1) = procL l k ++ [l[k]] := by
  unfold procL
  rw [List.take_succ_eq_append_getElem hk]
  split
  · rename_i hm
    have h0 : k ≠ 0 := fun e => h ⟨e, hm⟩
    rw [List.drop_append_of_le_length (by rw [List.length_take]; omega)]
  · rfl
theorem procL_mem (l : List UInt8) (k : Nat) (hk : k < l.length) (h : ¬ (k = 0 ∧ minusB l = true)) : l[k] ∈ digsOf l := by
  have e1 : digsOf l = procL l l.length := (procL_all l _ (Nat.le_refl _)).symm
  have e2 : ∀ m, procL l (k + 1) <+: procL l (k + 1 + m) := by
    intro m
    unfold procL
    split
    · rw [show l.take (k + 1 + m) = l.take (k + 1) ++ (l.drop (k + 1)).take m from by rw [← List.take_add], List.drop_append]
      exact List.prefix_append _ _
    · rw [show l.take (k + 1 + m) = l.take (k + 1) ++ (l.drop (k + 1)).take m from by rw [← List.take_add]]
      exact List.prefix_append _ _
  have e3 := e2 (l.length - (k + 1))
  rw [show k + 1 + (l.length - (k + 1)) = l.length from by omega, ← e1] at e3
  apply e3.subset
  rw [procL_next l k hk h]
  simp
theorem arg_of_bad (l : List UInt8) (k : Nat) (hk : k < l.length) (h : ¬ (k = 0 ∧ minusB l = true)) (hb : digB l[k] = false) : parseArg l = true := by
  unfold parseArg
  have : (digsOf l).all digB = false := by
    rw [List.all_eq_false]
    exact ⟨_, procL_mem l k hk h, by simp [hb]⟩
  simp [wholeL, this]
end Go.Proofs.Ytgjimgopfpaimaa
