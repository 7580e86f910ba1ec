/- Contract of strings.CutPrefix at the prefix "-", and of ints.Parse at any string. -/
import Derived.Test.YtgjimgopfpaimaaF
namespace Go.Proofs.Ytgjimgopfpaimaa
open Go.RowKit

theorem toList_len (s : ByteArray) : s.toList.length = s.size := by rw [ByteArray.toList_eq]; simp
theorem toList_cut (s : ByteArray) (i j : Nat) : (s.extract i j).toList = (s.toList.take j).drop i := by
  simp [ByteArray.toList_eq, ByteArray.data_extract, List.drop_take]

/-- It opens with a minus. -/
def minusB (l : List UInt8) : Bool := l.take 1 == [45]

set_option maxHeartbeats 400000 in
theorem cut_yes (s : ByteArray) (w : World) (h : minusB s.toList = true) :
    Calls Try.prog 31 #[.string s, .string ⟨#[45]⟩] w fun e w' => e = .returned (.tuple #[.string (s.extract 1 s.size), .bool true]) ∧ w = w' := by
  have h1 : 1 ≤ (s.size : Int) := by
    have := toList_len s
    cases hq : s.toList with
    | nil => rw [hq] at h; exact absurd h (by decide)
    | cons c r => rw [hq] at this; simp at this; omega
  have h2 : ((s.extract 0 1).toList == [45]) = true := by rw [toList_cut]; simpa [minusB] using h
  clear h
  go_enter Try.func31, Try.ntmps31
  go_wp2
  go_ret2
  exact ⟨rfl, rfl⟩

set_option maxHeartbeats 400000 in
theorem cut_no (s : ByteArray) (w : World) (h : minusB s.toList = false) :
    Calls Try.prog 31 #[.string s, .string ⟨#[45]⟩] w fun e w' => e = .returned (.tuple #[.string s, .bool false]) ∧ w = w' := by
  have h2 : ((s.extract 0 1).toList == [45]) = false := by rw [toList_cut]; simpa [minusB] using h
  clear h
  by_cases h1 : 1 ≤ (s.size : Int)
  all_goals
    go_enter Try.func31, Try.ntmps31
    go_wp2
    go_ret2
    exact ⟨rfl, rfl⟩

set_option maxHeartbeats 1000000 in
theorem parse_w1 (s d : ByteArray) (m : Bool)  (w : World) (hcut : Hid (∀ W, Calls Try.prog 31 #[.string s, .string ⟨#[45]⟩] W fun e w' => e = .returned (.tuple #[.string d, .bool m]) ∧ W = w')) (h1 : wholeL d.toList = false) :
    Calls Try.prog 17 #[.string s] w fun e w' => e = .returned (.tuple #[.int .i64 0, .int .i64 2]) ∧ Below w.heap.size w w' := by

  go_enter Try.func17, Try.ntmps17
  go_wp2_with fail
  refine (hcut.out _).mono ?_
  rintro e w' ⟨rfl, rfl⟩
  go_wp2_with fail
  refine (whole_any _ _).mono ?_
  rintro e w1 ⟨rfl, hb1⟩
  have HB1 := Lib.hid hb1
  clear hb1
  go_wp2
  go_ret2
  exact ⟨rfl, HB1.out⟩

set_option maxHeartbeats 1000000 in
theorem parse_w2 (s d : ByteArray) (m : Bool)  (w : World) (hcut : Hid (∀ W, Calls Try.prog 31 #[.string s, .string ⟨#[45]⟩] W fun e w' => e = .returned (.tuple #[.string d, .bool m]) ∧ W = w')) (h1 : wholeL d.toList = true) (h2 : m = true) (h3 : (d.toList == [48]) = true) :
    Calls Try.prog 17 #[.string s] w fun e w' => e = .returned (.tuple #[.int .i64 0, .int .i64 2]) ∧ Below w.heap.size w w' := by
  subst h2
  go_enter Try.func17, Try.ntmps17
  go_wp2_with fail
  refine (hcut.out _).mono ?_
  rintro e w' ⟨rfl, rfl⟩
  go_wp2_with fail
  refine (whole_any _ _).mono ?_
  rintro e w1 ⟨rfl, hb1⟩
  have HB1 := Lib.hid hb1
  clear hb1
  go_wp2
  go_ret2
  exact ⟨rfl, HB1.out⟩

set_option maxHeartbeats 1000000 in
theorem parse_w3 (s d : ByteArray) (m : Bool)  (w : World) (hcut : Hid (∀ W, Calls Try.prog 31 #[.string s, .string ⟨#[45]⟩] W fun e w' => e = .returned (.tuple #[.string d, .bool m]) ∧ W = w')) (h1 : wholeL d.toList = true) (h2 : m = true → (d.toList == [48]) = false) (HR : Hid (∀ W : World, Calls Try.prog 33 #[.string d] W fun e w' => e = .returned (.tuple #[.int .u64 0, .bool false]) ∧ Below W.heap.size W w')) :
    Calls Try.prog 17 #[.string s] w fun e w' => e = .returned (.tuple #[.int .i64 0, .int .i64 10]) ∧ Below w.heap.size w w' := by
  cases m
  all_goals
    try have h3 := h2 rfl
    clear h2
    go_enter Try.func17, Try.ntmps17
    go_wp2_with fail
    refine (hcut.out _).mono ?_
    rintro e w' ⟨rfl, rfl⟩
    go_wp2_with fail
    refine (whole_any _ _).mono ?_
    rintro e w1 ⟨rfl, hb1⟩
    have HB1 := Lib.hid hb1
    clear hb1
    go_wp2_with fail
    refine (HR.out _).mono ?_
    rintro e w2 ⟨rfl, hb2⟩
    have HB2 := Lib.hid hb2
    clear hb2
    go_wp2
    go_ret2
    exact ⟨rfl, HB1.out.trans (HB2.out.mono HB1.out.size)⟩

set_option maxHeartbeats 1000000 in
theorem parse_w4 (s d : ByteArray) (m : Bool) (n : Int) (w : World) (hcut : Hid (∀ W, Calls Try.prog 31 #[.string s, .string ⟨#[45]⟩] W fun e w' => e = .returned (.tuple #[.string d, .bool m]) ∧ W = w')) (h1 : wholeL d.toList = true) (h2 : m = true → (d.toList == [48]) = false) (HR : Hid (∀ W : World, Calls Try.prog 33 #[.string d] W fun e w' => e = .returned (.tuple #[.int .u64 n, .bool true]) ∧ Below W.heap.size W w')) (HS : Hid (∀ W : World, Calls Try.prog 34 #[.int .u64 n, .bool m] W fun e w' => e = .returned (.tuple #[.int .i64 0, .bool false]) ∧ W = w')) :
    Calls Try.prog 17 #[.string s] w fun e w' => e = .returned (.tuple #[.int .i64 0, .int .i64 10]) ∧ Below w.heap.size w w' := by
  cases m
  all_goals
    try have h3 := h2 rfl
    clear h2
    go_enter Try.func17, Try.ntmps17
    go_wp2_with fail
    refine (hcut.out _).mono ?_
    rintro e w' ⟨rfl, rfl⟩
    go_wp2_with fail
    refine (whole_any _ _).mono ?_
    rintro e w1 ⟨rfl, hb1⟩
    have HB1 := Lib.hid hb1
    clear hb1
    go_wp2_with fail
    refine (HR.out _).mono ?_
    rintro e w2 ⟨rfl, hb2⟩
    have HB2 := Lib.hid hb2
    clear hb2
    go_wp2_with fail
    refine (HS.out _).mono ?_
    rintro e w3 ⟨rfl, rfl⟩
    go_wp2
    go_ret2
    exact ⟨rfl, HB1.out.trans (HB2.out.mono HB1.out.size)⟩

set_option maxHeartbeats 1000000 in
theorem parse_w5 (s d : ByteArray) (m : Bool) (n r : Int) (w : World) (hcut : Hid (∀ W, Calls Try.prog 31 #[.string s, .string ⟨#[45]⟩] W fun e w' => e = .returned (.tuple #[.string d, .bool m]) ∧ W = w')) (h1 : wholeL d.toList = true) (h2 : m = true → (d.toList == [48]) = false) (HR : Hid (∀ W : World, Calls Try.prog 33 #[.string d] W fun e w' => e = .returned (.tuple #[.int .u64 n, .bool true]) ∧ Below W.heap.size W w')) (HS : Hid (∀ W : World, Calls Try.prog 34 #[.int .u64 n, .bool m] W fun e w' => e = .returned (.tuple #[.int .i64 r, .bool true]) ∧ W = w')) :
    Calls Try.prog 17 #[.string s] w fun e w' => e = .returned (.tuple #[.int .i64 r, .int .i64 0]) ∧ Below w.heap.size w w' := by
  cases m
  all_goals
    try have h3 := h2 rfl
    clear h2
    go_enter Try.func17, Try.ntmps17
    go_wp2_with fail
    refine (hcut.out _).mono ?_
    rintro e w' ⟨rfl, rfl⟩
    go_wp2_with fail
    refine (whole_any _ _).mono ?_
    rintro e w1 ⟨rfl, hb1⟩
    have HB1 := Lib.hid hb1
    clear hb1
    go_wp2_with fail
    refine (HR.out _).mono ?_
    rintro e w2 ⟨rfl, hb2⟩
    have HB2 := Lib.hid hb2
    clear hb2
    go_wp2_with fail
    refine (HS.out _).mono ?_
    rintro e w3 ⟨rfl, rfl⟩
    go_wp2
    go_ret2
    exact ⟨rfl, HB1.out.trans (HB2.out.mono HB1.out.size)⟩

/-- What Parse answers: a number and an error's number. -/
def parseN (m : Bool) (d : List UInt8) : Int := if m then -(valL d : Int) else (valL d : Int)
def digsOf (l : List UInt8) : List UInt8 := if minusB l then l.drop 1 else l
def parseArg (l : List UInt8) : Bool := !(wholeL (digsOf l)) || (minusB l && digsOf l == [48])
def parseV (l : List UInt8) : Int := if parseArg l then 0 else room (parseN (minusB l) (digsOf l))
def parseE (l : List UInt8) : Int := if parseArg l then 2 else if fitsB (parseN (minusB l) (digsOf l)) then 0 else 10

theorem parse_core (s d : ByteArray) (m : Bool) (w : World) (hcut : Hid (∀ W, Calls Try.prog 31 #[.string s, .string ⟨#[45]⟩] W fun e w' => e = .returned (.tuple #[.string d, .bool m]) ∧ W = w'))
    (hm : minusB s.toList = m) (hd : digsOf s.toList = d.toList) :
    Calls Try.prog 17 #[.string s] w fun e w' => e = .returned (.tuple #[.int .i64 (parseV s.toList), .int .i64 (parseE s.toList)]) ∧ Below w.heap.size w w' := by
  unfold parseV parseE parseArg
  rw [hm, hd]
  cases hw : wholeL d.toList
  · exact parse_w1 s d m w hcut hw
  · have hdig : DigsTo d d.size := by
      rw [digs_all]
      unfold wholeL at hw
      rw [Bool.and_eq_true] at hw
      exact hw.1
    cases hz : (m && d.toList == [48])
    · have hz' : m = true → (d.toList == [48]) = false := by intro e; subst e; simpa using hz
      simp only [Bool.not_true, Bool.or_false, Bool.false_eq_true, if_false]
      by_cases hbig : valL d.toList < Big
      · have hr := Lib.hid fun W => read_ok d W hdig hbig
        cases hf : fitsB (parseN m d.toList)
        · rw [room_no hf]
          refine parse_w4 s d m _ w hcut hw hz' hr (Lib.hid fun W => ?_)
          rw [fits_not] at hf
          cases m
          · exact signed_pos_no _ W (by simp only [parseN, Bool.false_eq_true, if_false] at hf; omega)
          · exact signed_neg_no _ W (by simp only [parseN, if_true] at hf; omega)
        · rw [room_ok hf]
          refine parse_w5 s d m _ _ w hcut hw hz' hr (Lib.hid fun W => ?_)
          rw [fits_iff] at hf
          cases m
          · simp only [parseN, Bool.false_eq_true, if_false] at hf ⊢; exact signed_pos_ok _ W (by omega) (by omega)
          · simp only [parseN, if_true] at hf ⊢; exact signed_neg_ok _ W (by omega) (by omega)
      · have hf : fitsB (parseN m d.toList) = false := by
          rw [fits_not]; unfold parseN; rw [big_eq] at hbig; split <;> omega
        rw [hf, room_no hf]
        exact parse_w3 s d m w hcut hw hz' (Lib.hid fun W => read_no d W hdig hbig)
    · rw [Bool.and_eq_true] at hz
      exact parse_w2 s d m w hcut hw hz.1 hz.2

theorem parse_any (s : ByteArray) (w : World) :
    Calls Try.prog 17 #[.string s] w fun e w' => e = .returned (.tuple #[.int .i64 (parseV s.toList), .int .i64 (parseE s.toList)]) ∧ Below w.heap.size w w' := by
  cases hm : minusB s.toList
  · exact parse_core s s false w (Lib.hid fun W => cut_no s W hm) hm (by simp [digsOf, hm])
  · refine parse_core s (s.extract 1 s.size) true w (Lib.hid fun W => cut_yes s W hm) hm ?_
    rw [toList_cut, ← toList_len, List.take_length]
    simp [digsOf, hm]
end Go.Proofs.Ytgjimgopfpaimaa
