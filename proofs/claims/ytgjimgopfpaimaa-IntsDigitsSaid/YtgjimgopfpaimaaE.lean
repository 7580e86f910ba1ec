/- Contracts of ints.whole and ints.read at any string. -/
import Derived.Test.YtgjimgopfpaimaaC
namespace Go.Proofs.Ytgjimgopfpaimaa
open Go.RowKit

def digB (c : UInt8) : Bool := decide (48 ≤ c.toNat ∧ c.toNat ≤ 57)
/-- The first k bytes are digits. -/
def DigsTo (s : ByteArray) (k : Nat) : Prop := ∀ i (h : i < s.size), i < k → digB (s[i]'h) = true

theorem below_iter (w : World) (s : ByteArray) (pos : Nat) : Below w.heap.size w (w.iter s pos) := (Below.refl w.heap.size w).alloc (Nat.le_refl _) (.stringIter s pos)

theorem digs_next (s : ByteArray) (k : Nat) (hk : k < s.size) (h : DigsTo s k) (hd : digB s[k] = true) : DigsTo s (k + 1) := by
  intro i hi hik
  by_cases h' : i = k
  · subst h'; exact hd
  · exact h i hi (by omega)

set_option maxHeartbeats 400000 in
theorem whole_not (s : ByteArray) (w : World) (hn : ¬ DigsTo s s.size) :
    Calls Try.prog 32 #[.string s] w fun e w' => e = .returned (.bool false) ∧ Below w.heap.size w w' := by
  have HN := Lib.hid hn
  clear hn
  go_enter Try.func32, Try.ntmps32
  go_wp2
  go_loopw [] (fun w' => ∃ pos : Nat, w' = w.iter s pos ∧ pos ≤ s.size ∧ Hid (DigsTo s pos)) (fun w' => s.size - w'.iterPos w.heap.size)
  case atStart => exact ⟨0, rfl, by omega, Lib.hid (fun i _ h => absurd h (by omega))⟩
  case round =>
    obtain ⟨pos, rfl, hp, hd⟩ := hrel
    by_cases hlt : pos < s.size
    · by_cases ha : (s[pos]'hlt).toNat < 128
      · have hnx := fun ty => run_next_ascii (P := Try.prog) w s pos ty hlt ha
        by_cases hb : digB (s[pos]'hlt) = true
        · have HD := Lib.hid (digs_next s pos hlt hd.out hb)
          have hb' : 48 ≤ (s[pos]'hlt).toNat ∧ (s[pos]'hlt).toNat ≤ 57 := by simpa [digB] using hb
          clear hb
          generalize (s[pos]'hlt).toNat = c at *
          go_wp2
          go_roundw
          case rel => exact ⟨pos + 1, rfl, by omega, HD⟩
          case measure => simp; omega
        · have hb' : ¬ (48 ≤ (s[pos]'hlt).toNat ∧ (s[pos]'hlt).toNat ≤ 57) := by simpa [digB] using hb
          clear hb
          generalize (s[pos]'hlt).toNat = c at *
          rcases Nat.lt_or_ge c 48 with h1 | h1
          · go_wp2
            go_ret
            exact ⟨rfl, below_iter _ _ _⟩
          · go_wp2
            go_ret
            exact ⟨rfl, below_iter _ _ _⟩
      · have hnx := fun ty => run_next_any (P := Try.prog) w s pos ty hlt
        have hr := (decode_high s pos hlt (by omega)).1
        generalize Utf8.decode s pos = rd at *
        go_wp2
        go_ret
        exact ⟨rfl, below_iter _ _ _⟩
    · exact absurd (fun i h _ => hd.out i h (by omega)) HN.out

/-- The digits of a whole number that is not below 0. -/
def wholeL (l : List UInt8) : Bool := l.all digB && (l == [48] || (!l.isEmpty && l.headD 0 != 48))

set_option maxHeartbeats 400000 in
theorem whole_zero (s : ByteArray) (w : World) (hn : DigsTo s s.size) (h1 : s.toList = [48]) :
    Calls Try.prog 32 #[.string s] w fun e w' => e = .returned (.bool true) ∧ Below w.heap.size w w' := by
  have HN := Lib.hid hn
  clear hn
  go_enter Try.func32, Try.ntmps32
  go_wp2
  go_loopw [] (fun w' => ∃ pos : Nat, w' = w.iter s pos ∧ pos ≤ s.size) (fun w' => s.size - w'.iterPos w.heap.size)
  case atStart => exact ⟨0, rfl, by omega⟩
  case round =>
    obtain ⟨pos, rfl, hp⟩ := hrel
    by_cases hlt : pos < s.size
    · have hb := HN.out pos hlt hlt
      have hb' : 48 ≤ (s[pos]'hlt).toNat ∧ (s[pos]'hlt).toNat ≤ 57 := by simpa [digB] using hb
      have hnx := fun ty => run_next_ascii (P := Try.prog) w s pos ty hlt (by omega)
      clear hb h1
      generalize (s[pos]'hlt).toNat = c at *
      go_wp2
      go_roundw
      case rel => exact ⟨pos + 1, rfl, by omega⟩
      case measure => simp; omega
    · have hnx := fun ty => run_next_end (P := Try.prog) w s pos ty hlt
      go_wp2
      go_ret
      exact ⟨rfl, below_iter _ _ _⟩

set_option maxHeartbeats 400000 in
theorem whole_empty (s : ByteArray) (w : World) (hn : DigsTo s s.size) (h1 : (s.toList == [48]) = false) (h2 : (!s.toList.isEmpty) = false) :
    Calls Try.prog 32 #[.string s] w fun e w' => e = .returned (.bool false) ∧ Below w.heap.size w w' := by
  have HN := Lib.hid hn
  clear hn
  go_enter Try.func32, Try.ntmps32
  go_wp2
  go_loopw [] (fun w' => ∃ pos : Nat, w' = w.iter s pos ∧ pos ≤ s.size) (fun w' => s.size - w'.iterPos w.heap.size)
  case atStart => exact ⟨0, rfl, by omega⟩
  case round =>
    obtain ⟨pos, rfl, hp⟩ := hrel
    by_cases hlt : pos < s.size
    · have hb := HN.out pos hlt hlt
      have hb' : 48 ≤ (s[pos]'hlt).toNat ∧ (s[pos]'hlt).toNat ≤ 57 := by simpa [digB] using hb
      have hnx := fun ty => run_next_ascii (P := Try.prog) w s pos ty hlt (by omega)
      clear hb h1 h2
      generalize (s[pos]'hlt).toNat = c at *
      go_wp2
      go_roundw
      case rel => exact ⟨pos + 1, rfl, by omega⟩
      case measure => simp; omega
    · have hnx := fun ty => run_next_end (P := Try.prog) w s pos ty hlt
      go_wp2
      go_ret
      exact ⟨rfl, below_iter _ _ _⟩

set_option maxHeartbeats 400000 in
theorem whole_more (s : ByteArray) (w : World) (hn : DigsTo s s.size) (h0 : 0 < s.size) (t : Bool) (h1 : (s.toList == [48]) = false) (h2 : (!s.toList.isEmpty) = true) (h3 : (((s[0]'h0).toNat : Int) != 48) = t) :
    Calls Try.prog 32 #[.string s] w fun e w' => e = .returned (.bool t) ∧ Below w.heap.size w w' := by
  have HN := Lib.hid hn
  clear hn
  go_enter Try.func32, Try.ntmps32
  go_wp2
  go_loopw [] (fun w' => ∃ pos : Nat, w' = w.iter s pos ∧ pos ≤ s.size) (fun w' => s.size - w'.iterPos w.heap.size)
  case atStart => exact ⟨0, rfl, by omega⟩
  case round =>
    obtain ⟨pos, rfl, hp⟩ := hrel
    by_cases hlt : pos < s.size
    · have hb := HN.out pos hlt hlt
      have hb' : 48 ≤ (s[pos]'hlt).toNat ∧ (s[pos]'hlt).toNat ≤ 57 := by simpa [digB] using hb
      have hnx := fun ty => run_next_ascii (P := Try.prog) w s pos ty hlt (by omega)
      clear hb h1 h2 h3
      generalize (s[pos]'hlt).toNat = c at *
      go_wp2
      go_roundw
      case rel => exact ⟨pos + 1, rfl, by omega⟩
      case measure => simp; omega
    · have hnx := fun ty => run_next_end (P := Try.prog) w s pos ty hlt
      go_wp2
      go_ret
      exact ⟨rfl, below_iter _ _ _⟩

theorem digs_all (s : ByteArray) : DigsTo s s.size ↔ s.toList.all digB = true := by
  rw [ByteArray.toList_eq, List.all_eq_true]
  constructor
  · intro h x hx
    obtain ⟨i, hi, rfl⟩ := List.mem_iff_getElem.1 hx
    have hi' : i < s.size := by simpa using hi
    have := h i hi' hi'
    rwa [show s[i]'hi' = s.data.toList[i]'hi from by simp; rfl] at this
  · intro h i hi _
    apply h
    have : s[i]'hi = s.data.toList[i]'(by simpa using hi) := by simp; rfl
    rw [this]
    exact List.getElem_mem _

theorem whole_any (s : ByteArray) (w : World) :
    Calls Try.prog 32 #[.string s] w fun e w' => e = .returned (.bool (wholeL s.toList)) ∧ Below w.heap.size w w' := by
  by_cases hd : DigsTo s s.size
  · have ha := (digs_all s).1 hd
    by_cases h1 : s.toList = [48]
    · have := whole_zero s w hd h1
      rwa [show wholeL s.toList = true from by rw [h1]; decide]
    · have h1' : (s.toList == [48]) = false := by simp [h1]
      by_cases h2 : s.toList = []
      · have := whole_empty s w hd h1' (by simp [h2])
        rwa [show wholeL s.toList = false from by rw [h2]; decide]
      · have hs : s.toList.length = s.size := by rw [ByteArray.toList_eq]; simp
        have h0 : 0 < s.size := by
          rcases Nat.eq_zero_or_pos s.size with h | h
          · rw [h] at hs; exact absurd (List.eq_nil_of_length_eq_zero hs) h2
          · exact h
        have hh : s.toList.headD 0 = s[0]'h0 := by
          rw [ByteArray.toList_eq]
          have hz : 0 < s.data.toList.length := by simpa using h0
          cases hq : s.data.toList with
          | nil => rw [hq] at hz; simp at hz
          | cons c r =>
            have e : s[0]'h0 = s.data.toList[0]'hz := by simp; rfl
            rw [e]; simp [hq]
        have := whole_more s w hd h0 _ h1' (by simp [h2]) rfl
        rwa [show wholeL s.toList = (((s[0]'h0).toNat : Int) != 48) from ?_]
        unfold wholeL
        rw [ha, h1', hh]
        have h3 : (!s.toList.isEmpty) = true := by simp [h2]
        rw [h3, Bool.true_and, Bool.false_or, Bool.true_and]
        rw [Bool.eq_iff_iff, bne_iff_ne, bne_iff_ne, ne_eq, ne_eq, ← UInt8.toNat_inj]
        rw [show (48 : UInt8).toNat = 48 from rfl]
        omega
  · have := whole_not s w hd
    rwa [show wholeL s.toList = false from ?_]
    have : s.toList.all digB = false := by
      cases h : s.toList.all digB
      · rfl
      · exact absurd ((digs_all s).2 h) hd
    simp only [wholeL, this, Bool.false_and]
end Go.Proofs.Ytgjimgopfpaimaa
