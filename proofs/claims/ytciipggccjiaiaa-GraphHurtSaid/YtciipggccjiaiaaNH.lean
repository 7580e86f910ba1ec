/- Contract of slices.Concat over rows of properties. -/
import Derived.Test.YtciipggccjiaiaaNG
namespace Go.Proofs.Ytciipggccjiaiaa
open Go.RowKit Go.Sort
set_option maxRecDepth 100000

structure Pt where
  A : Option Addr
  c : Nat
  l : List PA
def allOf (ps : List Pt) : List PA := ps.flatMap (·.l)
theorem all_next {ps : List Pt} {k : Nat} {p : Pt} (h : ps[k]? = some p) : allOf (ps.take (k + 1)) = allOf (ps.take k) ++ p.l := by
  obtain ⟨h1, e1⟩ := List.getElem?_eq_some_iff.1 h
  unfold allOf
  rw [List.take_succ_eq_append_getElem h1, e1, List.flatMap_append]; simp
theorem all_take_le (ps : List Pt) (k : Nat) : (allOf (ps.take k)).length ≤ (allOf ps).length := by
  conv => rhs; rw [← List.take_append_drop k ps]
  unfold allOf
  rw [List.flatMap_append, List.length_append]; omega
/-- Rows of properties, side by side in a block. -/
structure Parts (w : World) (d b : Nat) (ps : List Pt) : Prop where
  lt : b < w.heap.size
  at_ : ∀ (k : Nat) (p : Pt), ps[k]? = some p → w.cell? ⟨b, k, none⟩ = some (.slice p.A p.l.length p.c) ∧ PRow w 0 d p.A p.c p.l
theorem Parts.next {a b : World} {d g : Nat} {ps : List Pt} (h : Parts a d g ps) (hb : Below a.heap.size a b) : Parts b d g ps :=
  ⟨Nat.lt_of_lt_of_le h.lt hb.size, fun k p hk => ⟨cell_below hb (h.at_ k p hk).1 h.lt, (h.at_ k p hk).2.next hb⟩⟩
theorem owns_keep {a b : World} {base n : Nat} {g c : Nat} {xs : List Value} (h : a.ownsRow base 39 6 (.slice (some ⟨g, 0, none⟩) n c) n xs) (hb : Below a.heap.size a b) : b.ownsRow base 39 6 (.slice (some ⟨g, 0, none⟩) n c) n xs := by
  refine ⟨h.1, ?_⟩
  rcases h.2 with ⟨e, _⟩ | ⟨g', cap, cur, e, h1, h2, h3⟩
  · cases e
  · exact .inr ⟨g', cap, cur, e, h1, (hb.block g' (Array.getElem?_eq_some_iff.1 h2).1).trans h2, h3⟩
theorem owns_low {w : World} {base n g c : Nat} {xs : List Value} (h : w.ownsRow base 39 6 (.slice (some ⟨g, 0, none⟩) n c) n xs) : base ≤ g := by
  rcases h.2 with ⟨e, _⟩ | ⟨g', cap, cur, e, h1, _⟩
  · cases e
  · injection e with e
    injection e with e
    injection e with e
    omega
theorem below_grown {w a b : World} {B g : Nat} (h : Below B w a) (hg : a.grownBy b (some g)) (hB : B ≤ g) (hw : B ≤ w.heap.size) : Below B w b :=
  ⟨hg.os.trans h.os, hg.tape.trans h.tape, hg.output.trans h.output, Nat.le_trans h.size hg.size, fun k hk => (hg.block k (by have := h.size; omega) (fun e => by injection e with e; omega)).trans (h.block k hk)⟩
/-- What slices.Concat gives: a new row of all. -/
def ConcPost (w : World) (l : List PA) (e : Ending) (w' : World) : Prop := ∃ g c, e = .returned (.slice (some ⟨g, 0, none⟩) l.length c) ∧ w'.ownsRow w.heap.size 39 6 (.slice (some ⟨g, 0, none⟩) l.length c) l.length (flatP l) ∧ Below w.heap.size w w'

set_option maxHeartbeats 3200000 in
theorem concat_any (w : World) (d b : Nat) (ps : List Pt) (h : Parts w d b ps) (hm : ps.length ≤ 1000) (h0 : 0 < (allOf ps).length) (hn : (allOf ps).length ≤ 1466015503658) : Calls Try.prog 48 #[.slice (some ⟨b, 0, none⟩) ps.length ps.length] w (ConcPost w (allOf ps)) := by
  have H := Lib.hid h
  have hb := h.lt
  clear h
  go_enter Try.func48, Try.ntmps48
  go_wp2
  go_loopw [11, 3] (fun i s wr => ∃ (k n : Nat), k ≤ ps.length ∧ i = .int .i64 k ∧ s = .int .i64 n ∧ n ≤ 1466015503658 ∧ wr = w ∧ Hid (n = (allOf (ps.take k)).length)) (fun i _ _ => ps.length - (intOf i).toNat)
  case atStart => exact ⟨0, 0, by omega, rfl, rfl, by omega, rfl, Lib.hid rfl⟩
  case round =>
    obtain ⟨k, n, hk, rfl, rfl, hn1, rfl, hN⟩ := hrel
    by_cases hlt : k < ps.length
    · have hp : ps[k]? = some ps[k] := List.getElem?_eq_getElem hlt
      obtain ⟨hc, hr⟩ := H.out.at_ k _ hp
      have hnx := all_next hp
      have hle := all_take_le ps (k + 1)
      generalize ps[k] = p at hp hc hr hnx
      rw [hnx, List.length_append, ← hN.out] at hle
      have hsum : n + p.l.length ≤ 1466015503658 := by omega
      have HX : Hid (n + p.l.length = (allOf (ps.take (k + 1))).length) := Lib.hid (by rw [hnx, List.length_append, hN.out])
      have k0 : (0 : Int) ≤ (k : Int) := by omega
      have k1 : (k : Int) < (ps.length : Int) := by omega
      have hw : wrap64 ((n : Int) + (p.l.length : Int)) = ((n + p.l.length : Nat) : Int) := by unfold wrap64; omega
      have hneg : ¬ (((n + p.l.length : Nat) : Int) < 0) := by omega
      clear hp hr hnx hle
      go_wp2
      go_roundw
      case rel => exact ⟨k + 1, n + p.l.length, by omega, by go_num, by first | rfl | (simp; done) | trivial, hsum, trivial, HX⟩
      case measure => simp [intOf]; omega
    · obtain rfl : k = ps.length := by omega
      rw [List.take_length] at hN
      have hn0 : 0 < n := by rw [hN.out]; exact h0
      obtain ⟨W0, hW0⟩ : ∃ W0 : World, W0 = wr := ⟨_, rfl⟩
      subst hW0
      go_wp2_with fail
      refine (grow_nil W0 n hn0 hn1).mono ?_
      rintro e w1 ⟨g, c, rfl, hown, hb1⟩
      have OW := Lib.hid hown
      have B1 := Lib.hid hb1
      clear hown hb1
      go_wp2_with fail
      go_loopw [27, 6] (fun i v wx => ∃ (k g c m : Nat), k ≤ ps.length ∧ i = .int .i64 k ∧ v = .slice (some ⟨g, 0, none⟩) m c ∧ m ≤ 1466015503658 ∧ Hid (m = (allOf (ps.take k)).length) ∧ Hid (wx.ownsRow W0.heap.size 39 6 (.slice (some ⟨g, 0, none⟩) m c) m (flatP (allOf (ps.take k)))) ∧ Hid (Below W0.heap.size W0 wx)) (fun i _ _ => ps.length - (intOf i).toNat)
      case atStart => exact ⟨0, g, c, 0, by omega, rfl, rfl, by omega, Lib.hid rfl, OW, B1⟩
      case round =>
        clear OW B1
        obtain ⟨k, g, c, m, hk, rfl, rfl, hm1, hM, hO, hB⟩ := hrel
        by_cases hlt : k < ps.length
        · have HW := Lib.hid (H.out.next hB.out)
          have hp : ps[k]? = some ps[k] := List.getElem?_eq_getElem hlt
          obtain ⟨hc, hr⟩ := HW.out.at_ k _ hp
          have hnx := all_next hp
          have hle := all_take_le ps (k + 1)
          generalize ps[k] = p at hp hc hr hnx
          rw [hnx, List.length_append, ← hM.out] at hle
          have hsum : m + p.l.length ≤ 1466015503658 := by omega
          have k0 : (0 : Int) ≤ (k : Int) := by omega
          have k1 : (k : Int) < (ps.length : Int) := by omega
          have HR := Lib.hid hr
          by_cases hz : p.l.length = 0
          · have e0 : allOf (ps.take (k + 1)) = allOf (ps.take k) := by rw [hnx, List.eq_nil_of_length_eq_zero hz, List.append_nil]
            have E0 := Lib.hid e0
            clear hp hr hnx hle e0
            go_wp2_with (at_builtin; refine append_zeroP rfl (.tmp 31) (.tmp 32) rfl W0.heap.size g m c _ rfl hO.out p.A _ p.c rfl (by omega) HR.out.nil ?_)
            go_roundw
            case rel => exact ⟨k + 1, g, c, m, by omega, by go_num, rfl, hm1, Lib.hid (by rw [E0.out]; exact hM.out), Lib.hid (by rw [E0.out]; exact hO.out), hB⟩
            case measure => simp [intOf]; omega
          · have HX : Hid (m + p.l.length = (allOf (ps.take (k + 1))).length) := Lib.hid (by rw [hnx, List.length_append, hM.out])
            have HF : Hid (flatP (allOf (ps.take k)) ++ flatP p.l = flatP (allOf (ps.take (k + 1)))) := Lib.hid (by rw [hnx, flatP_app])
            clear hp hr hnx hle
            go_wp2_with (at_builtin; refine append_someP rfl (.tmp 31) (.tmp 32) rfl W0.heap.size g m c _ rfl hO.out d p.A p.c p.l rfl HR.out (by omega) hsum hB.out.size ?_; intro g' cap w' hown hgr hat hltg; have OW := Lib.hid hown; have BG := Lib.hid (below_grown hB.out hgr (owns_low hO.out) (Nat.le_refl _)); clear hown hgr hat hltg)
            go_roundw
            case rel => exact ⟨k + 1, g', cap, m + p.l.length, by omega, by go_num, rfl, hsum, HX, Lib.hid (by rw [← HF.out]; exact OW.out), BG⟩
            case measure => simp [intOf]; omega
        · obtain rfl : k = ps.length := by omega
          rw [List.take_length] at hM hO
          have HM := Lib.hid hM.out
          go_wp2
          go_ret
          refine ⟨g, c, by rw [← HM.out]; rfl, ?_, hB.out⟩
          have := hO.out
          rw [HM.out] at this
          exact this
end Go.Proofs.Ytciipggccjiaiaa
