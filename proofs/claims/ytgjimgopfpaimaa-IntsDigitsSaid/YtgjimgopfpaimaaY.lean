/- The document's sum of a row of numbers. -/
import Derived.Test.YtgjimgopfpaimaaX
import Derived.Deep.RegionWith
namespace Go.Proofs.Ytgjimgopfpaimaa
open Go.RowKit

/-- A number of any greatness in a struct of its own, at block g. -/
def NumAt (w : World) (g K : Nat) (x : Int) : Prop :=
  ∃ (m : Bool) (A : Option Addr) (n c : Nat), w.cell? ⟨g, 0, none⟩ = some (.bool m) ∧ w.cell? ⟨g, 1, none⟩ = some (.slice A n c) ∧ w.frozen? ⟨g, 0, none⟩ = false ∧ w.frozen? ⟨g, 1, none⟩ = false ∧ NumV w K (.agg #[.bool m, .slice A n c]) x

theorem NumV.below {w w' : World} {K : Nat} {v : Value} {x : Int} (h : NumV w K v x) (hb : Below w.heap.size w w') : NumV w' K v x := by
  obtain ⟨m, A, n, c, ds, rfl, hI, h1, h2, h3, h4, h5, h6, h7⟩ := h
  exact ⟨m, A, n, c, ds, rfl, (hI.below hb (Nat.le_refl _)).more hb.size, h1, h2, h3, h4, h5, h6, h7⟩
theorem NumV.more {w : World} {K K' : Nat} {v : Value} {x : Int} (h : NumV w K v x) (hk : K ≤ K') : NumV w K' v x := by
  obtain ⟨m, A, n, c, ds, rfl, hI, h1, h2, h3, h4, h5, h6, h7⟩ := h
  exact ⟨m, A, n, c, ds, rfl, hI, h1, h2, by omega, h4, h5, h6, h7⟩

theorem zero_at (w : World) : NumAt (w.alloc (.cells #[.bool false, .slice none 0 0] 46)) w.heap.size 19 0 :=
  ⟨false, none, 0, 0, World.cell?_alloc_at _ _ _ _ rfl, World.cell?_alloc_at _ _ _ _ rfl, World.frozen?_alloc_at _ _ _ _ rfl, World.frozen?_alloc_at _ _ _ _ rfl,
    false, none, 0, 0, [], rfl, ⟨rfl, by omega, by simp, fun h => absurd h (by omega)⟩, Nat.le_refl _, by unfold maxLen; omega, by omega, digs_nil, by simp [Norm], by simp, by simp [valD]⟩

theorem store_cells {w : World} {g : Nat} {x0 x1 : Value} (c0 : w.cell? ⟨g, 0, none⟩ = some x0) (c1 : w.cell? ⟨g, 1, none⟩ = some x1) (f0 : w.frozen? ⟨g, 0, none⟩ = false) (f1 : w.frozen? ⟨g, 1, none⟩ = false) (u0 u1 : Value) :
    ((w.setCell ⟨g, 0, none⟩ u0).setCell ⟨g, 1, none⟩ u1).cell? ⟨g, 0, none⟩ = some u0 ∧ ((w.setCell ⟨g, 0, none⟩ u0).setCell ⟨g, 1, none⟩ u1).cell? ⟨g, 1, none⟩ = some u1 ∧
    ((w.setCell ⟨g, 0, none⟩ u0).setCell ⟨g, 1, none⟩ u1).frozen? ⟨g, 0, none⟩ = false ∧ ((w.setCell ⟨g, 0, none⟩ u0).setCell ⟨g, 1, none⟩ u1).frozen? ⟨g, 1, none⟩ = false := by
  refine ⟨?_, ?_, ?_, ?_⟩ <;> simp [go_sem, c0, c1, f0, f1]

/-- Behind a call that leaves old memory alone a stored number that fits is there still, with few digits. -/
theorem num_at {W w' : World} {g K : Nat} {m : Bool} {A : Option Addr} {n c : Nat} {x : Int}
    (cs : W.cell? ⟨g, 0, none⟩ = some (.bool m) ∧ W.cell? ⟨g, 1, none⟩ = some (.slice A n c) ∧ W.frozen? ⟨g, 0, none⟩ = false ∧ W.frozen? ⟨g, 1, none⟩ = false)
    (hn : NumV W K (.agg #[.bool m, .slice A n c]) x) (hb : Below W.heap.size W w') (hg : g < W.heap.size) (hf : fitsB x = true) : NumAt w' g 19 x := by
  rw [fits_iff] at hf
  have e : ten 19 = 10000000000000000000 := by decide
  exact ⟨m, A, n, c, cell_kept hb hg cs.1, cell_kept hb hg cs.2.1, frozen_kept hb hg cs.2.2.1, frozen_kept hb hg cs.2.2.2, num_few (hn.below hb) (by omega) (by omega)⟩

set_option maxHeartbeats 1600000 in
set_option maxRecDepth 100000 in
theorem refAdd_any (A : Option Addr) (n c : Nat) (l : List Int) (w : World) (h : Ints w w.heap.size A n l) :
    Calls Try.prog 12 #[.slice A n c] w fun e w' => e = .returned (.tuple #[.int .i64 (valOf (runs (· + ·) 0 l)), .int .i64 (errOf (runs (· + ·) 0 l))]) ∧ Below w.heap.size w w' := by
  have HI := Lib.hid h
  have hn := h.2.1
  clear h
  go_enter Try.func12, Try.ntmps12
  go_wp2
  go_loopw [5] (fun i wr => ∃ (k : Nat) (s : Int), k ≤ n ∧ i = .int .i64 k ∧ Hid (NumAt wr w.heap.size 19 s) ∧ Hid (fitsB s = true) ∧ Hid (runs (· + ·) s (l.drop k) = runs (· + ·) 0 l) ∧ Hid (Below w.heap.size w wr ∧ w.heap.size < wr.heap.size)) (fun i _ => n - (intOf i).toNat)
  case atStart => exact ⟨0, 0, by omega, rfl, Lib.hid (zero_at w), Lib.hid (by decide), Lib.hid rfl, Lib.hid ⟨below_new _ _, by simp⟩⟩
  case round =>
    obtain ⟨k, s, hk, rfl, hat, hs, hr, hbel⟩ := hrel
    obtain ⟨m, A0, n0, c0, p0, p1, f0, f1, hnum⟩ := hat.out
    have HNUM := Lib.hid hnum
    clear hnum hat
    have hz := hbel.out.2
    by_cases hlt : k < n
    · obtain ⟨b, off, rfl, hb, hc⟩ := (HI.out.below hbel.out.1 (Nat.le_refl _)).2.2.2 (by omega)
      have hck := hc k hlt
      have HX := Lib.hid (getD_fits l k (by have := HI.out.1; omega) HI.out.2.2.1)
      clear hc
      have Y := Lib.hid (runs_yes (· + ·) s l k (by have := HI.out.1; omega))
      have N := Lib.hid (runs_no (· + ·) s l k (by have := HI.out.1; omega))
      generalize l.getD k 0 = x at hck HX Y N
      have hki : (k : Int) < (n : Int) := by omega
      have HND : Hid (NumV wr.drew 19 (.agg #[.bool m, .slice A0 n0 c0]) s) := Lib.hid (show NumV wr.drew 19 _ s from HNUM.out)
      go_wp2_with fail
      go_region_with (first
        | (go_at_call 26; refine (of_any _ _ HX.out).mono ?_; rintro e w1 ⟨⟨v1, rfl, hn1⟩, hb1⟩; have HN1 := Lib.hid hn1; have HB1 := Lib.hid hb1; have p0' := cell_kept hb1 hz p0; have p1' := cell_kept hb1 hz p1; have f0' := frozen_kept hb1 hz f0; have f1' := frozen_kept hb1 hz f1; clear hn1 hb1)
        | (go_at_call 25; refine (plus_num 19 _ _ _ _ _ (HND.out.below HB1.out) HN1.out (by omega)).mono ?_; rintro e w2 ⟨⟨v2, rfl, hn2⟩, hb2⟩; obtain ⟨m2, A2, n2, c2, ds2, rfl, hI2⟩ := hn2; have HN2 := Lib.hid hI2; have HB2 := Lib.hid hb2; have p0'' := cell_kept hb2 (Nat.lt_of_lt_of_le hz HB1.out.size) p0'; have p1'' := cell_kept hb2 (Nat.lt_of_lt_of_le hz HB1.out.size) p1'; have f0'' := frozen_kept hb2 (Nat.lt_of_lt_of_le hz HB1.out.size) f0'; have f1'' := frozen_kept hb2 (Nat.lt_of_lt_of_le hz HB1.out.size) f1'; clear hI2 hb2))
      all_goals
        have hst := Lib.hid (num_store m2 p0'' p1'' HN2.out.1 HN2.out.2.1 HN2.out.2.2.1 HN2.out.2.2.2.1 HN2.out.2.2.2.2.1 HN2.out.2.2.2.2.2.1 HN2.out.2.2.2.2.2.2.1 HN2.out.2.2.2.2.2.2.2)
        have cs := Lib.hid (store_cells p0'' p1'' f0'' f1'' (.bool m2) (.slice A2 n2 c2))
        have HZ : Hid (w.heap.size < w2.heap.size) := Lib.hid (Nat.lt_of_lt_of_le (Nat.lt_of_lt_of_le hz HB1.out.size) HB2.out.size)
        have HBW : Hid (Below w.heap.size w ((w2.setCell ⟨w.heap.size, 0, none⟩ (.bool m2)).setCell ⟨w.heap.size, 1, none⟩ (.slice A2 n2 c2))) := Lib.hid ((((hbel.out.1.drew.trans (HB1.out.mono (Nat.le_of_lt hz))).trans (HB2.out.mono (Nat.le_of_lt (Nat.lt_of_lt_of_le hz HB1.out.size)))).setCell (Nat.le_refl _) _).setCell (Nat.le_refl _) _)
        go_wp2_with fail
        refine (int_any 20 _ _ _ hst.out (by omega)).mono ?_
        rintro e w3 ⟨rfl, hb3⟩
        have HB3 := Lib.hid hb3
        clear hb3 p0 p1 f0 f1 p0' p1' f0' f1' p0'' p1'' f0'' f1''
        cases hf : fitsB (s + x)
        · go_wp2
          go_ret2
          exact ⟨by rw [← hr.out, N.out hf]; rfl, HBW.out.trans (HB3.out.mono (by simp; exact Nat.le_of_lt HZ.out))⟩
        · go_wp2
          go_roundw
          case rel => exact ⟨k + 1, s + x, by omega, by go_num, Lib.hid (num_at cs.out hst.out HB3.out (by simpa using HZ.out) hf), Lib.hid hf, Lib.hid (by rw [← hr.out, Y.out hf]), Lib.hid ⟨HBW.out.trans (HB3.out.mono (by simp; exact Nat.le_of_lt HZ.out)), by have := HB3.out.size; have := HZ.out; simp at *; omega⟩⟩
          case measure => simp [intOf]; omega
    · have HE : Hid (runs (· + ·) 0 l = some s) := Lib.hid (by rw [← hr.out, List.drop_eq_nil_of_le (by have := HI.out.1; omega)]; rfl)
      go_wp2_with fail
      refine (told_any 19 _ _ _ HNUM.out (by omega)).mono ?_
      rintro e w1 ⟨rfl, hb1⟩
      have HB1 := Lib.hid hb1
      clear hb1
      go_wp2
      go_ret2
      exact ⟨ret_two (by rw [HE.out, room_ok hs.out]; rfl) (by rw [HE.out, errB_ok hs.out]; rfl), hbel.out.1.trans (HB1.out.mono (Nat.le_of_lt hz))⟩
end Go.Proofs.Ytgjimgopfpaimaa
