/- The document's product of a row of numbers. -/
import Derived.Test.YtgjimgopfpaimaaTb
import Derived.Deep.RegionWith
namespace Go.Proofs.Ytgjimgopfpaimaa
open Go.RowKit

theorem laid_at {w : World} {K : Nat} {m : Bool} {A : Option Addr} {n c : Nat} {x : Int} (h : NumV w K (.agg #[.bool m, .slice A n c]) x) : NumAt (w.alloc (.cells #[.bool m, .slice A n c] 46)) w.heap.size K x :=
  ⟨m, A, n, c, World.cell?_alloc_at _ _ _ _ rfl, World.cell?_alloc_at _ _ _ _ rfl, World.frozen?_alloc_at _ _ _ _ rfl, World.frozen?_alloc_at _ _ _ _ rfl, h.below (below_new _ _)⟩

set_option maxHeartbeats 1600000 in
set_option maxRecDepth 100000 in
theorem refMul_any (A : Option Addr) (n c : Nat) (l : List Int) (w : World) (h : Ints w w.heap.size A n l) :
    Calls Try.prog 14 #[.slice A n c] w fun e w' => e = .returned (.tuple #[.int .i64 (valOf (runs (· * ·) 1 l)), .int .i64 (errOf (runs (· * ·) 1 l))]) ∧ Below w.heap.size w w' := by
  have HI := Lib.hid h
  have hn := h.2.1
  clear h
  go_enter Try.func14, Try.ntmps14
  go_wp2_with fail
  refine (of_any 1 _ (by decide)).mono ?_
  rintro e w0 ⟨⟨v0, rfl, hv0⟩, hb0⟩
  obtain ⟨m0, A0, n0, c0, ds0, rfl, hnn0⟩ := hv0
  have HV0 : Hid (NumV w0 19 (.agg #[.bool m0, .slice A0 n0 c0]) 1) := Lib.hid ⟨m0, A0, n0, c0, ds0, rfl, hnn0⟩
  have HB0 := Lib.hid hb0
  have HI0 : Hid (Ints w0 w0.heap.size A n l) := Lib.hid ((HI.out.below hb0 (Nat.le_refl _)).more hb0.size)
  clear hnn0 hb0
  go_wp2
  go_loopw [5] (fun i wr => ∃ (k : Nat) (s : Int), k ≤ n ∧ i = .int .i64 k ∧ Hid (NumAt wr w0.heap.size 19 s) ∧ Hid (fitsB s = true) ∧ Hid (runs (· * ·) s (l.drop k) = runs (· * ·) 1 l) ∧ Hid (Below w0.heap.size w0 wr ∧ w0.heap.size < wr.heap.size)) (fun i _ => n - (intOf i).toNat)
  case atStart => exact ⟨0, 1, by omega, rfl, Lib.hid (laid_at HV0.out), Lib.hid (by decide), Lib.hid rfl, Lib.hid ⟨below_new _ _, by simp⟩⟩
  case round =>
    obtain ⟨k, s, hk, rfl, hat, hs, hr, hbel⟩ := hrel
    obtain ⟨m, A0, n0, c0, p0, p1, f0, f1, hnum⟩ := hat.out
    have HNUM := Lib.hid hnum
    clear hnum hat
    have hz := hbel.out.2
    by_cases hlt : k < n
    · obtain ⟨b, off, rfl, hb, hc⟩ := (HI0.out.below hbel.out.1 (Nat.le_refl _)).2.2.2 (by omega)
      have hck := hc k hlt
      have HX := Lib.hid (getD_fits l k (by have := HI0.out.1; omega) HI0.out.2.2.1)
      clear hc
      have Y := Lib.hid (runs_yes (· * ·) s l k (by have := HI0.out.1; omega))
      have N := Lib.hid (runs_no (· * ·) s l k (by have := HI0.out.1; omega))
      generalize l.getD k 0 = x at hck HX Y N
      have hki : (k : Int) < (n : Int) := by omega
      have HND : Hid (NumV wr.drew 19 (.agg #[.bool m, .slice A0 n0 c0]) s) := Lib.hid (show NumV wr.drew 19 _ s from HNUM.out)
      go_wp2_with fail
      go_region_with (first
        | (go_at_call 26; refine (of_any _ _ HX.out).mono ?_; rintro e w1 ⟨⟨v1, rfl, hn1⟩, hb1⟩; have HN1 := Lib.hid hn1; have HB1 := Lib.hid hb1; have p0' := cell_kept hb1 hz p0; have p1' := cell_kept hb1 hz p1; have f0' := frozen_kept hb1 hz f0; have f1' := frozen_kept hb1 hz f1; clear hn1 hb1)
        | (go_at_call 30; refine (times_num 19 19 _ _ _ _ _ (HND.out.below HB1.out) HN1.out (by omega) (by omega)).mono ?_; rintro e w2 ⟨⟨v2, rfl, hn2⟩, hb2⟩; obtain ⟨m2, A2, n2, c2, ds2, rfl, hI2⟩ := hn2; have HN2 := Lib.hid hI2; have HB2 := Lib.hid hb2; have p0'' := cell_kept hb2 (Nat.lt_of_lt_of_le hz HB1.out.size) p0'; have p1'' := cell_kept hb2 (Nat.lt_of_lt_of_le hz HB1.out.size) p1'; have f0'' := frozen_kept hb2 (Nat.lt_of_lt_of_le hz HB1.out.size) f0'; have f1'' := frozen_kept hb2 (Nat.lt_of_lt_of_le hz HB1.out.size) f1'; clear hI2 hb2))
      all_goals
        have hst := Lib.hid (num_store m2 p0'' p1'' HN2.out.1 HN2.out.2.1 HN2.out.2.2.1 HN2.out.2.2.2.1 HN2.out.2.2.2.2.1 HN2.out.2.2.2.2.2.1 HN2.out.2.2.2.2.2.2.1 HN2.out.2.2.2.2.2.2.2)
        have cs := Lib.hid (store_cells p0'' p1'' f0'' f1'' (.bool m2) (.slice A2 n2 c2))
        have HZ : Hid (w0.heap.size < w2.heap.size) := Lib.hid (Nat.lt_of_lt_of_le (Nat.lt_of_lt_of_le hz HB1.out.size) HB2.out.size)
        have HBW : Hid (Below w0.heap.size w0 ((w2.setCell ⟨w0.heap.size, 0, none⟩ (.bool m2)).setCell ⟨w0.heap.size, 1, none⟩ (.slice A2 n2 c2))) := Lib.hid ((((hbel.out.1.drew.trans (HB1.out.mono (Nat.le_of_lt hz))).trans (HB2.out.mono (Nat.le_of_lt (Nat.lt_of_lt_of_le hz HB1.out.size)))).setCell (Nat.le_refl _) _).setCell (Nat.le_refl _) _)
        go_wp2_with fail
        refine (int_any 39 _ _ _ hst.out (by omega)).mono ?_
        rintro e w3 ⟨rfl, hb3⟩
        have HB3 := Lib.hid hb3
        clear hb3 p0 p1 f0 f1 p0' p1' f0' f1' p0'' p1'' f0'' f1''
        cases hf : fitsB (s * x)
        · go_wp2
          go_ret2
          exact ⟨by rw [← hr.out, N.out hf]; rfl, bnext HB0.out (HBW.out.trans (HB3.out.mono (by simp; exact Nat.le_of_lt HZ.out)))⟩
        · go_wp2
          go_roundw
          case rel => exact ⟨k + 1, s * x, by omega, by go_num, Lib.hid (num_at cs.out hst.out HB3.out (by simpa using HZ.out) hf), Lib.hid hf, Lib.hid (by rw [← hr.out, Y.out hf]), Lib.hid ⟨HBW.out.trans (HB3.out.mono (by simp; exact Nat.le_of_lt HZ.out)), by have := HB3.out.size; have := HZ.out; simp at *; omega⟩⟩
          case measure => simp [intOf]; omega
    · have HE : Hid (runs (· * ·) 1 l = some s) := Lib.hid (by rw [← hr.out, List.drop_eq_nil_of_le (by have := HI0.out.1; omega)]; rfl)
      go_wp2_with fail
      refine (told_any 19 _ _ _ HNUM.out (by omega)).mono ?_
      rintro e w1 ⟨rfl, hb1⟩
      have HB1 := Lib.hid hb1
      clear hb1
      go_wp2
      go_ret2
      exact ⟨ret_two (by rw [HE.out, room_ok hs.out]; rfl) (by rw [HE.out, errB_ok hs.out]; rfl), bnext HB0.out (hbel.out.1.trans (HB1.out.mono (Nat.le_of_lt hz)))⟩
end Go.Proofs.Ytgjimgopfpaimaa
