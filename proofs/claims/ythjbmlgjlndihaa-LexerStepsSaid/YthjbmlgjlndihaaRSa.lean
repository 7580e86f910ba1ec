/- Carried over from an earlier seat. -/
import Derived.Test.YthjbmlgjlndihaaRVA
import Derived.Test.YthjbmlgjlndihaaRIS
import Derived.Test.YthjbmlgjlndihaaLN
namespace Go.Proofs.Ythjbmlgjlndihaa
set_option maxRecDepth 100000
set_option maxRecDepth 100000
open Go.RowKit
set_option maxHeartbeats 800000 in
theorem text_coreB (m : Bool) (A : Option Addr) (n c : Nat) (ds : List Int) (w : World) (hI : Ints w w.heap.size A n ds) (hn : n ≤ 100000) (hd : Digs ds) :
    Calls Try.prog 26 #[.agg #[.bool m, .slice A n c]] w fun e w' => e = .returned (.string ⟨(textL m ds).toArray⟩) ∧ Below w.heap.size w w' := by
  have HI := Lib.hid hI
  have HD := Lib.hid hd
  clear hI hd
  by_cases h0 : n = 0
  · subst h0
    have HT : Hid (textL m ds = [48]) := Lib.hid (by unfold textL; rw [if_pos (List.eq_nil_of_length_eq_zero HI.out.1)])
    go_enter Try.func26, Try.ntmps26
    go_wp2
    go_ret
    exact ⟨ret_str (by rw [HT.out]), below_new _ _⟩
  · have hne : ((n : Int) == 0) = false := by rw [beq_eq_false_iff_ne]; omega
    go_enter Try.func26, Try.ntmps26
    go_wp2
    go_loopw [3, 4] (fun v i wr => ∃ (k : Nat) (bs : List UInt8), k ≤ n ∧ i = .int .i64 k ∧ v = .string ⟨bs.toArray⟩ ∧ Hid (bs = highL (ds.take k)) ∧ Hid (bs.length = k) ∧ Hid (Below (w.heap.size + 1) (w.alloc (.cells #[.bool m, .slice A n c] 61)) wr)) (fun _ i _ => n - (intOf i).toNat)
    case atStart => exact ⟨0, [], by omega, rfl, rfl, Lib.hid rfl, Lib.hid rfl, Lib.hid (Below.refl _ _)⟩
    case round =>
      obtain ⟨k, bs, hk, rfl, rfl, hv, hl, hbel⟩ := hrel
      have hz : w.heap.size < wr.heap.size := by have := hbel.out.size; simp at this; omega
      have p0 : wr.cell? ⟨w.heap.size, 0, none⟩ = some (.bool m) := cell_kept hbel.out (by show w.heap.size < _; omega) (World.cell?_alloc_at _ _ _ _ rfl)
      have p1 : wr.cell? ⟨w.heap.size, 1, none⟩ = some (.slice A n c) := cell_kept hbel.out (by show w.heap.size < _; omega) (World.cell?_alloc_at _ _ _ _ rfl)
      by_cases hT : k < n
      · obtain ⟨b, off, rfl, hb, hc⟩ := ((HI.out.below (below_new _ _) (Nat.le_refl _)).below hbel.out (by omega)).2.2.2 (by omega)
        have ck := hc k hT
        clear hc
        have d1 := digs_getD HD.out k
        have HS : Hid (byteD (ds.getD k 0) :: bs = highL (ds.take (k + 1))) := Lib.hid (by
          have hlt : k < ds.length := by have := HI.out.1; omega
          rw [List.take_succ_eq_append_getElem hlt, highL_snoc, hv.out]
          congr 1
          simp [hlt])
        generalize ds.getD k 0 = d at ck d1 HS
        have hkn : (k : Int) < (n : Int) := by omega
        have hbl : bs.length ≤ 100000 := by have := hl.out; omega
        have hcv := byte_string wr d
        have hsz : 1 + bs.length ≤ 9223372036854775807 := by omega
        go_wp2
        go_roundw
        case rel => exact ⟨k + 1, byteD d :: bs, by omega, by go_num, congrArg Value.string (cons_bytes _ _), HS, Lib.hid (by have := hl.out; simp; omega), Lib.hid (hbel.out.alloc (by omega) _)⟩
        case measure => simp [intOf]; omega
      · obtain rfl : k = n := by omega
        have HE : Hid (bs = highL ds) := Lib.hid (by rw [hv.out, List.take_of_length_le (by have := HI.out.1; omega)])
        have HNE : Hid (ds ≠ []) := Lib.hid (by intro e; have := HI.out.1; rw [e] at this; simp at this; omega)
        have hbl : bs.length ≤ 100000 := by have := hl.out; omega
        have hsz : 1 + bs.length ≤ 9223372036854775807 := by omega
        have HB : Hid (Below w.heap.size w wr) := Lib.hid ((below_new _ _).trans (hbel.out.mono (by omega)))
        cases m
        · go_wp2
          go_ret
          exact ⟨ret_str (by rw [HE.out]; simp [textL, HNE.out]), HB.out⟩
        · go_wp2
          go_ret
          exact ⟨ret_str (by rw [cons_bytes, HE.out]; simp [textL, HNE.out]), HB.out⟩

theorem text_anyB (K : Nat) (m : Bool) (A : Option Addr) (n c : Nat) (ds : List Int) (w : World) (hI : Ints w w.heap.size A n ds) (hn : n ≤ K) (hK : K ≤ 100000) (hd : Digs ds) :
    Calls Try.prog 26 #[.agg #[.bool m, .slice A n c]] w fun e w' => e = .returned (.string ⟨(textL m ds).toArray⟩) ∧ Below w.heap.size w w' :=
  text_coreB m A n c ds w hI (by omega) hd
set_option maxHeartbeats 1600000 in
set_option maxRecDepth 100000 in
theorem refParseB (s : ByteArray) (w : World) (hs : s.size ≤ 5000) :
    Calls Try.prog 21 #[.string s] w fun e w' => e = .returned (.tuple #[.int .i64 (parseV s.toList), .int .i64 (parseE s.toList)]) ∧ Below w.heap.size w w' := by
  generalize hV : parseV s.toList = V
  generalize hE : parseE s.toList = E
  have HV := Lib.hid hV
  have HE := Lib.hid hE
  clear hV hE
  go_enter Try.func21, Try.ntmps21
  go_wp2
  go_loopw [5] (fun i wr => ∃ (k : Nat) (ds : List Int), k ≤ s.size ∧ i = .int .i64 k ∧ Hid (RowAt wr w.heap.size ds) ∧ Hid (ds = dvals (procL s.toList k)) ∧ Hid ((procL s.toList k).all digB = true) ∧ Hid (ds.length ≤ k) ∧ Hid (Below w.heap.size w wr ∧ w.heap.size < wr.heap.size)) (fun i _ => s.size - (intOf i).toNat)
  case atStart => exact ⟨0, [], by omega, rfl, Lib.hid (row_empty w), Lib.hid (by rw [procL_zero]; rfl), Lib.hid (by rw [procL_zero]; rfl), Lib.hid (by simp), Lib.hid ⟨below_new _ _, by simp⟩⟩
  case round =>
    obtain ⟨k, ds, hk, rfl, hrow, hds, hdig, hpl, hbel⟩ := hrel
    have hz := hbel.out.2
    by_cases hT : k < s.size
    · obtain ⟨hkl, hbe⟩ := byte_at s k hT
      by_cases hsk : k = 0 ∧ minusB s.toList = true
      · obtain ⟨rfl, hm⟩ := hsk
        have t45 : (((s[0]'hT).toNat : Int) == 45) = true := by rw [beq_iff_eq]; have := (minus_first s hT).1 hm; omega
        have HM := Lib.hid hm
        clear hm hbe hkl
        go_wp2
        go_roundw
        case rel => exact ⟨1, ds, by omega, by go_num, hrow, Lib.hid (by rw [procL_skip _ HM.out, hds.out, procL_zero]), Lib.hid (by rw [procL_skip _ HM.out]; rfl), Lib.hid (by have := hpl.out; omega), hbel⟩
        case measure => simp [intOf]; omega
      · have NX := Lib.hid (procL_next s.toList k hkl hsk)
        have BAD := Lib.hid (arg_of_bad s.toList k hkl hsk)
        rw [hbe] at NX BAD
        have HSK : Hid (((((s[k]'hT).toNat : Int) == 45) = false) ∨ ((((s[k]'hT).toNat : Int) == 45) = true ∧ ((k : Int) == 0) = false)) := Lib.hid (by
          by_cases h45 : (s[k]'hT).toNat = 45
          · refine .inr ⟨by rw [beq_iff_eq]; omega, ?_⟩
            rw [beq_eq_false_iff_ne]
            intro h0
            have hk0 : k = 0 := by omega
            subst hk0
            exact hsk ⟨rfl, (minus_first s hT).2 h45⟩
          · exact .inl (by rw [beq_eq_false_iff_ne]; omega))
        have HSK2 := HSK.out
        clear hbe hkl hsk HSK
        by_cases b1 : ((s[k]'hT).toNat : Int) < 48
        · have PA : Hid (parseArg s.toList = true) := Lib.hid (BAD.out (by simp [digB]; omega))
          rcases HSK2 with t1 | ⟨t1, t2⟩
          all_goals
            go_wp2
            go_ret2
            exact ⟨by rw [← HV.out, ← HE.out]; exact ret_arg PA.out, hbel.out.1⟩
        · have t1 : (((s[k]'hT).toNat : Int) == 45) = false := by
            rcases HSK2 with t1 | ⟨t1, _⟩
            · exact t1
            · rw [beq_iff_eq] at t1; omega
          clear HSK2
          by_cases b2 : 57 < ((s[k]'hT).toNat : Int)
          · have PA : Hid (parseArg s.toList = true) := Lib.hid (BAD.out (by simp [digB]; omega))
            go_wp2
            go_ret2
            exact ⟨by rw [← HV.out, ← HE.out]; exact ret_arg PA.out, hbel.out.1⟩
          · obtain ⟨A, n, c, hnl, p0, p1, f0, f1, hI, hlc, hcm, hnil⟩ := hrow.out
            have HI := Lib.hid hI
            have HCM := Lib.hid hcm
            have HNIL := Lib.hid hnil
            have HNL := Lib.hid hnl
            have hn3 : n ≤ 5000 := by have := hpl.out; omega
            clear hI hcm hnil hrow hnl
            have HN2 : Hid ((((s[k]'hT).toNat : Int) - 48) :: ds = dvals (procL s.toList (k + 1))) := Lib.hid (by rw [NX.out, dvals_snoc, hds.out])
            have HDG : Hid ((procL s.toList (k + 1)).all digB = true) := Lib.hid (by rw [NX.out, List.all_append, hdig.out]; simp [digB]; omega)
            go_wp2_with (at_builtin; refine append_ints rfl (.tmp 38) (.tmp 40) rfl wr.heap.size (.slice (some ⟨wr.heap.size, 0, none⟩) 1 1) [((s[k]'hT).toNat : Int) - 48] rfl (own_int1 wr _) A wr.heap.size n c ds rfl HNIL.out (HI.out.below (below_new _ _) (Nat.le_refl _)) (by simp; omega) (by simp) ?_; intro v1 w1 ho1 hg1; have O1 := Lib.hid ho1; have B1 : Hid (Below wr.heap.size wr w1) := Lib.hid ((below_new _ _).grown hg1 (by simp) (fun g e => Nat.le_of_eq (by simpa [Value.ownBlock] using e))); have p0' := cell_kept B1.out hz p0; have p1' := cell_kept B1.out hz p1; have f0' := frozen_kept B1.out hz f0; have f1' := frozen_kept B1.out hz f1; obtain ⟨A', c', hv', hc1, hc2, hI', hnil'⟩ := OwnInts.form O1.out (by have := HNL.out; simp; omega) (by intro x hx; simp at hx; rcases hx with rfl | hx; (rw [fits_iff]; omega); exact HI.out.2.2.1 x hx); subst hv'; have RS := Lib.hid (row_store p0' p1' f0' f1' rfl hI' hc1 hc2 hnil'); clear hI' hc1 hc2 hnil' ho1 hg1)
            go_roundw
            case rel => exact ⟨k + 1, ([((s[k]'hT).toNat : Int) - 48] ++ ds), by omega, by go_num, RS, HN2, HDG, Lib.hid (by have := hpl.out; simp; omega), Lib.hid ⟨((hbel.out.1.trans (B1.out.mono (Nat.le_of_lt hz))).setCell (Nat.le_refl _) _).setCell (Nat.le_refl _) _, by have := B1.out.size; simp; omega⟩⟩
            case measure => simp [intOf]; omega
    · obtain rfl : k = s.size := by omega
      have PA : Hid (procL s.toList s.size = digsOf s.toList) := Lib.hid (procL_all _ _ (by rw [toList_len]; exact Nat.le_refl _))
      rw [PA.out] at hds hdig
      obtain ⟨A, n, c, hnl, p0, p1, f0, f1, hI, hlc, hcm, hnil⟩ := hrow.out
      have HI := Lib.hid hI
      have HCM := Lib.hid hcm
      have HNL := Lib.hid hnl
      have hn3 : n ≤ 5000 := by have := hpl.out; omega
      clear hI hcm hnil hrow hnl
      go_wp2_with fail
      by_cases h0 : 0 < s.size
      · have h0i : (0 : Int) < (s.size : Int) := by omega
        generalize hmb : (((s[0]'h0).toNat : Int) == 45) = mb
        have HMB : Hid (minusB s.toList = mb) := Lib.hid (by rw [Bool.eq_iff_iff, minus_first s h0, ← hmb, beq_iff_eq]; omega)
        go_still_tail 10, (by kernel_rfl)
        change wpList _ _ _ _ _ wr.drew
        go_wp2_with fail
        refine (trim_any _ A wr.heap.size n c ds wr.drew HI.out (Nat.le_refl _) hlc HCM.out).mono ?_
        rintro e w1 ⟨⟨j, rfl, hj, hvj, hnj⟩, hb1⟩
        have hb1' : Below wr.heap.size wr w1 := ⟨hb1.os, hb1.tape, hb1.output, hb1.size, hb1.block⟩
        have HVJ := Lib.hid hvj
        have HNJ := Lib.hid hnj
        have p0' := cell_kept hb1' hz p0
        have p1' := cell_kept hb1' hz p1
        have f0' := frozen_kept hb1' hz f0
        have f1' := frozen_kept hb1' hz f1
        have K1 : Hid (Ints w1 w1.heap.size A j (ds.take j)) := Lib.hid (((HI.out.front j hj).below hb1' (Nat.le_refl _)).more hb1'.size)
        have HB1 := Lib.hid hb1'
        clear hvj hnj hb1 hb1' p0 p1 f0 f1
        have TI : Hid (textL (mb && decide (0 < j)) (ds.take j) = s.toList ↔ parseArg s.toList = false) := Lib.hid (by
          have := text_is s.toList j hdig.out (by rw [← hds.out, ← HNL.out]; exact hj) (by rw [← hds.out]; exact HVJ.out) (by rw [← hds.out]; exact HNJ.out)
          rwa [← hds.out, HMB.out] at this)
        have TV : Hid ((if (mb && decide (0 < j)) then -valD (ds.take j) else valD (ds.take j)) = parseN mb (digsOf s.toList)) := Lib.hid (by
          have := text_val s.toList j hdig.out (by rw [← hds.out]; exact HVJ.out)
          rwa [← hds.out, HMB.out] at this)
        have HDJ : Hid (Digs (ds.take j)) := Lib.hid (digs_take (by rw [hds.out]; exact dvals_digs _ hdig.out) j)
        have ST := Lib.hid (num_store (x := parseN mb (digsOf s.toList)) (mb && decide (0 < j)) p0' p1' K1.out (show j ≤ c by omega) HCM.out (show j ≤ 5000 by omega) HDJ.out HNJ.out (by intro e; simp at e; omega) TV.out.symm)
        have cs := Lib.hid (store_cells p0' p1' f0' f1' (.bool (mb && decide (0 < j))) (.slice A j c))
        have K2 : Hid (Ints ((w1.setCell ⟨w.heap.size, 0, none⟩ (.bool (mb && decide (0 < j)))).setCell ⟨w.heap.size, 1, none⟩ (.slice A j c)) w1.heap.size A j (ds.take j)) := Lib.hid (K1.out.stores p0' p1' _ _)
        have TX := Lib.hid (text_anyB 5000 (mb && decide (0 < j)) A j c (ds.take j) ((w1.setCell ⟨w.heap.size, 0, none⟩ (.bool (mb && decide (0 < j)))).setCell ⟨w.heap.size, 1, none⟩ (.slice A j c)) (by simpa using K2.out) (by omega) (by omega) HDJ.out)
        generalize textL (mb && decide (0 < j)) (ds.take j) = tx at TI TX
        generalize hxx : parseN mb (digsOf s.toList) = xx at ST
        have HXX := Lib.hid hxx
        clear hxx
        have HBW : Hid (Below w.heap.size w ((w1.setCell ⟨w.heap.size, 0, none⟩ (.bool (mb && decide (0 < j)))).setCell ⟨w.heap.size, 1, none⟩ (.slice A j c))) := Lib.hid (((hbel.out.1.trans (HB1.out.mono (Nat.le_of_lt hz))).setCell (Nat.le_refl _) _).setCell (Nat.le_refl _) _)
        have HZW : Hid (w.heap.size < w1.heap.size) := Lib.hid (Nat.lt_of_lt_of_le hz HB1.out.size)
        go_wp2_with fail
        refine TX.out.mono ?_
        rintro e w2 ⟨rfl, hb2⟩
        have q0 := cell_kept hb2 (by simpa using HZW.out) cs.out.1
        have q1 := cell_kept hb2 (by simpa using HZW.out) cs.out.2.1
        have N2 := Lib.hid (ST.out.below hb2)
        have HB2 := Lib.hid hb2
        have HB3 : Hid (Below w.heap.size w w2) := Lib.hid (HBW.out.trans (hb2.mono (by simpa using Nat.le_of_lt HZW.out)))
        clear hb2 p0' p1' f0' f1'
        cases hpa : parseArg s.toList
        · have hte : tx = s.toList := TI.out.2 hpa
          have b1 : (tx == s.toList) = true := by rw [hte]; simp
          have HPA := Lib.hid hpa
          clear hpa hte
          go_wp2_with fail
          refine (told_any 5000 _ _ _ N2.out (by omega)).mono ?_
          rintro e w3 ⟨rfl, hb3⟩
          have HB4 := Lib.hid hb3
          clear hb3
          go_wp2
          go_ret2
          exact ⟨by rw [← HV.out, ← HE.out]; exact ret_told HPA.out (by rw [HMB.out]; exact HXX.out.symm), bnext HB3.out HB4.out⟩
        · have hte : ¬ tx = s.toList := fun e => by have := TI.out.1 e; rw [hpa] at this; cases this
          have b1 : (tx == s.toList) = false := by simp [hte]
          have HPA := Lib.hid hpa
          clear hpa hte
          go_wp2
          go_ret2
          exact ⟨by rw [← HV.out, ← HE.out]; exact ret_arg HPA.out, HB3.out⟩
      · have hnil : s.toList = [] := List.eq_nil_of_length_eq_zero (by rw [toList_len]; omega)
        have HPA : Hid (parseArg s.toList = true) := Lib.hid (by rw [hnil]; decide)
        have hds0 : ds = [] := by have := hds.out; rwa [hnil, show dvals (digsOf []) = [] from by decide] at this
        have b1 : (([48] : List UInt8) == s.toList) = false := by rw [hnil]; decide
        have d0 : decide ((0 : Int) < (s.size : Int)) = false := decide_eq_false (by omega)
        have d0' : decide (0 < s.size) = false := decide_eq_false (by omega)
        clear hnil
        subst hds0
        obtain rfl : n = 0 := HNL.out
        go_still_tail 10, (by kernel_rfl)
        change wpList _ _ _ _ _ wr.drew
        go_wp2_with fail
        refine (trim_any _ A wr.heap.size 0 c [] wr.drew HI.out (Nat.le_refl _) hlc HCM.out).mono ?_
        rintro e w1 ⟨⟨j, rfl, hj, hvj, hnj⟩, hb1⟩
        obtain rfl : j = 0 := by omega
        have hb1' : Below wr.heap.size wr w1 := ⟨hb1.os, hb1.tape, hb1.output, hb1.size, hb1.block⟩
        have p0' := cell_kept hb1' hz p0
        have p1' := cell_kept hb1' hz p1
        have f0' := frozen_kept hb1' hz f0
        have f1' := frozen_kept hb1' hz f1
        have HB1 := Lib.hid hb1'
        clear hvj hnj hb1 hb1' p0 p1 f0 f1
        have TX := Lib.hid (text_anyB 5000 false A 0 c [] ((w1.setCell ⟨w.heap.size, 0, none⟩ (.bool false)).setCell ⟨w.heap.size, 1, none⟩ (.slice A 0 c)) ⟨rfl, by omega, by simp, fun h => absurd h (by omega)⟩ (by omega) (by omega) digs_nil)
        rw [show textL false [] = [48] from rfl] at TX
        have HBW : Hid (Below w.heap.size w ((w1.setCell ⟨w.heap.size, 0, none⟩ (.bool false)).setCell ⟨w.heap.size, 1, none⟩ (.slice A 0 c))) := Lib.hid (((hbel.out.1.trans (HB1.out.mono (Nat.le_of_lt hz))).setCell (Nat.le_refl _) _).setCell (Nat.le_refl _) _)
        have HZW : Hid (w.heap.size < w1.heap.size) := Lib.hid (Nat.lt_of_lt_of_le hz HB1.out.size)
        go_wp2_with fail
        refine TX.out.mono ?_
        rintro e w2 ⟨rfl, hb2⟩
        have HB3 : Hid (Below w.heap.size w w2) := Lib.hid (HBW.out.trans (hb2.mono (by simpa using Nat.le_of_lt HZW.out)))
        clear hb2 p0' p1' f0' f1'
        go_wp2
        go_ret2
        exact ⟨by rw [← HV.out, ← HE.out]; exact ret_arg HPA.out, HB3.out⟩
end Go.Proofs.Ythjbmlgjlndihaa

