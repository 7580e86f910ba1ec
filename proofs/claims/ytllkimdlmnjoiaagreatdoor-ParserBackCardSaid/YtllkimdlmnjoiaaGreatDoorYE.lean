/- A query's text is read as it was: the law ParserBack. -/
import Derived.Test.YtllkimdlmnjoiaaGreatDoorYD
import Derived.Test.YtllkimdlmnjoiaaGreatDoorWF
namespace Go.Proofs.YtllkimdlmnjoiaaGreatDoor
set_option maxRecDepth 100000
open Go.RowKit Go.Sort

set_option maxHeartbeats 800000 in
theorem much_any11 (w : World) (d : Nat) (A : Option Addr) (c : Nat) (l : List C) (h : Ch w 0 w.heap.size d A c l) : Calls Tryz.prog 8 #[.slice A l.length c] w (MuchPostD l w) := by
  have CT := Lib.hid (qcnt_any 14 w d A c l 1200 (by omega) (by omega) (by omega) h)
  clear h
  rw [show ((14 : Nat) : Int) = 14 from rfl] at CT
  go_enter Tryz.func8, Tryz.ntmps8
  go_wp2_with fail
  refine CT.out.mono ?_
  rintro e w1 ⟨n, rfl, h0, _, hs, hb⟩
  have HB := Lib.hid hb
  have HS := Lib.hid hs
  clear hb hs CT
  by_cases hn : 1200 ≤ n
  · go_wp2
    go_ret
    exact ⟨true, rfl, HB.out, fun h => by cases h⟩
  · go_wp2
    go_ret
    refine ⟨false, by show Ending.returned (.bool (decide (1200 ≤ n))) = _; rw [decide_eq_false (by omega)], HB.out, fun _ => ⟨fun hq => ?_, by have := (HS.out (by omega)).2; rwa [List.take_length] at this⟩⟩
    have := (HS.out (by omega)).1 9 (qOk_ch hq)
    rw [List.take_length] at this
    show (([103] : Bs) ++ l.flatMap (txCall (txC 9 [95, 95]))).length ≤ _
    simp only [List.length_append, List.length_cons, List.length_nil]
    omega
set_option maxHeartbeats 6400000 in
theorem back_law (W : World) (hm : NM W) (d : Nat) (A : Option Addr) (c : Nat) (l : List C) (hl : Ch W 0 W.heap.size d A c l) :
    Calls Tryz.prog 3 #[.slice A l.length c] W fun e w' => e = .returned (.bool true) ∧ Below W.heap.size W w' := by
  have HM := Lib.hid hm
  have HL := Lib.hid hl
  have hbl := hl.big
  have CT := Lib.hid (much_any11 W _ A c l hl)
  clear hm hl
  go_enter Tryz.func3, Tryz.ntmps3
  go_wp2_with fail
  refine CT.out.mono ?_
  rintro e w1 ⟨b1, rfl, hb, hs1⟩
  have B1 := Lib.hid hb
  have HS1 := Lib.hid hs1
  have HL1 := Lib.hid (HL.out.next hb)
  clear CT hb hs1 HL
  cases b1
  case true =>
    have CT := Lib.hid (known11_any w1 (HM.out.next B1.out))
    go_wp2_with fail
    refine CT.out.mono ?_
    rintro e w2 ⟨rfl, hb⟩
    have B2 := Lib.hid (bnext B1.out hb)
    clear CT hb
    go_wp2
    go_ret
    exact ⟨rfl, B2.out⟩
  replace HS1 := Lib.hid (by first | exact HS1.out rfl | exact HS1.out trivial)
  have LEN := Lib.hid (show qOk l = true → (txC 10 [103] l).length ≤ MX from fun h => by have := HS1.out.1 h; unfold MX; omega)
  have DP := Lib.hid (show DpC 15 l from HS1.out.2)
  clear HS1
  have KN : Hid (∀ w, PJ11 W d A c l w → Calls Tryz.prog 9 #[] w fun e w' => e = .returned (.bool true) ∧ Below w.heap.size w w') := Lib.hid (fun w h => known11_any w h.nm)
  have J1 := Lib.hid (show PJ11 W d A c l w1 from ⟨B1.out, HM.out.next B1.out, HL1.out⟩)
  have INT := Lib.hid (ints_of_ch d 10 A c l HL1.out)
  clear HM HL1 B1
  by_cases hq : qOk l = true
  case neg =>
    have hq' : qOk l = false := by simpa using hq
    have P1 : Hid (∀ w, PJ11 W d A c l w → Calls Tryz.prog 10 #[.slice A l.length c] w fun e w' => e = .returned (.tuple #[.string ⟨#[]⟩, .int .i64 2]) ∧ Below w.heap.size w w') := Lib.hid (fun w h => by
      have := tprint_any w h.nm _ A c l h.ch LEN.out
      rw [prtS_no hq', hq'] at this
      exact this)
    have CK2 : Hid (∀ w, PJ11 W d A c l w → Calls Tryz.prog 11 #[.slice A l.length c] w fun e w' => e = .returned (.int .i64 2) ∧ Below w.heap.size w w') := Lib.hid (fun w h => by
      have := rCheck_any w _ A c l DP.out h.ch
      rw [hq'] at this
      exact this)
    clear hq hq' LEN DP INT
    have CT := Lib.hid (P1.out w1 J1.out)
    go_wp2_with fail
    refine CT.out.mono ?_
    rintro e w2 ⟨rfl, hb⟩
    have HJ := Lib.hid (J1.out.next hb)
    clear CT hb J1 P1
    have CT := Lib.hid (CK2.out w2 HJ.out)
    go_wp2_with fail
    refine CT.out.mono ?_
    rintro e w3 ⟨rfl, hb⟩
    replace HJ := Lib.hid (HJ.out.next hb)
    clear CT hb CK2
    have CT := Lib.hid (KN.out w3 HJ.out)
    go_wp2_with fail
    refine CT.out.mono ?_
    rintro e w4 ⟨rfl, hb⟩
    replace HJ := Lib.hid (HJ.out.next hb)
    clear CT hb KN
    go_wp2
    go_ret
    exact ⟨rfl, HJ.out.bel⟩
  obtain ⟨L, hL⟩ : ∃ z, txC 10 [103] l = z := ⟨_, rfl⟩
  obtain ⟨SA, hSA⟩ : ∃ s : ByteArray, E8.bs L = s := ⟨_, rfl⟩
  have hsz : SA.size = L.length := by rw [← hSA, E8.bs_size]
  have P1 : Hid (∀ w, PJ11 W d A c l w → Calls Tryz.prog 10 #[.slice A l.length c] w fun e w' => e = .returned (.tuple #[.string SA, .int .i64 0]) ∧ Below w.heap.size w w') := Lib.hid (fun w h => by
    have := tprint_any w h.nm _ A c l h.ch LEN.out
    rw [prtS_yes hq, hq, hL] at this
    rw [← hSA]
    exact this)
  have CT := Lib.hid (P1.out w1 J1.out)
  have HQ := Lib.hid hq
  have CK2 : Hid (∀ w, PJ11 W d A c l w → Calls Tryz.prog 11 #[.slice A l.length c] w fun e w' => e = .returned (.int .i64 0) ∧ Below w.heap.size w w') := Lib.hid (fun w h => by
    have := rCheck_any w _ A c l DP.out h.ch
    rw [HQ.out] at this
    exact this)
  have HLL := Lib.hid hL
  have HSA := Lib.hid hSA
  clear hq hL hSA DP
  by_cases hlen : 20000 < L.length
  case pos =>
    have hlen' : (20000 : Int) < (SA.size : Int) := by omega
    clear hlen hsz LEN INT
    go_wp2_with fail
    refine CT.out.mono ?_
    rintro e w2 ⟨rfl, hb⟩
    have HJ := Lib.hid (J1.out.next hb)
    clear CT hb J1 P1
    have CT := Lib.hid (CK2.out w2 HJ.out)
    go_wp2_with fail
    refine CT.out.mono ?_
    rintro e w3 ⟨rfl, hb⟩
    replace HJ := Lib.hid (HJ.out.next hb)
    clear CT hb CK2
    have CT := Lib.hid (KN.out w3 HJ.out)
    go_wp2_with fail
    refine CT.out.mono ?_
    rintro e w4 ⟨rfl, hb⟩
    replace HJ := Lib.hid (HJ.out.next hb)
    clear CT hb KN
    go_wp2
    go_ret
    exact ⟨rfl, HJ.out.bel⟩
  have hlen' : ¬ (20000 : Int) < (SA.size : Int) := by omega
  have PAR := Lib.hid (show parT L = (l, 0, 0) by
    rw [← HLL.out]
    exact par_back l HQ.out INT.out (by rw [HLL.out]; omega))
  have RND := Lib.hid (show rndT L = (L, 0, 0) by
    unfold rndT
    rw [PAR.out, if_pos rfl, HQ.out, prtS_yes HQ.out, HLL.out]
    rfl)
  have HLN := Lib.hid (show L.length ≤ 20000 by omega)
  clear hlen hsz INT CK2
  go_wp2_with fail
  refine CT.out.mono ?_
  rintro e w2 ⟨rfl, hb⟩
  have HJ := Lib.hid (J1.out.next hb)
  clear CT hb J1 P1
  obtain ⟨A1, c1, W1, hc1, hr1, hb1⟩ := conv_bytes11 w2 L (by have := HLN.out; omega)
  rw [HSA.out] at hc1
  replace HJ := Lib.hid (HJ.out.next hb1)
  have CP := parse_any W1 A1 c1 L hr1 HLN.out
  unfold ParsePost at CP
  rw [PAR.out] at CP
  replace CP := Lib.hid CP
  clear hr1 hb1
  go_wp2_with fail
  refine CP.out.mono ?_
  rintro e w3 ⟨A2, c2, rfl, hk, hb⟩
  have HK := Lib.hid (show Ch w3 0 w3.heap.size 10 A2 c2 l from Ch.more hk (Nat.zero_le _) (Nat.le_refl _) (Nat.le_refl _))
  replace HJ := Lib.hid (HJ.out.next hb)
  clear CP hb hc1 hk
  obtain ⟨A3, c3, W2, hc2, hr2, hb2⟩ := conv_bytes11 w3 L (by have := HLN.out; omega)
  rw [HSA.out] at hc2
  replace HJ := Lib.hid (HJ.out.next hb2)
  replace HK := Lib.hid (HK.out.next hb2)
  have CP := round_any W2 HJ.out.nm A3 c3 L hr2 HLN.out (by rw [PAR.out]; exact LEN.out)
  rw [RND.out, show bsT L = SA from HSA.out] at CP
  replace CP := Lib.hid CP
  clear hr2 hb2
  go_wp2_with fail
  refine CP.out.mono ?_
  rintro e w4 ⟨rfl, hb⟩
  replace HJ := Lib.hid (HJ.out.next hb)
  replace HK := Lib.hid (HK.out.next hb)
  clear CP hb hc2
  have CS := refSameC_any w4 (max d 10) A2 c2 l A c l (HK.out.up (Nat.le_max_right _ _)) (HJ.out.ch.up (Nat.le_max_left _ _))
  rw [sameC_refl] at CS
  replace CS := Lib.hid CS
  go_wp2_with fail
  refine CS.out.mono ?_
  rintro e w5 ⟨rfl, hb⟩
  replace HJ := Lib.hid (HJ.out.next hb)
  clear CS hb HK
  have hs : (SA.toList == SA.toList) = true := beq_self_eq_true _
  have CT := Lib.hid (KN.out w5 HJ.out)
  go_wp2_with fail
  refine CT.out.mono ?_
  rintro e w6 ⟨rfl, hb⟩
  replace HJ := Lib.hid (HJ.out.next hb)
  clear CT hb KN
  go_wp2
  go_ret
  exact ⟨rfl, HJ.out.bel⟩
end Go.Proofs.YtllkimdlmnjoiaaGreatDoor
