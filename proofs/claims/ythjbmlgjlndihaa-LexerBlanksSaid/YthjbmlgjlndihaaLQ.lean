/- LexerBlanks, walked. -/
import Derived.Test.YthjbmlgjlndihaaLJ
import Derived.Test.YthjbmlgjlndihaaLS
import Derived.Deep.CutBlock
import Derived.IntWalk
namespace Go.Proofs.Ythjbmlgjlndihaa
set_option maxRecDepth 100000
open Go.RowKit Go.Sort

theorem blanks_1 (W : World) (A : Option Addr) (n c : Nat) (k x : Int) (h : ¬ n ≤ 4000) : Calls Try.prog 5 #[.slice A n c, .int .i64 k, .int .u8 x] W (Tr W) := by
  have h1i : (4000 : Int) < (n : Int) := by omega
  clear h
  go_enter Try.func5, Try.ntmps5
  go_wp2_with fail
  refine (known_any _).mono ?_
  rintro e w' ⟨rfl, hb⟩
  have HB := Lib.hid hb
  clear hb
  go_wp2
  go_ret
  exact ⟨rfl, HB.out⟩
theorem blanks_2 (W : World) (A : Option Addr) (n c : Nat) (k x : Int) (q : Bs) (hA : BRow W A c q) (hn : n = q.length) (h1 : n ≤ 4000) (P : Int) (hR : Hid (allL q = ([], P, 30))) : Calls Try.prog 5 #[.slice A n c, .int .i64 k, .int .u8 x] W (Tr W) := by
  have h1i : (n : Int) ≤ 4000 := by omega
  have HN := Lib.hid hn
  clear hn
  go_enter Try.func5, Try.ntmps5
  go_wp2_with fail
  refine (all_at (by have := HN.out; omega) HN.out hR.out rfl hA).mono ?_
  rintro e w1 ⟨A1, c1, rfl, hO1, hb1⟩
  have B1 := Lib.hid hb1
  clear hO1 hb1
  go_wp2_with fail
  refine (known_any _).mono ?_
  rintro e w' ⟨rfl, hb⟩
  have HB := Lib.hid (bnext B1.out hb)
  clear hb
  go_wp2
  go_ret
  exact ⟨rfl, HB.out⟩
theorem two_32 (w : World) (o : Obj) : BRow ((w.alloc o).alloc (.cells #[.int .u8 32, .int .u8 32] 5)) (some ⟨w.heap.size + 1, 0, none⟩) 2 [32, 32] := by
  have := brow_two (w.alloc o) 32 32
  rw [World.size_alloc] at this
  exact this
theorem two_9 (w : World) (o : Obj) : BRow ((w.alloc o).alloc (.cells #[.int .u8 9, .int .u8 32] 5)) (some ⟨w.heap.size + 1, 0, none⟩) 2 [9, 32] := by
  have := brow_two (w.alloc o) 9 32
  rw [World.size_alloc] at this
  exact this
theorem two_10 (w : World) (o : Obj) : BRow ((w.alloc o).alloc (.cells #[.int .u8 10, .int .u8 32] 5)) (some ⟨w.heap.size + 1, 0, none⟩) 2 [10, 32] := by
  have := brow_two (w.alloc o) 10 32
  rw [World.size_alloc] at this
  exact this
theorem two_13 (w : World) (o : Obj) : BRow ((w.alloc o).alloc (.cells #[.int .u8 13, .int .u8 32] 5)) (some ⟨w.heap.size + 1, 0, none⟩) 2 [13, 32] := by
  have := brow_two (w.alloc o) 13 32
  rw [World.size_alloc] at this
  exact this
theorem uint_rem (z : Int) (m : Nat) (hm : m ≤ 4001) : ∃ j : Nat, j ≤ m ∧ wrap64 ((IntKind.u64.wrap z).tmod ((m : Int) + 1)) = (j : Int) := by
  have h0 : 0 ≤ IntKind.u64.wrap z := by rw [IntKind.wrap_u64]; omega
  rw [Int.tmod_eq_emod_of_nonneg h0]
  have h1 := Int.emod_nonneg (IntKind.u64.wrap z) (show ((m : Int) + 1) ≠ 0 by omega)
  have h2 := Int.emod_lt_of_pos (IntKind.u64.wrap z) (show 0 < (m : Int) + 1 by omega)
  generalize IntKind.u64.wrap z % ((m : Int) + 1) = y at h1 h2
  rw [IntWalk.wrap64_in y (by omega)]
  exact ⟨y.toNat, by omega, by omega⟩

set_option maxHeartbeats 6400000 in
theorem blanks_3_0 (W : World) (A : Option Addr) (n c : Nat) (z x : Int) (hx0 : 0 ≤ x) (hx1 : x ≤ 255) (hr : x % 4 = 0) (q : Bs) (hA : BRow W A c q) (hn : n = q.length) (h1 : n ≤ 4000)
    (L : List TK) (m : Nat) (hm : m = L.length) (hml : m ≤ 4001) (pl : Nat → Nat) (hpl : ∀ j t, L[j]? = some t → t.p = (pl j : Int) ∧ pl j ≤ n) (hpe : pl m = n) (hP : Hid (∀ x ∈ L, 0 ≤ x.p ∧ x.p ≤ 4000)) (hR : Hid (allL q = (L, 0, 0)))
    (hRq : Hid (∀ j, j ≤ m → allL (q.take (pl j) ++ 32 :: 32 :: q.drop (pl j)) = (L.take j ++ (L.drop j).map (farT 2), 0, 0))) : Calls Try.prog 5 #[.slice A n c, .int .i64 z, .int .u8 x] W (Tr W) := by
  have h1i : (n : Int) ≤ 4000 := by omega
  have HN := Lib.hid hn
  have HM := Lib.hid hm
  have HA := Lib.hid hA
  have HPL := Lib.hid hpl
  have HPE := Lib.hid hpe
  clear hn hm hA hpl hpe
  go_enter Try.func5, Try.ntmps5
  go_wp2_with fail
  refine (all_at (by have := HN.out; omega) HN.out hR.out HM.out HA.out).mono ?_
  rintro e w1 ⟨A1, c1, rfl, hO1, hb1⟩
  have B1 := Lib.hid hb1
  have O1 := Lib.hid hO1.row
  clear hO1 hb1
  go_upto_region 7 with fail
  obtain ⟨j, hj, ej⟩ := uint_rem z m hml
  rw [ej]
  clear ej
  have HRQ := Lib.hid (hRq.out j hj)
  have HMQ := Lib.hid (show m = (L.take j ++ (L.drop j).map (farT 2)).length by rw [List.length_append, List.length_map, List.length_take, List.length_drop]; have := HM.out; omega)
  by_cases hjm : j < m
  · obtain ⟨b1, o1, t, rfl, hb1, ht, q1⟩ := O1.out.elem (k := j) (by have := HM.out; omega)
    obtain ⟨hp1, hp2⟩ := HPL.out j t ht
    clear ht
    generalize pl j = p at hp1 hp2 HRQ
    obtain ⟨x0, x1', x2, x3⟩ := q1
    rw [hp1] at x1'
    have x1 := x1'
    clear x1' hp1
    have hji : (j : Int) < (m : Int) := by omega
    have hpi : (p : Int) ≤ (n : Int) := by omega
    go_upto_region 13 with fail
    clear x0 x1 x2 x3
    obtain ⟨X1, run1, X1r⟩ := (HA.out.next B1.out).front n p (by have := HN.out; omega)
    obtain ⟨X2, run2, X2r⟩ := (HA.out.next B1.out).rest n p HN.out (by omega)
    have HX1 := Lib.hid X1r
    have HX2 := Lib.hid X2r
    clear X1r X2r
    have HP := Lib.hid (show (q.take p).length = p by rw [List.length_take]; have := HN.out; omega)
    have HD := Lib.hid (show (q.drop p).length = n - p by rw [List.length_drop]; have := HN.out; omega)
    go_wp2_with (first
      | (at_builtin; refine append_anyB rfl (.tmp 58) (.tmp 61) rfl w1.heap.size (bown_nil _ _) rfl rfl HX1.out HP.out (by omega) (Nat.le_refl _) ?_; intro A3 c3 w3 hown hgr; have OW : Hid (BOwn w3 w1.heap.size A3 p c3 (q.take p)) := Lib.hid (by simpa using hown); have BG : Hid (Below w1.heap.size w1 w3) := Lib.hid (grown_below (Nat.le_refl _) (Below.refl w1.heap.size w1) hgr (fun k e => by cases e)); clear hown hgr)
      | (at_builtin; refine append_anyB rfl (.tmp 63) (.tmp 69) rfl w1.heap.size ((OW.out.next (below_new w3 _)).next (below_new _ _)) rfl rfl (two_32 w3 _) rfl (by omega) (by have := BG.out.size; simp; omega) ?_; intro A4 c4 w4 hown hgr; have OW2 : Hid (BOwn w4 w1.heap.size A4 (p + 2) c4 (q.take p ++ [32, 32])) := Lib.hid hown; have BG2 : Hid (Below w1.heap.size w1 w4) := Lib.hid (grown_below (Nat.le_refl _) ((BG.out.alloc BG.out.size _).alloc (by have := BG.out.size; simp; omega) _) hgr (own_block OW.out)); clear hown hgr)
      | (at_builtin; refine append_anyB rfl (.tmp 71) (.tmp 74) rfl w1.heap.size OW2.out rfl rfl (HX2.out.next BG2.out) HD.out (by omega) BG2.out.size ?_; intro A5 c5 w5 hown hgr; have OW3 : Hid (BOwn w5 w1.heap.size A5 (p + 2 + (n - p)) c5 ((q.take p ++ [32, 32]) ++ q.drop p)) := Lib.hid hown; have BG3 : Hid (Below w1.heap.size w1 w5) := Lib.hid (grown_below (Nat.le_refl _) BG2.out hgr (own_block OW2.out)); clear hown hgr))
    clear run1 run2
    have BR := Lib.hid (show BRow w5 A5 c5 (q.take p ++ 32 :: 32 :: q.drop p) by have := OW3.out.row; simpa using this)
    have HLQ := Lib.hid (show p + 2 + (n - p) = (q.take p ++ 32 :: 32 :: q.drop p).length by have h1 := HP.out; have h2 := HD.out; rw [List.length_append, List.length_cons, List.length_cons, h1, h2] <;> omega)
    refine (all_at (by have := HLQ.out; omega) HLQ.out HRQ.out HMQ.out BR.out).mono ?_
    rintro e w6 ⟨A6, c6, rfl, hO6, hb6⟩
    have O6 := Lib.hid hO6.row
    have O1' := Lib.hid ((O1.out.next BG3.out).next hb6)
    have B6 := Lib.hid (bnext (bnext B1.out BG3.out) hb6)
    clear hO6 hb6
    go_wp2_with fail
    go_loopw [16] (fun v wr => ∃ k : Nat, v = .int .i64 k ∧ k ≤ m ∧ Hid (Below w6.heap.size w6 wr)) (fun v _ => m - (RowKit.intOf v).toNat)
    case atStart => exact ⟨0, rfl, by omega, Lib.hid (Below.refl _ _)⟩
    case round =>
      obtain ⟨k, rfl, hk, hbel⟩ := hrel
      by_cases hlt : k < m
      · have hlti : (k : Int) < (m : Int) := by omega
        obtain ⟨b3, o3, t3, e3, hb3, ht3, q3⟩ := (O1'.out.next hbel.out).elem (k := k) (by have := HM.out; omega)
        obtain ⟨b4, o4, t4, rfl, hb4, ht4, q4⟩ := (O6.out.next hbel.out).elem (k := k) (by have := HMQ.out; omega)
        have ht4' := Lib.hid ht4
        obtain ⟨hpb0, hpb1⟩ := hP.out t3 (List.mem_of_getElem? ht3)
        clear ht4
        obtain ⟨x0, x1, x2, x3⟩ := q3
        obtain ⟨y0, y1, y2, y3⟩ := q4
        obtain ⟨eb, eo⟩ : b3 = b1 ∧ o3 = o1 := by injection e3 with e3; injection e3 with e3 e4 _; exact ⟨e3.symm, e4.symm⟩
        subst eb eo
        clear e3
        by_cases hkj : k < j
        · have e4 : t4 = t3 := by
            have := ht4'.out
            rw [List.getElem?_append_left (by rw [List.length_take]; have := HM.out; omega), List.getElem?_take, if_pos hkj, ht3] at this
            injection this with this; exact this.symm
          have hkji : (k : Int) < (j : Int) := by omega
          clear ht3
          subst e4
          go_wp2_with fail
          go_quiet (fail)
          go_wp2_with fail
          refine ⟨⟨k + 1, by go_num, by omega, Lib.hid ?_⟩, by simp [RowKit.intOf]; omega⟩
          exact (hbel.out.alloc hbel.out.size _).trans (drewN_below _ _ _)
        · have e4 : t4 = farT 2 t3 := by
            have := ht4'.out
            rw [List.getElem?_append_right (by rw [List.length_take]; have := HM.out; omega), List.length_take, List.getElem?_map, List.getElem?_drop, show j + (k - min j L.length) = k from by have := HM.out; omega, ht3] at this
            injection this with this; exact this.symm
          have hkji : (j : Int) ≤ (k : Int) := by omega
          clear ht3
          subst e4
          simp only [farT] at y0 y1 y2 y3
          go_wp2_with fail
          go_quiet (fail)
          go_wp2_with fail
          refine ⟨⟨k + 1, by go_num, by omega, Lib.hid ?_⟩, by simp [RowKit.intOf]; omega⟩
          exact (hbel.out.alloc hbel.out.size _).trans (drewN_below _ _ _)
      · obtain rfl : k = m := by omega
        go_wp2_with fail
        refine (known_any _).mono ?_
        rintro e w' ⟨rfl, hb⟩
        have HB := Lib.hid (bnext (B6.out.trans (hbel.out.mono B6.out.size)) hb)
        clear hb
        go_wp2
        go_ret
        exact ⟨rfl, HB.out⟩
  · obtain rfl : m = j := by omega
    rw [HPE.out] at HRQ
    go_upto_region 13 with fail
    obtain ⟨X1, run1, X1r⟩ := (HA.out.next B1.out).front n n (by have := HN.out; omega)
    obtain ⟨X2, run2, X2r⟩ := (HA.out.next B1.out).rest n n HN.out (by omega)
    have HX1 := Lib.hid X1r
    have HX2 := Lib.hid X2r
    clear X1r X2r
    have HP := Lib.hid (show (q.take n).length = n by rw [List.length_take]; have := HN.out; omega)
    have HD := Lib.hid (show (q.drop n).length = 0 by rw [List.length_drop]; have := HN.out; omega)
    go_wp2_with (first
      | (at_builtin; refine append_anyB rfl (.tmp 58) (.tmp 61) rfl w1.heap.size (bown_nil _ _) rfl rfl HX1.out HP.out (by omega) (Nat.le_refl _) ?_; intro A3 c3 w3 hown hgr; have OW : Hid (BOwn w3 w1.heap.size A3 n c3 (q.take n)) := Lib.hid (by simpa using hown); have BG : Hid (Below w1.heap.size w1 w3) := Lib.hid (grown_below (Nat.le_refl _) (Below.refl w1.heap.size w1) hgr (fun k e => by cases e)); clear hown hgr)
      | (at_builtin; refine append_anyB rfl (.tmp 63) (.tmp 69) rfl w1.heap.size ((OW.out.next (below_new w3 _)).next (below_new _ _)) rfl rfl (two_32 w3 _) rfl (by omega) (by have := BG.out.size; simp; omega) ?_; intro A4 c4 w4 hown hgr; have OW2 : Hid (BOwn w4 w1.heap.size A4 (n + 2) c4 (q.take n ++ [32, 32])) := Lib.hid hown; have BG2 : Hid (Below w1.heap.size w1 w4) := Lib.hid (grown_below (Nat.le_refl _) ((BG.out.alloc BG.out.size _).alloc (by have := BG.out.size; simp; omega) _) hgr (own_block OW.out)); clear hown hgr)
      | (at_builtin; refine append_anyB rfl (.tmp 71) (.tmp 74) rfl w1.heap.size OW2.out rfl rfl (HX2.out.next BG2.out) HD.out (by omega) BG2.out.size ?_; intro A5 c5 w5 hown hgr; have OW3 : Hid (BOwn w5 w1.heap.size A5 (n + 2) c5 ((q.take n ++ [32, 32]) ++ q.drop n)) := Lib.hid hown; have BG3 : Hid (Below w1.heap.size w1 w5) := Lib.hid (grown_below (Nat.le_refl _) BG2.out hgr (own_block OW2.out)); clear hown hgr))
    clear run1 run2
    have BR := Lib.hid (show BRow w5 A5 c5 (q.take n ++ 32 :: 32 :: q.drop n) by have := OW3.out.row; simpa using this)
    have HLQ := Lib.hid (show n + 2 = (q.take n ++ 32 :: 32 :: q.drop n).length by have h1 := HP.out; have h2 := HD.out; rw [List.length_append, List.length_cons, List.length_cons, h1, h2] <;> omega)
    refine (all_at (by have := HLQ.out; omega) HLQ.out HRQ.out HMQ.out BR.out).mono ?_
    rintro e w6 ⟨A6, c6, rfl, hO6, hb6⟩
    have O6 := Lib.hid hO6.row
    have O1' := Lib.hid ((O1.out.next BG3.out).next hb6)
    have B6 := Lib.hid (bnext (bnext B1.out BG3.out) hb6)
    clear hO6 hb6
    go_wp2_with fail
    go_loopw [16] (fun v wr => ∃ k : Nat, v = .int .i64 k ∧ k ≤ m ∧ Hid (Below w6.heap.size w6 wr)) (fun v _ => m - (RowKit.intOf v).toNat)
    case atStart => exact ⟨0, rfl, by omega, Lib.hid (Below.refl _ _)⟩
    case round =>
      obtain ⟨k, rfl, hk, hbel⟩ := hrel
      by_cases hlt : k < m
      · have hlti : (k : Int) < (m : Int) := by omega
        obtain ⟨b3, o3, t3, e3, hb3, ht3, q3⟩ := (O1'.out.next hbel.out).elem (k := k) (by have := HM.out; omega)
        obtain ⟨b4, o4, t4, rfl, hb4, ht4, q4⟩ := (O6.out.next hbel.out).elem (k := k) (by have := HMQ.out; omega)
        have ht4' := Lib.hid ht4
        obtain ⟨hpb0, hpb1⟩ := hP.out t3 (List.mem_of_getElem? ht3)
        clear ht4
        obtain ⟨x0, x1, x2, x3⟩ := q3
        obtain ⟨y0, y1, y2, y3⟩ := q4
        subst e3
        by_cases hkj : k < m
        · have e4 : t4 = t3 := by
            have := ht4'.out
            rw [List.getElem?_append_left (by rw [List.length_take]; have := HM.out; omega), List.getElem?_take, if_pos hkj, ht3] at this
            injection this with this; exact this.symm
          have hkji : (k : Int) < (m : Int) := by omega
          clear ht3
          subst e4
          go_wp2_with fail
          go_quiet (fail)
          go_wp2_with fail
          refine ⟨⟨k + 1, by go_num, by omega, Lib.hid ?_⟩, by simp [RowKit.intOf]; omega⟩
          exact (hbel.out.alloc hbel.out.size _).trans (drewN_below _ _ _)
        · exact absurd hlt hkj
      · obtain rfl : k = m := by omega
        go_wp2_with fail
        refine (known_any _).mono ?_
        rintro e w' ⟨rfl, hb⟩
        have HB := Lib.hid (bnext (B6.out.trans (hbel.out.mono B6.out.size)) hb)
        clear hb
        go_wp2
        go_ret
        exact ⟨rfl, HB.out⟩

set_option maxHeartbeats 6400000 in
theorem blanks_3_1 (W : World) (A : Option Addr) (n c : Nat) (z x : Int) (hx0 : 0 ≤ x) (hx1 : x ≤ 255) (hr : x % 4 = 1) (q : Bs) (hA : BRow W A c q) (hn : n = q.length) (h1 : n ≤ 4000)
    (L : List TK) (m : Nat) (hm : m = L.length) (hml : m ≤ 4001) (pl : Nat → Nat) (hpl : ∀ j t, L[j]? = some t → t.p = (pl j : Int) ∧ pl j ≤ n) (hpe : pl m = n) (hP : Hid (∀ x ∈ L, 0 ≤ x.p ∧ x.p ≤ 4000)) (hR : Hid (allL q = (L, 0, 0)))
    (hRq : Hid (∀ j, j ≤ m → allL (q.take (pl j) ++ 9 :: 32 :: q.drop (pl j)) = (L.take j ++ (L.drop j).map (farT 2), 0, 0))) : Calls Try.prog 5 #[.slice A n c, .int .i64 z, .int .u8 x] W (Tr W) := by
  have h1i : (n : Int) ≤ 4000 := by omega
  have HN := Lib.hid hn
  have HM := Lib.hid hm
  have HA := Lib.hid hA
  have HPL := Lib.hid hpl
  have HPE := Lib.hid hpe
  clear hn hm hA hpl hpe
  go_enter Try.func5, Try.ntmps5
  go_wp2_with fail
  refine (all_at (by have := HN.out; omega) HN.out hR.out HM.out HA.out).mono ?_
  rintro e w1 ⟨A1, c1, rfl, hO1, hb1⟩
  have B1 := Lib.hid hb1
  have O1 := Lib.hid hO1.row
  clear hO1 hb1
  go_upto_region 7 with fail
  obtain ⟨j, hj, ej⟩ := uint_rem z m hml
  rw [ej]
  clear ej
  have HRQ := Lib.hid (hRq.out j hj)
  have HMQ := Lib.hid (show m = (L.take j ++ (L.drop j).map (farT 2)).length by rw [List.length_append, List.length_map, List.length_take, List.length_drop]; have := HM.out; omega)
  by_cases hjm : j < m
  · obtain ⟨b1, o1, t, rfl, hb1, ht, q1⟩ := O1.out.elem (k := j) (by have := HM.out; omega)
    obtain ⟨hp1, hp2⟩ := HPL.out j t ht
    clear ht
    generalize pl j = p at hp1 hp2 HRQ
    obtain ⟨x0, x1', x2, x3⟩ := q1
    rw [hp1] at x1'
    have x1 := x1'
    clear x1' hp1
    have hji : (j : Int) < (m : Int) := by omega
    have hpi : (p : Int) ≤ (n : Int) := by omega
    go_upto_region 13 with fail
    clear x0 x1 x2 x3
    obtain ⟨X1, run1, X1r⟩ := (HA.out.next B1.out).front n p (by have := HN.out; omega)
    obtain ⟨X2, run2, X2r⟩ := (HA.out.next B1.out).rest n p HN.out (by omega)
    have HX1 := Lib.hid X1r
    have HX2 := Lib.hid X2r
    clear X1r X2r
    have HP := Lib.hid (show (q.take p).length = p by rw [List.length_take]; have := HN.out; omega)
    have HD := Lib.hid (show (q.drop p).length = n - p by rw [List.length_drop]; have := HN.out; omega)
    go_wp2_with (first
      | (at_builtin; refine append_anyB rfl (.tmp 58) (.tmp 61) rfl w1.heap.size (bown_nil _ _) rfl rfl HX1.out HP.out (by omega) (Nat.le_refl _) ?_; intro A3 c3 w3 hown hgr; have OW : Hid (BOwn w3 w1.heap.size A3 p c3 (q.take p)) := Lib.hid (by simpa using hown); have BG : Hid (Below w1.heap.size w1 w3) := Lib.hid (grown_below (Nat.le_refl _) (Below.refl w1.heap.size w1) hgr (fun k e => by cases e)); clear hown hgr)
      | (at_builtin; refine append_anyB rfl (.tmp 63) (.tmp 69) rfl w1.heap.size ((OW.out.next (below_new w3 _)).next (below_new _ _)) rfl rfl (two_9 w3 _) rfl (by omega) (by have := BG.out.size; simp; omega) ?_; intro A4 c4 w4 hown hgr; have OW2 : Hid (BOwn w4 w1.heap.size A4 (p + 2) c4 (q.take p ++ [9, 32])) := Lib.hid hown; have BG2 : Hid (Below w1.heap.size w1 w4) := Lib.hid (grown_below (Nat.le_refl _) ((BG.out.alloc BG.out.size _).alloc (by have := BG.out.size; simp; omega) _) hgr (own_block OW.out)); clear hown hgr)
      | (at_builtin; refine append_anyB rfl (.tmp 71) (.tmp 74) rfl w1.heap.size OW2.out rfl rfl (HX2.out.next BG2.out) HD.out (by omega) BG2.out.size ?_; intro A5 c5 w5 hown hgr; have OW3 : Hid (BOwn w5 w1.heap.size A5 (p + 2 + (n - p)) c5 ((q.take p ++ [9, 32]) ++ q.drop p)) := Lib.hid hown; have BG3 : Hid (Below w1.heap.size w1 w5) := Lib.hid (grown_below (Nat.le_refl _) BG2.out hgr (own_block OW2.out)); clear hown hgr))
    clear run1 run2
    have BR := Lib.hid (show BRow w5 A5 c5 (q.take p ++ 9 :: 32 :: q.drop p) by have := OW3.out.row; simpa using this)
    have HLQ := Lib.hid (show p + 2 + (n - p) = (q.take p ++ 9 :: 32 :: q.drop p).length by have h1 := HP.out; have h2 := HD.out; rw [List.length_append, List.length_cons, List.length_cons, h1, h2] <;> omega)
    refine (all_at (by have := HLQ.out; omega) HLQ.out HRQ.out HMQ.out BR.out).mono ?_
    rintro e w6 ⟨A6, c6, rfl, hO6, hb6⟩
    have O6 := Lib.hid hO6.row
    have O1' := Lib.hid ((O1.out.next BG3.out).next hb6)
    have B6 := Lib.hid (bnext (bnext B1.out BG3.out) hb6)
    clear hO6 hb6
    go_wp2_with fail
    go_loopw [16] (fun v wr => ∃ k : Nat, v = .int .i64 k ∧ k ≤ m ∧ Hid (Below w6.heap.size w6 wr)) (fun v _ => m - (RowKit.intOf v).toNat)
    case atStart => exact ⟨0, rfl, by omega, Lib.hid (Below.refl _ _)⟩
    case round =>
      obtain ⟨k, rfl, hk, hbel⟩ := hrel
      by_cases hlt : k < m
      · have hlti : (k : Int) < (m : Int) := by omega
        obtain ⟨b3, o3, t3, e3, hb3, ht3, q3⟩ := (O1'.out.next hbel.out).elem (k := k) (by have := HM.out; omega)
        obtain ⟨b4, o4, t4, rfl, hb4, ht4, q4⟩ := (O6.out.next hbel.out).elem (k := k) (by have := HMQ.out; omega)
        have ht4' := Lib.hid ht4
        obtain ⟨hpb0, hpb1⟩ := hP.out t3 (List.mem_of_getElem? ht3)
        clear ht4
        obtain ⟨x0, x1, x2, x3⟩ := q3
        obtain ⟨y0, y1, y2, y3⟩ := q4
        obtain ⟨eb, eo⟩ : b3 = b1 ∧ o3 = o1 := by injection e3 with e3; injection e3 with e3 e4 _; exact ⟨e3.symm, e4.symm⟩
        subst eb eo
        clear e3
        by_cases hkj : k < j
        · have e4 : t4 = t3 := by
            have := ht4'.out
            rw [List.getElem?_append_left (by rw [List.length_take]; have := HM.out; omega), List.getElem?_take, if_pos hkj, ht3] at this
            injection this with this; exact this.symm
          have hkji : (k : Int) < (j : Int) := by omega
          clear ht3
          subst e4
          go_wp2_with fail
          go_quiet (fail)
          go_wp2_with fail
          refine ⟨⟨k + 1, by go_num, by omega, Lib.hid ?_⟩, by simp [RowKit.intOf]; omega⟩
          exact (hbel.out.alloc hbel.out.size _).trans (drewN_below _ _ _)
        · have e4 : t4 = farT 2 t3 := by
            have := ht4'.out
            rw [List.getElem?_append_right (by rw [List.length_take]; have := HM.out; omega), List.length_take, List.getElem?_map, List.getElem?_drop, show j + (k - min j L.length) = k from by have := HM.out; omega, ht3] at this
            injection this with this; exact this.symm
          have hkji : (j : Int) ≤ (k : Int) := by omega
          clear ht3
          subst e4
          simp only [farT] at y0 y1 y2 y3
          go_wp2_with fail
          go_quiet (fail)
          go_wp2_with fail
          refine ⟨⟨k + 1, by go_num, by omega, Lib.hid ?_⟩, by simp [RowKit.intOf]; omega⟩
          exact (hbel.out.alloc hbel.out.size _).trans (drewN_below _ _ _)
      · obtain rfl : k = m := by omega
        go_wp2_with fail
        refine (known_any _).mono ?_
        rintro e w' ⟨rfl, hb⟩
        have HB := Lib.hid (bnext (B6.out.trans (hbel.out.mono B6.out.size)) hb)
        clear hb
        go_wp2
        go_ret
        exact ⟨rfl, HB.out⟩
  · obtain rfl : m = j := by omega
    rw [HPE.out] at HRQ
    go_upto_region 13 with fail
    obtain ⟨X1, run1, X1r⟩ := (HA.out.next B1.out).front n n (by have := HN.out; omega)
    obtain ⟨X2, run2, X2r⟩ := (HA.out.next B1.out).rest n n HN.out (by omega)
    have HX1 := Lib.hid X1r
    have HX2 := Lib.hid X2r
    clear X1r X2r
    have HP := Lib.hid (show (q.take n).length = n by rw [List.length_take]; have := HN.out; omega)
    have HD := Lib.hid (show (q.drop n).length = 0 by rw [List.length_drop]; have := HN.out; omega)
    go_wp2_with (first
      | (at_builtin; refine append_anyB rfl (.tmp 58) (.tmp 61) rfl w1.heap.size (bown_nil _ _) rfl rfl HX1.out HP.out (by omega) (Nat.le_refl _) ?_; intro A3 c3 w3 hown hgr; have OW : Hid (BOwn w3 w1.heap.size A3 n c3 (q.take n)) := Lib.hid (by simpa using hown); have BG : Hid (Below w1.heap.size w1 w3) := Lib.hid (grown_below (Nat.le_refl _) (Below.refl w1.heap.size w1) hgr (fun k e => by cases e)); clear hown hgr)
      | (at_builtin; refine append_anyB rfl (.tmp 63) (.tmp 69) rfl w1.heap.size ((OW.out.next (below_new w3 _)).next (below_new _ _)) rfl rfl (two_9 w3 _) rfl (by omega) (by have := BG.out.size; simp; omega) ?_; intro A4 c4 w4 hown hgr; have OW2 : Hid (BOwn w4 w1.heap.size A4 (n + 2) c4 (q.take n ++ [9, 32])) := Lib.hid hown; have BG2 : Hid (Below w1.heap.size w1 w4) := Lib.hid (grown_below (Nat.le_refl _) ((BG.out.alloc BG.out.size _).alloc (by have := BG.out.size; simp; omega) _) hgr (own_block OW.out)); clear hown hgr)
      | (at_builtin; refine append_anyB rfl (.tmp 71) (.tmp 74) rfl w1.heap.size OW2.out rfl rfl (HX2.out.next BG2.out) HD.out (by omega) BG2.out.size ?_; intro A5 c5 w5 hown hgr; have OW3 : Hid (BOwn w5 w1.heap.size A5 (n + 2) c5 ((q.take n ++ [9, 32]) ++ q.drop n)) := Lib.hid hown; have BG3 : Hid (Below w1.heap.size w1 w5) := Lib.hid (grown_below (Nat.le_refl _) BG2.out hgr (own_block OW2.out)); clear hown hgr))
    clear run1 run2
    have BR := Lib.hid (show BRow w5 A5 c5 (q.take n ++ 9 :: 32 :: q.drop n) by have := OW3.out.row; simpa using this)
    have HLQ := Lib.hid (show n + 2 = (q.take n ++ 9 :: 32 :: q.drop n).length by have h1 := HP.out; have h2 := HD.out; rw [List.length_append, List.length_cons, List.length_cons, h1, h2] <;> omega)
    refine (all_at (by have := HLQ.out; omega) HLQ.out HRQ.out HMQ.out BR.out).mono ?_
    rintro e w6 ⟨A6, c6, rfl, hO6, hb6⟩
    have O6 := Lib.hid hO6.row
    have O1' := Lib.hid ((O1.out.next BG3.out).next hb6)
    have B6 := Lib.hid (bnext (bnext B1.out BG3.out) hb6)
    clear hO6 hb6
    go_wp2_with fail
    go_loopw [16] (fun v wr => ∃ k : Nat, v = .int .i64 k ∧ k ≤ m ∧ Hid (Below w6.heap.size w6 wr)) (fun v _ => m - (RowKit.intOf v).toNat)
    case atStart => exact ⟨0, rfl, by omega, Lib.hid (Below.refl _ _)⟩
    case round =>
      obtain ⟨k, rfl, hk, hbel⟩ := hrel
      by_cases hlt : k < m
      · have hlti : (k : Int) < (m : Int) := by omega
        obtain ⟨b3, o3, t3, e3, hb3, ht3, q3⟩ := (O1'.out.next hbel.out).elem (k := k) (by have := HM.out; omega)
        obtain ⟨b4, o4, t4, rfl, hb4, ht4, q4⟩ := (O6.out.next hbel.out).elem (k := k) (by have := HMQ.out; omega)
        have ht4' := Lib.hid ht4
        obtain ⟨hpb0, hpb1⟩ := hP.out t3 (List.mem_of_getElem? ht3)
        clear ht4
        obtain ⟨x0, x1, x2, x3⟩ := q3
        obtain ⟨y0, y1, y2, y3⟩ := q4
        subst e3
        by_cases hkj : k < m
        · have e4 : t4 = t3 := by
            have := ht4'.out
            rw [List.getElem?_append_left (by rw [List.length_take]; have := HM.out; omega), List.getElem?_take, if_pos hkj, ht3] at this
            injection this with this; exact this.symm
          have hkji : (k : Int) < (m : Int) := by omega
          clear ht3
          subst e4
          go_wp2_with fail
          go_quiet (fail)
          go_wp2_with fail
          refine ⟨⟨k + 1, by go_num, by omega, Lib.hid ?_⟩, by simp [RowKit.intOf]; omega⟩
          exact (hbel.out.alloc hbel.out.size _).trans (drewN_below _ _ _)
        · exact absurd hlt hkj
      · obtain rfl : k = m := by omega
        go_wp2_with fail
        refine (known_any _).mono ?_
        rintro e w' ⟨rfl, hb⟩
        have HB := Lib.hid (bnext (B6.out.trans (hbel.out.mono B6.out.size)) hb)
        clear hb
        go_wp2
        go_ret
        exact ⟨rfl, HB.out⟩

set_option maxHeartbeats 6400000 in
theorem blanks_3_2 (W : World) (A : Option Addr) (n c : Nat) (z x : Int) (hx0 : 0 ≤ x) (hx1 : x ≤ 255) (hr : x % 4 = 2) (q : Bs) (hA : BRow W A c q) (hn : n = q.length) (h1 : n ≤ 4000)
    (L : List TK) (m : Nat) (hm : m = L.length) (hml : m ≤ 4001) (pl : Nat → Nat) (hpl : ∀ j t, L[j]? = some t → t.p = (pl j : Int) ∧ pl j ≤ n) (hpe : pl m = n) (hP : Hid (∀ x ∈ L, 0 ≤ x.p ∧ x.p ≤ 4000)) (hR : Hid (allL q = (L, 0, 0)))
    (hRq : Hid (∀ j, j ≤ m → allL (q.take (pl j) ++ 10 :: 32 :: q.drop (pl j)) = (L.take j ++ (L.drop j).map (farT 2), 0, 0))) : Calls Try.prog 5 #[.slice A n c, .int .i64 z, .int .u8 x] W (Tr W) := by
  have h1i : (n : Int) ≤ 4000 := by omega
  have HN := Lib.hid hn
  have HM := Lib.hid hm
  have HA := Lib.hid hA
  have HPL := Lib.hid hpl
  have HPE := Lib.hid hpe
  clear hn hm hA hpl hpe
  go_enter Try.func5, Try.ntmps5
  go_wp2_with fail
  refine (all_at (by have := HN.out; omega) HN.out hR.out HM.out HA.out).mono ?_
  rintro e w1 ⟨A1, c1, rfl, hO1, hb1⟩
  have B1 := Lib.hid hb1
  have O1 := Lib.hid hO1.row
  clear hO1 hb1
  go_upto_region 7 with fail
  obtain ⟨j, hj, ej⟩ := uint_rem z m hml
  rw [ej]
  clear ej
  have HRQ := Lib.hid (hRq.out j hj)
  have HMQ := Lib.hid (show m = (L.take j ++ (L.drop j).map (farT 2)).length by rw [List.length_append, List.length_map, List.length_take, List.length_drop]; have := HM.out; omega)
  by_cases hjm : j < m
  · obtain ⟨b1, o1, t, rfl, hb1, ht, q1⟩ := O1.out.elem (k := j) (by have := HM.out; omega)
    obtain ⟨hp1, hp2⟩ := HPL.out j t ht
    clear ht
    generalize pl j = p at hp1 hp2 HRQ
    obtain ⟨x0, x1', x2, x3⟩ := q1
    rw [hp1] at x1'
    have x1 := x1'
    clear x1' hp1
    have hji : (j : Int) < (m : Int) := by omega
    have hpi : (p : Int) ≤ (n : Int) := by omega
    go_upto_region 13 with fail
    clear x0 x1 x2 x3
    obtain ⟨X1, run1, X1r⟩ := (HA.out.next B1.out).front n p (by have := HN.out; omega)
    obtain ⟨X2, run2, X2r⟩ := (HA.out.next B1.out).rest n p HN.out (by omega)
    have HX1 := Lib.hid X1r
    have HX2 := Lib.hid X2r
    clear X1r X2r
    have HP := Lib.hid (show (q.take p).length = p by rw [List.length_take]; have := HN.out; omega)
    have HD := Lib.hid (show (q.drop p).length = n - p by rw [List.length_drop]; have := HN.out; omega)
    go_wp2_with (first
      | (at_builtin; refine append_anyB rfl (.tmp 58) (.tmp 61) rfl w1.heap.size (bown_nil _ _) rfl rfl HX1.out HP.out (by omega) (Nat.le_refl _) ?_; intro A3 c3 w3 hown hgr; have OW : Hid (BOwn w3 w1.heap.size A3 p c3 (q.take p)) := Lib.hid (by simpa using hown); have BG : Hid (Below w1.heap.size w1 w3) := Lib.hid (grown_below (Nat.le_refl _) (Below.refl w1.heap.size w1) hgr (fun k e => by cases e)); clear hown hgr)
      | (at_builtin; refine append_anyB rfl (.tmp 63) (.tmp 69) rfl w1.heap.size ((OW.out.next (below_new w3 _)).next (below_new _ _)) rfl rfl (two_10 w3 _) rfl (by omega) (by have := BG.out.size; simp; omega) ?_; intro A4 c4 w4 hown hgr; have OW2 : Hid (BOwn w4 w1.heap.size A4 (p + 2) c4 (q.take p ++ [10, 32])) := Lib.hid hown; have BG2 : Hid (Below w1.heap.size w1 w4) := Lib.hid (grown_below (Nat.le_refl _) ((BG.out.alloc BG.out.size _).alloc (by have := BG.out.size; simp; omega) _) hgr (own_block OW.out)); clear hown hgr)
      | (at_builtin; refine append_anyB rfl (.tmp 71) (.tmp 74) rfl w1.heap.size OW2.out rfl rfl (HX2.out.next BG2.out) HD.out (by omega) BG2.out.size ?_; intro A5 c5 w5 hown hgr; have OW3 : Hid (BOwn w5 w1.heap.size A5 (p + 2 + (n - p)) c5 ((q.take p ++ [10, 32]) ++ q.drop p)) := Lib.hid hown; have BG3 : Hid (Below w1.heap.size w1 w5) := Lib.hid (grown_below (Nat.le_refl _) BG2.out hgr (own_block OW2.out)); clear hown hgr))
    clear run1 run2
    have BR := Lib.hid (show BRow w5 A5 c5 (q.take p ++ 10 :: 32 :: q.drop p) by have := OW3.out.row; simpa using this)
    have HLQ := Lib.hid (show p + 2 + (n - p) = (q.take p ++ 10 :: 32 :: q.drop p).length by have h1 := HP.out; have h2 := HD.out; rw [List.length_append, List.length_cons, List.length_cons, h1, h2] <;> omega)
    refine (all_at (by have := HLQ.out; omega) HLQ.out HRQ.out HMQ.out BR.out).mono ?_
    rintro e w6 ⟨A6, c6, rfl, hO6, hb6⟩
    have O6 := Lib.hid hO6.row
    have O1' := Lib.hid ((O1.out.next BG3.out).next hb6)
    have B6 := Lib.hid (bnext (bnext B1.out BG3.out) hb6)
    clear hO6 hb6
    go_wp2_with fail
    go_loopw [16] (fun v wr => ∃ k : Nat, v = .int .i64 k ∧ k ≤ m ∧ Hid (Below w6.heap.size w6 wr)) (fun v _ => m - (RowKit.intOf v).toNat)
    case atStart => exact ⟨0, rfl, by omega, Lib.hid (Below.refl _ _)⟩
    case round =>
      obtain ⟨k, rfl, hk, hbel⟩ := hrel
      by_cases hlt : k < m
      · have hlti : (k : Int) < (m : Int) := by omega
        obtain ⟨b3, o3, t3, e3, hb3, ht3, q3⟩ := (O1'.out.next hbel.out).elem (k := k) (by have := HM.out; omega)
        obtain ⟨b4, o4, t4, rfl, hb4, ht4, q4⟩ := (O6.out.next hbel.out).elem (k := k) (by have := HMQ.out; omega)
        have ht4' := Lib.hid ht4
        obtain ⟨hpb0, hpb1⟩ := hP.out t3 (List.mem_of_getElem? ht3)
        clear ht4
        obtain ⟨x0, x1, x2, x3⟩ := q3
        obtain ⟨y0, y1, y2, y3⟩ := q4
        obtain ⟨eb, eo⟩ : b3 = b1 ∧ o3 = o1 := by injection e3 with e3; injection e3 with e3 e4 _; exact ⟨e3.symm, e4.symm⟩
        subst eb eo
        clear e3
        by_cases hkj : k < j
        · have e4 : t4 = t3 := by
            have := ht4'.out
            rw [List.getElem?_append_left (by rw [List.length_take]; have := HM.out; omega), List.getElem?_take, if_pos hkj, ht3] at this
            injection this with this; exact this.symm
          have hkji : (k : Int) < (j : Int) := by omega
          clear ht3
          subst e4
          go_wp2_with fail
          go_quiet (fail)
          go_wp2_with fail
          refine ⟨⟨k + 1, by go_num, by omega, Lib.hid ?_⟩, by simp [RowKit.intOf]; omega⟩
          exact (hbel.out.alloc hbel.out.size _).trans (drewN_below _ _ _)
        · have e4 : t4 = farT 2 t3 := by
            have := ht4'.out
            rw [List.getElem?_append_right (by rw [List.length_take]; have := HM.out; omega), List.length_take, List.getElem?_map, List.getElem?_drop, show j + (k - min j L.length) = k from by have := HM.out; omega, ht3] at this
            injection this with this; exact this.symm
          have hkji : (j : Int) ≤ (k : Int) := by omega
          clear ht3
          subst e4
          simp only [farT] at y0 y1 y2 y3
          go_wp2_with fail
          go_quiet (fail)
          go_wp2_with fail
          refine ⟨⟨k + 1, by go_num, by omega, Lib.hid ?_⟩, by simp [RowKit.intOf]; omega⟩
          exact (hbel.out.alloc hbel.out.size _).trans (drewN_below _ _ _)
      · obtain rfl : k = m := by omega
        go_wp2_with fail
        refine (known_any _).mono ?_
        rintro e w' ⟨rfl, hb⟩
        have HB := Lib.hid (bnext (B6.out.trans (hbel.out.mono B6.out.size)) hb)
        clear hb
        go_wp2
        go_ret
        exact ⟨rfl, HB.out⟩
  · obtain rfl : m = j := by omega
    rw [HPE.out] at HRQ
    go_upto_region 13 with fail
    obtain ⟨X1, run1, X1r⟩ := (HA.out.next B1.out).front n n (by have := HN.out; omega)
    obtain ⟨X2, run2, X2r⟩ := (HA.out.next B1.out).rest n n HN.out (by omega)
    have HX1 := Lib.hid X1r
    have HX2 := Lib.hid X2r
    clear X1r X2r
    have HP := Lib.hid (show (q.take n).length = n by rw [List.length_take]; have := HN.out; omega)
    have HD := Lib.hid (show (q.drop n).length = 0 by rw [List.length_drop]; have := HN.out; omega)
    go_wp2_with (first
      | (at_builtin; refine append_anyB rfl (.tmp 58) (.tmp 61) rfl w1.heap.size (bown_nil _ _) rfl rfl HX1.out HP.out (by omega) (Nat.le_refl _) ?_; intro A3 c3 w3 hown hgr; have OW : Hid (BOwn w3 w1.heap.size A3 n c3 (q.take n)) := Lib.hid (by simpa using hown); have BG : Hid (Below w1.heap.size w1 w3) := Lib.hid (grown_below (Nat.le_refl _) (Below.refl w1.heap.size w1) hgr (fun k e => by cases e)); clear hown hgr)
      | (at_builtin; refine append_anyB rfl (.tmp 63) (.tmp 69) rfl w1.heap.size ((OW.out.next (below_new w3 _)).next (below_new _ _)) rfl rfl (two_10 w3 _) rfl (by omega) (by have := BG.out.size; simp; omega) ?_; intro A4 c4 w4 hown hgr; have OW2 : Hid (BOwn w4 w1.heap.size A4 (n + 2) c4 (q.take n ++ [10, 32])) := Lib.hid hown; have BG2 : Hid (Below w1.heap.size w1 w4) := Lib.hid (grown_below (Nat.le_refl _) ((BG.out.alloc BG.out.size _).alloc (by have := BG.out.size; simp; omega) _) hgr (own_block OW.out)); clear hown hgr)
      | (at_builtin; refine append_anyB rfl (.tmp 71) (.tmp 74) rfl w1.heap.size OW2.out rfl rfl (HX2.out.next BG2.out) HD.out (by omega) BG2.out.size ?_; intro A5 c5 w5 hown hgr; have OW3 : Hid (BOwn w5 w1.heap.size A5 (n + 2) c5 ((q.take n ++ [10, 32]) ++ q.drop n)) := Lib.hid hown; have BG3 : Hid (Below w1.heap.size w1 w5) := Lib.hid (grown_below (Nat.le_refl _) BG2.out hgr (own_block OW2.out)); clear hown hgr))
    clear run1 run2
    have BR := Lib.hid (show BRow w5 A5 c5 (q.take n ++ 10 :: 32 :: q.drop n) by have := OW3.out.row; simpa using this)
    have HLQ := Lib.hid (show n + 2 = (q.take n ++ 10 :: 32 :: q.drop n).length by have h1 := HP.out; have h2 := HD.out; rw [List.length_append, List.length_cons, List.length_cons, h1, h2] <;> omega)
    refine (all_at (by have := HLQ.out; omega) HLQ.out HRQ.out HMQ.out BR.out).mono ?_
    rintro e w6 ⟨A6, c6, rfl, hO6, hb6⟩
    have O6 := Lib.hid hO6.row
    have O1' := Lib.hid ((O1.out.next BG3.out).next hb6)
    have B6 := Lib.hid (bnext (bnext B1.out BG3.out) hb6)
    clear hO6 hb6
    go_wp2_with fail
    go_loopw [16] (fun v wr => ∃ k : Nat, v = .int .i64 k ∧ k ≤ m ∧ Hid (Below w6.heap.size w6 wr)) (fun v _ => m - (RowKit.intOf v).toNat)
    case atStart => exact ⟨0, rfl, by omega, Lib.hid (Below.refl _ _)⟩
    case round =>
      obtain ⟨k, rfl, hk, hbel⟩ := hrel
      by_cases hlt : k < m
      · have hlti : (k : Int) < (m : Int) := by omega
        obtain ⟨b3, o3, t3, e3, hb3, ht3, q3⟩ := (O1'.out.next hbel.out).elem (k := k) (by have := HM.out; omega)
        obtain ⟨b4, o4, t4, rfl, hb4, ht4, q4⟩ := (O6.out.next hbel.out).elem (k := k) (by have := HMQ.out; omega)
        have ht4' := Lib.hid ht4
        obtain ⟨hpb0, hpb1⟩ := hP.out t3 (List.mem_of_getElem? ht3)
        clear ht4
        obtain ⟨x0, x1, x2, x3⟩ := q3
        obtain ⟨y0, y1, y2, y3⟩ := q4
        subst e3
        by_cases hkj : k < m
        · have e4 : t4 = t3 := by
            have := ht4'.out
            rw [List.getElem?_append_left (by rw [List.length_take]; have := HM.out; omega), List.getElem?_take, if_pos hkj, ht3] at this
            injection this with this; exact this.symm
          have hkji : (k : Int) < (m : Int) := by omega
          clear ht3
          subst e4
          go_wp2_with fail
          go_quiet (fail)
          go_wp2_with fail
          refine ⟨⟨k + 1, by go_num, by omega, Lib.hid ?_⟩, by simp [RowKit.intOf]; omega⟩
          exact (hbel.out.alloc hbel.out.size _).trans (drewN_below _ _ _)
        · exact absurd hlt hkj
      · obtain rfl : k = m := by omega
        go_wp2_with fail
        refine (known_any _).mono ?_
        rintro e w' ⟨rfl, hb⟩
        have HB := Lib.hid (bnext (B6.out.trans (hbel.out.mono B6.out.size)) hb)
        clear hb
        go_wp2
        go_ret
        exact ⟨rfl, HB.out⟩

set_option maxHeartbeats 6400000 in
theorem blanks_3_3 (W : World) (A : Option Addr) (n c : Nat) (z x : Int) (hx0 : 0 ≤ x) (hx1 : x ≤ 255) (hr : x % 4 = 3) (q : Bs) (hA : BRow W A c q) (hn : n = q.length) (h1 : n ≤ 4000)
    (L : List TK) (m : Nat) (hm : m = L.length) (hml : m ≤ 4001) (pl : Nat → Nat) (hpl : ∀ j t, L[j]? = some t → t.p = (pl j : Int) ∧ pl j ≤ n) (hpe : pl m = n) (hP : Hid (∀ x ∈ L, 0 ≤ x.p ∧ x.p ≤ 4000)) (hR : Hid (allL q = (L, 0, 0)))
    (hRq : Hid (∀ j, j ≤ m → allL (q.take (pl j) ++ 13 :: 32 :: q.drop (pl j)) = (L.take j ++ (L.drop j).map (farT 2), 0, 0))) : Calls Try.prog 5 #[.slice A n c, .int .i64 z, .int .u8 x] W (Tr W) := by
  have h1i : (n : Int) ≤ 4000 := by omega
  have HN := Lib.hid hn
  have HM := Lib.hid hm
  have HA := Lib.hid hA
  have HPL := Lib.hid hpl
  have HPE := Lib.hid hpe
  clear hn hm hA hpl hpe
  go_enter Try.func5, Try.ntmps5
  go_wp2_with fail
  refine (all_at (by have := HN.out; omega) HN.out hR.out HM.out HA.out).mono ?_
  rintro e w1 ⟨A1, c1, rfl, hO1, hb1⟩
  have B1 := Lib.hid hb1
  have O1 := Lib.hid hO1.row
  clear hO1 hb1
  go_upto_region 7 with fail
  obtain ⟨j, hj, ej⟩ := uint_rem z m hml
  rw [ej]
  clear ej
  have HRQ := Lib.hid (hRq.out j hj)
  have HMQ := Lib.hid (show m = (L.take j ++ (L.drop j).map (farT 2)).length by rw [List.length_append, List.length_map, List.length_take, List.length_drop]; have := HM.out; omega)
  by_cases hjm : j < m
  · obtain ⟨b1, o1, t, rfl, hb1, ht, q1⟩ := O1.out.elem (k := j) (by have := HM.out; omega)
    obtain ⟨hp1, hp2⟩ := HPL.out j t ht
    clear ht
    generalize pl j = p at hp1 hp2 HRQ
    obtain ⟨x0, x1', x2, x3⟩ := q1
    rw [hp1] at x1'
    have x1 := x1'
    clear x1' hp1
    have hji : (j : Int) < (m : Int) := by omega
    have hpi : (p : Int) ≤ (n : Int) := by omega
    go_upto_region 13 with fail
    clear x0 x1 x2 x3
    obtain ⟨X1, run1, X1r⟩ := (HA.out.next B1.out).front n p (by have := HN.out; omega)
    obtain ⟨X2, run2, X2r⟩ := (HA.out.next B1.out).rest n p HN.out (by omega)
    have HX1 := Lib.hid X1r
    have HX2 := Lib.hid X2r
    clear X1r X2r
    have HP := Lib.hid (show (q.take p).length = p by rw [List.length_take]; have := HN.out; omega)
    have HD := Lib.hid (show (q.drop p).length = n - p by rw [List.length_drop]; have := HN.out; omega)
    go_wp2_with (first
      | (at_builtin; refine append_anyB rfl (.tmp 58) (.tmp 61) rfl w1.heap.size (bown_nil _ _) rfl rfl HX1.out HP.out (by omega) (Nat.le_refl _) ?_; intro A3 c3 w3 hown hgr; have OW : Hid (BOwn w3 w1.heap.size A3 p c3 (q.take p)) := Lib.hid (by simpa using hown); have BG : Hid (Below w1.heap.size w1 w3) := Lib.hid (grown_below (Nat.le_refl _) (Below.refl w1.heap.size w1) hgr (fun k e => by cases e)); clear hown hgr)
      | (at_builtin; refine append_anyB rfl (.tmp 63) (.tmp 69) rfl w1.heap.size ((OW.out.next (below_new w3 _)).next (below_new _ _)) rfl rfl (two_13 w3 _) rfl (by omega) (by have := BG.out.size; simp; omega) ?_; intro A4 c4 w4 hown hgr; have OW2 : Hid (BOwn w4 w1.heap.size A4 (p + 2) c4 (q.take p ++ [13, 32])) := Lib.hid hown; have BG2 : Hid (Below w1.heap.size w1 w4) := Lib.hid (grown_below (Nat.le_refl _) ((BG.out.alloc BG.out.size _).alloc (by have := BG.out.size; simp; omega) _) hgr (own_block OW.out)); clear hown hgr)
      | (at_builtin; refine append_anyB rfl (.tmp 71) (.tmp 74) rfl w1.heap.size OW2.out rfl rfl (HX2.out.next BG2.out) HD.out (by omega) BG2.out.size ?_; intro A5 c5 w5 hown hgr; have OW3 : Hid (BOwn w5 w1.heap.size A5 (p + 2 + (n - p)) c5 ((q.take p ++ [13, 32]) ++ q.drop p)) := Lib.hid hown; have BG3 : Hid (Below w1.heap.size w1 w5) := Lib.hid (grown_below (Nat.le_refl _) BG2.out hgr (own_block OW2.out)); clear hown hgr))
    clear run1 run2
    have BR := Lib.hid (show BRow w5 A5 c5 (q.take p ++ 13 :: 32 :: q.drop p) by have := OW3.out.row; simpa using this)
    have HLQ := Lib.hid (show p + 2 + (n - p) = (q.take p ++ 13 :: 32 :: q.drop p).length by have h1 := HP.out; have h2 := HD.out; rw [List.length_append, List.length_cons, List.length_cons, h1, h2] <;> omega)
    refine (all_at (by have := HLQ.out; omega) HLQ.out HRQ.out HMQ.out BR.out).mono ?_
    rintro e w6 ⟨A6, c6, rfl, hO6, hb6⟩
    have O6 := Lib.hid hO6.row
    have O1' := Lib.hid ((O1.out.next BG3.out).next hb6)
    have B6 := Lib.hid (bnext (bnext B1.out BG3.out) hb6)
    clear hO6 hb6
    go_wp2_with fail
    go_loopw [16] (fun v wr => ∃ k : Nat, v = .int .i64 k ∧ k ≤ m ∧ Hid (Below w6.heap.size w6 wr)) (fun v _ => m - (RowKit.intOf v).toNat)
    case atStart => exact ⟨0, rfl, by omega, Lib.hid (Below.refl _ _)⟩
    case round =>
      obtain ⟨k, rfl, hk, hbel⟩ := hrel
      by_cases hlt : k < m
      · have hlti : (k : Int) < (m : Int) := by omega
        obtain ⟨b3, o3, t3, e3, hb3, ht3, q3⟩ := (O1'.out.next hbel.out).elem (k := k) (by have := HM.out; omega)
        obtain ⟨b4, o4, t4, rfl, hb4, ht4, q4⟩ := (O6.out.next hbel.out).elem (k := k) (by have := HMQ.out; omega)
        have ht4' := Lib.hid ht4
        obtain ⟨hpb0, hpb1⟩ := hP.out t3 (List.mem_of_getElem? ht3)
        clear ht4
        obtain ⟨x0, x1, x2, x3⟩ := q3
        obtain ⟨y0, y1, y2, y3⟩ := q4
        obtain ⟨eb, eo⟩ : b3 = b1 ∧ o3 = o1 := by injection e3 with e3; injection e3 with e3 e4 _; exact ⟨e3.symm, e4.symm⟩
        subst eb eo
        clear e3
        by_cases hkj : k < j
        · have e4 : t4 = t3 := by
            have := ht4'.out
            rw [List.getElem?_append_left (by rw [List.length_take]; have := HM.out; omega), List.getElem?_take, if_pos hkj, ht3] at this
            injection this with this; exact this.symm
          have hkji : (k : Int) < (j : Int) := by omega
          clear ht3
          subst e4
          go_wp2_with fail
          go_quiet (fail)
          go_wp2_with fail
          refine ⟨⟨k + 1, by go_num, by omega, Lib.hid ?_⟩, by simp [RowKit.intOf]; omega⟩
          exact (hbel.out.alloc hbel.out.size _).trans (drewN_below _ _ _)
        · have e4 : t4 = farT 2 t3 := by
            have := ht4'.out
            rw [List.getElem?_append_right (by rw [List.length_take]; have := HM.out; omega), List.length_take, List.getElem?_map, List.getElem?_drop, show j + (k - min j L.length) = k from by have := HM.out; omega, ht3] at this
            injection this with this; exact this.symm
          have hkji : (j : Int) ≤ (k : Int) := by omega
          clear ht3
          subst e4
          simp only [farT] at y0 y1 y2 y3
          go_wp2_with fail
          go_quiet (fail)
          go_wp2_with fail
          refine ⟨⟨k + 1, by go_num, by omega, Lib.hid ?_⟩, by simp [RowKit.intOf]; omega⟩
          exact (hbel.out.alloc hbel.out.size _).trans (drewN_below _ _ _)
      · obtain rfl : k = m := by omega
        go_wp2_with fail
        refine (known_any _).mono ?_
        rintro e w' ⟨rfl, hb⟩
        have HB := Lib.hid (bnext (B6.out.trans (hbel.out.mono B6.out.size)) hb)
        clear hb
        go_wp2
        go_ret
        exact ⟨rfl, HB.out⟩
  · obtain rfl : m = j := by omega
    rw [HPE.out] at HRQ
    go_upto_region 13 with fail
    obtain ⟨X1, run1, X1r⟩ := (HA.out.next B1.out).front n n (by have := HN.out; omega)
    obtain ⟨X2, run2, X2r⟩ := (HA.out.next B1.out).rest n n HN.out (by omega)
    have HX1 := Lib.hid X1r
    have HX2 := Lib.hid X2r
    clear X1r X2r
    have HP := Lib.hid (show (q.take n).length = n by rw [List.length_take]; have := HN.out; omega)
    have HD := Lib.hid (show (q.drop n).length = 0 by rw [List.length_drop]; have := HN.out; omega)
    go_wp2_with (first
      | (at_builtin; refine append_anyB rfl (.tmp 58) (.tmp 61) rfl w1.heap.size (bown_nil _ _) rfl rfl HX1.out HP.out (by omega) (Nat.le_refl _) ?_; intro A3 c3 w3 hown hgr; have OW : Hid (BOwn w3 w1.heap.size A3 n c3 (q.take n)) := Lib.hid (by simpa using hown); have BG : Hid (Below w1.heap.size w1 w3) := Lib.hid (grown_below (Nat.le_refl _) (Below.refl w1.heap.size w1) hgr (fun k e => by cases e)); clear hown hgr)
      | (at_builtin; refine append_anyB rfl (.tmp 63) (.tmp 69) rfl w1.heap.size ((OW.out.next (below_new w3 _)).next (below_new _ _)) rfl rfl (two_13 w3 _) rfl (by omega) (by have := BG.out.size; simp; omega) ?_; intro A4 c4 w4 hown hgr; have OW2 : Hid (BOwn w4 w1.heap.size A4 (n + 2) c4 (q.take n ++ [13, 32])) := Lib.hid hown; have BG2 : Hid (Below w1.heap.size w1 w4) := Lib.hid (grown_below (Nat.le_refl _) ((BG.out.alloc BG.out.size _).alloc (by have := BG.out.size; simp; omega) _) hgr (own_block OW.out)); clear hown hgr)
      | (at_builtin; refine append_anyB rfl (.tmp 71) (.tmp 74) rfl w1.heap.size OW2.out rfl rfl (HX2.out.next BG2.out) HD.out (by omega) BG2.out.size ?_; intro A5 c5 w5 hown hgr; have OW3 : Hid (BOwn w5 w1.heap.size A5 (n + 2) c5 ((q.take n ++ [13, 32]) ++ q.drop n)) := Lib.hid hown; have BG3 : Hid (Below w1.heap.size w1 w5) := Lib.hid (grown_below (Nat.le_refl _) BG2.out hgr (own_block OW2.out)); clear hown hgr))
    clear run1 run2
    have BR := Lib.hid (show BRow w5 A5 c5 (q.take n ++ 13 :: 32 :: q.drop n) by have := OW3.out.row; simpa using this)
    have HLQ := Lib.hid (show n + 2 = (q.take n ++ 13 :: 32 :: q.drop n).length by have h1 := HP.out; have h2 := HD.out; rw [List.length_append, List.length_cons, List.length_cons, h1, h2] <;> omega)
    refine (all_at (by have := HLQ.out; omega) HLQ.out HRQ.out HMQ.out BR.out).mono ?_
    rintro e w6 ⟨A6, c6, rfl, hO6, hb6⟩
    have O6 := Lib.hid hO6.row
    have O1' := Lib.hid ((O1.out.next BG3.out).next hb6)
    have B6 := Lib.hid (bnext (bnext B1.out BG3.out) hb6)
    clear hO6 hb6
    go_wp2_with fail
    go_loopw [16] (fun v wr => ∃ k : Nat, v = .int .i64 k ∧ k ≤ m ∧ Hid (Below w6.heap.size w6 wr)) (fun v _ => m - (RowKit.intOf v).toNat)
    case atStart => exact ⟨0, rfl, by omega, Lib.hid (Below.refl _ _)⟩
    case round =>
      obtain ⟨k, rfl, hk, hbel⟩ := hrel
      by_cases hlt : k < m
      · have hlti : (k : Int) < (m : Int) := by omega
        obtain ⟨b3, o3, t3, e3, hb3, ht3, q3⟩ := (O1'.out.next hbel.out).elem (k := k) (by have := HM.out; omega)
        obtain ⟨b4, o4, t4, rfl, hb4, ht4, q4⟩ := (O6.out.next hbel.out).elem (k := k) (by have := HMQ.out; omega)
        have ht4' := Lib.hid ht4
        obtain ⟨hpb0, hpb1⟩ := hP.out t3 (List.mem_of_getElem? ht3)
        clear ht4
        obtain ⟨x0, x1, x2, x3⟩ := q3
        obtain ⟨y0, y1, y2, y3⟩ := q4
        subst e3
        by_cases hkj : k < m
        · have e4 : t4 = t3 := by
            have := ht4'.out
            rw [List.getElem?_append_left (by rw [List.length_take]; have := HM.out; omega), List.getElem?_take, if_pos hkj, ht3] at this
            injection this with this; exact this.symm
          have hkji : (k : Int) < (m : Int) := by omega
          clear ht3
          subst e4
          go_wp2_with fail
          go_quiet (fail)
          go_wp2_with fail
          refine ⟨⟨k + 1, by go_num, by omega, Lib.hid ?_⟩, by simp [RowKit.intOf]; omega⟩
          exact (hbel.out.alloc hbel.out.size _).trans (drewN_below _ _ _)
        · exact absurd hlt hkj
      · obtain rfl : k = m := by omega
        go_wp2_with fail
        refine (known_any _).mono ?_
        rintro e w' ⟨rfl, hb⟩
        have HB := Lib.hid (bnext (B6.out.trans (hbel.out.mono B6.out.size)) hb)
        clear hb
        go_wp2
        go_ret
        exact ⟨rfl, HB.out⟩

/-- Where token number j begins; behind all, where the bytes end. -/
def placeN (q : Bs) (j : Nat) : Nat := match (its q 0)[j]? with | some x => x.t.p.toNat | none => q.length
theorem blanks_law (W : World) (A : Option Addr) (c : Nat) (q : Bs) (z x : Int) (hA : BRow W A c q) (_hz : -9223372036854775808 ≤ z ∧ z ≤ 9223372036854775807) (hx : 0 ≤ x ∧ x ≤ 255) :
    Calls Try.prog 5 #[.slice A q.length c, .int .i64 z, .int .u8 x] W (Tr W) := by
  by_cases h : q.length ≤ 4000
  · have la := items_len q
    rw [items_its] at la
    rcases its_last q.length q 0 (Nat.le_refl _) with ha | ⟨xs, y, ha, hxs, hy⟩
    · have hge := its_ge q.length q 0 (Nat.le_refl _)
      have hpl : ∀ j t, ((its q 0).map (·.t))[j]? = some t → t.p = (placeN q j : Int) ∧ placeN q j ≤ q.length := by
        intro j t ht
        rw [List.getElem?_map] at ht
        unfold placeN
        cases hj : (its q 0)[j]? with
        | none => rw [hj] at ht; cases ht
        | some y =>
          rw [hj] at ht
          injection ht with ht
          subst ht
          have := hge y (List.mem_of_getElem? hj)
          simp only []
          omega
      have hpe : placeN q (its q 0).length = q.length := by unfold placeN; simp
      have hP : ∀ t ∈ (its q 0).map (·.t), 0 ≤ t.p ∧ t.p ≤ 4000 := by
        intro t ht
        obtain ⟨y, hy, rfl⟩ := List.mem_map.1 ht
        have := hge y hy
        omega
      have hRq : ∀ b, blankB b = true → ∀ j, j ≤ (its q 0).length → allL (q.take (placeN q j) ++ b :: 32 :: q.drop (placeN q j)) = (((its q 0).map (·.t)).take j ++ (((its q 0).map (·.t)).drop j).map (farT 2), 0, 0) := by
        intro b hb j hj
        have hle : placeN q j ≤ q.length := by
          unfold placeN
          cases hj : (its q 0)[j]? with
          | none => simp
          | some y => have := hge y (List.mem_of_getElem? hj); simp only []; omega
        have hw := its_wide b hb q.length q 0 j (placeN q j) (Nat.le_refl _) ha hj (fun y hy => by
          have := hpl j y.t (by rw [List.getElem?_map, hy]; rfl)
          rw [Nat.zero_add]; exact this.1.symm) (fun e => by rw [e]; exact hpe)
        have hlen : (q.take (placeN q j) ++ b :: 32 :: q.drop (placeN q j)).length ≤ 20000 := by
          rw [List.length_append, List.length_cons, List.length_cons, List.length_take, List.length_drop]; omega
        rw [all_ok hlen (by
          rw [hw]
          intro y hy
          rcases List.mem_append.1 hy with h1 | h1
          · exact ha y (List.mem_of_mem_take h1)
          · obtain ⟨z, hz, rfl⟩ := List.mem_map.1 h1; exact ha z (List.mem_of_mem_drop hz)), hw, List.map_append, map_far, List.map_take, List.map_drop]
      have hlen : (its q 0).length = ((its q 0).map (·.t)).length := by simp
      rcases (by omega : x % 4 = 0 ∨ x % 4 = 1 ∨ x % 4 = 2 ∨ x % 4 = 3) with hr | hr | hr | hr
      · exact blanks_3_0 W A q.length c z x hx.1 hx.2 hr q hA rfl h _ (its q 0).length hlen (by omega) (placeN q) hpl hpe (Lib.hid hP) (Lib.hid (all_ok (by omega) ha)) (Lib.hid (hRq 32 (by decide)))
      · exact blanks_3_1 W A q.length c z x hx.1 hx.2 hr q hA rfl h _ (its q 0).length hlen (by omega) (placeN q) hpl hpe (Lib.hid hP) (Lib.hid (all_ok (by omega) ha)) (Lib.hid (hRq 9 (by decide)))
      · exact blanks_3_2 W A q.length c z x hx.1 hx.2 hr q hA rfl h _ (its q 0).length hlen (by omega) (placeN q) hpl hpe (Lib.hid hP) (Lib.hid (all_ok (by omega) ha)) (Lib.hid (hRq 10 (by decide)))
      · exact blanks_3_3 W A q.length c z x hx.1 hx.2 hr q hA rfl h _ (its q 0).length hlen (by omega) (placeN q) hpl hpe (Lib.hid hP) (Lib.hid (all_ok (by omega) ha)) (Lib.hid (hRq 13 (by decide)))
    · exact blanks_2 W A q.length c z x q hA rfl h y.t.p (Lib.hid (all_bad (by omega) ha hxs hy))
  · exact blanks_1 W A _ c z x h
end Go.Proofs.Ythjbmlgjlndihaa
