/- LexerJoins, walked. -/
import Derived.Test.YthjbmlgjlndihaaLN
namespace Go.Proofs.Ythjbmlgjlndihaa
set_option maxRecDepth 100000
open Go.RowKit Go.Sort

theorem brow_ten (w : World) : BRow (w.alloc (.cells #[.int .u8 10] 5)) (some ⟨w.heap.size, 0, none⟩) 1 [10] := brow_one w 10
def farT (d : Nat) (t : TK) : TK := ⟨t.k, t.p + d, t.s, t.n⟩
theorem drewN_below (B : Nat) (w : World) (n : Nat) : Below B w (w.drewN n) := ⟨rfl, rfl, rfl, Nat.le_refl _, fun _ _ => rfl⟩
abbrev Tr (W : World) (e : Ending) (w' : World) : Prop := e = .returned (.bool true) ∧ Below W.heap.size W w'
theorem joins_1 (W : World) (A B : Option Addr) (n m c d : Nat) (h : ¬ (n ≤ 2000 ∧ m ≤ 2000)) : Calls Try.prog 8 #[.slice A n c, .slice B m d] W (Tr W) := by
  by_cases h1 : n ≤ 2000
  · have h1i : (n : Int) ≤ 2000 := by omega
    have h2i : (2000 : Int) < (m : Int) := by omega
    clear h
    go_enter Try.func8, Try.ntmps8
    go_wp2_with fail
    refine (known_any _).mono ?_
    rintro e w' ⟨rfl, hb⟩
    have HB := Lib.hid hb
    clear hb
    go_wp2
    go_ret
    exact ⟨rfl, HB.out⟩
  · have h1i : (2000 : Int) < (n : Int) := by omega
    clear h h1
    go_enter Try.func8, Try.ntmps8
    go_wp2_with fail
    refine (known_any _).mono ?_
    rintro e w' ⟨rfl, hb⟩
    have HB := Lib.hid hb
    clear hb
    go_wp2
    go_ret
    exact ⟨rfl, HB.out⟩

set_option maxHeartbeats 3200000 in
theorem joins_2 (W : World) (A B : Option Addr) (n m c d : Nat) (a b : Bs) (hA : BRow W A c a) (hB : BRow W B d b) (hn : n = a.length) (hm : m = b.length) (h1 : n ≤ 2000) (h2 : m ≤ 2000)
    (P : Int) (tb : List TK) (nb eb : Int) (mb : Nat) (hRa : Hid (allL a = ([], P, 30))) (hRb : Hid (allL b = (tb, nb, eb))) (htb : mb = tb.length) (hRq : Hid (allL (a ++ 10 :: b) = ([], P, 30))) : Calls Try.prog 8 #[.slice A n c, .slice B m d] W (Tr W) := by
  have h1i : (n : Int) ≤ 2000 := by omega
  have h2i : (m : Int) ≤ 2000 := by omega
  have hq : n + 1 + m = (a ++ 10 :: b).length := by simp; omega
  have HA := Lib.hid hA
  have HBB := Lib.hid hB
  have HN := Lib.hid hn
  have HM := Lib.hid hm
  have HQ := Lib.hid hq
  clear hA hB hn hm hq
  go_enter Try.func8, Try.ntmps8
  go_wp2_with fail
  refine (all_at (by have := HN.out; omega) HN.out hRa.out rfl HA.out).mono ?_
  rintro e w1 ⟨A1, c1, rfl, hO1, hb1⟩
  have O1 := Lib.hid hO1.row
  have B1 := Lib.hid hb1
  have R1 := Lib.hid (HBB.out.next hb1)
  have S1 := Lib.hid (HA.out.next hb1)
  clear hO1 hb1
  go_wp2_with fail
  refine (all_at (by have := HM.out; omega) HM.out hRb.out htb R1.out).mono ?_
  rintro e w2 ⟨A2, c2, rfl, hO2, hb2⟩
  have O2 := Lib.hid hO2.row
  have O1' := Lib.hid (O1.out.next hb2)
  have B2 := Lib.hid (bnext B1.out hb2)
  have R2 := Lib.hid (R1.out.next hb2)
  have S2 := Lib.hid (S1.out.next hb2)
  clear hO2 hb2
  go_wp2_with (first
    | (at_builtin; refine append_anyB rfl (.tmp 38) (.tmp 39) rfl w2.heap.size (bown_nil _ _) rfl rfl S2.out HN.out.symm (by omega) (Nat.le_refl _) ?_; intro A3 c3 w3 hown hgr; have OW : Hid (BOwn w3 w2.heap.size A3 n c3 a) := Lib.hid (by simpa using hown); have BG := Lib.hid (grown_below (Nat.le_refl _) (Below.refl w2.heap.size w2) hgr (fun k e => by cases e)); clear hown hgr)
    | (at_builtin; refine append_anyB rfl (.tmp 41) (.tmp 42) rfl w2.heap.size (OW.out.next (below_new w3 _)) rfl rfl (brow_ten w3) rfl (by omega) (by have := BG.out.size; simp; omega) ?_; intro A4 c4 w4 hown hgr; have OW2 := Lib.hid hown; have BG2 := Lib.hid (grown_below (Nat.le_refl _) (BG.out.alloc BG.out.size _) hgr (own_block OW.out)); clear hown hgr)
    | (at_builtin; refine append_anyB rfl (.tmp 44) (.tmp 45) rfl w2.heap.size OW2.out rfl rfl (R2.out.next BG2.out) HM.out.symm (by omega) BG2.out.size ?_; intro A5 c5 w5 hown hgr; have OW3 := Lib.hid hown; have BG3 := Lib.hid (grown_below (Nat.le_refl _) BG2.out hgr (own_block OW2.out)); clear hown hgr))
  have BR := Lib.hid (show BRow w5 A5 c5 (a ++ 10 :: b) by have := OW3.out.row; simpa using this)
  refine (all_at (by have := HQ.out; omega) (by have := HQ.out; omega) hRq.out rfl BR.out).mono ?_
  rintro e w6 ⟨A6, c6, rfl, hO6, hb6⟩
  have O6 := Lib.hid hO6.row
  have O1'' := Lib.hid ((O1'.out.next BG3.out).next hb6)
  have O2'' := Lib.hid ((O2.out.next BG3.out).next hb6)
  have B6 := Lib.hid (bnext (bnext B2.out BG3.out) hb6)
  clear hO6 hb6
  go_wp2_with fail
  refine (known_any _).mono ?_
  rintro e w' ⟨rfl, hb⟩
  have HB := Lib.hid (bnext B6.out hb)
  clear hb
  go_wp2
  go_ret
  exact ⟨rfl, HB.out⟩

set_option maxHeartbeats 3200000 in
theorem joins_3 (W : World) (A B : Option Addr) (n m c d : Nat) (a b : Bs) (hA : BRow W A c a) (hB : BRow W B d b) (hn : n = a.length) (hm : m = b.length) (h1 : n ≤ 2000) (h2 : m ≤ 2000)
    (P : Int) (hP0 : 0 ≤ P) (hP1 : P ≤ 2000) (ta : List TK) (ma : Nat) (hta : ma = ta.length) (hRa : Hid (allL a = (ta, 0, 0))) (hRb : Hid (allL b = ([], P, 30))) (hRq : Hid (allL (a ++ 10 :: b) = ([], P + n + 1, 30))) : Calls Try.prog 8 #[.slice A n c, .slice B m d] W (Tr W) := by
  have h1i : (n : Int) ≤ 2000 := by omega
  have h2i : (m : Int) ≤ 2000 := by omega
  have hq : n + 1 + m = (a ++ 10 :: b).length := by simp; omega
  have HA := Lib.hid hA
  have HBB := Lib.hid hB
  have HN := Lib.hid hn
  have HM := Lib.hid hm
  have HQ := Lib.hid hq
  clear hA hB hn hm hq
  go_enter Try.func8, Try.ntmps8
  go_wp2_with fail
  refine (all_at (by have := HN.out; omega) HN.out hRa.out hta HA.out).mono ?_
  rintro e w1 ⟨A1, c1, rfl, hO1, hb1⟩
  have O1 := Lib.hid hO1.row
  have B1 := Lib.hid hb1
  have R1 := Lib.hid (HBB.out.next hb1)
  have S1 := Lib.hid (HA.out.next hb1)
  clear hO1 hb1
  go_wp2_with fail
  refine (all_at (by have := HM.out; omega) HM.out hRb.out rfl R1.out).mono ?_
  rintro e w2 ⟨A2, c2, rfl, hO2, hb2⟩
  have O2 := Lib.hid hO2.row
  have O1' := Lib.hid (O1.out.next hb2)
  have B2 := Lib.hid (bnext B1.out hb2)
  have R2 := Lib.hid (R1.out.next hb2)
  have S2 := Lib.hid (S1.out.next hb2)
  clear hO2 hb2
  go_wp2_with (first
    | (at_builtin; refine append_anyB rfl (.tmp 38) (.tmp 39) rfl w2.heap.size (bown_nil _ _) rfl rfl S2.out HN.out.symm (by omega) (Nat.le_refl _) ?_; intro A3 c3 w3 hown hgr; have OW : Hid (BOwn w3 w2.heap.size A3 n c3 a) := Lib.hid (by simpa using hown); have BG := Lib.hid (grown_below (Nat.le_refl _) (Below.refl w2.heap.size w2) hgr (fun k e => by cases e)); clear hown hgr)
    | (at_builtin; refine append_anyB rfl (.tmp 41) (.tmp 42) rfl w2.heap.size (OW.out.next (below_new w3 _)) rfl rfl (brow_ten w3) rfl (by omega) (by have := BG.out.size; simp; omega) ?_; intro A4 c4 w4 hown hgr; have OW2 := Lib.hid hown; have BG2 := Lib.hid (grown_below (Nat.le_refl _) (BG.out.alloc BG.out.size _) hgr (own_block OW.out)); clear hown hgr)
    | (at_builtin; refine append_anyB rfl (.tmp 44) (.tmp 45) rfl w2.heap.size OW2.out rfl rfl (R2.out.next BG2.out) HM.out.symm (by omega) BG2.out.size ?_; intro A5 c5 w5 hown hgr; have OW3 := Lib.hid hown; have BG3 := Lib.hid (grown_below (Nat.le_refl _) BG2.out hgr (own_block OW2.out)); clear hown hgr))
  have BR := Lib.hid (show BRow w5 A5 c5 (a ++ 10 :: b) by have := OW3.out.row; simpa using this)
  refine (all_at (by have := HQ.out; omega) (by have := HQ.out; omega) hRq.out rfl BR.out).mono ?_
  rintro e w6 ⟨A6, c6, rfl, hO6, hb6⟩
  have O6 := Lib.hid hO6.row
  have O1'' := Lib.hid ((O1'.out.next BG3.out).next hb6)
  have O2'' := Lib.hid ((O2.out.next BG3.out).next hb6)
  have B6 := Lib.hid (bnext (bnext B2.out BG3.out) hb6)
  clear hO6 hb6
  go_wp2_with fail
  refine (known_any _).mono ?_
  rintro e w' ⟨rfl, hb⟩
  have HB := Lib.hid (bnext B6.out hb)
  clear hb
  go_wp2
  go_ret
  exact ⟨rfl, HB.out⟩

set_option maxHeartbeats 3200000 in
theorem joins_4 (W : World) (A B : Option Addr) (n m c d : Nat) (a b : Bs) (hA : BRow W A c a) (hB : BRow W B d b) (hn : n = a.length) (hm : m = b.length) (h1 : n ≤ 2000) (h2 : m ≤ 2000)
    (ta tb : List TK) (ma mb : Nat) (hma : ma ≤ 2001) (hmb : mb ≤ 2001) (hta : ma = ta.length) (htb : mb = tb.length) (htq : ma + mb = (ta ++ tb.map (farT (n + 1))).length) (hP : Hid (∀ x ∈ tb, 0 ≤ x.p ∧ x.p ≤ 2000)) (hRa : Hid (allL a = (ta, 0, 0))) (hRb : Hid (allL b = (tb, 0, 0))) (hRq : Hid (allL (a ++ 10 :: b) = (ta ++ tb.map (farT (n + 1)), 0, 0))) : Calls Try.prog 8 #[.slice A n c, .slice B m d] W (Tr W) := by
  have h1i : (n : Int) ≤ 2000 := by omega
  have h2i : (m : Int) ≤ 2000 := by omega
  have hq : n + 1 + m = (a ++ 10 :: b).length := by simp; omega
  have HA := Lib.hid hA
  have HBB := Lib.hid hB
  have HN := Lib.hid hn
  have HM := Lib.hid hm
  have HQ := Lib.hid hq
  clear hA hB hn hm hq
  have HTA := Lib.hid hta
  have HTB := Lib.hid htb
  have HTQ := Lib.hid htq
  clear hta htb htq
  go_enter Try.func8, Try.ntmps8
  go_wp2_with fail
  refine (all_at (by have := HN.out; omega) HN.out hRa.out HTA.out HA.out).mono ?_
  rintro e w1 ⟨A1, c1, rfl, hO1, hb1⟩
  have O1 := Lib.hid hO1.row
  have B1 := Lib.hid hb1
  have R1 := Lib.hid (HBB.out.next hb1)
  have S1 := Lib.hid (HA.out.next hb1)
  clear hO1 hb1
  go_wp2_with fail
  refine (all_at (by have := HM.out; omega) HM.out hRb.out HTB.out R1.out).mono ?_
  rintro e w2 ⟨A2, c2, rfl, hO2, hb2⟩
  have O2 := Lib.hid hO2.row
  have O1' := Lib.hid (O1.out.next hb2)
  have B2 := Lib.hid (bnext B1.out hb2)
  have R2 := Lib.hid (R1.out.next hb2)
  have S2 := Lib.hid (S1.out.next hb2)
  clear hO2 hb2
  go_wp2_with (first
    | (at_builtin; refine append_anyB rfl (.tmp 38) (.tmp 39) rfl w2.heap.size (bown_nil _ _) rfl rfl S2.out HN.out.symm (by omega) (Nat.le_refl _) ?_; intro A3 c3 w3 hown hgr; have OW : Hid (BOwn w3 w2.heap.size A3 n c3 a) := Lib.hid (by simpa using hown); have BG := Lib.hid (grown_below (Nat.le_refl _) (Below.refl w2.heap.size w2) hgr (fun k e => by cases e)); clear hown hgr)
    | (at_builtin; refine append_anyB rfl (.tmp 41) (.tmp 42) rfl w2.heap.size (OW.out.next (below_new w3 _)) rfl rfl (brow_ten w3) rfl (by omega) (by have := BG.out.size; simp; omega) ?_; intro A4 c4 w4 hown hgr; have OW2 := Lib.hid hown; have BG2 := Lib.hid (grown_below (Nat.le_refl _) (BG.out.alloc BG.out.size _) hgr (own_block OW.out)); clear hown hgr)
    | (at_builtin; refine append_anyB rfl (.tmp 44) (.tmp 45) rfl w2.heap.size OW2.out rfl rfl (R2.out.next BG2.out) HM.out.symm (by omega) BG2.out.size ?_; intro A5 c5 w5 hown hgr; have OW3 := Lib.hid hown; have BG3 := Lib.hid (grown_below (Nat.le_refl _) BG2.out hgr (own_block OW2.out)); clear hown hgr))
  have BR := Lib.hid (show BRow w5 A5 c5 (a ++ 10 :: b) by have := OW3.out.row; simpa using this)
  refine (all_at (by have := HQ.out; omega) (by have := HQ.out; omega) hRq.out HTQ.out BR.out).mono ?_
  rintro e w6 ⟨A6, c6, rfl, hO6, hb6⟩
  have O6 := Lib.hid hO6.row
  have O1'' := Lib.hid ((O1'.out.next BG3.out).next hb6)
  have O2'' := Lib.hid ((O2.out.next BG3.out).next hb6)
  have B6 := Lib.hid (bnext (bnext B2.out BG3.out) hb6)
  clear hO6 hb6
  go_wp2_with fail
  go_loopw [15] (fun v wr => ∃ k : Nat, v = .int .i64 k ∧ k ≤ ma + mb ∧ Hid (Below w6.heap.size w6 wr)) (fun v _ => ma + mb - (RowKit.intOf v).toNat)
  case atStart => exact ⟨0, rfl, by omega, Lib.hid (Below.refl _ _)⟩
  case round =>
    obtain ⟨k, rfl, hk, hbel⟩ := hrel
    by_cases hlt : k < ma + mb
    · have hlti : (k : Int) < (ma : Int) + (mb : Int) := by omega
      by_cases hka : k < ma
      · obtain ⟨b1, o1, x, rfl, hb1, hx1, q1⟩ := (O1''.out.next hbel.out).elem (k := k) (by have := HTA.out; omega)
        obtain ⟨b2, o2, y, rfl, hb2, hx2, q2⟩ := (O6.out.next hbel.out).elem (k := k) (by have := HTQ.out; omega)
        rw [List.getElem?_append_left (by have := HTA.out; omega), hx1] at hx2
        injection hx2 with hx2
        subst hx2
        obtain ⟨x0, x1, x2, x3⟩ := q1
        obtain ⟨y0, y1, y2, y3⟩ := q2
        clear hx1
        go_wp2_with fail
        go_quiet (fail)
        go_wp2_with fail
        refine ⟨⟨k + 1, by go_num, by omega, Lib.hid ?_⟩, by simp [RowKit.intOf]; omega⟩
        exact (hbel.out.alloc hbel.out.size _).trans (drewN_below _ _ _)
      · obtain ⟨j, rfl⟩ : ∃ j, k = ma + j := ⟨k - ma, by omega⟩
        obtain ⟨b1, o1, x, rfl, hb1, hx1, q1⟩ := (O2''.out.next hbel.out).elem (k := j) (by have := HTB.out; omega)
        obtain ⟨b2, o2, y, rfl, hb2, hx2, q2⟩ := (O6.out.next hbel.out).elem (k := ma + j) (by have := HTQ.out; omega)
        rw [List.getElem?_append_right (by have := HTA.out; omega), List.getElem?_map, show ma + j - ta.length = j from by have := HTA.out; omega, hx1] at hx2
        injection hx2 with hx2
        subst hx2
        obtain ⟨hp0, hp1⟩ := hP.out x (List.mem_of_getElem? hx1)
        obtain ⟨x0, x1, x2, x3⟩ := q1
        obtain ⟨y0, y1', y2, y3⟩ := q2
        have y1 : wr.cell? ⟨b2, o2 + (ma + j) * 4 + 1, none⟩ = some (.int .i64 (x.p + n + 1)) := by
          rw [y1']
          simp only [farT]
          rw [show x.p + ((n + 1 : Nat) : Int) = x.p + n + 1 from by omega]
        unfold farT at y0 y2 y3
        have hji : (j : Int) < (mb : Int) := by omega
        have hjl : (ma : Int) ≤ (ma : Int) + (j : Int) := by omega
        clear hx1 y1'
        go_wp2_with fail
        go_quiet (fail)
        go_wp2_with fail
        refine ⟨⟨ma + j + 1, by go_num, by omega, Lib.hid ?_⟩, by simp [RowKit.intOf]; omega⟩
        exact (hbel.out.alloc hbel.out.size _).trans (drewN_below _ _ _)
    · obtain rfl : k = ma + mb := by omega
      go_wp2_with fail
      refine (known_any _).mono ?_
      rintro e w' ⟨rfl, hb⟩
      have HB := Lib.hid (bnext (B6.out.trans (hbel.out.mono B6.out.size)) hb)
      clear hb
      go_wp2
      go_ret
      exact ⟨rfl, HB.out⟩

theorem map_far (d : Nat) (xs : List IT) : (xs.map (IT.far d)).map (·.t) = (xs.map (·.t)).map (farT d) := by
  rw [List.map_map, List.map_map]; rfl
theorem joins_law (W : World) (A : Option Addr) (c : Nat) (a : Bs) (B : Option Addr) (d : Nat) (b : Bs) (hA : BRow W A c a) (hB : BRow W B d b) :
    Calls Try.prog 8 #[.slice A a.length c, .slice B b.length d] W (Tr W) := by
  by_cases h : a.length ≤ 2000 ∧ b.length ≤ 2000
  · obtain ⟨h1, h2⟩ := h
    have hq : (a ++ 10 :: b).length ≤ 20000 := by simp; omega
    have la := items_len a
    have lb := items_len b
    rw [items_its] at la lb
    have fb := its_far b.length b 0 (a.length + 1) (Nat.le_refl _)
    rw [show 0 + (a.length + 1) = 0 + a.length + 1 from by omega] at fb
    rcases its_last a.length a 0 (Nat.le_refl _) with ha | ⟨xs, x, ha, hxs, hx⟩
    · have hj := its_join b a.length a 0 (Nat.le_refl _) ha
      rw [fb] at hj
      rcases its_last b.length b 0 (Nat.le_refl _) with hb | ⟨xs, x, hb, hxs, hx⟩
      · refine joins_4 W A B a.length b.length c d a b hA hB rfl rfl h1 h2 ((its a 0).map (·.t)) ((its b 0).map (·.t)) (its a 0).length (its b 0).length (by omega) (by omega) (by simp) (by simp) (by simp) (Lib.hid ?_)
          (Lib.hid (all_ok (by omega) ha)) (Lib.hid (all_ok (by omega) hb)) (Lib.hid ?_)
        · intro t ht
          obtain ⟨x, hx, rfl⟩ := List.mem_map.1 ht
          have := its_ge b.length b 0 (Nat.le_refl _) x hx
          omega
        · rw [all_ok hq (by rw [hj]; intro x hx; rcases List.mem_append.1 hx with h | h; exact ha x h; obtain ⟨y, hy, rfl⟩ := List.mem_map.1 h; exact hb y hy), hj, List.map_append, map_far]
      · have hP := its_ge b.length b 0 (Nat.le_refl _) x (by rw [hb]; simp)
        refine joins_3 W A B a.length b.length c d a b hA hB rfl rfl h1 h2 x.t.p (by omega) (by omega) ((its a 0).map (·.t)) (its a 0).length (by simp) (Lib.hid (all_ok (by omega) ha)) (Lib.hid (all_bad (by omega) hb hxs hx)) (Lib.hid ?_)
        have := all_bad hq (xs := its a 0 ++ xs.map (IT.far (a.length + 1))) (x := x.far (a.length + 1)) (by rw [hj, hb]; simp) (by
          intro y hy
          rcases List.mem_append.1 hy with h | h
          · exact ha y h
          · obtain ⟨z, hz, rfl⟩ := List.mem_map.1 h; exact hxs z hz) hx
        rw [this]
        simp only [IT.far]
        rw [show x.t.p + ((a.length + 1 : Nat) : Int) = x.t.p + a.length + 1 from by omega]
    · have hj := its_join_no b a.length a 0 (Nat.le_refl _) xs x ha hx
      obtain ⟨⟨tb, nb, eb⟩, hR⟩ : ∃ r, allL b = r := ⟨_, rfl⟩
      exact joins_2 W A B a.length b.length c d a b hA hB rfl rfl h1 h2 x.t.p tb nb eb tb.length (Lib.hid (all_bad (by omega) ha hxs hx)) (Lib.hid hR) rfl (Lib.hid (all_bad hq hj hxs hx))
  · exact joins_1 W A B _ _ c d h
end Go.Proofs.Ythjbmlgjlndihaa
