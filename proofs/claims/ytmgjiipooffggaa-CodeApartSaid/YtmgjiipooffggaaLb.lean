/- Two texts: the law of CodeApart. -/
import Derived.Test.YtmgjiipooffggaaKc
import Derived.Test.YtmgjiipooffggaaLc
namespace Go.Proofs.Ytmgjiipooffggaa
set_option maxRecDepth 100000
open Go.RowKit Go.Sort

set_option maxHeartbeats 6400000 in
theorem apart_law (w : World) (d : Nat) (x y : At) (hx : x.In w d) (hy : y.In w d) : Calls Try.prog 6 #[x.v, y.v] w fun e w' => e = .returned (.bool true) ∧ Below w.heap.size w w' := by
  have HX := Lib.hid hx
  have HY := Lib.hid hy
  clear hx hy
  unfold At.v
  go_enter Try.func6, Try.ntmps6
  go_upto_region 1 with fail
  have b0 := below_new w (.cells #[.int .i64 x.t.k, .int .i64 x.t.n, .string x.t.s, .slice x.A x.t.l.length x.c, .slice x.A' x.t.m.length x.c'] 24)
  have hbx := Bx.new w x
  generalize hW : World.alloc w _ = Wa at b0 hbx ⊢
  have hgl : w.heap.size < Wa.heap.size := by rw [← hW]; simp
  have hgs : w.heap.size + 1 = Wa.heap.size := by rw [← hW]; simp
  clear hW
  obtain ⟨g2, hg2⟩ : ∃ g : Nat, g = w.heap.size := ⟨_, rfl⟩
  rw [← hg2] at hbx hgl hgs ⊢
  try rw [hgs]
  clear hgs hg2
  have Xa := Lib.hid (HX.out.next b0)
  have Ya := Lib.hid (HY.out.next b0)
  have Ba := Lib.hid b0
  have BXa := Lib.hid hbx
  clear b0 hbx HX HY
  have b0 := below_new Wa (.cells #[.int .i64 y.t.k, .int .i64 y.t.n, .string y.t.s, .slice y.A y.t.l.length y.c, .slice y.A' y.t.m.length y.c'] 24)
  have hby := Bx.new Wa y
  generalize hW : World.alloc Wa _ = W at b0 hby ⊢
  have hgl' : Wa.heap.size < W.heap.size := by rw [← hW]; simp
  clear hW
  obtain ⟨g3, hg3⟩ : ∃ g : Nat, g = Wa.heap.size := ⟨_, rfl⟩
  rw [← hg3] at hby hgl' ⊢
  clear hg3
  have X0 := Lib.hid (Xa.out.next b0)
  have Y0 := Lib.hid (Ya.out.next b0)
  have B0 := Lib.hid (bnext Ba.out b0)
  have BX := Lib.hid (BXa.out.next b0)
  have BY := Lib.hid hby
  have LO := Lib.hid (lots_pair W d x y X0.out Y0.out)
  clear b0 hby Xa Ya Ba BXa
  obtain ⟨q0, q1, q2, q3, q4, _⟩ := BX.out
  obtain ⟨p0, p1, p2, p3, p4, _⟩ := BY.out
  go_wp2_with fail
  refine LO.out.mono ?_
  rintro e w1 ⟨b, rfl, hb, hc⟩
  have HC := Lib.hid hc
  have X1 := Lib.hid (X0.out.next hb)
  have Y1 := Lib.hid (Y0.out.next hb)
  have B1 := Lib.hid (bnext B0.out hb)
  have BX1 := Lib.hid (BX.out.next hb)
  have BY1 := Lib.hid (BY.out.next hb)
  clear hb hc LO X0 Y0 B0 BX BY q0 q1 q2 q3 q4 p0 p1 p2 p3 p4
  cases b with
  | true =>
    go_wp2_with fail
    refine (known_any w1).mono ?_
    rintro e wk ⟨rfl, hb⟩
    have HK := Lib.hid (bnext B1.out hb)
    clear hb
    go_wp2
    go_ret
    exact ⟨rfl, HK.out⟩
  | false =>
    have HCC := Lib.hid (HC.out rfl)
    clear HC
    cases hok : okV 12 x.t with
    | false =>
      have PR := Lib.hid (print_bad w1 d x X1.out hok)
      have PR2 := Lib.hid (fun w (h : y.In w d) => print_any w d y h (fun h2 => by have := HCC.out.2 h2; omega))
      clear hok
      obtain ⟨q0, q1, q2, q3, q4, _⟩ := BX1.out
      obtain ⟨p0, p1, p2, p3, p4, _⟩ := BY1.out
      go_wp2_with fail
      refine PR.out.mono ?_
      rintro e w2 ⟨rfl, hb⟩
      have B2 := Lib.hid (bnext B1.out hb)
      have Y2 := Lib.hid (Y1.out.next hb)
      have BX2 := Lib.hid (BX1.out.next hb)
      have BY2 := Lib.hid (BY1.out.next hb)
      clear hb PR q0 q1 q2 q3 q4 p0 p1 p2 p3 p4
      obtain ⟨p0, p1, p2, p3, p4, _⟩ := BY2.out
      have PR3 := Lib.hid (PR2.out w2 Y2.out)
      obtain ⟨PS, hPS⟩ : ∃ s : ByteArray, s = ⟨(prtS y.t).toArray⟩ := ⟨_, rfl⟩
      obtain ⟨PE, hPE⟩ : ∃ n : Int, n = prtE y.t := ⟨_, rfl⟩
      rw [← hPS, ← hPE] at PR3
      clear hPS hPE PR2
      go_wp2_with fail
      refine PR3.out.mono ?_
      rintro e w3 ⟨rfl, hb⟩
      have B3 := Lib.hid (bnext B2.out hb)
      clear hb PR3 p0 p1 p2 p3 p4
      go_wp2_with fail
      refine (known_any w3).mono ?_
      rintro e wk ⟨rfl, hb⟩
      have HK := Lib.hid (bnext B3.out hb)
      clear hb
      go_wp2
      go_ret
      exact ⟨rfl, HK.out⟩
    | true =>
      obtain ⟨S, hlS, hsS, prS⟩ := print_good w1 d x X1.out hok (HCC.out.1 hok)
      have PR := Lib.hid prS
      have HLS := Lib.hid hlS
      have OX := Lib.hid hok
      clear hlS prS hok
      obtain ⟨q0, q1, q2, q3, q4, _⟩ := BX1.out
      obtain ⟨p0, p1, p2, p3, p4, _⟩ := BY1.out
      go_wp2_with fail
      refine PR.out.mono ?_
      rintro e w2 ⟨rfl, hb⟩
      have B2 := Lib.hid (bnext B1.out hb)
      have X2 := Lib.hid (X1.out.next hb)
      have Y2 := Lib.hid (Y1.out.next hb)
      have BX2 := Lib.hid (BX1.out.next hb)
      have BY2 := Lib.hid (BY1.out.next hb)
      clear hb PR q0 q1 q2 q3 q4 p0 p1 p2 p3 p4 X1 Y1 B1 BX1 BY1
      cases hok : okV 12 y.t with
      | false =>
        have PR3 := Lib.hid (print_bad w2 d y Y2.out hok)
        clear hok
        obtain ⟨p0, p1, p2, p3, p4, _⟩ := BY2.out
        go_wp2_with fail
        refine PR3.out.mono ?_
        rintro e w3 ⟨rfl, hb⟩
        have B3 := Lib.hid (bnext B2.out hb)
        clear hb PR3 p0 p1 p2 p3 p4
        cases hse : S.toList.isEmpty with
        | true =>
          skip
          go_wp2_with fail
          refine (known_any w3).mono ?_
          rintro e wk ⟨rfl, hb⟩
          have HK := Lib.hid (bnext B3.out hb)
          clear hb
          go_wp2
          go_ret
          exact ⟨rfl, HK.out⟩
        | false =>
          skip
          go_wp2_with fail
          refine (known_any w3).mono ?_
          rintro e wk ⟨rfl, hb⟩
          have HK := Lib.hid (bnext B3.out hb)
          clear hb
          go_wp2
          go_ret
          exact ⟨rfl, HK.out⟩
      | true =>
        obtain ⟨Z, hlZ, hsZ, prZ⟩ := print_good w2 d y Y2.out hok (HCC.out.2 hok)
        have PR3 := Lib.hid prZ
        have HLZ := Lib.hid hlZ
        have OY := Lib.hid hok
        clear hlZ prZ hok
        obtain ⟨p0, p1, p2, p3, p4, _⟩ := BY2.out
        go_wp2_with fail
        refine PR3.out.mono ?_
        rintro e w3 ⟨rfl, hb⟩
        have B3 := Lib.hid (bnext B2.out hb)
        have X3 := Lib.hid (X2.out.next hb)
        have Y3 := Lib.hid (Y2.out.next hb)
        have BX3 := Lib.hid (BX2.out.next hb)
        have BY3 := Lib.hid (BY2.out.next hb)
        clear hb PR3 p0 p1 p2 p3 p4 X2 Y2 B2 BX2 BY2
        have IX := Lib.hid (ints_of_rd _ 12 _ _ _ _ _ X3.out)
        have IY := Lib.hid (ints_of_rd _ 12 _ _ _ _ _ Y3.out)
        have SM := Lib.hid (same_at w3 d d x y X3.out Y3.out)
        have EQ : Hid (S = Z ↔ x.t = y.t) := Lib.hid ⟨fun h => txt_inj x.t y.t OX.out OY.out IX.out IY.out (by rw [← HLS.out, h, HLZ.out]), fun h => by rw [← str_eta S, ← str_eta Z, HLS.out, HLZ.out, h]⟩
        have CZ : Hid (cmpV 12 x.t y.t = 0 ↔ x.t = y.t) := Lib.hid ⟨fun h => cmp_zero 12 12 x.t y.t OX.out OY.out (Nat.le_refl _) h, fun h => by rw [h]; exact (ord_cmpV 12).refl _⟩
        obtain ⟨q0, q1, q2, q3, q4, _⟩ := BX3.out
        obtain ⟨p0, p1, p2, p3, p4, _⟩ := BY3.out
        by_cases hSZ : S = Z
        · have hc : (cmpV 12 x.t y.t == 0) = true := by rw [CZ.out.2 (EQ.out.1 hSZ)]; rfl
          rw [hc] at SM
          clear hc
          have HSZ := Lib.hid hSZ
          subst hSZ
          go_wp2_with fail
          refine SM.out.mono ?_
          rintro e w4 ⟨rfl, hb⟩
          have B4 := Lib.hid (bnext B3.out hb)
          have BX4 := Lib.hid (BX3.out.next hb)
          clear hb SM q0 q1 q2 q3 q4 p0 p1 p2 p3 p4
          obtain ⟨q0, q1, q2, q3, q4, _⟩ := BX4.out
          go_wp2_with fail
          refine (known_any w4).mono ?_
          rintro e wk ⟨rfl, hb⟩
          have HK := Lib.hid (bnext B4.out hb)
          clear hb
          go_wp2
          go_ret
          exact ⟨rfl, HK.out⟩
        · have hc : (cmpV 12 x.t y.t == 0) = false := by
            have : ¬ cmpV 12 x.t y.t = 0 := fun h => hSZ (EQ.out.2 (CZ.out.1 h))
            simpa using this
          rw [hc] at SM
          clear hc
          have hne : (S.toList == Z.toList) = false := by
            have : ¬ S.toList = Z.toList := fun h => hSZ (by rw [← str_eta S, ← str_eta Z, h])
            simpa using this
          go_wp2_with fail
          refine SM.out.mono ?_
          rintro e w4 ⟨rfl, hb⟩
          have B4 := Lib.hid (bnext B3.out hb)
          have BX4 := Lib.hid (BX3.out.next hb)
          clear hb SM q0 q1 q2 q3 q4 p0 p1 p2 p3 p4
          obtain ⟨q0, q1, q2, q3, q4, _⟩ := BX4.out
          by_cases hlt : (S.size : Int) < (Z.size : Int)
          · have hmin : min (S.size : Int) (Z.size : Int) = (S.size : Int) := by omega
            have k0 : (0 : Int) ≤ (S.size : Int) := by omega
            have k1 : (S.size : Int) ≤ (Z.size : Int) := by omega
            by_cases hpre : Z.extract 0 S.size = S
            · have hk : x.t.k = 2 := by
                have h1 := congrArg ByteArray.toList hpre
                rw [toList_cut, List.drop_zero] at h1
                have h2 := List.take_append_drop S.size Z.toList
                rw [h1, HLS.out, HLZ.out] at h2
                refine txt_begin x.t y.t OX.out OY.out IX.out IY.out _ ?_ h2.symm
                intro h0
                rw [List.drop_eq_nil_iff, ← HLZ.out, toList_size] at h0
                omega
              rw [hk] at q0
              clear hk
              have hpe : ((Z.extract 0 S.size).toList == S.toList) = true := by rw [hpre]; simp
              clear hpre
              go_wp2_with fail
              refine (known_any w4).mono ?_
              rintro e wk ⟨rfl, hb⟩
              have HK := Lib.hid (bnext B4.out hb)
              clear hb
              go_wp2
              go_ret
              exact ⟨rfl, HK.out⟩
            · have hpe : ((Z.extract 0 S.size).toList == S.toList) = false := by
                have : ¬ (Z.extract 0 S.size).toList = S.toList := fun h => hpre (by rw [← str_eta (Z.extract 0 S.size), h, str_eta])
                simpa using this
              clear hpre
              by_cases hk : x.t.k = 2
              · rw [hk] at q0
                clear hk
                go_wp2_with fail
                refine (known_any w4).mono ?_
                rintro e wk ⟨rfl, hb⟩
                have HK := Lib.hid (bnext B4.out hb)
                clear hb
                go_wp2
                go_ret
                exact ⟨rfl, HK.out⟩
              · skip
                go_wp2_with fail
                refine (known_any w4).mono ?_
                rintro e wk ⟨rfl, hb⟩
                have HK := Lib.hid (bnext B4.out hb)
                clear hb
                go_wp2
                go_ret
                exact ⟨rfl, HK.out⟩
          · skip
            go_wp2_with fail
            refine (known_any w4).mono ?_
            rintro e wk ⟨rfl, hb⟩
            have HK := Lib.hid (bnext B4.out hb)
            clear hb
            go_wp2
            go_ret
            exact ⟨rfl, HK.out⟩
end Go.Proofs.Ytmgjiipooffggaa
