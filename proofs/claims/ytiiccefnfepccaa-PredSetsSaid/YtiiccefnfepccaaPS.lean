/- PredSets: the walk. -/
import Derived.Test.YtiiccefnfepccaaPR
namespace Go.Proofs.Ytiiccefnfepccaa
set_option maxRecDepth 100000
open Go.RowKit Go.Sort

theorem in_flip (l : List V) (v : V) : l.any (fun z => cmpV 12 z v == 0) = l.any (fun z => cmpV 12 v z == 0) := any_flip l v
theorem ok_set {k : Int} {l : List V} (h : k = 10 ∨ k = 11) (hl : l.length ≤ 60) : okP 12 (.mk k l []) = l.all (okV 12) := by
  show (fitsN k l.length 0 && l.all (okV 12) && true) = _
  unfold fitsN
  rw [if_neg (by omega), if_neg (by omega), if_pos (by omega), show decide (l.length ≤ 1000) = true from decide_eq_true (by omega)]
  simp
theorem t_in {l : List V} (v : V) (hl : l.length ≤ 60) : testV (.mk 10 l []) v = (l.all (okV 12) && l.any (fun z => cmpV 12 z v == 0)) := by
  unfold testV
  rw [ok_set (.inl rfl) hl, holdV, if_pos (by show (10 : Int) = 1 ∨ (10 : Int) = 10; omega), in_flip]; rfl
theorem t_out {l : List V} (v : V) (hl : l.length ≤ 60) : testV (.mk 11 l []) v = (l.all (okV 12) && !l.any (fun z => cmpV 12 z v == 0)) := by
  unfold testV
  rw [ok_set (.inr rfl) hl, holdV, if_neg (by show ¬((11 : Int) = 1 ∨ (11 : Int) = 10); omega), if_pos (by show (11 : Int) = 2 ∨ (11 : Int) = 11; omega), in_flip]; rfl
theorem set_in {w : World} {d : Nat} {k : Int} (hk : -9223372036854775808 ≤ k ∧ k ≤ 9223372036854775807) {A : Option Addr} {c : Nat} {l : List V} (h : Rw w 0 w.heap.size d A c l) : Pt.In ⟨.mk k l [], A, c, none, 0⟩ w 1 :=
  ⟨knd_lit k hk _ _, ⟨d, h⟩, pw_nil _ _ _ _⟩

set_option maxHeartbeats 12800000 in
theorem sets_law (w : World) (d : Nat) (A : Option Addr) (c : Nat) (l : List V) (y : At) (hl : Rw w 0 w.heap.size d A c l) (hy : y.In w d) : Calls Try.prog 7 #[.slice A l.length c, y.v] w fun e w' => e = .returned (.bool true) ∧ Below w.heap.size w w' := by
  have HL := Lib.hid hl
  have HY := Lib.hid hy
  have hbig := hl.big
  clear hl hy
  unfold At.v
  go_enter Try.func7, Try.ntmps7
  go_upto_region 1 with fail
  have k0 := PS.addV (PS.start w d) y HY.out
  generalize hW : World.alloc w _ = W at k0 ⊢
  clear hW
  have K := Lib.hid k0
  clear k0 HY
  obtain ⟨⟨y0, y1, y2, y3, y4, _⟩, i2⟩ := K.out.v (w.heap.size, y) (by simp)
  go_wp2_with fail
  refine (manyB_any W d A c l (HL.out.next K.out.bel) 300 (by omega) (by omega)).mono ?_
  rintro e w1 ⟨m, rfl, _, _, hb⟩
  have K1 := Lib.hid (K.out.next hb)
  clear hb y0 y1 y2 y3 y4 i2 K
  by_cases hm : 300 ≤ m
  case pos =>
    go_wp2_with fail
    refine (known_any w1).mono ?_
    rintro e wk ⟨rfl, hbk⟩
    have BK := Lib.hid (bnext K1.out.bel hbk)
    clear hbk
    go_wp2
    go_ret
    exact ⟨rfl, BK.out⟩
  have hm' : m < 300 := by omega
  obtain ⟨⟨y0, y1, y2, y3, y4, _⟩, i2⟩ := K1.out.v (w.heap.size, y) (by simp)
  have hb := below_new w1 (.cells #[.int .i64 y.t.k, .int .i64 y.t.n, .string y.t.s, .slice y.A y.t.l.length y.c, .slice y.A' y.t.m.length y.c'] 27)
  have RO := Lib.hid (row_one' w1 d y i2)
  have K2 := Lib.hid (K1.out.next hb)
  clear hb i2
  go_wp2_with fail
  refine (much_any _ 1 d ⟨zeroP, none, 0, none, 0⟩ (zeroP_in _) _ 1 [y.t] RO.out).mono ?_
  rintro e w2 ⟨b, rfl, hb⟩
  have K3 := Lib.hid (K2.out.next hb)
  clear hb y0 y1 y2 y3 y4 K1 K2 RO
  cases b
  case true =>
    go_wp2_with fail
    refine (known_any w2).mono ?_
    rintro e wk ⟨rfl, hbk⟩
    have BK := Lib.hid (bnext K3.out.bel hbk)
    clear hbk
    go_wp2
    go_ret
    exact ⟨rfl, BK.out⟩
  by_cases hs : 60 < l.length
  case pos =>
    have hs' : (60 : Int) < (l.length : Int) := by omega
    go_wp2_with fail
    refine (known_any w2).mono ?_
    rintro e wk ⟨rfl, hbk⟩
    have BK := Lib.hid (bnext K3.out.bel hbk)
    clear hbk
    go_wp2
    go_ret
    exact ⟨rfl, BK.out⟩
  have hs' : ¬ (60 : Int) < (l.length : Int) := by omega
  have HS := Lib.hid (show l.length ≤ 60 by omega)
  go_wp2
  go_loopw [5, 6, 7] (fun s5 s6 i wr => ∃ (k : Nat) (b1 b2 : Bool), k ≤ l.length ∧ i = .int .i64 k ∧ s5 = .bool b1 ∧ s6 = .bool b2 ∧ Hid (b1 = (l.take k).any (fun z => cmpV 12 z y.t == 0)) ∧ Hid (b2 = (l.take k).all (okV 12)) ∧ Hid (Below w2.heap.size w2 wr)) (fun _ _ i _ => l.length - (intOf i).toNat)
  case atStart => exact ⟨0, false, true, by omega, rfl, rfl, rfl, Lib.hid (by simp), Lib.hid (by simp), Lib.hid (Below.refl _ _)⟩
  case round =>
    obtain ⟨k, b1, b2, hk, rfl, rfl, rfl, hb1, hb2, hbel⟩ := hrel
    by_cases hlt : k < l.length
    · obtain ⟨⟨y0, y1, y2, y3, y4, _⟩, i2⟩ : Bx wr w.heap.size y ∧ y.In wr d := (K3.out.next hbel.out).v (w.heap.size, y) (by simp)
      obtain ⟨b, off, z, A1, c1, A2, c2, rfl, _, hb, hz, q, rz⟩ := (HL.out.next (K3.out.next hbel.out).bel).elem hlt
      obtain ⟨q0, q1, q2, q3, q4⟩ := q
      have NA := Lib.hid (any_next (fun z => cmpV 12 z y.t == 0) l k hz)
      have NB := Lib.hid (all_next (okV 12) l k hz)
      have RZ := Lib.hid rz
      have C1 := Lib.hid (refSame_regrown rz i2)
      have i0 : (0 : Int) ≤ (k : Int) := by omega
      have i2' : (k : Int) < (l.length : Int) := by omega
      have i4 : ((k : Int)).toNat = k := by omega
      clear rz hz i2
      cases b1
      all_goals
        go_upto_region 8 with fail
        replace y0 := cell_regrown y0
        replace y1 := cell_regrown y1
        replace y2 := cell_regrown y2
        replace y3 := cell_regrown y3
        replace y4 := cell_regrown y4
        replace q0 := cell_regrown q0
        replace q1 := cell_regrown q1
        replace q2 := cell_regrown q2
        replace q3 := cell_regrown q3
        replace q4 := cell_regrown q4
        refine wp_region_quiet_below (by kernel_rfl) (by kernel_rfl) ?_
        repeat (first | go_big_quiet_step (exact C1.out _ _) | quiet_step (exact C1.out _ _))
        refine wpQuiet_nil ?_
        intro _ hw'
        obtain ⟨⟨dq, osq⟩, hw''⟩ := hw'
        subst hw''
        have HB1 := Lib.hid (bnext hbel.out (below_regrown wr dq osq))
        have RZ1 := Lib.hid (RZ.out.next (below_regrown wr dq osq))
        replace q0 := q0 dq osq
        replace q1 := q1 dq osq
        replace q2 := q2 dq osq
        replace q3 := q3 dq osq
        replace q4 := q4 dq osq
        clear y0 y1 y2 y3 y4 RZ
        generalize grow (redrawn wr dq) osq = w5 at *
        cases b2
        · go_wp2
          go_roundw
          case rel => exact ⟨k + 1, _, _, by omega, by go_num, rfl, rfl, Lib.hid (by rw [NA.out, ← hb1.out]; rfl), Lib.hid (by rw [NB.out, ← hb2.out]; rfl), HB1⟩
          case measure => simp [intOf]; omega
        · go_wp2_with fail
          refine (refCheck_at w5 d ⟨z, A1, c1, A2, c2⟩ RZ1.out).mono ?_
          rintro e w6 ⟨rfl, hb⟩
          have HB2 := Lib.hid (bnext HB1.out hb)
          clear hb q0 q1 q2 q3 q4
          cases hq : okV 12 z
          all_goals
            have OZ := Lib.hid hq
            clear hq
            go_wp2
            go_roundw
            case rel => exact ⟨k + 1, _, _, by omega, by go_num, rfl, rfl, Lib.hid (by rw [NA.out, ← hb1.out]; rfl), Lib.hid (by rw [NB.out, ← hb2.out, OZ.out]; rfl), HB2⟩
            case measure => simp [intOf]; omega
    · have AN := Lib.hid (show b1 = l.any (fun z => cmpV 12 z y.t == 0) by have := hb1.out; rwa [List.take_of_length_le (by omega)] at this)
      have AL := Lib.hid (show b2 = l.all (okV 12) by have := hb2.out; rwa [List.take_of_length_le (by omega)] at this)
      have K4 := Lib.hid (K3.out.next hbel.out)
      obtain ⟨⟨y0, y1, y2, y3, y4, _⟩, i2⟩ : Bx wr w.heap.size y ∧ y.In wr d := K4.out.v (w.heap.size, y) (by simp)
      have CT := Lib.hid (test_any wr 1 d ⟨.mk 10 l [], A, c, none, 0⟩ y (set_in (by omega) (HL.out.next K4.out.bel)) i2)
      have T1 := Lib.hid (show testV (.mk 10 l []) y.t = (b2 && b1) by rw [t_in y.t HS.out, ← AN.out, ← AL.out])
      have T2 := Lib.hid (show testV (.mk 11 l []) y.t = (b2 && !b1) by rw [t_out y.t HS.out, ← AN.out, ← AL.out])
      clear hb1 hb2 hbel AN AL i2 K3
      go_wp2_with fail
      refine CT.out.mono ?_
      rintro e w7 ⟨rfl, hb⟩
      rw [T1.out]
      have K5 := Lib.hid (K4.out.next hb)
      clear hb y0 y1 y2 y3 y4 K4 CT
      obtain ⟨⟨y0, y1, y2, y3, y4, _⟩, i2⟩ : Bx w7 w.heap.size y ∧ y.In w7 d := K5.out.v (w.heap.size, y) (by simp)
      have CT := Lib.hid (test_any w7 1 d ⟨.mk 11 l [], A, c, none, 0⟩ y (set_in (by omega) (HL.out.next K5.out.bel)) i2)
      go_wp2_with fail
      refine CT.out.mono ?_
      rintro e w8 ⟨rfl, hb⟩
      rw [T2.out]
      have K6 := Lib.hid (K5.out.next hb)
      clear hb y0 y1 y2 y3 y4 K5 CT i2
      cases b2
      · skip
        go_wp2_with fail
        refine (known_any w8).mono ?_
        rintro e wk ⟨rfl, hbk⟩
        have BK := Lib.hid (bnext K6.out.bel hbk)
        clear hbk
        go_wp2
        go_ret
        exact ⟨rfl, BK.out⟩
      · obtain ⟨⟨y0, y1, y2, y3, y4, _⟩, i2⟩ : Bx w8 w.heap.size y ∧ y.In w8 d := K6.out.v (w.heap.size, y) (by simp)
        have CT := Lib.hid (k_test w8 1 d ⟨.mk 10 [] [], none, 0, none, 0⟩ y (set_in (by omega) (rw_nil _ _ _ 0)) i2 false (by rw [t_in y.t (by simp)]; rfl))
        cases b1
        all_goals
          go_wp2_with fail
          refine CT.out.mono ?_
          rintro e w9 ⟨rfl, hb⟩
          have K7 := Lib.hid (K6.out.next hb)
          clear hb y0 y1 y2 y3 y4 CT i2
          obtain ⟨⟨y0, y1, y2, y3, y4, _⟩, i2⟩ : Bx w9 w.heap.size y ∧ y.In w9 d := K7.out.v (w.heap.size, y) (by simp)
          go_wp2_with fail
          refine (k_test w9 1 d ⟨.mk 11 [] [], none, 0, none, 0⟩ y (set_in (by omega) (rw_nil _ _ _ 0)) i2 true (by rw [t_out y.t (by simp)]; rfl)).mono ?_
          rintro e w10 ⟨rfl, hb⟩
          have K8 := Lib.hid (K7.out.next hb)
          clear hb y0 y1 y2 y3 y4 i2
          go_wp2_with fail
          refine (known_any w10).mono ?_
          rintro e wk ⟨rfl, hbk⟩
          have BK := Lib.hid (bnext K8.out.bel hbk)
          clear hbk
          go_wp2
          go_ret
          exact ⟨rfl, BK.out⟩
end Go.Proofs.Ytiiccefnfepccaa
