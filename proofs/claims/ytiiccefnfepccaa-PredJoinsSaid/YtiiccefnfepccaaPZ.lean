/- PredJoins: the walk. -/
import Derived.Test.YtiiccefnfepccaaPY
import Derived.Deep.Cut
import Derived.Deep.CutRange
namespace Go.Proofs.Ytiiccefnfepccaa
set_option maxRecDepth 100000
open Go.RowKit Go.Sort

theorem ok_notB (t : P) : okP 12 (.mk 12 [] [t]) = okP 11 t := by
  show (fitsN 12 0 1 && true && (okP 11 t && true)) = _
  show (true && true && (okP 11 t && true)) = _
  simp
theorem ok_joinB {k : Int} {l : List P} (hk : k = 13 ∨ k = 14) (hl : l.length ≤ 1000) : okP 12 (.mk k [] l) = (decide (2 ≤ l.length) && l.all (okP 11)) := by
  show (fitsN k 0 l.length && true && l.all (okP 11)) = _
  unfold fitsN
  rw [if_neg (by omega), if_neg (by omega), if_neg (by omega), if_neg (by omega), if_pos (by omega), show decide (l.length ≤ 1000) = true from decide_eq_true hl]
  simp
theorem join_bad {k : Int} {l : List P} (hk : k = 13 ∨ k = 14) (hl : l.length ≤ 1000) (h : (decide (2 ≤ l.length) && l.all (okP 11)) = false) : joinP k l = zeroP := by
  unfold joinP
  rw [ok_joinB hk hl, h]; rfl
theorem join_good {k : Int} {l : List P} (hk : k = 13 ∨ k = 14) (hl : l.length ≤ 1000) (h : (decide (2 ≤ l.length) && l.all (okP 11)) = true) : joinP k l = .mk k [] l := by
  unfold joinP
  rw [ok_joinB hk hl, h]; rfl
theorem test_11 {t : P} (v : V) (h : okP 11 t = true) : testV t v = holdV 11 v t := by
  unfold testV
  rw [okP_up 11 12 t h (by omega), holdV_up 11 12 v t h (by omega)]; rfl
theorem all_congr' {α : Type} {f g : α → Bool} : ∀ (l : List α), (∀ x ∈ l, f x = g x) → l.all f = l.all g
  | [], _ => rfl
  | x :: l, h => by rw [List.all_cons, List.all_cons, h x (by simp), all_congr' l (fun y hy => h y (by simp [hy]))]
theorem t_all {l : List P} (v : V) (hl : l.length ≤ 1000) (h : (decide (2 ≤ l.length) && l.all (okP 11)) = true) : testV (joinP 13 l) v = l.all (fun x => testV x v) := by
  have h2 : l.all (okP 11) = true := by rw [Bool.and_eq_true] at h; exact h.2
  rw [join_good (.inl rfl) hl h, all_congr' l (fun x hx => test_11 v (List.all_eq_true.1 h2 x hx))]
  unfold testV
  rw [ok_joinB (.inl rfl) hl, h, holdV]
  show (true && !l.any (fun x => !holdV 11 v x)) = l.all (fun x => holdV 11 v x)
  rw [any_notT]; simp
theorem t_any {l : List P} (v : V) (hl : l.length ≤ 1000) (h : (decide (2 ≤ l.length) && l.all (okP 11)) = true) : testV (joinP 14 l) v = l.any (fun x => testV x v) := by
  have h2 : l.all (okP 11) = true := by rw [Bool.and_eq_true] at h; exact h.2
  rw [join_good (.inr rfl) hl h, any_congr' l (fun x hx => test_11 v (List.all_eq_true.1 h2 x hx))]
  unfold testV
  rw [ok_joinB (.inr rfl) hl, h, holdV]
  show (true && l.any (holdV 11 v)) = l.any (fun x => holdV 11 v x)
  simp
theorem right_rev (l : List P) : (decide (2 ≤ l.reverse.length) && l.reverse.all (okP 11)) = (decide (2 ≤ l.length) && l.all (okP 11)) := by rw [List.length_reverse, List.all_reverse]
theorem rev_next (l : List P) (k : Nat) (hk : k < l.length) {x : P} (hx : l[l.length - 1 - k]? = some x) : l.reverse.take (k + 1) = l.reverse.take k ++ [x] := by
  have h1 : k < l.reverse.length := by simpa using hk
  have h2 : l.reverse[k]? = some x := by rw [List.getElem?_reverse hk]; exact hx
  obtain ⟨_, e⟩ := List.getElem?_eq_some_iff.1 h2
  rw [List.take_succ_eq_append_getElem h1, e]

theorem bnext' {a b c : World} (h : Below a.heap.size a b) (k : Below b.heap.size b c) : Below a.heap.size a c := bnext h k
theorem below_grown {w0 X w9 : World} {A : Option Addr} {n c : Nat} {l : List Pt} (h : Below w0.heap.size w0 X) (ho : POwn X w0.heap.size A n c l) (hg : X.grownBy w9 (Value.ownBlock (.slice A n c))) : Below w0.heap.size w0 w9 :=
  ⟨hg.os.trans h.os, hg.tape.trans h.tape, hg.output.trans h.output, Nat.le_trans h.size hg.size, fun k hk => (hg.block k (Nat.lt_of_lt_of_le hk h.size) (fun e => by have := (World.ownsRow.lt ho k e.symm).1; omega)).trans (h.block k hk)⟩
theorem k_joinL (w : World) (d : Nat) (k : Int) (hk : -9223372036854775808 ≤ k ∧ k ≤ 9223372036854775807) (A : Option Addr) (c n : Nat) (l : List P) (hn : l.length = n) (h : Pw w 0 w.heap.size d A c l) : Calls Try.prog 25 #[.int .i64 k, .slice A n c] w (OnePost w 13 (joinP k l)) := by
  subst hn
  exact (join_any w d k hk A c l h).mono fun _ _ h => h.one
set_option maxHeartbeats 25600000 in
theorem joins_law (w : World) (d : Nat) (A : Option Addr) (c : Nat) (l : List P) (y : At) (hl : Pw w 0 w.heap.size d A c l) (hy : y.In w d) : Calls Try.prog 8 #[.slice A l.length c, y.v] w fun e w' => e = .returned (.bool true) ∧ Below w.heap.size w w' := by
  have HL := Lib.hid (show Pw w 0 w.heap.size (d + 20) A c l from hl.more (Nat.le_refl _) (Nat.le_refl _) (by omega))
  have HY := Lib.hid (hy.up (show d ≤ d + 20 by omega))
  have hbig := hl.big
  clear hl hy
  unfold At.v
  go_enter Try.func8, Try.ntmps8
  go_upto_region 1 with fail
  have k0 := PS.addV (PS.start w (d + 20)) y HY.out
  generalize hW : World.alloc w _ = W at k0 ⊢
  clear hW
  have K := Lib.hid k0
  clear k0 HY
  go_wp2
  go_loopw [5, 6] (fun u i wr => ∃ (k : Nat) (z : Int), k ≤ l.length ∧ i = .int .i64 k ∧ u = .int .i64 z ∧ (k : Int) ≤ z ∧ z ≤ 2814749767108801 ∧ Hid (Below W.heap.size W wr)) (fun _ i _ => l.length - (intOf i).toNat)
  case atStart => exact ⟨0, 0, by omega, rfl, rfl, by omega, by omega, Lib.hid (Below.refl _ _)⟩
  case round =>
    obtain ⟨k, z, hk, rfl, rfl, hz0, hz1, hbel⟩ := hrel
    by_cases hlt : k < l.length
    · by_cases hm : z < 400
      · obtain ⟨b, off, x, rfl, _, _, hx, q, rx⟩ := (HL.out.next (K.out.next hbel.out).bel).elem hlt
        obtain ⟨q0, q1, q2⟩ := q
        have RX := Lib.hid rx
        clear rx hx
        have k0 : (0 : Int) ≤ (k : Int) := by omega
        have k2 : (k : Int) < (l.length : Int) := by omega
        go_wp2_with fail
        refine (cntP_any (d + 20) _ x 400 (by omega) (by omega) RX.out).mono ?_
        rintro e w2 ⟨m, rfl, hc0, hc1, hbc⟩
        have BB := Lib.hid (bnext hbel.out hbc)
        clear hbc q0 q1 q2
        have i2 : IntKind.i64.wrap (z + m) = z + m := IntWalk.i64_in _ (by omega)
        go_wp2
        go_roundw
        case rel => exact ⟨k + 1, z + m, by omega, by go_num, rfl, by omega, by omega, BB⟩
        case measure => simp [intOf]; omega
      · have hm' : 400 ≤ z := by omega
        have K1 := Lib.hid (K.out.next hbel.out)
        go_wp2_with fail
        refine (known_any wr).mono ?_
        rintro e wk ⟨rfl, hbk⟩
        have BK := Lib.hid (bnext K1.out.bel hbk)
        clear hbk
        go_wp2
        go_ret
        exact ⟨rfl, BK.out⟩
    · have K1 := Lib.hid (K.out.next hbel.out)
      by_cases hm : 400 ≤ z
      case pos =>
        go_wp2_with fail
        refine (known_any wr).mono ?_
        rintro e wk ⟨rfl, hbk⟩
        have BK := Lib.hid (bnext K1.out.bel hbk)
        clear hbk
        go_wp2
        go_ret
        exact ⟨rfl, BK.out⟩
      have hm' : z < 400 := by omega
      have HLEN := Lib.hid (show l.length ≤ 1000 by omega)
      obtain ⟨⟨y0, y1, y2, y3, y4, _⟩, i2⟩ : Bx wr w.heap.size y ∧ y.In wr (d + 20) := K1.out.v (w.heap.size, y) (by simp)
      have hb := below_new wr (.cells #[.int .i64 y.t.k, .int .i64 y.t.n, .string y.t.s, .slice y.A y.t.l.length y.c, .slice y.A' y.t.m.length y.c'] 27)
      have RO := Lib.hid (row_one' wr (d + 20) y i2)
      have K2 := Lib.hid (K1.out.next hb)
      clear hb i2
      go_wp2_with fail
      refine (much_any _ 1 (d + 20) ⟨zeroP, none, 0, none, 0⟩ (zeroP_in _) _ 1 [y.t] RO.out).mono ?_
      rintro e w2 ⟨b, rfl, hb⟩
      have K3 := Lib.hid (K2.out.next hb)
      clear hb y0 y1 y2 y3 y4 K1 K2 RO K
      cases b
      case true =>
        go_wp2_with fail
        refine (known_any w2).mono ?_
        rintro e wk ⟨rfl, hbk⟩
        have BK := Lib.hid (bnext K3.out.bel hbk)
        clear hbk
        go_wp2
        go_ret
        exact ⟨rfl, BK.out⟩
      clear hz0 hz1 hm hm' hbel hlt
      obtain ⟨By, iy⟩ : Bx w2 w.heap.size y ∧ y.In w2 (d + 20) := K3.out.v (w.heap.size, y) (by simp)
      have BY := Lib.hid By
      have IY := Lib.hid iy
      have HL2 := Lib.hid (HL.out.next K3.out.bel)
      clear By iy
      go_wp2
      clear hk
      go_loopw [7, 8, 9, 10, 11] (fun s7 s8 s9 s10 i wr => ∃ (k : Nat) (b1 b2 b3 : Bool) (A2 : Option Addr) (c2 : Nat) (bk : List Pt), k ≤ l.length ∧ i = .int .i64 k ∧ s7 = .bool b1 ∧ s8 = .bool b2 ∧ s9 = .bool b3 ∧ s10 = .slice A2 k c2 ∧ Hid (b1 = (l.take k).all (fun t => testV t y.t)) ∧ Hid (b2 = (l.take k).any (fun t => testV t y.t)) ∧ Hid (b3 = (decide (2 ≤ l.length) && (l.take k).all (okP 11))) ∧ Hid (POwn wr w2.heap.size A2 k c2 bk) ∧ Hid (∀ x ∈ bk, x.In w2 (d + 20)) ∧ Hid (bk.map (·.t) = l.reverse.take k) ∧ Hid (Below w2.heap.size w2 wr)) (fun _ _ _ _ i _ => l.length - (intOf i).toNat)
      case atStart => exact ⟨0, true, false, _, none, 0, [], by omega, rfl, rfl, rfl, rfl, rfl, Lib.hid (by simp), Lib.hid (by simp), Lib.hid (by rw [List.take_zero]; show _ = (_ && true); rw [Bool.and_true, decide_eq_decide]; omega), Lib.hid (pown_nil _ _), Lib.hid (by intro x hx; cases hx), Lib.hid (by simp), Lib.hid (Below.refl _ _)⟩
      case round =>
        obtain ⟨k, b1, b2, b3, A2, c2, bk, hk, rfl, rfl, rfl, rfl, rfl, hb1, hb2, hb3, hO, hI, hM, hbel⟩ := hrel
        by_cases hlt : k < l.length
        · obtain ⟨b, off, x, rfl, _, hbb, hx, q, rx⟩ := HL2.out.elem hlt
          obtain ⟨b', off', z, eA, _, _, hz, q', rz⟩ := HL2.out.elem (k := l.length - 1 - k) (by omega)
          injection eA with eA
          injection eA with eb eo
          subst eb
          subst eo
          have Q := Lib.hid q
          have QZ := Lib.hid q'
          have RX := Lib.hid (show x.In w2 (d + 20) from rx)
          have RZ := Lib.hid (show z.In w2 (d + 20) from rz)
          have NA := Lib.hid (all_next (fun t => testV t y.t) l k hx)
          have NB := Lib.hid (any_next (fun t => testV t y.t) l k hx)
          have NC := Lib.hid (all_next (okP 11) l k hx)
          have NR := Lib.hid (rev_next l k hlt hz)
          have HBB := Lib.hid hbb
          clear rx rz hx hz q q'
          have C1 := Lib.hid (of_regrown (w := wr) (fun X hX => test_any X (d + 20) (d + 20) x y ((RX.out.next hbel.out).next hX) ((IY.out.next hbel.out).next hX)))
          obtain ⟨y0, y1, y2, y3, y4, _⟩ := BY.out.next hbel.out
          obtain ⟨q0, q1, q2⟩ := Q.out.keep (Kept.of_below hbel.out (Nat.le_refl _)) (Nat.zero_le _) HBB.out
          have i0 : (0 : Int) ≤ (k : Int) := by omega
          have i2 : (k : Int) < (l.length : Int) := by omega
          have i4 : ((k : Int)).toNat = k := by omega
          go_upto_region 15 with fail
          replace y0 := cell_regrown y0
          replace y1 := cell_regrown y1
          replace y2 := cell_regrown y2
          replace y3 := cell_regrown y3
          replace y4 := cell_regrown y4
          replace q0 := cell_regrown q0
          replace q1 := cell_regrown q1
          replace q2 := cell_regrown q2
          refine wp_region_quiet_below (by kernel_rfl) (by kernel_rfl) ?_
          repeat (first | go_big_quiet_step (exact C1.out _ _) | quiet_step (exact C1.out _ _))
          refine wpQuiet_nil ?_
          intro _ hw'
          obtain ⟨⟨dq, osq⟩, hw''⟩ := hw'
          subst hw''
          have HB1 := Lib.hid (bnext' hbel.out (below_regrown wr dq osq))
          have HO1 := Lib.hid (hO.out.next (below_regrown wr dq osq))
          clear y0 y1 y2 y3 y4 q0 q1 q2 C1 hbel hO
          generalize grow (redrawn wr dq) osq = wv at *
          obtain ⟨T, hT⟩ : ∃ T, T = testV x.t y.t := ⟨_, rfl⟩
          rw [← hT]
          have HT := Lib.hid hT
          clear hT
          go_upto_region 16 with fail
          go_cut [7] from 52 to 87 (fun s7 wx => s7 = .bool (b1 && T) ∧ wx = wv)
          case first =>
            cases b1
            all_goals
              go_wp2_with fail
              go_meet
              exact ⟨rfl, rfl⟩
          case rest =>
            obtain ⟨rfl, rfl⟩ := hcut
            go_upto_region 17 with fail
            go_cut [8] from 52 to 87 (fun s8 wx => s8 = .bool (b2 || T) ∧ wx = wc)
            case first =>
              cases b2
              all_goals
                go_wp2_with fail
                go_meet
                exact ⟨rfl, rfl⟩
            case rest =>
              obtain ⟨rfl, rfl⟩ := hcut
              obtain ⟨wq, hwq⟩ : ∃ q, q = wc := ⟨_, rfl⟩
              subst hwq
              go_upto_region 18 with fail
              go_cut [9] from 52 to 87 (fun s9 wx => s9 = .bool (b3 && okP 11 x.t) ∧ Below wq.heap.size wq wx)
              case first =>
                cases b3
                · go_wp2_with fail
                  go_meet
                  exact ⟨rfl, Below.refl _ _⟩
                · obtain ⟨q0, q1, q2⟩ := Q.out.keep (Kept.of_below HB1.out (Nat.le_refl _)) (Nat.zero_le _) HBB.out
                  have zb := below_new wq (.cells #[.int .i64 x.t.k, .slice x.A x.t.v.length x.c, .slice x.A' x.t.p.length x.c'] 25)
                  have ix : Pt.In ⟨.mk 12 [] [x.t], none, 0, some ⟨wq.heap.size, 0, none⟩, 1⟩ (wq.alloc (.cells #[.int .i64 x.t.k, .slice x.A x.t.v.length x.c, .slice x.A' x.t.p.length x.c'] 25)) (d + 21) :=
                    ⟨knd_lit 12 (by omega) _ _, ⟨0, rw_nil _ _ _ _⟩, rowP_lay wq (d + 20) [x] (by intro q hq; rw [List.mem_singleton.1 hq]; exact RX.out.next HB1.out) (by simp)⟩
                  have CK := Lib.hid (refPCheck _ (d + 21) _ ix)
                  have ZB := Lib.hid zb
                  clear ix zb
                  go_wp2_with fail
                  refine CK.out.mono ?_
                  rintro e w5 ⟨rfl, hb⟩
                  have B5 := Lib.hid (bnext ZB.out hb)
                  clear hb q0 q1 q2 CK
                  rw [show okP 12 (.mk 12 [] [x.t]) = okP 11 x.t from ok_notB x.t]
                  cases hq : okP 11 x.t
                  all_goals
                    go_wp2_with fail
                    go_meet
                    exact ⟨by first | rfl | (rw [hq]; rfl), B5.out⟩
              case rest =>
                obtain ⟨rfl, hcb⟩ := hcut
                have HB2 := Lib.hid (bnext' HB1.out hcb)
                have HO2 := Lib.hid (HO1.out.next hcb)
                obtain ⟨q0, q1, q2⟩ := QZ.out.keep (Kept.of_below HB2.out (Nat.le_refl _)) (Nat.zero_le _) HBB.out
                have zb := below_new wc (.cells #[.int .i64 z.t.k, .slice z.A z.t.v.length z.c, .slice z.A' z.t.p.length z.c'] 25)
                have HO3 := Lib.hid (HO2.out.next zb)
                have HB3 := Lib.hid (bnext' HB2.out zb)
                clear hcb zb HO1 HO2
                have j0 : ((l.length - 1 - k : Nat) : Int) = (l.length : Int) - 1 - (k : Int) := by omega
                have j1 : IntKind.i64.wrap ((l.length : Int) - 1) = (l.length : Int) - 1 := IntWalk.i64_in _ (by omega)
                have j2 : IntKind.i64.wrap ((l.length : Int) - 1 - (k : Int)) = (l.length : Int) - 1 - (k : Int) := IntWalk.i64_in _ (by omega)
                have j3 : (0 : Int) ≤ (l.length : Int) - 1 - (k : Int) := by omega
                have j4 : (l.length : Int) - 1 - (k : Int) < (l.length : Int) := by omega
                have j5 : ((l.length : Int) - 1 - (k : Int)).toNat = l.length - 1 - k := by omega
                have hbase : w2.heap.size ≤ (wc.alloc (.cells #[.int .i64 z.t.k, .slice z.A z.t.v.length z.c, .slice z.A' z.t.p.length z.c'] 25)).heap.size := HB3.out.size
                go_upto_region 14 with (at_builtin; refine append_oneP rfl (.tmp 77) (.tmp 86) rfl w2.heap.size HO3.out rfl rfl (cells_one _ z) (by omega) hbase ?_; intro A3 c3 w9 hown hgr; have HB9 := Lib.hid (below_grown HB3.out HO3.out hgr); have HO9 := Lib.hid hown; clear hown hgr)
                clear q0 q1 q2 j0 j1 j2 j3 j4 j5
                go_wp2
                go_roundw
                case rel => exact ⟨k + 1, b1 && T, b2 || T, b3 && okP 11 x.t, A3, c3, bk ++ [z], by omega, by go_num, rfl, rfl, rfl, rfl, Lib.hid (by rw [NA.out, ← hb1.out, HT.out]), Lib.hid (by rw [NB.out, ← hb2.out, HT.out]), Lib.hid (by rw [NC.out, hb3.out, Bool.and_assoc]), HO9, Lib.hid (by intro q hq; rcases List.mem_append.1 hq with hq | hq; exact hI.out q hq; rw [List.mem_singleton.1 hq]; exact RZ.out), Lib.hid (by rw [List.map_append, hM.out, NR.out]; rfl), HB9⟩
                case measure => simp [intOf]; omega
        · have AN := Lib.hid (show b1 = l.all (fun t => testV t y.t) by have := hb1.out; rwa [List.take_of_length_le (by omega)] at this)
          have BN := Lib.hid (show b2 = l.any (fun t => testV t y.t) by have := hb2.out; rwa [List.take_of_length_le (by omega)] at this)
          have CN := Lib.hid (show b3 = (decide (2 ≤ l.length) && l.all (okP 11)) by have := hb3.out; rwa [List.take_of_length_le (l := l) (by omega)] at this)
          obtain rfl : k = l.length := by omega
          have RV := Lib.hid (show bk.map (·.t) = l.reverse by have := hM.out; rwa [List.take_of_length_le (by simp)] at this)
          have RB := Lib.hid (show Pw wr 0 wr.heap.size (d + 20) A2 c2 l.reverse by rw [← RV.out]; exact hO.out.row (by omega) (fun x hx => (hI.out x hx).next hbel.out))
          have K4 := Lib.hid (K3.out.next hbel.out)
          have HL3 := Lib.hid (HL2.out.next hbel.out)
          clear hb1 hb2 hb3 hM hO hI hbel K3 HL2 RV BY IY hlt hk
          go_wp2_with fail
          refine (k_joinL wr (d + 20) 13 (by omega) _ c l.length l rfl HL3.out).mono ?_
          rintro e w3 ⟨pa, rfl, ta, ia, hb⟩
          have TA := Lib.hid ta
          have IA := Lib.hid (ia.up (show 13 ≤ d + 20 by omega))
          replace RB := Lib.hid (RB.out.next hb)
          replace HL3 := Lib.hid (HL3.out.next hb)
          replace K4 := Lib.hid (K4.out.next hb)
          clear hb ta ia
          go_upto_region 21 with fail
          have k := K4.out.addP pa IA.out
          have hb := below_new w3 (.cells #[.int .i64 pa.t.k, .slice pa.A pa.t.v.length pa.c, .slice pa.A' pa.t.p.length pa.c'] 25)
          generalize hW : World.alloc w3 _ = w4 at k hb ⊢
          clear hW K4 IA
          have K4 := Lib.hid k
          replace RB := Lib.hid (RB.out.next hb)
          replace HL3 := Lib.hid (HL3.out.next hb)
          clear k hb
          generalize w3.heap.size = ga at *
          go_wp2_with fail
          refine (k_joinL w4 (d + 20) 14 (by omega) _ c l.length l rfl HL3.out).mono ?_
          rintro e w5 ⟨pb, rfl, tb, ib, hb⟩
          have TB := Lib.hid tb
          have IB := Lib.hid (ib.up (show 13 ≤ d + 20 by omega))
          replace RB := Lib.hid (RB.out.next hb)
          replace HL3 := Lib.hid (HL3.out.next hb)
          replace K4 := Lib.hid (K4.out.next hb)
          clear hb tb ib
          go_upto_region 22 with fail
          have k := K4.out.addP pb IB.out
          have hb := below_new w5 (.cells #[.int .i64 pb.t.k, .slice pb.A pb.t.v.length pb.c, .slice pb.A' pb.t.p.length pb.c'] 25)
          generalize hW : World.alloc w5 _ = w6 at k hb ⊢
          clear hW K4 IB
          have K4 := Lib.hid k
          replace RB := Lib.hid (RB.out.next hb)
          replace HL3 := Lib.hid (HL3.out.next hb)
          clear k hb
          generalize w5.heap.size = gb at *
          go_wp2_with fail
          refine (k_joinL w6 (d + 20) 13 (by omega) _ c2 l.length l.reverse (by simp) RB.out).mono ?_
          rintro e w7 ⟨pc, rfl, tc, ic, hb⟩
          have TC := Lib.hid tc
          have IC := Lib.hid (ic.up (show 13 ≤ d + 20 by omega))
          replace RB := Lib.hid (RB.out.next hb)
          replace HL3 := Lib.hid (HL3.out.next hb)
          replace K4 := Lib.hid (K4.out.next hb)
          clear hb tc ic
          go_upto_region 23 with fail
          have k := K4.out.addP pc IC.out
          have hb := below_new w7 (.cells #[.int .i64 pc.t.k, .slice pc.A pc.t.v.length pc.c, .slice pc.A' pc.t.p.length pc.c'] 25)
          generalize hW : World.alloc w7 _ = w8 at k hb ⊢
          clear hW K4 IC
          have K4 := Lib.hid k
          replace RB := Lib.hid (RB.out.next hb)
          replace HL3 := Lib.hid (HL3.out.next hb)
          clear k hb
          generalize w7.heap.size = gc at *
          go_wp2_with fail
          refine (k_joinL w8 (d + 20) 14 (by omega) _ c2 l.length l.reverse (by simp) RB.out).mono ?_
          rintro e w9 ⟨pd, rfl, td, id, hb⟩
          have TD := Lib.hid td
          have ID := Lib.hid (id.up (show 13 ≤ d + 20 by omega))
          replace RB := Lib.hid (RB.out.next hb)
          replace HL3 := Lib.hid (HL3.out.next hb)
          replace K4 := Lib.hid (K4.out.next hb)
          clear hb td id
          go_upto_region 24 with fail
          have k := K4.out.addP pd ID.out
          have hb := below_new w9 (.cells #[.int .i64 pd.t.k, .slice pd.A pd.t.v.length pd.c, .slice pd.A' pd.t.p.length pd.c'] 25)
          generalize hW : World.alloc w9 _ = w10 at k hb ⊢
          clear hW K4 ID
          have K4 := Lib.hid k
          replace RB := Lib.hid (RB.out.next hb)
          replace HL3 := Lib.hid (HL3.out.next hb)
          clear k hb
          generalize w9.heap.size = gd at *
          clear RB HL3
          have L1 := HLEN.out
          have L2 : l.reverse.length ≤ 1000 := by rw [List.length_reverse]; exact L1
          cases b3
          · have e0 := CN.out.symm
            have za : pa.t.k = 0 := by rw [TA.out, join_bad (.inl rfl) L1 e0]; rfl
            have zb : pb.t.k = 0 := by rw [TB.out, join_bad (.inr rfl) L1 e0]; rfl
            obtain ⟨⟨a0, _, _, _⟩, _⟩ := K4.out.p (ga, pa) (by simp)
            obtain ⟨⟨b0, _, _, _⟩, _⟩ := K4.out.p (gb, pb) (by simp)
            simp only [za] at a0
            simp only [zb] at b0
            clear e0 za zb
            go_wp2_with fail
            refine (known_any w10).mono ?_
            rintro e wk ⟨rfl, hbk⟩
            have BK := Lib.hid (bnext K4.out.bel hbk)
            clear hbk
            go_wp2
            go_ret
            exact ⟨rfl, BK.out⟩
          · have e0 := CN.out.symm
            have e1 : (decide (2 ≤ l.reverse.length) && l.reverse.all (okP 11)) = true := by rw [right_rev]; exact e0
            have za : pa.t = .mk 13 [] l := by rw [TA.out, join_good (.inl rfl) L1 e0]
            have ka : pa.t.k = 13 := by rw [za]; rfl
            have la : (pa.t.p.length : Int) = (l.length : Int) := by rw [za]; rfl
            have q1 := Lib.hid (show testV pa.t y.t = b1 by rw [TA.out, t_all y.t L1 e0]; exact AN.out.symm)
            have q2 := Lib.hid (show testV pb.t y.t = b2 by rw [TB.out, t_any y.t L1 e0]; exact BN.out.symm)
            have q3 := Lib.hid (show testV pc.t y.t = b1 by rw [TC.out, t_all y.t L2 e1, List.all_reverse]; exact AN.out.symm)
            have q4 := Lib.hid (show testV pd.t y.t = b2 by rw [TD.out, t_any y.t L2 e1, List.any_reverse]; exact BN.out.symm)
            have el : ((pa.t.p.length : Int) == (l.length : Int)) = true := by rw [la]; simp
            clear e0 e1 za la TA TB TC TD AN BN CN
            cases b1 <;> cases b2
            all_goals
              obtain ⟨⟨a0, a1, a2, _⟩, ia⟩ : BP w10 ga pa ∧ pa.In w10 (d + 20) := K4.out.p (ga, pa) (by simp)
              obtain ⟨⟨y0, y1, y2, y3, y4, _⟩, iy⟩ : Bx w10 w.heap.size y ∧ y.In w10 (d + 20) := K4.out.v (w.heap.size, y) (by simp)
              have CT := Lib.hid (k_test w10 (d + 20) (d + 20) pa y ia iy _ q1.out)
              have n13 : (pa.t.k == 13) = true := by rw [ka]; rfl
              clear ka
              go_wp2_with fail
              refine CT.out.mono ?_
              rintro e v0 ⟨rfl, hb⟩
              clear n13 el L1 L2
              replace K4 := Lib.hid (K4.out.next hb)
              clear hb a0 a1 a2 y0 y1 y2 y3 y4 ia iy CT
              obtain ⟨⟨a0, a1, a2, _⟩, ia⟩ : BP v0 gb pb ∧ pb.In v0 (d + 20) := K4.out.p (gb, pb) (by simp)
              obtain ⟨⟨y0, y1, y2, y3, y4, _⟩, iy⟩ : Bx v0 w.heap.size y ∧ y.In v0 (d + 20) := K4.out.v (w.heap.size, y) (by simp)
              have CT := Lib.hid (k_test v0 (d + 20) (d + 20) pb y ia iy _ q2.out)
              go_wp2_with fail
              refine CT.out.mono ?_
              rintro e v1 ⟨rfl, hb⟩
              replace K4 := Lib.hid (K4.out.next hb)
              clear hb a0 a1 a2 y0 y1 y2 y3 y4 ia iy CT
              obtain ⟨⟨a0, a1, a2, _⟩, ia⟩ : BP v1 gc pc ∧ pc.In v1 (d + 20) := K4.out.p (gc, pc) (by simp)
              obtain ⟨⟨y0, y1, y2, y3, y4, _⟩, iy⟩ : Bx v1 w.heap.size y ∧ y.In v1 (d + 20) := K4.out.v (w.heap.size, y) (by simp)
              have CT := Lib.hid (k_test v1 (d + 20) (d + 20) pc y ia iy _ q3.out)
              go_wp2_with fail
              refine CT.out.mono ?_
              rintro e v2 ⟨rfl, hb⟩
              replace K4 := Lib.hid (K4.out.next hb)
              clear hb a0 a1 a2 y0 y1 y2 y3 y4 ia iy CT
              obtain ⟨⟨a0, a1, a2, _⟩, ia⟩ : BP v2 gd pd ∧ pd.In v2 (d + 20) := K4.out.p (gd, pd) (by simp)
              obtain ⟨⟨y0, y1, y2, y3, y4, _⟩, iy⟩ : Bx v2 w.heap.size y ∧ y.In v2 (d + 20) := K4.out.v (w.heap.size, y) (by simp)
              have CT := Lib.hid (k_test v2 (d + 20) (d + 20) pd y ia iy _ q4.out)
              go_wp2_with fail
              refine CT.out.mono ?_
              rintro e v3 ⟨rfl, hb⟩
              replace K4 := Lib.hid (K4.out.next hb)
              clear hb a0 a1 a2 y0 y1 y2 y3 y4 ia iy CT
              go_wp2_with fail
              refine (known_any v3).mono ?_
              rintro e wk ⟨rfl, hbk⟩
              have BK := Lib.hid (bnext K4.out.bel hbk)
              clear hbk
              go_wp2
              go_ret
              exact ⟨rfl, BK.out⟩
end Go.Proofs.Ytiiccefnfepccaa
