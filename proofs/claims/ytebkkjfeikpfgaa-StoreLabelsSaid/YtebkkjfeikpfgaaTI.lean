/- StoreLabels: the walk. -/
import Derived.Test.YtebkkjfeikpfgaaTH
import Derived.Test.YtebkkjfeikpfgaaTD
namespace Go.Proofs.Ytebkkjfeikpfgaa
open Go.RowKit Go.Sort
set_option maxRecDepth 100000
attribute [local go_sem ↓] Go.wp_at_zero Go.wp_at_succ

theorem seen_has (S : Int → Int → List SP) (id way : Int) (ls : List ByteArray) (h : ls ≠ []) : seenS S id way ls = (baseS S id way).filter fun s => hasL ls s.l := by
  unfold seenS
  rw [if_neg h]
  congr 1
  funext s
  exact fit_has ls s.l
theorem has_one (l b : ByteArray) : hasL [l] b = (l.toList == b.toList) := by unfold hasL; simp
set_option maxHeartbeats 32000000 in
theorem labels_law (w : World) (d0 : Nat) (g : GA) (id way : Int) (B0 : Option Addr) (cb : Nat) (ls : List ByteArray) (hg : g.In w d0) (hsm : g.Sm) (hid : WfI id) (hway : WfI way) (hL : LRow w B0 cb ls) : Calls Try.prog 6 #[g.v, .int .i64 id, .int .i64 way, .slice B0 ls.length cb] w fun e w' => e = .returned (.bool true) ∧ Below w.heap.size w w' := by
  have G0 := Lib.hid hg
  have L0 := Lib.hid hL
  have HSM := Lib.hid hsm
  clear hg hsm hL
  go_enter Try.func6, Try.ntmps6
  go_upto_region 1 with fail
  obtain ⟨W0, hW0⟩ : ∃ W0, W0 = w.alloc (.cells #[.slice g.AV g.vs.length g.cV, .slice g.AE g.es.length g.cE] 24) := ⟨_, rfl⟩
  have k0 := box24 w (.slice g.AV g.vs.length g.cV) (.slice g.AE g.es.length g.cE) W0 hW0.symm
  rw [← hW0]
  clear hW0
  have B := Lib.hid k0.2.2.1
  have K := Lib.hid (show K24 W0 w.heap.size (.slice g.AV g.vs.length g.cV) (.slice g.AE g.es.length g.cE) from ⟨k0.1, k0.2.1, by have := k0.2.2.2; omega⟩)
  clear k0
  have G := Lib.hid (G0.out.next B.out)
  have LR := Lib.hid (L0.out.next B.out)
  clear G0 L0
  obtain ⟨nl, hnl⟩ : ∃ nl, nl = ls.length := ⟨_, rfl⟩
  have NL := Lib.hid hnl
  rw [← hnl]
  clear hnl
  obtain ⟨y0, y1, -⟩ := K.out
  go_wp2_with fail
  refine (much_any W0 d0 g G.out).mono ?_
  rintro e W1 ⟨mb, rfl, hb1⟩
  clear y0 y1
  replace G := Lib.hid (G.out.next hb1)
  replace K := Lib.hid (K.out.next hb1)
  replace LR := Lib.hid (LR.out.next hb1)
  replace B := Lib.hid (bnext B.out hb1)
  clear hb1
  cases mb
  case true =>
    go_wp2_with fail
    refine (known_any W1).mono ?_
    rintro e wk ⟨rfl, hbk⟩
    replace B := Lib.hid (bnext B.out hbk)
    clear hbk
    go_wp2
    go_ret
    exact ⟨rfl, B.out⟩
  have SH := Lib.hid (short_any W1 B0 cb ls LR.out)
  rw [← NL.out] at SH
  go_wp2_with fail
  refine SH.out.mono ?_
  rintro e w' ⟨rfl, rfl⟩
  clear SH
  obtain ⟨W2, hW2⟩ : ∃ W2, W2 = w' := ⟨_, rfl⟩
  rw [← hW2] at G LR K B ⊢
  clear hW2
  cases hsh : shortB ls
  case false =>
    go_wp2_with fail
    refine (known_any W2).mono ?_
    rintro e wk ⟨rfl, hbk⟩
    replace B := Lib.hid (bnext B.out hbk)
    clear hbk
    go_wp2
    go_ret
    exact ⟨rfl, B.out⟩
  have hn : nl ≤ 1000000 := by
    unfold shortB at hsh
    simp only [Bool.and_eq_true, decide_eq_true_eq] at hsh
    have := NL.out
    omega
  clear hsh
  by_cases hz : nl = 0
  case pos =>
    have e0 : ((nl : Int) == 0) = true := by rw [hz]; rfl
    have z0 : (nl : Int) = 0 := by omega
    go_wp2_with fail
    refine (known_any W2).mono ?_
    rintro e wk ⟨rfl, hbk⟩
    replace B := Lib.hid (bnext B.out hbk)
    clear hbk
    go_wp2
    go_ret
    exact ⟨rfl, B.out⟩
  have e0 : ((nl : Int) == 0) = false := beq_eq_false_iff_ne.2 (by omega)
  have HNE : Hid (ls ≠ []) := Lib.hid (fun e => by have := NL.out; rw [e] at this; exact hz this)
  obtain ⟨y0, y1, -⟩ := K.out
  go_wp2_with fail
  refine (refCheck_any W2 d0 g G.out HSM.out).mono ?_
  rintro e W3 ⟨rfl, hb1⟩
  clear y0 y1
  replace G := Lib.hid (G.out.next hb1)
  replace K := Lib.hid (K.out.next hb1)
  replace LR := Lib.hid (LR.out.next hb1)
  replace B := Lib.hid (bnext B.out hb1)
  clear hb1
  rcases errG_or g.vs g.es with ⟨hok, he⟩ | he
  case inr =>
    rw [he]
    clear he
    go_wp2_with fail
    refine (known_any W3).mono ?_
    rintro e wk ⟨rfl, hbk⟩
    replace B := Lib.hid (bnext B.out hbk)
    clear hbk
    go_wp2
    go_ret
    exact ⟨rfl, B.out⟩
  rw [he]
  have HOK := Lib.hid hok
  clear he hok
  obtain ⟨y0, y1, -⟩ := K.out
  go_wp2_with fail
  refine (new_any W3 d0 g G.out).mono ?_
  rintro e W4 ⟨hb1, ⟨he, -⟩ | ⟨-, s1, vs1, es1, rfl, hs1, -, ee1⟩⟩
  · exact absurd ((okG_errG HOK.out).symm.trans he) (by decide)
  clear ee1 y0 y1
  replace LR := Lib.hid (LR.out.next hb1)
  replace B := Lib.hid (bnext B.out hb1)
  clear hb1
  have S1 := Lib.hid hs1
  clear hs1 G K HSM HOK e0
  have FW := Lib.hid S1.out.few
  have AT := Lib.hid (fun (s : SP) (hs : s ∈ baseS (spk (es1.map TA.tv')) id way) => at_spoke S1.out.re hs)
  have AA := Lib.hid (fun (W : World) (hW : Sto W s1 vs1 es1) (B : Option Addr) (c : Nat) (l : List ByteArray) (hl : LRow W B c l) (hln : l.length ≤ 1000000) => around_any W (some ⟨s1, 0, none⟩) vs1 es1 (.inr ⟨s1, rfl, hW⟩) id way hid hway B c l hl hln)
  have ED := Lib.hid (fun (W : World) (hW : Sto W s1 vs1 es1) (v : Int) => edge_any W (some ⟨s1, 0, none⟩) vs1 es1 (.inr ⟨s1, rfl, hW⟩) v)
  have BL := Lib.hid (FW.out.base id way)
  have A0 := Lib.hid (fun (W : World) (hW : Sto W s1 vs1 es1) => AA.out W hW none 0 [] (lrow_nil _ _ _) (by simp))
  have A1 := Lib.hid (fun (W : World) (hW : Sto W s1 vs1 es1) (hl : LRow W B0 cb ls) => AA.out W hW B0 cb ls hl (by have := NL.out; omega))
  have A2 := Lib.hid (fun (W : World) (hW : Sto W s1 vs1 es1) (g : Nat) (s : ByteArray) (hl : LRow W (some ⟨g, 0, none⟩) 1 [s]) => AA.out W hW _ 1 [s] hl (by simp))
  simp only [seen_base] at A0
  simp only [seen_has _ _ _ ls HNE.out, ← NL.out] at A1
  simp only [seen_has _ _ _ [_] (List.cons_ne_nil _ _), has_one] at A2
  clear AA FW
  generalize baseS (spk (es1.map TA.tv')) id way = base at AT BL A0 A1 A2
  obtain ⟨nb, hnb⟩ : ∃ nb, nb = base.length := ⟨_, rfl⟩
  obtain ⟨ns, hns⟩ : ∃ ns, ns = (base.filter fun s => hasL ls s.l).length := ⟨_, rfl⟩
  have NB := Lib.hid hnb
  have NS := Lib.hid hns
  have lb : nb ≤ 4398046511104 := by have := BL.out.1; omega
  have lsb : ns ≤ nb := by have := List.length_filter_le (fun s : SP => hasL ls s.l) base; omega
  have HA : Hid ((base.map fun s => s.e).length = nb) := Lib.hid (by rw [List.length_map, NB.out])
  have HS : Hid (((base.filter fun s => hasL ls s.l).map fun s => s.e).length = ns) := Lib.hid (by rw [List.length_map, NS.out])
  have EA := Lib.hid (fun (k : Nat) (s : SP) (h : base[k]? = some s) => show (base.map fun s => s.e)[k]? = some s.e by rw [List.getElem?_map, h]; rfl)
  have ES := Lib.hid (fun (k : Nat) (s : SP) (h : base[k]? = some s) (hp : hasL ls s.l = true) => show ((base.filter fun s => hasL ls s.l).map fun s => s.e)[((base.take k).filter fun s => hasL ls s.l).length]? = some s.e by rw [List.getElem?_map, filter_at (fun s : SP => hasL ls s.l) base k s h hp]; rfl)
  clear hnb hns
  generalize (base.map fun s => s.e) = LA at A0 HA EA
  generalize ((base.filter fun s => hasL ls s.l).map fun s => s.e) = LS at A1 HS ES
  go_wp2_with fail
  refine (A0.out W4 S1.out).mono ?_
  rintro e X1 ⟨E3, e3, rfl, ho, hb1⟩
  rw [HA.out] at ho ⊢
  have O3 := Lib.hid ho
  clear ho
  replace S1 := Lib.hid (S1.out.next hb1)
  replace LR := Lib.hid (LR.out.next hb1)
  replace B := Lib.hid (bnext B.out hb1)
  clear hb1
  go_wp2_with fail
  refine (A1.out X1 S1.out LR.out).mono ?_
  rintro e X2 ⟨E4, e4, rfl, ho, hb1⟩
  rw [HS.out] at ho ⊢
  have O4 := Lib.hid ho
  clear ho
  replace S1 := Lib.hid (S1.out.next hb1)
  replace LR := Lib.hid (LR.out.next hb1)
  replace O3 := Lib.hid (O3.out.next hb1)
  replace B := Lib.hid (bnext B.out hb1)
  clear hb1
  clear A0 A1
  go_wp2_with fail
  go_loopw [13, 14] (fun kk i wz => ∃ (q m : Nat), q ≤ nb ∧ i = .int .i64 q ∧ kk = .int .i64 m ∧ m ≤ q ∧ Hid (m = ((base.take q).filter fun s => hasL ls s.l).length) ∧ Hid (Below X2.heap.size X2 wz)) (fun _ i _ => nb - (intOf i).toNat)
  case atStart => exact ⟨0, 0, by omega, rfl, rfl, by omega, Lib.hid rfl, Lib.hid (Below.refl _ _)⟩
  case round =>
    obtain ⟨q, m, hq, rfl, rfl, hm, hM, hbel⟩ := hrel
    by_cases hlt : q < nb
    · obtain ⟨s, hs⟩ : ∃ s, base[q]? = some s := ⟨_, List.getElem?_eq_getElem (by have := NB.out; omega)⟩
      obtain ⟨b1, off1, y, ex, hbb, hy, g1⟩ := ((O3.out.next hbel.out).row (by omega)).elem (k := q) (by have := HA.out; omega)
      obtain rfl : s.e = y := by have := EA.out q s hs; rw [hy] at this; injection this with this; exact this.symm
      obtain ⟨qv, ha, hl⟩ := AT.out s (List.mem_of_getElem? hs)
      have HS1 := Lib.hid hs
      have qlt : (q : Int) < (nb : Int) := by omega
      have q0 : (0 : Int) ≤ (q : Int) := by omega
      have EX := Lib.hid ex
      subst ex
      clear hs hy
      go_wp2_with fail
      refine (ED.out wr (S1.out.next hbel.out) s.e).mono ?_
      rintro e X3 ⟨t, rfl, ht, hn⟩
      rw [ha] at ht ⊢
      have HL : Hid (t.label = s.l) := Lib.hid (by rw [← hl]; exact congrArg TV.label ht)
      have BX := Lib.hid hn.bel
      have G1 := Lib.hid (fun (X : World) (hX : Below wr.heap.size wr X) => cell_below hX g1 hbb)
      clear hn ht hl ha g1
      go_upto_region 13 with fail
      have bx := CellT.new X3 (.int .i64 t.id) (.string t.label) (.int .i64 t.o) (.int .i64 t.i) (.slice t.A t.l.length t.c)
      have BN := Lib.hid (bnext BX.out (below_new X3 (.cells #[.int .i64 t.id, .string t.label, .int .i64 t.o, .int .i64 t.i, .slice t.A t.l.length t.c] 42)))
      have g7lt : X3.heap.size < (X3.alloc (.cells #[.int .i64 t.id, .string t.label, .int .i64 t.o, .int .i64 t.i, .slice t.A t.l.length t.c] 42)).heap.size := bx.blk.lt
      have c1 : (X3.alloc (.cells #[.int .i64 t.id, .string t.label, .int .i64 t.o, .int .i64 t.i, .slice t.A t.l.length t.c] 42)).cell? ⟨X3.heap.size, 1, none⟩ = some (.string s.l) := by rw [← HL.out]; exact bx.c1
      clear bx
      generalize World.alloc X3 _ = X4 at c1 BN g7lt ⊢
      generalize X3.heap.size = g7 at c1 g7lt ⊢
      have HX1 := Lib.hid (fun (X : World) (hX : Below X4.heap.size X4 X) => cell_below hX c1 g7lt)
      have LR2 := Lib.hid (LR.out.next (bnext hbel.out BN.out))
      have O42 := Lib.hid (O4.out.next (bnext hbel.out BN.out))
      have BW := Lib.hid (bnext hbel.out BN.out)
      clear c1 g7lt BX
      go_wp2_with fail
      go_loopw [17, 18] (fun iv jv wz => ∃ j : Nat, j ≤ nl ∧ jv = .int .i64 j ∧ iv = .bool (hasL (ls.take j) s.l) ∧ Hid (Below X4.heap.size X4 wz)) (fun _ jv _ => nl - (intOf jv).toNat)
      case atStart => exact ⟨0, by omega, rfl, rfl, Lib.hid (Below.refl _ _)⟩
      case round =>
        obtain ⟨j, hj, rfl, rfl, hbj⟩ := hrel
        by_cases hlj : j < nl
        · obtain ⟨b2, off2, u, eu, hb2, hu, g2⟩ := (LR2.out.next hbj.out).elem (k := j) (by have := NL.out; omega)
          have c1 := HX1.out wr hbj.out
          have HN := Lib.hid (has_next hu s.l)
          subst eu
          have jlt : (j : Int) < (nl : Int) := by omega
          have j0 : (0 : Int) ≤ (j : Int) := by omega
          clear hu
          cases hh : hasL (ls.take j) s.l
          · have HH := Lib.hid hh
            clear hh
            go_upto_region 17 with fail
            replace c1 := cell_regrown c1
            replace g2 := cell_regrown g2
            refine wp_region_quiet_below (by kernel_rfl) (by kernel_rfl) ?_
            repeat (first | go_big_quiet_step (fail) | quiet_step (fail))
            refine wpQuiet_nil ?_
            intro _ hw'
            obtain ⟨⟨dq, osq⟩, hw''⟩ := hw'
            subst hw''
            have BQ := Lib.hid (bnext hbj.out (below_regrown wr dq osq))
            clear c1 g2
            go_wp2_with fail
            go_roundw
            case rel => exact ⟨j + 1, by omega, by go_num, by rw [HN.out, HH.out]; rfl, BQ⟩
            case measure => simp [intOf]; omega
          · have HH := Lib.hid hh
            clear hh
            go_upto_region 17 with fail
            replace c1 := cell_regrown c1
            replace g2 := cell_regrown g2
            refine wp_region_quiet_below (by kernel_rfl) (by kernel_rfl) ?_
            repeat (first | go_big_quiet_step (fail) | quiet_step (fail))
            refine wpQuiet_nil ?_
            intro _ hw'
            obtain ⟨⟨dq, osq⟩, hw''⟩ := hw'
            subst hw''
            have BQ := Lib.hid (bnext hbj.out (below_regrown wr dq osq))
            clear c1 g2
            go_wp2_with fail
            go_roundw
            case rel => exact ⟨j + 1, by omega, by go_num, by rw [HN.out, HH.out]; rfl, BQ⟩
            case measure => simp [intOf]; omega
        · obtain rfl : j = nl := by omega
          rw [show hasL (ls.take j) s.l = hasL ls s.l by rw [List.take_of_length_le (by have := NL.out; omega)]]
          have hgj : ¬ (j : Int) < (j : Int) := by omega
          have FS := Lib.hid (filter_step (fun s : SP => hasL ls s.l) HS1.out)
          cases hp : hasL ls s.l
          · have CM : Hid (m = ((base.take (q + 1)).filter fun s => hasL ls s.l).length) := Lib.hid (by rw [FS.out, if_neg (by rw [hp]; simp), ← hM.out]; rfl)
            clear hp
            go_wp2_with fail
            go_roundw
            case rel => exact ⟨q + 1, m, by omega, by go_num, rfl, by omega, CM, Lib.hid (bnext BW.out hbj.out)⟩
            case measure => simp [intOf]; omega
          · have CM : Hid (m + 1 = ((base.take (q + 1)).filter fun s => hasL ls s.l).length) := Lib.hid (by rw [FS.out, if_pos hp, ← hM.out])
            have hz1 := ES.out q s HS1.out hp
            rw [← hM.out] at hz1
            have hml : m < ns := by have := (List.getElem?_eq_some_iff.1 hz1).1; have := HS.out; omega
            clear hp
            obtain ⟨b3, off3, z, ez, hb3, hz, g3⟩ := ((O42.out.next hbj.out).row (by omega)).elem (k := m) (by have := HS.out; omega)
            obtain rfl : s.e = z := by rw [hz1] at hz; injection hz
            subst ez
            have g1 := G1.out wr (bnext BN.out hbj.out)
            have mlt : (m : Int) < (ns : Int) := by omega
            have m0 : (0 : Int) ≤ (m : Int) := by omega
            have hd : decide ((m : Int) ≥ (ns : Int)) = false := decide_eq_false (by omega)
            have hd2 : decide ((ns : Int) ≤ (m : Int)) = false := decide_eq_false (by omega)
            have e0 : (s.e != s.e) = false := by simp
            clear hz hz1
            go_upto_region 21 with fail
            replace g1 := cell_regrown g1
            replace g3 := cell_regrown g3
            refine wp_region_quiet_below (by kernel_rfl) (by kernel_rfl) ?_
            repeat (first | go_big_quiet_step (fail) | quiet_step (fail))
            refine wpQuiet_nil ?_
            intro _ hw'
            obtain ⟨⟨dq, osq⟩, hw''⟩ := hw'
            subst hw''
            have BQ := Lib.hid (bnext BW.out (bnext hbj.out (below_regrown wr dq osq)))
            clear g1 g3
            go_wp2_with fail
            go_roundw
            case rel => exact ⟨q + 1, m + 1, by omega, by go_num, by go_num, by omega, CM, BQ⟩
            case measure => simp [intOf]; omega
    · obtain rfl : q = nb := by omega
      obtain rfl : m = ns := by
        have := hM.out
        rwa [List.take_of_length_le (by have := NB.out; omega), ← NS.out] at this
      have hgq : ¬ (q : Int) < (q : Int) := by omega
      clear hM
      clear O3 O4 EA ES HA HS AT ED
      go_wp2_with fail
      go_loopw [19, 20] (fun nv i wz => ∃ (p c : Nat), p ≤ nl ∧ i = .int .i64 p ∧ nv = .int .i64 c ∧ c ≤ 4398046511104 ∧ Hid (c = (base.filter fun s => hasL (ls.take p) s.l).length) ∧ Hid (Below wr.heap.size wr wz)) (fun _ i _ => nl - (intOf i).toNat)
      case atStart => exact ⟨0, 0, by omega, rfl, rfl, by omega, Lib.hid (List.length_eq_zero_iff.2 (List.filter_eq_nil_iff.2 (fun _ _ h => Bool.noConfusion (show false = true from h)))).symm, Lib.hid (Below.refl _ _)⟩
      case round =>
        obtain ⟨p, c, hp, rfl, rfl, hc, hC, hbz⟩ := hrel
        have LRz := Lib.hid (LR.out.next (bnext hbel.out hbz.out))
        have SZ := Lib.hid (S1.out.next (bnext hbel.out hbz.out))
        have BZ := Lib.hid (bnext B.out (bnext hbel.out hbz.out))
        by_cases hlp : p < nl
        · obtain ⟨b2, off2, u0, eu, hb2, hu0, g2⟩ := LRz.out.elem (k := p) (by have := NL.out; omega)
          have LB := Lib.hid (lab_step (base := base) hu0)
          have G2 := Lib.hid (fun (X : World) (hX : Below wr.heap.size wr X) => cell_below hX g2 hb2)
          have LX := Lib.hid (fun (X : World) (hX : Below wr.heap.size wr X) => LRz.out.next hX)
          have SX := Lib.hid (fun (X : World) (hX : Below wr.heap.size wr X) => SZ.out.next hX)
          have HZ0 := Lib.hid (LR.out.sz u0 (List.mem_of_getElem? hu0))
          subst eu
          have plt : (p : Int) < (nl : Int) := by omega
          have p0 : (0 : Int) ≤ (p : Int) := by omega
          clear hu0 LRz SZ g2
          go_wp2_with fail
          go_loopw [21, 22] (fun fv jv wz => ∃ j : Nat, j ≤ p ∧ jv = .int .i64 j ∧ fv = .bool (!hasL (ls.take j) u0) ∧ Hid (Below wr.heap.size wr wz)) (fun _ jv _ => p - (intOf jv).toNat)
          case atStart => exact ⟨0, by omega, rfl, rfl, Lib.hid (Below.refl _ _)⟩
          case round =>
            obtain ⟨j, hj, rfl, rfl, hbj⟩ := hrel
            by_cases hlj : j < p
            · obtain ⟨b3, off3, u, eu, hb3, hu, g3⟩ := (LX.out wr hbj.out).elem (k := j) (by have := NL.out; omega)
              injection eu with eu
              injection eu with e1 e2
              subst e1 e2
              have g2 := G2.out wr hbj.out
              have HN := Lib.hid (has_next hu u0)
              have jlt : (j : Int) < (nl : Int) := by omega
              have j0 : (0 : Int) ≤ (j : Int) := by omega
              have jp : (j : Int) < (p : Int) := by omega
              clear hu
              cases hh : hasL (ls.take j) u0
              · have HH := Lib.hid hh
                clear hh
                rw [Bool.not_false]
                go_upto_region 32 with fail
                replace g2 := cell_regrown g2
                replace g3 := cell_regrown g3
                refine wp_region_quiet_below (by kernel_rfl) (by kernel_rfl) ?_
                repeat (first | go_big_quiet_step (fail) | quiet_step (fail))
                refine wpQuiet_nil ?_
                intro _ hw'
                obtain ⟨⟨dq, osq⟩, hw''⟩ := hw'
                subst hw''
                have BQ := Lib.hid (bnext hbj.out (below_regrown wr dq osq))
                clear g2 g3
                go_wp2_with fail
                go_roundw
                case rel => exact ⟨j + 1, by omega, by go_num, by rw [HN.out, HH.out]; rfl, BQ⟩
                case measure => simp [intOf]; omega
              · have HH := Lib.hid hh
                clear hh
                rw [Bool.not_true]
                go_upto_region 32 with fail
                replace g2 := cell_regrown g2
                replace g3 := cell_regrown g3
                refine wp_region_quiet_below (by kernel_rfl) (by kernel_rfl) ?_
                repeat (first | go_big_quiet_step (fail) | quiet_step (fail))
                refine wpQuiet_nil ?_
                intro _ hw'
                obtain ⟨⟨dq, osq⟩, hw''⟩ := hw'
                subst hw''
                have BQ := Lib.hid (bnext hbj.out (below_regrown wr dq osq))
                clear g2 g3
                go_wp2_with fail
                go_roundw
                case rel => exact ⟨j + 1, by omega, by go_num, by rw [HN.out, HH.out]; rfl, BQ⟩
                case measure => simp [intOf]; omega
            · obtain rfl : j = p := by omega
              have hgj : ¬ (j : Int) < (j : Int) := by omega
              have lbn : (base.filter fun s => hasL (ls.take (j + 1)) s.l).length ≤ 4398046511104 := by
                have h1 := List.length_filter_le (fun s : SP => hasL (ls.take (j + 1)) s.l) base
                have := NB.out
                omega
              cases hh : hasL (ls.take j) u0
              · have CM : Hid ((base.filter fun s => hasL (ls.take (j + 1)) s.l).length = c + (base.filter fun s => u0.toList == s.l.toList).length) := Lib.hid (by rw [LB.out, if_neg (by rw [hh]; simp), hC.out])
                clear hh
                rw [Bool.not_false]
                have g2 := G2.out wr hbj.out
                have HLR := Lib.hid (lrow_one wr u0 HZ0.out)
                have BW := Lib.hid (bnext hbj.out (below_new wr (.cells #[.string u0] 9)))
                have C2 := Lib.hid (A2.out _ (SX.out _ BW.out) wr.heap.size u0 HLR.out)
                have HLn : Hid (((base.filter fun s => u0.toList == s.l.toList).map fun s => s.e).length = (base.filter fun s => u0.toList == s.l.toList).length) := Lib.hid (by rw [List.length_map])
                generalize ((base.filter fun s => u0.toList == s.l.toList).map fun s => s.e) = LL at C2 HLn
                generalize (base.filter fun s => u0.toList == s.l.toList).length = cc at HLn CM
                have hcc : c + cc ≤ 4398046511104 := by have := CM.out; omega
                go_wp2_with fail
                refine C2.out.mono ?_
                rintro e Y1 ⟨E5, e5, rfl, -, hb1⟩
                rw [HLn.out]
                have BY := Lib.hid (bnext BW.out hb1)
                clear hb1 g2 C2 HLR
                have hw : wrap64 ((c : Int) + (cc : Int)) = ((c + cc : Nat) : Int) := by unfold wrap64; omega
                go_wp2_with fail
                go_roundw
                case rel => exact ⟨j + 1, c + cc, by omega, by go_num, by go_num, hcc, Lib.hid CM.out.symm, Lib.hid (bnext hbz.out BY.out)⟩
                case measure => simp [intOf]; omega
              · have CM : Hid (c = (base.filter fun s => hasL (ls.take (j + 1)) s.l).length) := Lib.hid (by rw [LB.out, if_pos hh, hC.out]; rfl)
                clear hh
                rw [Bool.not_true]
                go_wp2_with fail
                go_roundw
                case rel => exact ⟨j + 1, c, by omega, by go_num, rfl, hc, CM, Lib.hid (bnext hbz.out hbj.out)⟩
                case measure => simp [intOf]; omega
        · obtain rfl : p = nl := by omega
          obtain rfl : c = m := by
            have := hC.out
            rw [List.take_of_length_le (by have := NL.out; omega), ← NS.out] at this
            exact this
          have hgp : ¬ (p : Int) < (p : Int) := by omega
          have B := BZ
          clear BZ
          go_wp2_with fail
          refine (known_any wr).mono ?_
          rintro e wk ⟨rfl, hbk⟩
          replace B := Lib.hid (bnext B.out hbk)
          clear hbk
          go_wp2
          go_ret
          exact ⟨rfl, B.out⟩
end Go.Proofs.Ytebkkjfeikpfgaa
