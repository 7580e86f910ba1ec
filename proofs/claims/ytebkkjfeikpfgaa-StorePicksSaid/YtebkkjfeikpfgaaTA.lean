/- StoreAround: the walk. -/
import Derived.Test.YtebkkjfeikpfgaaSO
namespace Go.Proofs.Ytebkkjfeikpfgaa
open Go.RowKit Go.Sort
set_option maxRecDepth 100000
attribute [local go_sem ↓] Go.wp_at_zero Go.wp_at_succ

theorem okG_errG {vs es : List TA} (h : okG vs es = true) : errG vs es = 0 := by unfold errG; rw [if_pos h]
/-- A block of numbers that may be written. -/
def BlkI (w : World) (g n : Nat) : Prop := ∃ cs : Array Value, w.heap[g]? = some (.cells cs 3 (0, 0)) ∧ n ≤ cs.size
theorem BlkI.cell {w : World} {g n : Nat} (h : BlkI w g n) {i : Nat} (hi : i < n) : ∃ v, w.cell? ⟨g, i, none⟩ = some v := by
  obtain ⟨cs, h, hs⟩ := h
  exact ⟨cs[i], by rw [cell_of_row w g i cs 3 (0, 0) h]; exact Array.getElem?_eq_getElem (by omega)⟩
theorem BlkI.frozen {w : World} {g n : Nat} (h : BlkI w g n) (i : Nat) : w.frozen? ⟨g, i, none⟩ = false := by
  obtain ⟨cs, h, _⟩ := h
  simp [World.frozen?, h]
theorem BlkI.set {w : World} {g n : Nat} (h : BlkI w g n) (i : Nat) (u : Value) : BlkI (w.setCell ⟨g, i, none⟩ u) g n := by
  obtain ⟨cs, h, hs⟩ := h
  exact ⟨cs.setIfInBounds i u, by simp [World.setCell, Array.getElem?_modify, h], by simpa using hs⟩
theorem BlkI.next {a b : World} {g n : Nat} (h : BlkI a g n) (hb : Below a.heap.size a b) : BlkI b g n := by
  obtain ⟨cs, h1, hs⟩ := h
  exact ⟨cs, (hb.block g (Array.getElem?_eq_some_iff.1 h1).1).trans h1, hs⟩
theorem IOwn.blk {w : World} {base n c : Nat} {A : Option Addr} {l : List Int} (h : IOwn w base A n c l) (hn : 0 < n) : ∃ g, A = some ⟨g, 0, none⟩ ∧ base ≤ g ∧ BlkI w g n := by
  rcases h.2 with ⟨_, e⟩ | ⟨g, cap, cur, e, hb, hg, hnc, hcm, hcs, _⟩
  · omega
  · injection e with e1 e2 e3
    exact ⟨g, e1, hb, cur, hg, by omega⟩
set_option maxHeartbeats 32000000 in
theorem around_law (w : World) (d0 : Nat) (g : GA) (id way : Int) (B0 : Option Addr) (cb : Nat) (ls : List ByteArray) (hg : g.In w d0) (hsm : g.Sm) (hid : WfI id) (hway : WfI way) (hL : LRow w B0 cb ls) : Calls Try.prog 3 #[g.v, .int .i64 id, .int .i64 way, .slice B0 ls.length cb] w fun e w' => e = .returned (.bool true) ∧ Below w.heap.size w w' := by
  have G0 := Lib.hid hg
  have L0 := Lib.hid hL
  have HSM := Lib.hid hsm
  clear hg hsm hL
  go_enter Try.func3, Try.ntmps3
  go_upto_region 1 with fail
  obtain ⟨W0, hW0⟩ : ∃ W0, W0 = w.alloc (.cells #[.slice g.AV g.vs.length g.cV, .slice g.AE g.es.length g.cE] 24) := ⟨_, rfl⟩
  have k0 := box24 w (.slice g.AV g.vs.length g.cV) (.slice g.AE g.es.length g.cE) W0 hW0.symm
  rw [← hW0]
  clear hW0
  have B := Lib.hid k0.2.2.1
  have K := Lib.hid (show K24 W0 w.heap.size (.slice g.AV g.vs.length g.cV) (.slice g.AE g.es.length g.cE) from ⟨k0.1, k0.2.1, by have := k0.2.2.2; omega⟩)
  clear k0
  have G := Lib.hid (G0.out.next B.out)
  have LR := Lib.hid (L0.out.next B.out)
  clear G0 L0
  obtain ⟨y0, y1, -⟩ := K.out
  go_wp2_with fail
  refine (much_any W0 d0 g G.out).mono ?_
  rintro e W1 ⟨mb, rfl, hb1⟩
  clear y0 y1
  replace G := Lib.hid (G.out.next hb1)
  replace LR := Lib.hid (LR.out.next hb1)
  replace K := Lib.hid (K.out.next hb1)
  replace B := Lib.hid (bnext B.out hb1)
  clear hb1
  cases mb
  case true =>
    go_wp2_with fail
    refine (known_any W1).mono ?_
    rintro e wk ⟨rfl, hbk⟩
    replace B := Lib.hid (bnext B.out hbk)
    clear hbk
    go_wp2
    go_ret
    exact ⟨rfl, B.out⟩
  have SH := Lib.hid (short_any W1 B0 cb ls LR.out)
  go_wp2_with fail
  refine SH.out.mono ?_
  rintro e w' ⟨rfl, rfl⟩
  clear SH
  obtain ⟨W2, hW2⟩ : ∃ W2, W2 = w' := ⟨_, rfl⟩
  rw [← hW2] at G LR K B ⊢
  clear hW2
  cases hsh : shortB ls
  case false =>
    go_wp2_with fail
    refine (known_any W2).mono ?_
    rintro e wk ⟨rfl, hbk⟩
    replace B := Lib.hid (bnext B.out hbk)
    clear hbk
    go_wp2
    go_ret
    exact ⟨rfl, B.out⟩
  have hn : ls.length ≤ 1000000 := by
    unfold shortB at hsh
    simp only [Bool.and_eq_true, decide_eq_true_eq] at hsh
    omega
  clear hsh
  obtain ⟨y0, y1, -⟩ := K.out
  go_wp2_with fail
  refine (new_any W2 d0 g G.out).mono ?_
  rintro e W3 ⟨hb1, ⟨he, rfl⟩ | ⟨hok, s, vs, es, rfl, hs, -, ee⟩⟩
  · clear y0 y1
    replace G := Lib.hid (G.out.next hb1)
    replace LR := Lib.hid (LR.out.next hb1)
    replace K := Lib.hid (K.out.next hb1)
    replace B := Lib.hid (bnext B.out hb1)
    clear hb1
    have HE := Lib.hid he
    clear he
    obtain ⟨y0, y1, -⟩ := K.out
    go_wp2_with fail
    refine (refCheck_any W3 d0 g G.out HSM.out).mono ?_
    rintro e W4 ⟨rfl, hb1⟩
    rw [HE.out]
    clear y0 y1
    replace G := Lib.hid (G.out.next hb1)
    replace LR := Lib.hid (LR.out.next hb1)
    replace K := Lib.hid (K.out.next hb1)
    replace B := Lib.hid (bnext B.out hb1)
    clear hb1
    go_wp2_with fail
    refine (known_any W4).mono ?_
    rintro e wk ⟨rfl, hbk⟩
    replace B := Lib.hid (bnext B.out hbk)
    clear hbk
    go_wp2
    go_ret
    exact ⟨rfl, B.out⟩
  have HE := Lib.hid (okG_errG hok)
  have EE := Lib.hid ee
  clear y0 y1 hok ee
  replace G := Lib.hid (G.out.next hb1)
  replace LR := Lib.hid (LR.out.next hb1)
  replace K := Lib.hid (K.out.next hb1)
  replace B := Lib.hid (bnext B.out hb1)
  clear hb1
  have S := Lib.hid hs
  clear hs
  obtain ⟨y0, y1, -⟩ := K.out
  go_wp2_with fail
  refine (refCheck_any W3 d0 g G.out HSM.out).mono ?_
  rintro e W4 ⟨rfl, hb1⟩
  rw [HE.out]
  clear y0 y1
  replace G := Lib.hid (G.out.next hb1)
  replace LR := Lib.hid (LR.out.next hb1)
  replace K := Lib.hid (K.out.next hb1)
  replace S := Lib.hid (S.out.next hb1)
  replace B := Lib.hid (bnext B.out hb1)
  clear hb1
  obtain ⟨y0, y1, -⟩ := K.out
  go_wp2_with fail
  refine (refAround_any W4 d0 g.AV g.vs.length g.cV g.AE g.cE g.es G.out.e id way B0 cb ls LR.out).mono ?_
  rintro e W5 ⟨A1, c1, A2, c2, rfl, ht, hb1⟩
  clear y0 y1
  replace G := Lib.hid (G.out.next hb1)
  replace LR := Lib.hid (LR.out.next hb1)
  replace K := Lib.hid (K.out.next hb1)
  replace S := Lib.hid (S.out.next hb1)
  replace B := Lib.hid (bnext B.out hb1)
  clear hb1
  have TT := Lib.hid ht
  have R1 := Lib.hid (ref_seen g.es id way ls)
  rw [← EE.out] at R1
  have R2 := Lib.hid R1.out.2
  have R1 := Lib.hid R1.out.1
  rw [R1.out, R2.out] at TT
  rw [R1.out, R2.out]
  clear ht R1 R2
  have CA := Lib.hid (fun (W : World) (hW : Sto W s vs es) (hl : LRow W B0 cb ls) => around_any W (some ⟨s, 0, none⟩) vs es (.inr ⟨s, rfl, hW⟩) id way hid hway B0 cb ls hl hn)
  have CN := Lib.hid (fun (W : World) (hW : Sto W s vs es) (hl : LRow W B0 cb ls) => next_any W (some ⟨s, 0, none⟩) vs es (.inr ⟨s, rfl, hW⟩) id way hid hway B0 cb ls hl hn)
  have LEN : Hid (((seenS (spk (es.map TA.tv')) id way ls).map fun s => s.e).length ≤ 17592186044416 ∧ ((seenS (spk (es.map TA.tv')) id way ls).map fun s => s.o).length ≤ 17592186044416) := Lib.hid (by rw [List.length_map, List.length_map]; exact ⟨seen_len S.out.few id way ls, seen_len S.out.few id way ls⟩)
  generalize ((seenS (spk (es.map TA.tv')) id way ls).map fun s => s.e) = E1 at TT CA LEN ⊢
  generalize ((seenS (spk (es.map TA.tv')) id way ls).map fun s => s.o) = V1 at TT CN LEN ⊢
  have SS := S
  have SL := LR
  have ST := TT
  have SB := B
  go_wp2_with fail
  refine (CA.out W5 S.out LR.out).mono ?_
  rintro e W6 ⟨A3, c3, rfl, ho, hb1⟩
  have BL := Lib.hid hb1
  have O3 := Lib.hid ho
  clear ho
  replace S := Lib.hid (S.out.next hb1)
  replace LR := Lib.hid (LR.out.next hb1)
  replace TT := Lib.hid (TT.out.next hb1)
  replace B := Lib.hid (bnext B.out hb1)
  clear hb1
  go_wp2_with fail
  refine (CN.out W6 S.out LR.out).mono ?_
  rintro e W7 ⟨A4, c4, rfl, ho, hb1⟩
  have O4 := Lib.hid ho
  replace O3 := Lib.hid (O3.out.next hb1)
  replace BL := Lib.hid (bnext BL.out hb1)
  clear ho
  replace S := Lib.hid (S.out.next hb1)
  replace LR := Lib.hid (LR.out.next hb1)
  replace TT := Lib.hid (TT.out.next hb1)
  replace B := Lib.hid (bnext B.out hb1)
  clear hb1
  go_wp2_with fail
  refine (sameInts_any W7 _ _ _ _ _ _ (TT.out.a.row LEN.out.1) (O3.out.row LEN.out.1)).mono ?_
  rintro e W8 ⟨rfl, hb1⟩
  rw [beq_self_eq_true]
  replace O3 := Lib.hid (O3.out.next hb1)
  replace O4 := Lib.hid (O4.out.next hb1)
  replace BL := Lib.hid (bnext BL.out hb1)
  replace S := Lib.hid (S.out.next hb1)
  replace LR := Lib.hid (LR.out.next hb1)
  replace TT := Lib.hid (TT.out.next hb1)
  replace B := Lib.hid (bnext B.out hb1)
  clear hb1
  go_wp2_with fail
  refine (sameInts_any W8 _ _ _ _ _ _ (TT.out.b.row LEN.out.2) (O4.out.row LEN.out.2)).mono ?_
  rintro e W9 ⟨rfl, hb1⟩
  rw [beq_self_eq_true]
  replace O3 := Lib.hid (O3.out.next hb1)
  replace BL := Lib.hid (bnext BL.out hb1)
  clear O4 CN
  replace S := Lib.hid (S.out.next hb1)
  replace LR := Lib.hid (LR.out.next hb1)
  replace TT := Lib.hid (TT.out.next hb1)
  replace B := Lib.hid (bnext B.out hb1)
  clear hb1
  obtain ⟨n, hnn⟩ : ∃ n, n = E1.length := ⟨_, rfl⟩
  have HN := Lib.hid hnn
  have hE1 : E1.length ≤ 17592186044416 := LEN.out.1
  have W5le : Hid (W5.heap.size ≤ W9.heap.size) := Lib.hid BL.out.size
  clear S LR TT B hnn
  have BLK : Hid (0 < E1.length → ∃ gb, A3 = some ⟨gb, 0, none⟩ ∧ W5.heap.size ≤ gb ∧ BlkI W9 gb E1.length) := Lib.hid (fun h0 => O3.out.blk h0)
  clear O3
  go_wp2_with fail
  go_loopw [15] (fun i wr => ∃ k : Nat, k ≤ E1.length ∧ i = .int .i64 k ∧ Hid (Below W5.heap.size W5 wr) ∧ Hid (0 < E1.length → ∃ gb, A3 = some ⟨gb, 0, none⟩ ∧ W5.heap.size ≤ gb ∧ BlkI wr gb E1.length)) (fun i _ => E1.length - (intOf i).toNat)
  case atStart => exact ⟨0, by omega, rfl, BL, BLK⟩
  case round =>
    clear BL BLK
    obtain ⟨k, hk, rfl, hbel, hbl⟩ := hrel
    by_cases hlt : k < E1.length
    · obtain ⟨gb, rfl, hge, hb⟩ := hbl.out (by omega)
      obtain ⟨v0, f0⟩ := hb.cell hlt
      have z9 := hb.frozen k
      have klt : (k : Int) < (E1.length : Int) := by omega
      have HB2 := Lib.hid (hb.set k (.int .i64 (-7)))
      have BS := Lib.hid (hbel.out.setCell (p := ⟨gb, k, none⟩) hge (.int .i64 (-7)))
      clear hb hbl
      go_wp2
      go_roundw
      case rel => exact ⟨k + 1, by omega, by go_num, BS, Lib.hid (fun _ => ⟨gb, rfl, hge, HB2.out⟩)⟩
      case measure => simp [intOf]; omega
    · have hge : ¬ (k : Int) < (E1.length : Int) := by omega
      have S := Lib.hid (SS.out.next hbel.out)
      have LR := Lib.hid (SL.out.next hbel.out)
      have TT := Lib.hid (ST.out.next hbel.out)
      have B := Lib.hid (bnext SB.out hbel.out)
      clear SS SL ST SB hbel hbl
      go_wp2_with fail
      refine (CA.out wr S.out LR.out).mono ?_
      rintro e Y1 ⟨A5, c5, rfl, ho, hb1⟩
      have O5 := Lib.hid ho
      clear ho
      replace TT := Lib.hid (TT.out.next hb1)
      replace B := Lib.hid (bnext B.out hb1)
      clear hb1
      go_wp2_with fail
      refine (sameInts_any Y1 _ _ _ _ _ _ (O5.out.row LEN.out.1) (TT.out.a.row LEN.out.1)).mono ?_
      rintro e Y2 ⟨rfl, hb1⟩
      rw [beq_self_eq_true]
      clear O5
      replace TT := Lib.hid (TT.out.next hb1)
      replace B := Lib.hid (bnext B.out hb1)
      clear hb1
      go_wp2_with fail
      refine (known_any Y2).mono ?_
      rintro e wk ⟨rfl, hbk⟩
      replace B := Lib.hid (bnext B.out hbk)
      clear hbk
      go_wp2
      go_ret
      exact ⟨rfl, B.out⟩
end Go.Proofs.Ytebkkjfeikpfgaa
