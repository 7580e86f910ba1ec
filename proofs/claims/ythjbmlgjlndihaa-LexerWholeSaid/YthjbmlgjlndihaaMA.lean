/- LexerWhole, walked. -/
import Derived.Test.YthjbmlgjlndihaaLZ
import Derived.Test.YthjbmlgjlndihaaLJ
import Derived.Deep.CutBlock
import Derived.IntWalk
namespace Go.Proofs.Ythjbmlgjlndihaa
set_option maxRecDepth 100000
open Go.RowKit Go.Sort

theorem BRow.at1 {w : World} {A : Option Addr} {c : Nat} {l : Bs} (h : BRow w A c l) {k : Nat} {x : UInt8} (hx : l[k]? = some x) : ∃ b off, A = some ⟨b, off, none⟩ ∧ b < w.heap.size ∧ w.cell? ⟨b, off + k, none⟩ = some (u8v x) := by
  have hlt := (List.getElem?_eq_some_iff.1 hx).1
  obtain ⟨b, off, e, hb, hc⟩ := h.at_ (by omega)
  exact ⟨b, off, e, hb, hc k x hx⟩
theorem whole_1 (W : World) (A : Option Addr) (n c : Nat) (h : ¬ n ≤ 4000) : Calls Try.prog 4 #[.slice A n c] W (Tr W) := by
  have h1i : (4000 : Int) < (n : Int) := by omega
  clear h
  go_enter Try.func4, Try.ntmps4
  go_wp2_with fail
  refine (known_any _).mono ?_
  rintro e w' ⟨rfl, hb⟩
  have HB := Lib.hid hb
  clear hb
  go_wp2
  go_ret
  exact ⟨rfl, HB.out⟩
theorem whole_2 (W : World) (A : Option Addr) (n c : Nat) (q : Bs) (hA : BRow W A c q) (hn : n = q.length) (h1 : n ≤ 4000) (P : Int) (hR : Hid (allL q = ([], P, 30))) : Calls Try.prog 4 #[.slice A n c] W (Tr W) := by
  have h1i : (n : Int) ≤ 4000 := by omega
  have HN := Lib.hid hn
  clear hn
  go_enter Try.func4, Try.ntmps4
  go_wp2_with fail
  refine (all_at (by have := HN.out; omega) HN.out hR.out rfl hA).mono ?_
  rintro e w1 ⟨A1, c1, rfl, hO1, hb1⟩
  have B1 := Lib.hid hb1
  clear hO1 hb1
  go_wp2_with fail
  refine (known_any _).mono ?_
  rintro e w' ⟨rfl, hb⟩
  have HB := Lib.hid (bnext B1.out hb)
  clear hb
  go_wp2
  go_ret
  exact ⟨rfl, HB.out⟩

set_option maxHeartbeats 6400000 in
theorem whole_3 (W : World) (A : Option Addr) (n c : Nat) (q : Bs) (hA : BRow W A c q) (hn : n = q.length) (h1 : n ≤ 4000) (L : List IT) (m : Nat) (hm : m = L.length) (hmm : m ≤ 4001) (hL : Hid (its q 0 = L)) (hok : Hid (∀ x ∈ L, x.ok = true)) (hR : Hid (allL q = (L.map (·.t), 0, 0))) : Calls Try.prog 4 #[.slice A n c] W (Tr W) := by
  have h1i : (n : Int) ≤ 4000 := by omega
  have HN := Lib.hid hn
  have HM := Lib.hid hm
  have HMT : Hid (m = (L.map (·.t)).length) := Lib.hid (by rw [List.length_map]; exact hm)
  have HA := Lib.hid hA
  clear hn hm hA
  go_enter Try.func4, Try.ntmps4
  go_wp2_with fail
  refine (all_at (by have := HN.out; omega) HN.out hR.out HMT.out HA.out).mono ?_
  rintro e w1 ⟨A1, c1, rfl, hO1, hb1⟩
  have B1 := Lib.hid hb1
  have O1 := Lib.hid hO1.row
  have HA1 := Lib.hid (HA.out.next hb1)
  clear hO1 hb1
  go_wp2_with fail
  go_loopw [6, 7] (fun v u wr => ∃ k i : Nat, v = .int .i64 k ∧ u = .int .i64 i ∧ k ≤ n ∧ i ≤ m ∧ Hid (its (q.drop k) k = L.drop i) ∧ Hid (Below w1.heap.size w1 wr)) (fun _ u _ => m - (RowKit.intOf u).toNat)
  case atStart => exact ⟨0, 0, rfl, rfl, by omega, by omega, Lib.hid (by rw [List.drop_zero, List.drop_zero]; exact hL.out), Lib.hid (Below.refl _ _)⟩
  case round =>
    obtain ⟨k, i, rfl, rfl, hk, hi, hits, hbel⟩ := hrel
    by_cases hlt : i < m
    · obtain ⟨p, s, t, hx, hkp, hps, hs1, hbl, hf, hnx⟩ := whole_step q L i k hits.out (by have := HM.out; omega) hok.out
      have HBL := Lib.hid hbl
      have HNX := Lib.hid hnx
      have hps' : p + s ≤ n := by have := HN.out; omega
      have hfk := first_kind (q.drop p) (by rw [List.length_drop]; omega) t s hf
      obtain ⟨b1, o1, x, rfl, hb1, hx1, q1⟩ := (O1.out.next hbel.out).elem (k := i) (by have := HMT.out; omega)
      rw [List.getElem?_map, hx] at hx1
      injection hx1 with hx1
      have q1k : cells4 wr b1 (o1 + i * 4) (t.at_ (p : Nat)) := by rw [show t.at_ (p : Nat) = x from hx1]; exact q1
      obtain ⟨y0, y1, y2, y3⟩ := q1k
      have hlti : (i : Int) < (m : Int) := by omega
      have hkpi : (k : Int) ≤ (p : Int) := by omega
      have hpni : (p : Int) < (n : Int) := by omega
      clear hbl hf hx hnx hx1 q1 hps
      obtain ⟨hk1, hk4, hkind⟩ := hfk
      have HKD := Lib.hid hkind
      clear hkind
      generalize t.k = K at y0 hk1 hk4 HKD
      have HQ : Hid (∀ W', Below wr.heap.size wr W' → W'.cell? ⟨b1, o1 + i * 4 + 1, none⟩ = some (.int .i64 (p : Int)) ∧ W'.cell? ⟨b1, o1 + i * 4, none⟩ = some (.int .i64 K) ∧ W'.cell? ⟨b1, o1 + i * 4 + 2, none⟩ = some (.string (bs t.s))) := Lib.hid (fun W' hb =>
        ⟨cell_below hb y1 hb1, cell_below hb y0 hb1, cell_below hb y2 hb1⟩)
      obtain ⟨bq, oq, rfl, hbq, hcq⟩ := (HA1.out.next hbel.out).at_ (by have := HN.out; omega)
      have HC : Hid (∀ W', Below wr.heap.size wr W' → ∀ (j : Nat) (x : UInt8), q[j]? = some x → W'.cell? ⟨bq, oq + j, none⟩ = some (u8v x)) := Lib.hid (fun W' hb j x hj => cell_below hb (hcq j x hj) hbq)
      have HRow := Lib.hid (HA1.out.next hbel.out)
      have HB0 : Hid (∀ W', Below wr.heap.size wr W' → Below w1.heap.size w1 W') := Lib.hid (fun W' hb => hbel.out.trans (hb.mono hbel.out.size))
      clear hcq hbq y2 y3 hb1
      go_wp2_with fail
      clear y0 y1
      obtain ⟨wo, hwo⟩ : ∃ x, x = wr := ⟨_, rfl⟩
      subst hwo
      go_loopw [6] (fun v wr => ∃ j : Nat, v = .int .i64 j ∧ k ≤ j ∧ j ≤ p ∧ Hid (Below wo.heap.size wo wr)) (fun v _ => p - (RowKit.intOf v).toNat)
      case atStart => exact ⟨k, rfl, by omega, by omega, Lib.hid (Below.refl _ _)⟩
      case round =>
        obtain ⟨j, rfl, hj1, hj2, hb2⟩ := hrel
        obtain ⟨y1, y0, y2⟩ := HQ.out wr hb2.out
        by_cases hjp : j < p
        · obtain ⟨x, hx⟩ : ∃ x, q[j]? = some x := ⟨_, List.getElem?_eq_getElem (by have := HN.out; omega)⟩
          have hc := HC.out wr hb2.out j x hx
          have HX := Lib.hid (HBL.out j x hj1 hjp hx)
          clear hx
          go_wp2_with fail
          refine (blank14_any x _).mono ?_
          rintro e w' ⟨rfl, hb⟩
          have HBX := Lib.hid (hb2.out.trans (hb.mono hb2.out.size))
          clear hb
          rw [HX.out]
          go_wp2_with fail
          go_roundw
          case rel => exact ⟨j + 1, by go_num, by omega, by omega, HBX⟩
          case measure => simp [RowKit.intOf]; omega
        · obtain rfl : j = p := by omega
          rcases HKD.out with ⟨hK3, b, hb⟩ | ⟨hK3, hts, htl⟩
          · have eK : (K != 3) = false := by simp [hK3]
            have HT0 := Lib.hid hb
            clear HKD hb
            go_wp2_with fail
            obtain ⟨wp, hwp⟩ : ∃ x, x = wr := ⟨_, rfl⟩
            subst hwp
            clear y0 y1 y2 HQ HRow HBL
            go_loopw [6] (fun v wr => ∃ j2 : Nat, v = .int .i64 j2 ∧ j + 1 ≤ j2 ∧ Hid (∃ acc, textP (q.drop j2) acc (j2 - j) = some (b, s)) ∧ wr = wp) (fun v _ => n - (RowKit.intOf v).toNat)
            case atStart => exact ⟨j + 1, by go_num, by omega, Lib.hid ⟨[], by rw [show j + 1 - j = 1 from by omega, ← List.drop_drop]; exact HT0.out⟩, rfl⟩
            case round =>
              obtain ⟨j2, rfl, hj3, HT, rfl⟩ := hrel
              obtain ⟨acc, hT⟩ := HT.out
              obtain ⟨x, hx, hcase⟩ := text_step q j2 (j2 - j) acc b s hT
              have hj2n : j2 < n := by have h1 := (List.getElem?_eq_some_iff.1 hx).1; have h2 := HN.out; omega
              have hj2i : (j2 : Int) < (n : Int) := by omega
              have hc := HC.out wr hb2.out j2 x hx
              clear hT HT hx
              rcases hcase with ⟨h39, hs⟩ | ⟨h39, h92, acc', hT'⟩ | ⟨h39, h92, acc', hT'⟩
              · have e39 : (((x.toNat : Int)) != 39) = false := by simp; omega
                have HS := Lib.hid hs
                clear h39 hs
                go_wp2_with fail
                have hend : j2 + 1 = j + s := by have := HS.out; omega
                refine ⟨⟨j + s, i + 1, by rw [← hend]; go_num, by go_num, hps', by omega, Lib.hid HNX.out, Lib.hid (HB0.out _ hb2.out)⟩, by simp [RowKit.intOf]; omega⟩
              · have e39 : (((x.toNat : Int)) != 39) = true := by simp; omega
                have e92 : (((x.toNat : Int)) == 92) = true := by simp; omega
                have HT2 : Hid (∃ acc, textP (q.drop (j2 + 2)) acc (j2 + 2 - j) = some (b, s)) := Lib.hid ⟨acc', by rw [show j2 + 2 - j = j2 - j + 2 from by omega]; exact hT'⟩
                clear h39 h92 hT'
                go_wp2_with fail
                go_roundw
                case rel => exact ⟨j2 + 2, by go_num, by omega, HT2, trivial⟩
                case measure => simp [RowKit.intOf]; omega
              · have e39 : (((x.toNat : Int)) != 39) = true := by simp; omega
                have e92 : (((x.toNat : Int)) == 92) = false := by simp; omega
                have HT2 : Hid (∃ acc, textP (q.drop (j2 + 1)) acc (j2 + 1 - j) = some (b, s)) := Lib.hid ⟨acc', by rw [show j2 + 1 - j = j2 - j + 1 from by omega]; exact hT'⟩
                clear h39 h92 hT'
                go_wp2_with fail
                go_roundw
                case rel => exact ⟨j2 + 1, by go_num, by omega, HT2, trivial⟩
                case measure => simp [RowKit.intOf]; omega
          · have eK : (K != 3) = true := by simpa using hK3
            clear HKD
            have HTS := Lib.hid hts
            have hsz : (bs t.s).size = s := by rw [bs_size]; exact htl
            obtain ⟨X, runX, rowX⟩ := HRow.out.mid n j s HN.out hps'
            have HCV : Hid (∀ W', Below wo.heap.size wo W' → (convert 22 9 (.slice X s (c - j))).run Try.prog W' = .ok (.string (bs t.s)) W') := Lib.hid (fun W' hb => by
              have h1 := (rowX.next hb).conv 9 Try.underlying9
              rw [show ((q.drop j).take s).length = s from by rw [← hts]; exact htl, ← hts] at h1
              exact h1)
            clear rowX hts htl
            generalize bs t.s = S at y2 hsz HCV
            have hcv0 := HCV.out wr hb2.out
            have hcvn := fun d => HCV.out (wr.drewN d) (hb2.out.trans (drewN_below _ _ _))
            have hs0 : ((s : Int) == 0) = false := by simp; omega
            have hg2 : decide ((n : Int) < (j : Int) + (s : Int)) = false := by simp; omega
            go_wp2_with fail
            go_quiet (fail)
            go_wp2_with fail
            refine ⟨⟨j + s, i + 1, by go_num, by go_num, hps', by omega, Lib.hid HNX.out, Lib.hid ?_⟩, by simp [RowKit.intOf]; omega⟩
            exact HB0.out _ (hb2.out.trans (drewN_below _ _ _))
    · have HE : Hid (its (q.drop k) k = []) := Lib.hid (by rw [hits.out]; exact List.drop_eq_nil_of_le (by have := HM.out; omega))
      have hnlt : (m : Int) ≤ (i : Int) := by omega
      clear hits
      go_wp2_with fail
      obtain ⟨wo, hwo⟩ : ∃ x, x = wr := ⟨_, rfl⟩
      subst hwo
      go_loopw [6] (fun v wr => ∃ j : Nat, v = .int .i64 j ∧ k ≤ j ∧ j ≤ n ∧ Hid (Below w1.heap.size w1 wr)) (fun v _ => n - (RowKit.intOf v).toNat)
      case atStart => exact ⟨k, rfl, by omega, hk, hbel⟩
      case round =>
        obtain ⟨j, rfl, hj1, hj2, hb2⟩ := hrel
        by_cases hjn : j < n
        · obtain ⟨x, hx⟩ : ∃ x, q[j]? = some x := ⟨_, List.getElem?_eq_getElem (by have := HN.out; omega)⟩
          have hX := whole_end q k HE.out j x hj1 hx
          obtain ⟨bq, oq, rfl, hbq, hc⟩ := (HA1.out.next hb2.out).at1 hx
          have HX := Lib.hid hX
          clear hx hX
          go_wp2_with fail
          refine (blank14_any x _).mono ?_
          rintro e w' ⟨rfl, hb⟩
          have HBX := Lib.hid (hb2.out.trans (hb.mono hb2.out.size))
          clear hb
          rw [HX.out]
          go_wp2_with fail
          go_roundw
          case rel => exact ⟨j + 1, by go_num, by omega, by omega, HBX⟩
          case measure => simp [RowKit.intOf]; omega
        · have hjni : (n : Int) ≤ (j : Int) := by omega
          go_wp2_with fail
          refine (known_any _).mono ?_
          rintro e w' ⟨rfl, hb⟩
          have HB := Lib.hid (bnext (bnext B1.out hb2.out) hb)
          clear hb
          go_wp2
          go_ret
          exact ⟨rfl, HB.out⟩
theorem whole_law (W : World) (A : Option Addr) (c : Nat) (q : Bs) (hA : BRow W A c q) : Calls Try.prog 4 #[.slice A q.length c] W (Tr W) := by
  by_cases h : q.length ≤ 4000
  · have lq := items_len q
    rw [items_its] at lq
    rcases its_last q.length q 0 (Nat.le_refl _) with ha | ⟨xs, x, ha, hxs, hx⟩
    · exact whole_3 W A q.length c q hA rfl h (its q 0) (its q 0).length rfl (by omega) (Lib.hid rfl) (Lib.hid ha) (Lib.hid (all_ok (by omega) ha))
    · exact whole_2 W A q.length c q hA rfl h x.t.p (Lib.hid (all_bad (by omega) ha hxs hx))
  · exact whole_1 W A _ c h
end Go.Proofs.Ythjbmlgjlndihaa
