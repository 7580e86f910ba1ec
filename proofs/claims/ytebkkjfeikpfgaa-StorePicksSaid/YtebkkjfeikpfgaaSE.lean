/- A place among rising things; a thing found. -/
import Derived.Test.YtebkkjfeikpfgaaSB
import Derived.Test.YtebkkjfeikpfgaaBNW
import Derived.Deep.CutBlock
import Derived.StillTailTactics
namespace Go.Proofs.Ytebkkjfeikpfgaa
open Go.RowKit Go.Sort
set_option maxRecDepth 100000
attribute [local go_sem ↓] Go.wp_at_zero Go.wp_at_succ

/-- Things by rising numbers. -/
def Ris (ts : List TA) : Prop := ∀ (i j : Nat) (s t : TA), i < j → ts[i]? = some s → ts[j]? = some t → s.id < t.id
def SrchI (ts : List TA) (id : Int) (lo hi : Nat) : Prop := (∀ (j : Nat) t, ts[j]? = some t → j < lo → t.id < id) ∧ (∀ (j : Nat) t, ts[j]? = some t → hi ≤ j → id ≤ t.id)
theorem srch_up {ts : List TA} {id : Int} {lo hi h : Nat} {t : TA} (hr : Ris ts) (hs : SrchI ts id lo hi) (ht : ts[h]? = some t) (hlt : t.id < id) : SrchI ts id (h + 1) hi :=
  ⟨fun j u hj hlj => by
    rcases Nat.lt_or_ge j h with h1 | h1
    · have := hr j h u t h1 hj ht; omega
    · obtain rfl : j = h := by omega
      rw [ht] at hj; injection hj with hj; subst hj; exact hlt, hs.2⟩
theorem srch_down {ts : List TA} {id : Int} {lo hi h : Nat} {t : TA} (hr : Ris ts) (hs : SrchI ts id lo hi) (ht : ts[h]? = some t) (hlt : id ≤ t.id) : SrchI ts id lo h :=
  ⟨hs.1, fun j u hj hlj => by
    rcases Nat.lt_or_ge h j with h1 | h1
    · have := hr h j t u h1 ht hj; omega
    · obtain rfl : j = h := by omega
      rw [ht] at hj; injection hj with hj; subst hj; exact hlt⟩
theorem srch_yes {ts : List TA} {id : Int} {i : Nat} {t : TA} (ht : ts[i]? = some t) (e : t.id = id) : ts.any (idB id) = true :=
  List.any_eq_true.2 ⟨t, List.mem_of_getElem? ht, by simp [idB, e]⟩
theorem srch_no {ts : List TA} {id : Int} {i : Nat} {t : TA} (hr : Ris ts) (hs : SrchI ts id i i) (ht : ts[i]? = some t) (e : t.id ≠ id) : ts.any (idB id) = false := by
  rw [Bool.eq_false_iff]
  intro h
  obtain ⟨u, hu, he⟩ := List.any_eq_true.1 h
  obtain ⟨j, hj⟩ := List.mem_iff_getElem?.1 hu
  have he' : u.id = id := by simpa [idB] using he
  rcases Nat.lt_trichotomy j i with h1 | h1 | h1
  · have := hs.1 j u hj h1; omega
  · subst h1; rw [ht] at hj; injection hj with hj; subst hj; exact e he'
  · have h2 := hs.2 i t ht (Nat.le_refl _)
    have := hr i j t u h1 ht hj
    omega
theorem srch_out {ts : List TA} {id : Int} {i : Nat} (hs : SrchI ts id i i) (hi : ts.length ≤ i) : ts.any (idB id) = false := by
  rw [Bool.eq_false_iff]
  intro h
  obtain ⟨u, hu, he⟩ := List.any_eq_true.1 h
  obtain ⟨j, hj⟩ := List.mem_iff_getElem?.1 hu
  have he' : u.id = id := by simpa [idB] using he
  have := hs.1 j u hj (by have := (List.getElem?_eq_some_iff.1 hj).1; omega)
  omega
theorem cmpI_lt {a b : Int} (h : a < b) : cmpI a b = -1 := by unfold cmpI; rw [if_pos h]
theorem cmpI_gt {a b : Int} (h : b < a) : cmpI a b = 1 := by unfold cmpI; rw [if_neg (by omega), if_pos h]
theorem cmpI_eq (a : Int) : cmpI a a = 0 := by unfold cmpI; rw [if_neg (by omega), if_neg (by omega)]
set_option maxHeartbeats 800000 in
theorem cmp67 (w : World) (t : TA) (id : Int) : Calls Try.prog 67 #[t.v, .int .i64 id] w fun e w' => e = .returned (.int .i64 (cmpI t.id id)) ∧ Below w.heap.size w w' := by
  go_enter Try.func67, Try.ntmps67
  go_wp2_with (go_at_call 68; refine (compareI _ _ _).mono ?_; rintro e w' ⟨rfl, rfl⟩)
  go_ret
  exact ⟨rfl, below_new _ _⟩
def PlacePost (w : World) (ts : List TA) (id : Int) (e : Ending) (w' : World) : Prop := ∃ i : Nat, e = .returned (.tuple #[.int .i64 i, .bool (ts.any (idB id))]) ∧ i ≤ ts.length ∧ SrchI ts id i i ∧ Below w.heap.size w w'
set_option maxHeartbeats 4000000 in
theorem search_any (w : World) (d : Nat) (A : Option Addr) (c : Nat) (ts : List TA) (h : TRow w d A c ts) (hr : Ris ts) (id : Int) : Calls Try.prog 66 #[.slice A ts.length c, .int .i64 id, .func (.func 67) #[] #[]] w (PlacePost w ts id) := by
  have hbig : ts.length ≤ 2199023255488 := h.big
  have H := Lib.hid h
  have HR := Lib.hid hr
  clear h hr
  obtain ⟨n, hn⟩ : ∃ n, n = ts.length := ⟨_, rfl⟩
  rw [← hn] at hbig ⊢
  have HN := Lib.hid hn
  clear hn
  go_enter Try.func66, Try.ntmps66
  go_wp2
  go_loopw [9, 10] (fun vi vj wr => ∃ i j : Nat, vi = .int .i64 i ∧ vj = .int .i64 j ∧ i ≤ j ∧ j ≤ n ∧ Hid (Below w.heap.size w wr) ∧ Hid (SrchI ts id i j)) (fun vi vj _ => (intOf vj).toNat - (intOf vi).toNat)
  case atStart => exact ⟨0, n, by go_num, rfl, by omega, by omega, Lib.hid (Below.refl _ _), Lib.hid ⟨fun _ _ _ h => by omega, fun j t hj h1 => by have := (List.getElem?_eq_some_iff.1 hj).1; have := HN.out; omega⟩⟩
  case round =>
    obtain ⟨i, j, rfl, rfl, hij, hjn, hbel, hS⟩ := hrel
    by_cases hlt : i < j
    · have hltz : (i : Int) < (j : Int) := by omega
      go_upto_region 5 with fail
      obtain ⟨h, hh⟩ : ∃ h : Nat, ((i : Int) + (j : Int)) / 2 = (h : Int) := ⟨(i + j) / 2, by omega⟩
      have h1 : i ≤ h := by omega
      have h2 : h < j := by omega
      rw [hh]
      clear hh
      have h3 : (h : Int) < (n : Int) := by omega
      obtain ⟨b, off, t, rfl, hb, ht, q5, -⟩ := (H.out.next hbel.out).elem (k := h) (by have := HN.out; omega)
      obtain ⟨q0, q1, q2, q3, q4⟩ := q5
      have HT := Lib.hid ht
      clear ht
      go_wp2_with fail
      refine (cmp67 wr t id).mono ?_
      rintro e w1 ⟨rfl, hb1⟩
      have HB := Lib.hid (bnext hbel.out hb1)
      clear hb1 q0 q1 q2 q3 q4
      by_cases hc : t.id < id
      · rw [cmpI_lt hc]
        have HS2 := Lib.hid (srch_up HR.out hS.out HT.out hc)
        clear hc
        go_wp2
        go_roundw
        case rel => exact ⟨h + 1, j, by go_num, rfl, by omega, by omega, HB, HS2⟩
        case measure => simp [intOf]; omega
      · have HS2 := Lib.hid (srch_down HR.out hS.out HT.out (by omega))
        have hz : ¬ cmpI t.id id < 0 := by unfold cmpI; rw [if_neg hc]; split <;> omega
        generalize cmpI t.id id = r at hz ⊢
        have hz2 : 0 ≤ r := by omega
        clear hc
        go_wp2
        go_roundw
        case rel => exact ⟨i, h, rfl, rfl, by omega, by omega, HB, HS2⟩
        case measure => simp [intOf]; omega
    · obtain rfl : i = j := by omega
      by_cases hin : i < n
      · have h3 : (i : Int) < (n : Int) := by omega
        obtain ⟨b, off, t, rfl, hb, ht, q5, -⟩ := (H.out.next hbel.out).elem (k := i) (by have := HN.out; omega)
        obtain ⟨q0, q1, q2, q3, q4⟩ := q5
        have HT := Lib.hid ht
        clear ht
        go_wp2_with fail
        refine (cmp67 wr t id).mono ?_
        rintro e w1 ⟨rfl, hb1⟩
        have HB := Lib.hid (bnext hbel.out hb1)
        clear hb1 q0 q1 q2 q3 q4
        by_cases hc : t.id = id
        · have HA := Lib.hid (srch_yes HT.out hc)
          rw [hc, cmpI_eq]
          clear hc
          go_wp2
          go_ret2
          exact ⟨i, by rw [HA.out]; rfl, by have := HN.out; omega, hS.out, HB.out⟩
        · have HA := Lib.hid (srch_no HR.out hS.out HT.out hc)
          have hz : (cmpI t.id id == 0) = false := by
            refine beq_eq_false_iff_ne.2 ?_
            unfold cmpI
            split
            · omega
            · split <;> omega
          generalize cmpI t.id id = r at hz ⊢
          clear hc
          go_wp2
          go_ret2
          exact ⟨i, by rw [HA.out]; rfl, by have := HN.out; omega, hS.out, HB.out⟩
      · have HA := Lib.hid (srch_out hS.out (by have := HN.out; omega))
        have h3 : ¬ (i : Int) < (n : Int) := by omega
        go_wp2
        go_ret2
        exact ⟨i, by rw [HA.out]; rfl, by have := HN.out; omega, hS.out, hbel.out⟩
set_option maxHeartbeats 1600000 in
theorem place_any (w : World) (d : Nat) (A : Option Addr) (c : Nat) (ts : List TA) (h : TRow w d A c ts) (hr : Ris ts) (id : Int) (g off : Nat) (hc : w.cell? ⟨g, off, none⟩ = some (.slice A ts.length c)) : Calls Try.prog 53 #[.pointer (some ⟨g, off, none⟩), .int .i64 id] w (PlacePost w ts id) := by
  have CS := Lib.hid (search_any w d A c ts h hr id)
  clear h hr
  go_enter Try.func53, Try.ntmps53
  go_wp2_with fail
  refine CS.out.mono ?_
  rintro e w1 ⟨i, rfl, h1, h2, hb⟩
  have H2 := Lib.hid h2
  have HB := Lib.hid hb
  clear h2 hb hc
  go_wp2
  go_ret2
  exact ⟨i, rfl, h1, H2.out, HB.out⟩
theorem TRow.dropped {w : World} {d c b off : Nat} {ts : List TA} (h : TRow w d (some ⟨b, off, none⟩) c ts) {i : Nat} (hi : i < ts.length) : TRow w d (some ⟨b, off + i * 5, none⟩) (c - i) (ts.drop i) :=
  ⟨by rw [List.length_drop]; have := h.le; omega, by rw [List.length_drop]; have := h.big; omega, fun _ => by
    obtain ⟨b', off', e, hb, hc⟩ := h.at_ (by omega)
    injection e with e
    injection e with e1 e2
    subst e1 e2
    refine ⟨b, off + i * 5, rfl, hb, fun j t hj => ?_⟩
    rw [List.getElem?_drop] at hj
    have := hc (i + j) t hj
    rwa [show off + i * 5 + j * 5 = off + (i + j) * 5 by omega], fun t ht => h.vals t (List.mem_of_mem_drop ht)⟩
theorem atV_drop {ts : List TA} {id : Int} {i : Nat} (hs : SrchI ts id i i) : atV (ts.drop i) id = atV ts id := by
  have e : ts.find? (idB id) = (ts.drop i).find? (idB id) := by
    conv => lhs; rw [← List.take_append_drop i ts]
    rw [List.find?_append]
    have : (ts.take i).find? (idB id) = none := by
      rw [List.find?_eq_none]
      intro t ht he
      obtain ⟨j, hj⟩ := List.mem_iff_getElem?.1 ht
      rw [List.getElem?_take] at hj
      split at hj
      · have := hs.1 j t hj (by assumption)
        have he' : t.id = id := by simpa [idB] using he
        omega
      · cases hj
    rw [this]; rfl
  unfold atV
  rw [e]
theorem atV_no {ts : List TA} {id : Int} (h : ts.any (idB id) = false) : atV ts id = (zeroTV, false) := by
  have : ts.find? (idB id) = none := by
    rw [List.find?_eq_none]
    intro t ht he
    rw [Bool.eq_false_iff] at h
    exact h (List.any_eq_true.2 ⟨t, ht, he⟩)
  unfold atV
  rw [this]
theorem srch_at {ts : List TA} {id : Int} {i : Nat} (hs : SrchI ts id i i) (h : ts.any (idB id) = true) : i < ts.length := by
  rcases Nat.lt_or_ge i ts.length with h1 | h1
  · exact h1
  · rw [srch_out hs h1] at h; cases h
set_option maxHeartbeats 4000000 in
theorem find_any (w : World) (d : Nat) (A : Option Addr) (c : Nat) (ts : List TA) (h : TRow w d A c ts) (hr : Ris ts) (id : Int) (g off : Nat) (hg : g < w.heap.size) (hc : w.cell? ⟨g, off, none⟩ = some (.slice A ts.length c)) : Calls Try.prog 40 #[.pointer (some ⟨g, off, none⟩), .int .i64 id] w (AtPost w (atV ts id)) := by
  have CP := Lib.hid (fun (W : World) (hb : Below w.heap.size w W) => place_any W d A c ts (h.next hb) hr id g off (cell_below hb hc hg))
  have H := Lib.hid h
  have HC := Lib.hid hc
  have hbig := h.big
  clear h hr hc
  go_enter Try.func40, Try.ntmps40
  go_upto_region 1 with fail
  have k1 := CellT.new w (.int .i64 0) (.string ⟨#[]⟩) (.int .i64 0) (.int .i64 0) (.slice none 0 0)
  have HB : Hid (Below w.heap.size w (w.alloc (.cells #[.int .i64 0, .string ⟨#[]⟩, .int .i64 0, .int .i64 0, .slice none 0 0] 42))) := Lib.hid (below_new _ _)
  generalize World.alloc w _ = W at k1 HB ⊢
  have K2 := Lib.hid k1
  have hgW : w.heap.size < W.heap.size := k1.blk.lt
  clear k1
  go_wp2_with fail
  refine (CP.out W HB.out).mono ?_
  rintro e w1 ⟨i, rfl, hi, hs, hb1⟩
  have HS := Lib.hid hs
  have B1 := Lib.hid (bnext HB.out hb1)
  have K2n := Lib.hid (K2.out.next hb1)
  have hs1 := hb1.size
  clear hb1 K2 hs
  cases hany : ts.any (idB id)
  · have HV := Lib.hid (atV_no hany)
    clear hany
    have HR := Lib.hid (retT_box K2n.out.blk (.int .i64 0) (.string ⟨#[]⟩) (.int .i64 0) (.int .i64 0) (.slice none 0 0))
    obtain ⟨y0, y1, y2, y3, y4, z0, z1, z2, z3, z4, _⟩ := K2n.out
    go_wp2
    obtain ⟨F, hF, ⟨r0', r1', r2', r3', r4', _⟩, hk, hsz, hbel⟩ := HR.out
    rw [← hF]
    clear hF
    exact bodyPost_ret (v := .tuple #[tv 0 ⟨#[]⟩ 0 0 none 0 0, .bool false]) (by simp [results, Try.results40, go_sem, r0', r1', r2', r3', r4']) rfl ⟨⟨0, ⟨#[]⟩, 0, 0, none, 0, []⟩, by rw [HV.out]; rfl, by rw [HV.out]; rfl, prow_nil _ _ _, fun h => absurd h (by simp), hbel _ _ (by omega) B1.out⟩
  · have hin := srch_at HS.out hany
    have HV := Lib.hid (atV_drop HS.out)
    clear hany
    obtain ⟨b, of, e0, _, _⟩ := (H.out.next B1.out).at_ (by omega)
    subst e0
    have HD := Lib.hid ((H.out.next B1.out).dropped hin)
    have HL := Lib.hid (show (ts.drop i).length = ts.length - i from List.length_drop)
    have hci := H.out.le
    have i0 : (0 : Int) ≤ (i : Int) := by omega
    have i1 : (i : Int) ≤ (ts.length : Int) := by omega
    have i2 : (i : Int) ≤ (c : Int) := by omega
    have cg := cell_below B1.out HC.out hg
    have CA := Lib.hid (at_any w1 d (some ⟨b, of + i * 5, none⟩) (c - i) (ts.drop i) HD.out id)
    rw [HL.out, HV.out] at CA
    have hic : ¬ c = i := by omega
    go_wp2_with fail
    refine CA.out.mono ?_
    rintro e w2 ⟨q, rfl, hq, hn⟩
    have HQ := Lib.hid hq
    have NW := Lib.hid hn
    have B2 := Lib.hid (bnext B1.out hn.bel)
    have K2m := Lib.hid (K2n.out.next hn.bel)
    have hs2 := hn.bel.size
    have HRB := Lib.hid (retT_box K2m.out.blk (.int .i64 q.id) (.string q.label) (.int .i64 q.o) (.int .i64 q.i) (.slice q.A q.l.length q.c))
    obtain ⟨y0, y1, y2, y3, y4, z0, z1, z2, z3, z4, _⟩ := K2m.out
    clear hq hn CA cg HV
    go_wp2
    obtain ⟨F, hF, ⟨r0', r1', r2', r3', r4', _⟩, hk, hsz, hbel⟩ := HRB.out
    rw [← hF]
    clear hF
    have hkF := hk w1.heap.size w2.heap.size (by omega)
    exact bodyPost_ret (v := .tuple #[tv q.id q.label q.o q.i q.A q.l.length q.c, .bool (atV ts id).2]) (by simp [results, Try.results40, go_sem, r0', r1', r2', r3', r4']) rfl ⟨q, rfl, HQ.out, NW.out.row.imp hkF (by omega) (by rw [hsz]; exact Nat.le_refl _), NW.out.mine.keep NW.out.row hkF, hbel _ _ (by omega) B2.out⟩
end Go.Proofs.Ytebkkjfeikpfgaa
