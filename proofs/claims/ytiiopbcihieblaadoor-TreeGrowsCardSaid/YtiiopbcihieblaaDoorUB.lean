/- Carried over from an earlier seat. -/
import Derived.Test.YtiiopbcihieblaaDoorUA
namespace Go.Proofs.YtiiopbcihieblaaDoor
set_option maxRecDepth 100000
set_option maxRecDepth 100000
set_option maxRecDepth 100000
open Go.RowKit Go.Sort

theorem name_at (k : Nat) (hk : k < 15) : ∃ s, namesL[k]? = some s ∧ s.toList = namesB.getD k [] := by
  obtain rfl | rfl | rfl | rfl | rfl | rfl | rfl | rfl | rfl | rfl | rfl | rfl | rfl | rfl | rfl : k = 0 ∨ k = 1 ∨ k = 2 ∨ k = 3 ∨ k = 4 ∨ k = 5 ∨ k = 6 ∨ k = 7 ∨ k = 8 ∨ k = 9 ∨ k = 10 ∨ k = 11 ∨ k = 12 ∨ k = 13 ∨ k = 14 := by omega
  · exact ⟨_, rfl, lit_list []⟩
  · exact ⟨_, rfl, lit_list [101, 113]⟩
  · exact ⟨_, rfl, lit_list [110, 101, 113]⟩
  · exact ⟨_, rfl, lit_list [108, 116]⟩
  · exact ⟨_, rfl, lit_list [108, 116, 101]⟩
  · exact ⟨_, rfl, lit_list [103, 116]⟩
  · exact ⟨_, rfl, lit_list [103, 116, 101]⟩
  · exact ⟨_, rfl, lit_list [98, 101, 116, 119, 101, 101, 110]⟩
  · exact ⟨_, rfl, lit_list [105, 110, 115, 105, 100, 101]⟩
  · exact ⟨_, rfl, lit_list [111, 117, 116, 115, 105, 100, 101]⟩
  · exact ⟨_, rfl, lit_list [119, 105, 116, 104, 105, 110]⟩
  · exact ⟨_, rfl, lit_list [119, 105, 116, 104, 111, 117, 116]⟩
  · exact ⟨_, rfl, lit_list [110, 111, 116]⟩
  · exact ⟨_, rfl, lit_list [97, 110, 100]⟩
  · exact ⟨_, rfl, lit_list [111, 114]⟩
theorem fits_kind1 (p : P) (h : fitsP p = true) : 1 ≤ p.k ∧ p.k ≤ 14 := by
  by_cases hk : p.k < 1 ∨ 14 < p.k
  · rw [fits_none p hk] at h; cases h
  · omega
theorem wrP_parts (r : Nat) (t : P) : wrP (r + 1) t = true ↔ (∀ x ∈ t.v, wrV 12 x = true) ∧ (∀ x ∈ t.p, wrP r x = true) := by
  show (t.v.all (wrV 12) && t.p.all (wrP r)) = true ↔ _
  rw [Bool.and_eq_true, List.all_eq_true, List.all_eq_true]
theorem txP_p (r : Nat) (t : P) (h : 0 < t.p.length) : txP (r + 1) t = nameP t.k ++ ([40] ++ (itemsT (txP r) 0 t.p ++ [41])) := by
  show nameP t.k ++ ([40] ++ ((if _ then _ else _) ++ [41])) = _
  rw [if_pos h]
theorem txP_v (r : Nat) (t : P) (h : ¬ 0 < t.p.length) : txP (r + 1) t = nameP t.k ++ ([40] ++ (itemsT (txV 12) 0 t.v ++ [41])) := by
  show nameP t.k ++ ([40] ++ ((if _ then _ else _) ++ [41])) = _
  rw [if_neg h]
def PWrite (r : Nat) : Prop := ∀ (w : World) (B b : Nat) (bs : Bs) (d : Nat) (x : Pt), NM w → 0 < B → WB w B b bs → Pd w 0 B d x.t x.A x.c x.A' x.c' → okP r x.t = true → wrP r x.t = true → bs.length + (txP r x.t).length ≤ MX →
  Calls Tryd.prog 44 #[.pointer (some ⟨b, 0, none⟩), x.val] w (WPost B b (bs ++ txP r x.t) w)
set_option maxHeartbeats 3200000 in
theorem pwrite_succ (r : Nat) (ih : PWrite r) : PWrite (r + 1) := by
  intro w B b bs d x hm hB0 h hr ho hw hl
  have hB := hB0
  clear hB0
  obtain ⟨d', rfl⟩ := hr.pos
  obtain ⟨nv, rv⟩ := hr.2.1
  obtain ⟨ofit, ov, op⟩ := (okP_parts r x.t).1 ho
  obtain ⟨wv, wp⟩ := (wrP_parts r x.t).1 hw
  obtain ⟨hk1, hk2⟩ := fits_kind1 x.t ofit
  obtain ⟨kk, hkk⟩ : ∃ kk : Nat, x.t.k = (kk : Int) := ⟨x.t.k.toNat, by omega⟩
  obtain ⟨nm, hnm, hnl⟩ := name_at kk (by omega)
  have hnl' : nm.toList = nameP x.t.k := by rw [hnl]; unfold nameP; rw [hkk]; rfl
  have TXP := Lib.hid (txP_p r x.t)
  have TXV := Lib.hid (txP_v r x.t)
  have SV := Lib.hid (fun y hy => And.intro (ov y hy) (wv y hy))
  have SP := Lib.hid (fun y hy => And.intro (op y hy) (wp y hy))
  have HL := Lib.hid hl
  have HM := Lib.hid hm
  have IH := Lib.hid ih
  have H := Lib.hid h
  have RV := Lib.hid rv
  have RP := Lib.hid hr.2.2
  have hbp := hr.2.2.big
  have HNL := Lib.hid hnl'
  have HNM := Lib.hid hnm
  have hklt : kk < 15 := by omega
  obtain ⟨tx, htx⟩ : ∃ tx : Bs, tx = txP (r + 1) x.t := ⟨_, rfl⟩
  rw [← htx] at TXP TXV HL ⊢
  have HLN := Lib.hid (show bs.length + nm.size ≤ 140737488355328 by
    have h1 := HL.out
    have h2 : (nameP x.t.k).length ≤ tx.length := by
      by_cases hp : 0 < x.t.p.length
      · rw [TXP.out hp, List.length_append]; omega
      · rw [TXV.out hp, List.length_append]; omega
    rw [← hnl', toList_size] at h2
    unfold MX at h1; omega)
  clear hm h hr ho hw hl ih htx rv ofit ov op wv wp hnm hnl hnl' hk1 hk2
  have HKK := Lib.hid hkk
  clear hkk
  have b0 := below_new w (.cells #[.int .i64 x.t.k, .slice x.A x.t.v.length x.c, .slice x.A' x.t.p.length x.c'] 35)
  have hxb := heap_alloc_new w (.cells #[.int .i64 x.t.k, .slice x.A x.t.v.length x.c, .slice x.A' x.t.p.length x.c'] 35)
  unfold Pt.val
  go_enter Tryd.func44, Tryd.ntmps44
  go_upto_region 1 with fail
  generalize hW : World.alloc w _ = W at b0 hxb ⊢
  clear hW
  have WBW := Lib.hid (H.out.next b0)
  have K0 := Lib.hid (WK.below (b := b) b0 H.out.2)
  have HMW := Lib.hid (HM.out.next b0)
  have hgb := Lib.hid (show w.heap.size ≠ b by have := H.out.lt; omega)
  have HXB := Lib.hid hxb
  have RV1 := Lib.hid (RV.out.keep (Kept.of_below (b0.mono H.out.2) (Nat.le_refl _)))
  have RP1 := Lib.hid (RP.out.keep (Kept.of_below (b0.mono H.out.2) (Nat.le_refl _)))
  have a0 : W.cell? ⟨w.heap.size, 0, none⟩ = some (.int .i64 x.t.k) := by rw [Lib.cell_of_heap HXB.out]; rfl
  have a1 : W.cell? ⟨w.heap.size, 1, none⟩ = some (.slice x.A x.t.v.length x.c) := by rw [Lib.cell_of_heap HXB.out]; rfl
  have a2 : W.cell? ⟨w.heap.size, 2, none⟩ = some (.slice x.A' x.t.p.length x.c') := by rw [Lib.cell_of_heap HXB.out]; rfl
  rw [HKK.out] at a0
  have hn0 := HMW.out kk nm HNM.out
  have S1 := Lib.hid (str_any W.drew B b bs nm WBW.out.drew HLN.out)
  clear b0 hxb
  have hi0 : (0 : Int) ≤ (kk : Int) := by omega
  have hi1 : (kk : Int) < 15 := by omega
  go_still_tail 7, (by kernel_rfl)
  change wpList _ _ _ _ _ W.drew
  go_wp2_with fail
  refine S1.out.mono ?_
  rintro e w2 ⟨rfl, hw⟩
  have HW2 := Lib.hid hw
  have hx2 : w2.heap[w.heap.size]? = some (.cells #[.int .i64 x.t.k, .slice x.A x.t.v.length x.c, .slice x.A' x.t.p.length x.c'] 35 (0, 0)) := (hw.2.stay (w := W.drew) HXB.out (by decide) hgb.out).trans HXB.out
  have B2 := Lib.hid (show Below B W w2 from (Below.drew (Below.refl _ _)).trans hw.2.1)
  clear hw S1 a0 a1 a2 hn0
  have a0 : w2.cell? ⟨w.heap.size, 0, none⟩ = some (.int .i64 x.t.k) := by rw [Lib.cell_of_heap hx2]; rfl
  have a1 : w2.cell? ⟨w.heap.size, 1, none⟩ = some (.slice x.A x.t.v.length x.c) := by rw [Lib.cell_of_heap hx2]; rfl
  have a2 : w2.cell? ⟨w.heap.size, 2, none⟩ = some (.slice x.A' x.t.p.length x.c') := by rw [Lib.cell_of_heap hx2]; rfl
  have HM2 := Lib.hid (HMW.out.kept (B2.out.block 0 hB))
  clear hx2
  by_cases hp : 0 < x.t.p.length
  · have hp' : (0 : Int) < (x.t.p.length : Int) := by omega
    have TX := TXP.out hp
    have WR := writeRowP (txP r) (fun t => okP r t = true ∧ wrP r t = true) B b d' (fun X bs' y hmX hwb hrd hs hlen => IH.out X B b bs' d' y hmX hB hwb hrd hs.1 hs.2 hlen) w2 HM2.out hB (bs ++ nm.toList) [40] [41] ⟨#[40]⟩ ⟨#[41]⟩ (lit_list [40]) (lit_list [41]) x.A' x.c' x.t.p HW2.out.1 (RP1.out.keep (Kept.of_below B2.out (Nat.le_refl _))) SP.out (by
      have := HL.out
      rw [TX, ← HNL.out] at this
      simp only [List.length_append] at this ⊢
      omega)
    rw [List.append_assoc, HNL.out, ← TX] at WR
    replace WR := Lib.hid WR
    clear TX hp
    go_wp2_with fail
    refine WR.out.mono ?_
    rintro e w3 ⟨rfl, hw⟩
    have HW3 := Lib.hid hw
    clear hw WR a0 a1 a2
    go_wp2
    go_end0
    exact ⟨rfl, HW3.out.1, ((K0.out.trans (WK.drew _ _ _)).trans HW2.out.2).trans HW3.out.2⟩
  · have hp' : ¬ (0 : Int) < (x.t.p.length : Int) := by omega
    have TX := TXV.out hp
    have WR := writeRowV (txV 12) (fun t => okV 12 t = true ∧ wrV 12 t = true) B b nv (fun X bs' y hmX hwb hrd hs hlen => vwrite_any 12 X B b bs' nv y hmX hB hwb hrd hs.1 hs.2 hlen) w2 HM2.out hB (bs ++ nm.toList) [40] [41] ⟨#[40]⟩ ⟨#[41]⟩ (lit_list [40]) (lit_list [41]) x.A x.c x.t.v HW2.out.1 (RV1.out.keep (Kept.of_below B2.out (Nat.le_refl _))) SV.out (by
      have := HL.out
      rw [TX, ← HNL.out] at this
      simp only [List.length_append] at this ⊢
      omega)
    rw [List.append_assoc, HNL.out, ← TX] at WR
    replace WR := Lib.hid WR
    clear TX hp
    go_wp2_with fail
    refine WR.out.mono ?_
    rintro e w3 ⟨rfl, hw⟩
    have HW3 := Lib.hid hw
    clear hw WR a0 a1 a2
    go_wp2
    go_end0
    exact ⟨rfl, HW3.out.1, ((K0.out.trans (WK.drew _ _ _)).trans HW2.out.2).trans HW3.out.2⟩
theorem pwrite_any : ∀ r, PWrite r
  | 0 => fun _ _ _ _ _ _ _ _ _ _ h => by cases h
  | r + 1 => pwrite_succ r (pwrite_any r)
end Go.Proofs.YtiiopbcihieblaaDoor


