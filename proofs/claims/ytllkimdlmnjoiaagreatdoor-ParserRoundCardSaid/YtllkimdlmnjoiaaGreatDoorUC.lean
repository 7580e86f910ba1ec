/- Carried over from an earlier seat. -/
import Derived.Test.YtllkimdlmnjoiaaGreatDoorTY
namespace Go.Proofs.YtllkimdlmnjoiaaGreatDoor
set_option maxRecDepth 100000
set_option maxRecDepth 100000
set_option maxRecDepth 100000
open Go.RowKit Go.Sort

theorem txV_1 (r : Nat) (t : V) (h : (t.k == 1) = true) : txV (r + 1) t = (if t.n = 0 then [102, 97, 108, 115, 101] else [116, 114, 117, 101]) := by
  have h' : t.k = 1 := by simpa using h
  show (if _ then _ else _) = _
  rw [if_pos h']
theorem txV_2 (r : Nat) (t : V) (h : (t.k == 2) = true) : txV (r + 1) t = digL t.n := by
  have h' : t.k = 2 := by simpa using h
  show (if _ then _ else _) = _
  rw [if_neg (by omega), if_pos h']
theorem txV_3 (r : Nat) (t : V) (h : (t.k == 3) = true) : txV (r + 1) t = qT t.s.toList := by
  have h' : t.k = 3 := by simpa using h
  show (if _ then _ else _) = _
  rw [if_neg (by omega), if_neg (by omega), if_pos h']
theorem txV_6 (r : Nat) (t : V) (h : (t.k == 6) = true) : txV (r + 1) t = [91] ++ (itemsT (txV r) 0 t.l ++ [93]) := by
  have h' : t.k = 6 := by simpa using h
  show (if _ then _ else _) = _
  rw [if_neg (by omega), if_neg (by omega), if_neg (by omega)]
def VWrite (r : Nat) : Prop := ∀ (w : World) (B b : Nat) (bs : Bs) (d : Nat) (x : At), NM w → 0 < B → WB w B b bs → Rd w 0 B d x.t x.A x.c x.A' x.c' → okV r x.t = true → wrV r x.t = true → bs.length + (txV r x.t).length ≤ MX →
  Calls Tryz.prog 56 #[.pointer (some ⟨b, 0, none⟩), x.v] w (WPost B b (bs ++ txV r x.t) w)
set_option maxHeartbeats 3200000 in
theorem vwrite_succ (r : Nat) (ih : VWrite r) : VWrite (r + 1) := by
  intro w B b bs d x hm hB h hr ho hw hl
  have HB := hB
  clear hB
  obtain ⟨d', rfl⟩ := hr.pos
  have OL := Lib.hid ((ok_parts r x.t).1 ho).2.1
  have FN : Hid (fitsB x.t.n = true) := Lib.hid (by rw [fits_iff]; exact ⟨hr.1.n0, hr.1.n1⟩)
  have T1 := Lib.hid (txV_1 r x.t)
  have T2 := Lib.hid (txV_2 r x.t)
  have T3 := Lib.hid (txV_3 r x.t)
  have T6 := Lib.hid (txV_6 r x.t)
  have W6 := Lib.hid (wrV_6 r x.t)
  have WN := Lib.hid (wrV_no r x.t)
  have HW := Lib.hid hw
  have HL := Lib.hid hl
  have HM := Lib.hid hm
  have IH := Lib.hid ih
  have H := Lib.hid h
  have HR := Lib.hid hr
  obtain ⟨tx, htx⟩ : ∃ tx : Bs, tx = txV (r + 1) x.t := ⟨_, rfl⟩
  rw [← htx] at T1 T2 T3 T6 HL ⊢
  clear hm h hr ho hw hl ih htx
  have b0 := below_new w (.cells #[.int .i64 x.t.k, .int .i64 x.t.n, .string x.t.s, .slice x.A x.t.l.length x.c, .slice x.A' x.t.m.length x.c'] 77)
  have hbx := Bx.new w x
  unfold At.v
  go_enter Tryz.func56, Tryz.ntmps56
  go_upto_region 1 with fail
  generalize hW : World.alloc w _ = W at b0 hbx ⊢
  clear hW
  have WBW := Lib.hid (H.out.next b0)
  have K0 := Lib.hid (WK.below (b := b) b0 H.out.2)
  have RL := Lib.hid (HR.out.2.1.below (B' := B) (b0.mono H.out.2) (Nat.le_refl _))
  have HMW := Lib.hid (HM.out.next b0)
  obtain ⟨a0, a1, a2, a3, a4, _⟩ := hbx
  clear b0
  cases n1 : (x.t.k == 1)
  case true =>
    have TX := T1.out n1
    have WR := truth_any W B b bs x.t.n WBW.out (by have := HL.out; rwa [TX] at this)
    rw [← TX] at WR
    replace WR := Lib.hid WR
    clear TX
    go_wp2_with fail
    refine WR.out.mono ?_
    rintro e w2 ⟨rfl, hw⟩
    have HW2 := Lib.hid hw
    clear hw WR a0 a1 a2 a3 a4
    go_wp2
    go_end0
    exact ⟨rfl, HW2.out.1, K0.out.trans HW2.out.2⟩
  cases n2 : (x.t.k == 2)
  case true =>
    have TX := T2.out n2
    have HL2 := Lib.hid (show bs.length + (digL x.t.n).length ≤ MX by have := HL.out; rwa [TX] at this)
    replace TX := Lib.hid TX
    have DG := Lib.hid (fun X => digits_any x.t.n X FN.out)
    go_upto_region 5 with fail
    go_region_with (first
      | (go_at_call 78; (with_reducible refine (DG.out _).mono ?_); rintro e w2 ⟨rfl, hb⟩; have W2 := Lib.hid (WBW.out.drew.next hb); have K2 := Lib.hid ((K0.out.trans (WK.drew _ _ _)).trans (WK.below (b := b) hb WBW.out.drew.2)); clear hb; have WR := Lib.hid (str_lit w2 B b bs (digL x.t.n) W2.out HL2.out))
      | (go_at_call 34; (with_reducible refine WR.out.mono ?_); rintro e w3 ⟨rfl, hw⟩; have HW3 := Lib.hid hw; clear hw))
    all_goals
      clear a0 a1 a2 a3 a4
      go_wp2
      go_end0
      exact ⟨rfl, by rw [TX.out]; exact HW3.out.1, K2.out.trans HW3.out.2⟩
  cases n3 : (x.t.k == 3)
  case true =>
    have TX := T3.out n3
    have WR := wtxt_any W B b bs x.t.s WBW.out (by have := HL.out; rwa [TX] at this)
    rw [← TX] at WR
    replace WR := Lib.hid WR
    clear TX
    go_wp2_with fail
    refine WR.out.mono ?_
    rintro e w2 ⟨rfl, hw⟩
    have HW2 := Lib.hid hw
    clear hw WR a0 a1 a2 a3 a4
    go_wp2
    go_end0
    exact ⟨rfl, HW2.out.1, K0.out.trans HW2.out.2⟩
  cases n6 : (x.t.k == 6)
  case false =>
    have := WN.out n1 n2 n3 n6
    rw [HW.out] at this
    cases this
  have TX := T6.out n6
  have WL : ∀ y ∈ x.t.l, okV r y = true ∧ wrV r y = true := fun y hy => ⟨OL.out y hy, by
    have h1 := W6.out n6
    rw [HW.out] at h1
    exact List.all_eq_true.1 h1.symm y hy⟩
  have WR := writeRowV (txV r) (fun t => okV r t = true ∧ wrV r t = true) B b d' (fun X bs' y hmX hwb hrd hs hlen => IH.out X B b bs' d' y hmX HB hwb hrd hs.1 hs.2 hlen) W HMW.out HB bs [91] [93] ⟨#[91]⟩ ⟨#[93]⟩ (lit_list [91]) (lit_list [93]) x.A x.c x.t.l WBW.out RL.out WL (by have := HL.out; rwa [TX] at this)
  rw [← TX] at WR
  replace WR := Lib.hid WR
  clear TX WL
  go_wp2_with fail
  refine WR.out.mono ?_
  rintro e w2 ⟨rfl, hw⟩
  have HW2 := Lib.hid hw
  clear hw WR a0 a1 a2 a3 a4
  go_wp2
  go_end0
  exact ⟨rfl, HW2.out.1, K0.out.trans HW2.out.2⟩
theorem vwrite_any : ∀ r, VWrite r
  | 0 => fun _ _ _ _ _ _ _ _ _ _ h => by cases h
  | r + 1 => vwrite_succ r (vwrite_any r)
end Go.Proofs.YtllkimdlmnjoiaaGreatDoor

namespace Go.Proofs.YtllkimdlmnjoiaaGreatDoor
set_option maxRecDepth 100000
set_option maxRecDepth 100000
set_option maxRecDepth 100000
open Go.RowKit Go.Sort

theorem name_at (k : Nat) (hk : k < 15) : ∃ s, namesL[k]? = some s ∧ s.toList = namesB.getD k [] := by
  obtain rfl | rfl | rfl | rfl | rfl | rfl | rfl | rfl | rfl | rfl | rfl | rfl | rfl | rfl | rfl : k = 0 ∨ k = 1 ∨ k = 2 ∨ k = 3 ∨ k = 4 ∨ k = 5 ∨ k = 6 ∨ k = 7 ∨ k = 8 ∨ k = 9 ∨ k = 10 ∨ k = 11 ∨ k = 12 ∨ k = 13 ∨ k = 14 := by omega
  · exact ⟨_, rfl, lit_list []⟩
  · exact ⟨_, rfl, lit_list [101, 113]⟩
  · exact ⟨_, rfl, lit_list [110, 101, 113]⟩
  · exact ⟨_, rfl, lit_list [108, 116]⟩
  · exact ⟨_, rfl, lit_list [108, 116, 101]⟩
  · exact ⟨_, rfl, lit_list [103, 116]⟩
  · exact ⟨_, rfl, lit_list [103, 116, 101]⟩
  · exact ⟨_, rfl, lit_list [98, 101, 116, 119, 101, 101, 110]⟩
  · exact ⟨_, rfl, lit_list [105, 110, 115, 105, 100, 101]⟩
  · exact ⟨_, rfl, lit_list [111, 117, 116, 115, 105, 100, 101]⟩
  · exact ⟨_, rfl, lit_list [119, 105, 116, 104, 105, 110]⟩
  · exact ⟨_, rfl, lit_list [119, 105, 116, 104, 111, 117, 116]⟩
  · exact ⟨_, rfl, lit_list [110, 111, 116]⟩
  · exact ⟨_, rfl, lit_list [97, 110, 100]⟩
  · exact ⟨_, rfl, lit_list [111, 114]⟩
theorem fits_kind1 (p : P) (h : fitsP p = true) : 1 ≤ p.k ∧ p.k ≤ 14 := by
  by_cases hk : p.k < 1 ∨ 14 < p.k
  · rw [fits_none p hk] at h; cases h
  · omega
theorem wrP_parts (r : Nat) (t : P) : wrP (r + 1) t = true ↔ (∀ x ∈ t.v, wrV 12 x = true) ∧ (∀ x ∈ t.p, wrP r x = true) := by
  show (t.v.all (wrV 12) && t.p.all (wrP r)) = true ↔ _
  rw [Bool.and_eq_true, List.all_eq_true, List.all_eq_true]
theorem txP_p (r : Nat) (t : P) (h : 0 < t.p.length) : txP (r + 1) t = nameP t.k ++ ([40] ++ (itemsT (txP r) 0 t.p ++ [41])) := by
  show nameP t.k ++ ([40] ++ ((if _ then _ else _) ++ [41])) = _
  rw [if_pos h]
theorem txP_v (r : Nat) (t : P) (h : ¬ 0 < t.p.length) : txP (r + 1) t = nameP t.k ++ ([40] ++ (itemsT (txV 12) 0 t.v ++ [41])) := by
  show nameP t.k ++ ([40] ++ ((if _ then _ else _) ++ [41])) = _
  rw [if_neg h]
def PWrite (r : Nat) : Prop := ∀ (w : World) (B b : Nat) (bs : Bs) (d : Nat) (x : Pt), NM w → 0 < B → WB w B b bs → Pd w 0 B d x.t x.A x.c x.A' x.c' → okP r x.t = true → wrP r x.t = true → bs.length + (txP r x.t).length ≤ MX →
  Calls Tryz.prog 57 #[.pointer (some ⟨b, 0, none⟩), x.val] w (WPost B b (bs ++ txP r x.t) w)
set_option maxHeartbeats 3200000 in
theorem pwrite_succ (r : Nat) (ih : PWrite r) : PWrite (r + 1) := by
  intro w B b bs d x hm hB0 h hr ho hw hl
  have hB := hB0
  clear hB0
  obtain ⟨d', rfl⟩ := hr.pos
  obtain ⟨nv, rv⟩ := hr.2.1
  obtain ⟨ofit, ov, op⟩ := (okP_parts r x.t).1 ho
  obtain ⟨wv, wp⟩ := (wrP_parts r x.t).1 hw
  obtain ⟨hk1, hk2⟩ := fits_kind1 x.t ofit
  obtain ⟨kk, hkk⟩ : ∃ kk : Nat, x.t.k = (kk : Int) := ⟨x.t.k.toNat, by omega⟩
  obtain ⟨nm, hnm, hnl⟩ := name_at kk (by omega)
  have hnl' : nm.toList = nameP x.t.k := by rw [hnl]; unfold nameP; rw [hkk]; rfl
  have TXP := Lib.hid (txP_p r x.t)
  have TXV := Lib.hid (txP_v r x.t)
  have SV := Lib.hid (fun y hy => And.intro (ov y hy) (wv y hy))
  have SP := Lib.hid (fun y hy => And.intro (op y hy) (wp y hy))
  have HL := Lib.hid hl
  have HM := Lib.hid hm
  have IH := Lib.hid ih
  have H := Lib.hid h
  have RV := Lib.hid rv
  have RP := Lib.hid hr.2.2
  have hbp := hr.2.2.big
  have HNL := Lib.hid hnl'
  have HNM := Lib.hid hnm
  have hklt : kk < 15 := by omega
  obtain ⟨tx, htx⟩ : ∃ tx : Bs, tx = txP (r + 1) x.t := ⟨_, rfl⟩
  rw [← htx] at TXP TXV HL ⊢
  have HLN := Lib.hid (show bs.length + nm.size ≤ 140737488355328 by
    have h1 := HL.out
    have h2 : (nameP x.t.k).length ≤ tx.length := by
      by_cases hp : 0 < x.t.p.length
      · rw [TXP.out hp, List.length_append]; omega
      · rw [TXV.out hp, List.length_append]; omega
    rw [← hnl', toList_size] at h2
    unfold MX at h1; omega)
  clear hm h hr ho hw hl ih htx rv ofit ov op wv wp hnm hnl hnl' hk1 hk2
  have HKK := Lib.hid hkk
  clear hkk
  have b0 := below_new w (.cells #[.int .i64 x.t.k, .slice x.A x.t.v.length x.c, .slice x.A' x.t.p.length x.c'] 80)
  have hxb := heap_alloc_new w (.cells #[.int .i64 x.t.k, .slice x.A x.t.v.length x.c, .slice x.A' x.t.p.length x.c'] 80)
  unfold Pt.val
  go_enter Tryz.func57, Tryz.ntmps57
  go_upto_region 1 with fail
  generalize hW : World.alloc w _ = W at b0 hxb ⊢
  clear hW
  have WBW := Lib.hid (H.out.next b0)
  have K0 := Lib.hid (WK.below (b := b) b0 H.out.2)
  have HMW := Lib.hid (HM.out.next b0)
  have hgb := Lib.hid (show w.heap.size ≠ b by have := H.out.lt; omega)
  have HXB := Lib.hid hxb
  have RV1 := Lib.hid (RV.out.keep (Kept.of_below (b0.mono H.out.2) (Nat.le_refl _)))
  have RP1 := Lib.hid (RP.out.keep (Kept.of_below (b0.mono H.out.2) (Nat.le_refl _)))
  have a0 : W.cell? ⟨w.heap.size, 0, none⟩ = some (.int .i64 x.t.k) := by rw [Lib.cell_of_heap HXB.out]; rfl
  have a1 : W.cell? ⟨w.heap.size, 1, none⟩ = some (.slice x.A x.t.v.length x.c) := by rw [Lib.cell_of_heap HXB.out]; rfl
  have a2 : W.cell? ⟨w.heap.size, 2, none⟩ = some (.slice x.A' x.t.p.length x.c') := by rw [Lib.cell_of_heap HXB.out]; rfl
  rw [HKK.out] at a0
  have hn0 := HMW.out kk nm HNM.out
  have S1 := Lib.hid (str_any W.drew B b bs nm WBW.out.drew HLN.out)
  clear b0 hxb
  have hi0 : (0 : Int) ≤ (kk : Int) := by omega
  have hi1 : (kk : Int) < 15 := by omega
  go_still_tail 7, (by kernel_rfl)
  change wpList _ _ _ _ _ W.drew
  go_wp2_with fail
  refine S1.out.mono ?_
  rintro e w2 ⟨rfl, hw⟩
  have HW2 := Lib.hid hw
  have hx2 : w2.heap[w.heap.size]? = some (.cells #[.int .i64 x.t.k, .slice x.A x.t.v.length x.c, .slice x.A' x.t.p.length x.c'] 80 (0, 0)) := (hw.2.stay (w := W.drew) HXB.out (by decide) hgb.out).trans HXB.out
  have B2 := Lib.hid (show Below B W w2 from (Below.drew (Below.refl _ _)).trans hw.2.1)
  clear hw S1 a0 a1 a2 hn0
  have a0 : w2.cell? ⟨w.heap.size, 0, none⟩ = some (.int .i64 x.t.k) := by rw [Lib.cell_of_heap hx2]; rfl
  have a1 : w2.cell? ⟨w.heap.size, 1, none⟩ = some (.slice x.A x.t.v.length x.c) := by rw [Lib.cell_of_heap hx2]; rfl
  have a2 : w2.cell? ⟨w.heap.size, 2, none⟩ = some (.slice x.A' x.t.p.length x.c') := by rw [Lib.cell_of_heap hx2]; rfl
  have HM2 := Lib.hid (HMW.out.kept (B2.out.block 0 hB))
  clear hx2
  by_cases hp : 0 < x.t.p.length
  · have hp' : (0 : Int) < (x.t.p.length : Int) := by omega
    have TX := TXP.out hp
    have WR := writeRowP (txP r) (fun t => okP r t = true ∧ wrP r t = true) B b d' (fun X bs' y hmX hwb hrd hs hlen => IH.out X B b bs' d' y hmX hB hwb hrd hs.1 hs.2 hlen) w2 HM2.out hB (bs ++ nm.toList) [40] [41] ⟨#[40]⟩ ⟨#[41]⟩ (lit_list [40]) (lit_list [41]) x.A' x.c' x.t.p HW2.out.1 (RP1.out.keep (Kept.of_below B2.out (Nat.le_refl _))) SP.out (by
      have := HL.out
      rw [TX, ← HNL.out] at this
      simp only [List.length_append] at this ⊢
      omega)
    rw [List.append_assoc, HNL.out, ← TX] at WR
    replace WR := Lib.hid WR
    clear TX hp
    go_wp2_with fail
    refine WR.out.mono ?_
    rintro e w3 ⟨rfl, hw⟩
    have HW3 := Lib.hid hw
    clear hw WR a0 a1 a2
    go_wp2
    go_end0
    exact ⟨rfl, HW3.out.1, ((K0.out.trans (WK.drew _ _ _)).trans HW2.out.2).trans HW3.out.2⟩
  · have hp' : ¬ (0 : Int) < (x.t.p.length : Int) := by omega
    have TX := TXV.out hp
    have WR := writeRowV (txV 12) (fun t => okV 12 t = true ∧ wrV 12 t = true) B b nv (fun X bs' y hmX hwb hrd hs hlen => vwrite_any 12 X B b bs' nv y hmX hB hwb hrd hs.1 hs.2 hlen) w2 HM2.out hB (bs ++ nm.toList) [40] [41] ⟨#[40]⟩ ⟨#[41]⟩ (lit_list [40]) (lit_list [41]) x.A x.c x.t.v HW2.out.1 (RV1.out.keep (Kept.of_below B2.out (Nat.le_refl _))) SV.out (by
      have := HL.out
      rw [TX, ← HNL.out] at this
      simp only [List.length_append] at this ⊢
      omega)
    rw [List.append_assoc, HNL.out, ← TX] at WR
    replace WR := Lib.hid WR
    clear TX hp
    go_wp2_with fail
    refine WR.out.mono ?_
    rintro e w3 ⟨rfl, hw⟩
    have HW3 := Lib.hid hw
    clear hw WR a0 a1 a2
    go_wp2
    go_end0
    exact ⟨rfl, HW3.out.1, ((K0.out.trans (WK.drew _ _ _)).trans HW2.out.2).trans HW3.out.2⟩
theorem pwrite_any : ∀ r, PWrite r
  | 0 => fun _ _ _ _ _ _ _ _ _ _ h => by cases h
  | r + 1 => pwrite_succ r (pwrite_any r)
end Go.Proofs.YtllkimdlmnjoiaaGreatDoor

namespace Go.Proofs.YtllkimdlmnjoiaaGreatDoor
set_option maxRecDepth 100000
set_option maxRecDepth 100000
set_option maxRecDepth 100000
open Go.RowKit Go.Sort

def CWrite (r : Nat) : Prop := ∀ (w : World) (B b : Nat) (bs first : Bs) (sf : ByteArray) (d : Nat) (A : Option Addr) (c : Nat) (l : List C), NM w → 0 < B → WB w B b bs → Ch w 0 B d A c l → chOk r l = true → sf.toList = first → bs.length + (txC r first l).length ≤ MX →
  Calls Tryz.prog 19 #[.pointer (some ⟨b, 0, none⟩), .string sf, .slice A l.length c] w (WPost B b (bs ++ txC r first l) w)
def GWrite (r : Nat) : Prop := ∀ (w : World) (B b : Nat) (bs : Bs) (d : Nat) (g : Gt), NM w → 0 < B → WB w B b bs → GOk w 0 B (Ch w 0 B d) g → argOk (chOk r) g.t = true → bs.length + (txG (txC r [95, 95]) g.t).length ≤ MX →
  Calls Tryz.prog 36 #[.pointer (some ⟨b, 0, none⟩), g.val] w (WPost B b (bs ++ txG (txC r [95, 95]) g.t) w)
theorem argOk_fit {f : List C → Bool} {g : Ag} (h : argOk f g = true) : fitsA g = true := by
  cases hf : fitsA g
  · rw [argOk_fits f g hf] at h; cases h
  · rfl
theorem txG_1 (f : List C → Bs) (g : Ag) (h : g.k = 1) : txG f g = txV 12 g.v := by unfold txG; rw [if_pos h]
theorem txG_2 (f : List C → Bs) (g : Ag) (h : g.k = 2) : txG f g = txP 12 g.p := by unfold txG; rw [if_neg (by omega), if_pos h]
theorem txG_3 (f : List C → Bs) (g : Ag) (h : g.k = 3) : txG f g = f g.c := by unfold txG; rw [if_neg (by omega), if_neg (by omega), if_pos h]
theorem txG_4 (f : List C → Bs) (g : Ag) (h : g.k = 4) : txG f g = g.s.toList := by unfold txG; rw [if_neg (by omega), if_neg (by omega), if_neg (by omega)]
set_option maxHeartbeats 3200000 in
theorem gwrite_any (r : Nat) (ih : CWrite r) : GWrite r := by
  intro w B b bs d g hm hB0 h hg ho hl
  have hB := hB0
  clear hB0
  have hk := (argOk_parts _ _ ho).1
  have hfit := argOk_fit ho
  have HG := Lib.hid hg
  have HO := Lib.hid ho
  have HF := Lib.hid hfit
  have HL := Lib.hid hl
  have HM := Lib.hid hm
  have H := Lib.hid h
  have IH := Lib.hid ih
  obtain ⟨tx, htx⟩ : ∃ tx : Bs, tx = txG (txC r [95, 95]) g.t := ⟨_, rfl⟩
  have X1 := Lib.hid (fun h : g.t.k = 1 => htx.trans (txG_1 _ _ h))
  have X2 := Lib.hid (fun h : g.t.k = 2 => htx.trans (txG_2 _ _ h))
  have X3 := Lib.hid (fun h : g.t.k = 3 => htx.trans (txG_3 _ _ h))
  have X4 := Lib.hid (fun h : g.t.k = 4 => htx.trans (txG_4 _ _ h))
  rw [← htx] at HL ⊢
  have HK := Lib.hid hk
  clear hm h hg ho hl hfit htx hk ih
  have b0 := below_new w (.cells #[.int .i64 g.k, .int .i64 g.x.t.k, .int .i64 g.x.t.n, .string g.x.t.s, .slice g.x.A g.x.t.l.length g.x.c, .slice g.x.A' g.x.t.m.length g.x.c', .int .i64 g.q.t.k, .slice g.q.A g.q.t.v.length g.q.c, .slice g.q.A' g.q.t.p.length g.q.c', .slice g.A g.l.length g.c, .string g.s] 82)
  have hbx := BG.new w g
  unfold Gt.val
  go_enter Tryz.func36, Tryz.ntmps36
  go_upto_region 1 with fail
  generalize hW : World.alloc w _ = W at b0 hbx ⊢
  clear hW
  have WBW := Lib.hid (H.out.next b0)
  have K0 := Lib.hid (WK.below (b := b) b0 H.out.2)
  have HMW := Lib.hid (HM.out.next b0)
  have G0 := Lib.hid (GOk.imp (Kept.of_below (b0.mono H.out.2) (Nat.le_refl B)) (Nat.le_refl 0) (Nat.le_refl B) (fun _ _ _ h => Ch.keep h (Kept.of_below (b0.mono H.out.2) (Nat.le_refl B))) HG.out)
  obtain ⟨a0, a1, a2, a3, a4, a5, a6, a7, a8, a9, a10, _⟩ := hbx
  clear b0
  obtain hk | hk | hk | hk : g.k = 1 ∨ g.k = 2 ∨ g.k = 3 ∨ g.k = 4 := HK.out
  · have TX := X1.out hk
    have OK := (argOk_1 _ g.t HF.out hk).symm.trans HO.out
    rw [Bool.and_eq_true] at OK
    obtain ⟨nv, hv⟩ := G0.out.v
    have WR := vwrite_any 12 W B b bs nv g.x HMW.out hB WBW.out hv OK.1 OK.2 (by have := HL.out; rwa [TX] at this)
    rw [← show tx = txV 12 g.x.t from TX] at WR
    replace WR := Lib.hid WR
    have n1 : (g.k == 1) = true := by rw [hk]; rfl
    clear TX OK hk hv
    go_wp2_with fail
    refine WR.out.mono ?_
    rintro e w2 ⟨rfl, hw⟩
    have HW2 := Lib.hid hw
    clear hw WR a0 a1 a2 a3 a4 a5 a6 a7 a8 a9 a10
    go_wp2
    go_end0
    exact ⟨rfl, HW2.out.1, K0.out.trans HW2.out.2⟩
  · have TX := X2.out hk
    have OK := (argOk_2 _ g.t HF.out hk).symm.trans HO.out
    rw [Bool.and_eq_true] at OK
    obtain ⟨np, hp⟩ := G0.out.p
    have WR := pwrite_any 12 W B b bs np g.q HMW.out hB WBW.out hp OK.1 OK.2 (by have := HL.out; rwa [TX] at this)
    rw [← show tx = txP 12 g.q.t from TX] at WR
    replace WR := Lib.hid WR
    have n1 : (g.k == 1) = false := by rw [hk]; rfl
    have n2 : (g.k == 2) = true := by rw [hk]; rfl
    clear TX OK hk hp
    go_wp2_with fail
    refine WR.out.mono ?_
    rintro e w2 ⟨rfl, hw⟩
    have HW2 := Lib.hid hw
    clear hw WR a0 a1 a2 a3 a4 a5 a6 a7 a8 a9 a10
    go_wp2
    go_end0
    exact ⟨rfl, HW2.out.1, K0.out.trans HW2.out.2⟩
  · have TX := X3.out hk
    have OK := (argOk_3 _ g.t HF.out hk).symm.trans HO.out
    have WR := IH.out W B b bs [95, 95] ⟨#[95, 95]⟩ d g.A g.c g.l HMW.out hB WBW.out G0.out.c OK (lit_list [95, 95]) (by have := HL.out; rwa [TX] at this)
    rw [← show tx = txC r [95, 95] g.l from TX] at WR
    replace WR := Lib.hid WR
    have n1 : (g.k == 1) = false := by rw [hk]; rfl
    have n2 : (g.k == 2) = false := by rw [hk]; rfl
    have n3 : (g.k == 3) = true := by rw [hk]; rfl
    clear TX OK hk
    go_wp2_with fail
    refine WR.out.mono ?_
    rintro e w2 ⟨rfl, hw⟩
    have HW2 := Lib.hid hw
    clear hw WR a0 a1 a2 a3 a4 a5 a6 a7 a8 a9 a10
    go_wp2
    go_end0
    exact ⟨rfl, HW2.out.1, K0.out.trans HW2.out.2⟩
  · have TX := X4.out hk
    have WR := str_any W.drew B b bs g.s WBW.out.drew (by have := HL.out; rw [TX, show g.t.s = g.s from rfl, toList_size] at this; exact this)
    rw [← show tx = g.s.toList from TX] at WR
    replace WR := Lib.hid WR
    have n1 : (g.k == 1) = false := by rw [hk]; rfl
    have n2 : (g.k == 2) = false := by rw [hk]; rfl
    have n3 : (g.k == 3) = false := by rw [hk]; rfl
    have n4 : (g.k == 4) = true := by rw [hk]; rfl
    clear TX hk
    go_upto_region 9 with fail
    go_still_tail 5, (by kernel_rfl)
    change wpList _ _ _ _ _ W.drew
    go_wp2_with fail
    refine WR.out.mono ?_
    rintro e w2 ⟨rfl, hw⟩
    have HW2 := Lib.hid hw
    clear hw WR a0 a1 a2 a3 a4 a5 a6 a7 a8 a9 a10
    go_wp2
    go_end0
    exact ⟨rfl, HW2.out.1, (K0.out.trans (WK.drew _ _ _)).trans HW2.out.2⟩
theorem Ch.elemB {w : World} {lo B d : Nat} {A : Option Addr} {c : Nat} {l : List C} (h : Ch w lo B d A c l) {k : Nat} (hk : k < l.length) :
    ∃ (b off : Nat) (x : Ct) (e : Nat), d = e + 1 ∧ A = some ⟨b, off, none⟩ ∧ b < B ∧ l[k]? = some x.t ∧ cellsC w b (off + k * 2) x ∧ COk w lo B (Ch w lo B e) x := by
  cases d with
  | zero =>
    obtain ⟨_, _, _, _, _, _, _, _, h⟩ := GRow.elem h hk
    exact h.elim
  | succ e =>
    obtain ⟨b, off, x, e1, _, e2, e3, e4, e5⟩ := GRow.elem h hk
    exact ⟨b, off, x, e, rfl, e1, e2, e3, .of e4, e5⟩
theorem flatC_next (f : C → Bs) (l : List C) (k : Nat) {c : C} (h : l[k]? = some c) : (l.take (k + 1)).flatMap f = (l.take k).flatMap f ++ f c := by
  rw [take_snoc l k h, List.flatMap_append]; simp
theorem flatC_le (f : C → Bs) (l : List C) (k : Nat) : ((l.take k).flatMap f).length ≤ (l.flatMap f).length := by
  have := congrArg (fun m => (List.flatMap f m).length) (List.take_append_drop k l).symm
  simp only [List.flatMap_append, List.length_append] at this
  omega
set_option maxHeartbeats 6400000 in
theorem cwrite_succ (r : Nat) (ih : CWrite r) : CWrite (r + 1) := by
  intro w B b bs first sf d A c l hm hB0 h hc ho hsf hl
  have hB := hB0
  clear hB0
  subst hsf
  have HC := Lib.hid hc
  have GW := Lib.hid (gwrite_any r ih)
  have HM := Lib.hid hm
  have hbig := hc.big
  have ho' : (decide (0 < l.length) && l.all (callOk (chOk r))) = true := ho
  rw [Bool.and_eq_true, List.all_eq_true] at ho'
  have HO := Lib.hid ho'.2
  obtain ⟨f, hf⟩ : ∃ f : C → Bs, f = txCall (txC r [95, 95]) := ⟨_, rfl⟩
  have HF := Lib.hid (fun x : C => congrFun hf x)
  have hl' : bs.length + (sf.toList.length + (l.flatMap f).length) ≤ MX := by
    have : txC (r + 1) sf.toList l = sf.toList ++ l.flatMap (txCall (txC r [95, 95])) := rfl
    rw [this, ← hf, List.length_append] at hl
    exact hl
  show Calls Tryz.prog 19 #[.pointer (some ⟨b, 0, none⟩), .string sf, .slice A l.length c] w (WPost B b (bs ++ (sf.toList ++ l.flatMap (txCall (txC r [95, 95])))) w)
  rw [← hf]
  have S1 := Lib.hid (str_any w B b bs sf h (by rw [← toList_size]; unfold MX at hl'; omega))
  have HL := Lib.hid hl'
  have TK := Lib.hid (fun k => flatC_le f l k)
  have NX0 := Lib.hid (fun (k : Nat) (x : C) (h : l[k]? = some x) => flatC_next f l k h)
  clear hm h hc ho hl hl' ho' hf ih
  go_enter Tryz.func19, Tryz.ntmps19
  go_wp2_with fail
  refine S1.out.mono ?_
  rintro e w0 ⟨rfl, hw⟩
  have HW := Lib.hid hw
  clear hw S1
  go_wp2
  go_loopw [15] (fun i wr => ∃ k : Nat, k ≤ l.length ∧ i = .int .i64 k ∧ Hid (WB wr B b (bs ++ sf.toList ++ (l.take k).flatMap f)) ∧ Hid (WK B b w wr)) (fun i _ => l.length - (intOf i).toNat)
  case atStart => exact ⟨0, by omega, rfl, Lib.hid (by simpa using HW.out.1), Lib.hid HW.out.2⟩
  case round =>
    obtain ⟨k, hk, rfl, hWB, hK⟩ := hrel
    by_cases hlt : k < l.length
    · obtain ⟨b0, off, x, ee, rfl, rfl, hb0, hx, q, hcx⟩ := (HC.out.keep (Kept.of_below hK.out.1 (Nat.le_refl _))).elemB hlt
      obtain ⟨q0, q1⟩ := q
      have HX := Lib.hid hcx
      have NX := Lib.hid (NX0.out k _ hx)
      have OX := HO.out _ (List.mem_of_getElem? hx)
      unfold callOk at OX
      rw [Bool.and_eq_true, List.all_eq_true] at OX
      have OA := Lib.hid OX.2
      have FX := Lib.hid (HF.out x.t)
      have TL := Lib.hid (show bs.length + sf.toList.length + ((l.take k).flatMap f).length + (1 + (x.n.toList.length + (1 + ((itemsT (txG (txC r [95, 95])) 0 x.l).length + 1)))) ≤ MX by
        have h1 := TK.out (k + 1)
        have h2 := HL.out
        rw [NX.out, FX.out, List.length_append] at h1
        have h3 : (txCall (txC r [95, 95]) x.t).length = 1 + (x.n.toList.length + (1 + ((itemsT (txG (txC r [95, 95])) 0 x.l).length + 1))) := by
          show ([46] ++ (x.n.toList ++ ([40] ++ (itemsT (txG (txC r [95, 95])) 0 x.l ++ [41])))).length = _
          simp only [List.length_append, List.length_cons, List.length_nil]
        omega)
      have hbx := hcx.a.big
      clear hcx hx OX
      have hxb := heap_alloc_new wr (.cells #[.string x.n, .slice x.A x.l.length x.c] 74)
      have bb := below_new wr (.cells #[.string x.n, .slice x.A x.l.length x.c] 74)
      go_upto_region 4 with fail
      generalize hW : World.alloc wr _ = W at bb hxb ⊢
      clear hW q0 q1
      have WB0 := Lib.hid (hWB.out.next bb)
      have K0 := Lib.hid (WK.below (b := b) bb hWB.out.2)
      have hgb := Lib.hid (show wr.heap.size ≠ b by have := hWB.out.lt; omega)
      have HXB := Lib.hid hxb
      clear bb hxb
      have a0 : W.cell? ⟨wr.heap.size, 0, none⟩ = some (.string x.n) := by rw [Lib.cell_of_heap HXB.out]; rfl
      have a1 : W.cell? ⟨wr.heap.size, 1, none⟩ = some (.slice x.A x.l.length x.c) := by rw [Lib.cell_of_heap HXB.out]; rfl
      have S2 := Lib.hid (str_lit W B b _ [46] WB0.out (by
        have h1 := TL.out
        simp only [List.length_append, List.length_cons, List.length_nil]
        unfold MX at h1; omega))
      go_wp2_with fail
      refine S2.out.mono ?_
      rintro e w2 ⟨rfl, hw⟩
      have HW2 := Lib.hid hw
      have hx2 : w2.heap[wr.heap.size]? = some (.cells #[.string x.n, .slice x.A x.l.length x.c] 74 (0, 0)) := (hw.2.stay HXB.out (by decide) hgb.out).trans HXB.out
      clear hw S2 a0 a1
      have a0 : w2.cell? ⟨wr.heap.size, 0, none⟩ = some (.string x.n) := by rw [Lib.cell_of_heap hx2]; rfl
      have a1 : w2.cell? ⟨wr.heap.size, 1, none⟩ = some (.slice x.A x.l.length x.c) := by rw [Lib.cell_of_heap hx2]; rfl
      have HX2 := Lib.hid hx2
      clear hx2
      have S3 := Lib.hid (str_any w2.drew B b _ x.n HW2.out.1.drew (by
        have h1 := TL.out
        rw [← toList_size]
        simp only [List.length_append, List.length_cons, List.length_nil]
        unfold MX at h1; omega))
      go_upto_region 5 with fail
      go_still_tail 5, (by kernel_rfl)
      change wpList _ _ _ _ _ w2.drew
      go_wp2_with fail
      refine S3.out.mono ?_
      rintro e w3 ⟨rfl, hw⟩
      have HW3 := Lib.hid hw
      have hx3 : w3.heap[wr.heap.size]? = some (.cells #[.string x.n, .slice x.A x.l.length x.c] 74 (0, 0)) := (hw.2.stay (w := w2.drew) HX2.out (by decide) hgb.out).trans HX2.out
      clear hw S3 a0 a1
      have a0 : w3.cell? ⟨wr.heap.size, 0, none⟩ = some (.string x.n) := by rw [Lib.cell_of_heap hx3]; rfl
      have a1 : w3.cell? ⟨wr.heap.size, 1, none⟩ = some (.slice x.A x.l.length x.c) := by rw [Lib.cell_of_heap hx3]; rfl
      clear hx3
      have KK := Lib.hid (((K0.out.trans HW2.out.2).trans (WK.drew _ _ _)).trans HW3.out.2)
      have WR := Lib.hid (writeRowA (txG (txC r [95, 95])) (fun g => argOk (chOk r) g = true) B b ee (fun X bs' g hmX hwb hrd hs hlen => GW.out X B b bs' ee g hmX hB hwb hrd hs hlen) w3 (HM.out.kept ((hK.out.1.trans KK.out.1).block 0 hB)) hB _ [40] [41] ⟨#[40]⟩ ⟨#[41]⟩ (lit_list [40]) (lit_list [41]) x.A x.c x.l HW3.out.1
        (GRow.imp HX.out.a (Kept.of_below KK.out.1 (Nat.le_refl B)) (Nat.le_refl 0) (Nat.le_refl B) (fun _ => GOk.imp (Kept.of_below KK.out.1 (Nat.le_refl B)) (Nat.le_refl 0) (Nat.le_refl B) (fun _ _ _ h => Ch.keep h (Kept.of_below KK.out.1 (Nat.le_refl B))))) OA.out (by
        have h1 := TL.out
        simp only [List.length_append, List.length_cons, List.length_nil]
        unfold MX at h1 ⊢; omega))
      go_wp2_with fail
      refine WR.out.mono ?_
      rintro e w4 ⟨rfl, hw⟩
      have HW4 := Lib.hid hw
      clear hw WR a0 a1
      go_wp2
      go_roundw
      case rel => exact ⟨k + 1, by omega, by go_num, Lib.hid (by
        rw [NX.out, FX.out]
        have := HW4.out.1
        show WB w4 B b (bs ++ sf.toList ++ ((l.take k).flatMap f ++ ([46] ++ (x.n.toList ++ ([40] ++ (itemsT (txG (txC r [95, 95])) 0 x.l ++ [41]))))))
        simpa using this), Lib.hid ((hK.out.trans KK.out).trans HW4.out.2)⟩
      case measure => simp [intOf]; omega
    · have ALL := Lib.hid (show l.take k = l from List.take_of_length_le (by omega))
      go_wp2
      go_end0
      exact ⟨rfl, by have := hWB.out; rw [ALL.out] at this; simpa using this, hK.out⟩
theorem cwrite_any : ∀ r, CWrite r
  | 0 => fun _ _ _ _ _ _ _ _ _ _ _ _ _ _ h => by cases h
  | r + 1 => cwrite_succ r (cwrite_any r)

/-- What Print answers. -/
def prtS (l : List C) : Bs := if qOk l then txC 10 [103] l else []
theorem qOk_ch {l : List C} (h : qOk l = true) : chOk 10 l = true := by unfold qOk at h; rw [Bool.and_eq_true] at h; exact h.2
theorem txC_ne (r : Nat) (c : UInt8) (l : List C) : txC r [c] l ≠ [] := by cases r <;> simp [txC]
set_option maxHeartbeats 3200000 in
theorem tprint_any (w : World) (hm : NM w) (d : Nat) (A : Option Addr) (c : Nat) (l : List C) (h : Ch w 0 w.heap.size d A c l) (hl : qOk l = true → (txC 10 [103] l).length ≤ MX) :
    Calls Tryz.prog 10 #[.slice A l.length c] w fun e w' => e = .returned (.tuple #[.string ⟨(prtS l).toArray⟩, .int .i64 (errI (qOk l))]) ∧ Below w.heap.size w w' := by
  have H := Lib.hid h
  have HM := Lib.hid hm
  have HL := Lib.hid hl
  have CK := Lib.hid (tcheck_any w hm d A c l h)
  have hbig := h.big
  obtain ⟨PS, hPS⟩ : ∃ s : ByteArray, s = ⟨(prtS l).toArray⟩ := ⟨_, rfl⟩
  rw [← hPS]
  replace hPS := Lib.hid hPS
  clear h hm hl
  cases hq : qOk l with
  | false =>
    have e1 : PS = ⟨#[]⟩ := by rw [hPS.out]; simp [prtS, hq]
    subst e1
    rw [hq, show errI false = 2 from rfl] at CK
    rw [show errI false = 2 from rfl]
    clear hq
    go_enter Tryz.func10, Tryz.ntmps10
    go_wp2_with fail
    refine CK.out.mono ?_
    rintro e w1 ⟨rfl, hb⟩
    have HB := Lib.hid hb
    clear hb
    go_wp2
    go_ret2
    exact ⟨rfl, HB.out⟩
  | true =>
    have HQ := Lib.hid hq
    have e1 : PS = ⟨(txC 10 [103] l).toArray⟩ := by rw [hPS.out]; simp [prtS, hq]
    replace e1 := Lib.hid e1
    rw [hq, show errI true = 0 from rfl] at CK
    rw [show errI true = 0 from rfl]
    clear hq hPS
    go_enter Tryz.func10, Tryz.ntmps10
    go_wp2_with fail
    refine CK.out.mono ?_
    rintro e w1 ⟨rfl, hb⟩
    have HB := Lib.hid hb
    clear hb
    go_upto_region 5 with fail
    have z0 := below_new w1 (.cells #[.pointer none, .slice none 0 0] 54)
    have wb := wb_start w1
    have hpos : 0 < w1.heap.size := Nat.lt_of_lt_of_le HM.out.lt HB.out.size
    generalize hW2 : World.alloc w1 _ = W2 at z0 wb ⊢
    clear hW2
    have WT := Lib.hid (cwrite_any 10 W2 w1.heap.size w1.heap.size [] [103] ⟨#[103]⟩ d A c l ((HM.out.next HB.out).next z0) hpos wb (Ch.keep (H.out.next HB.out) (Kept.of_below z0 (Nat.le_refl _))) (qOk_ch HQ.out) (lit_list [103]) (by simpa using HL.out HQ.out))
    have BB := Lib.hid (bnext HB.out z0)
    have HZ := Lib.hid z0
    have HWB := Lib.hid wb
    clear z0 wb
    obtain ⟨gb, hgb⟩ : ∃ g : Nat, g = w1.heap.size := ⟨_, rfl⟩
    rw [← hgb] at WT HZ HWB ⊢
    replace hgb := Lib.hid hgb
    go_wp2_with fail
    refine WT.out.mono ?_
    rintro e w3 ⟨rfl, hw⟩
    have HW3 := Lib.hid hw
    clear hw WT
    have ST := Lib.hid (string_any w3 gb gb ([] ++ txC 10 [103] l) HW3.out.1 (by rw [List.nil_append]; exact txC_ne _ _ _))
    rw [List.nil_append, ← e1.out] at ST
    go_wp2_with fail
    refine ST.out.mono ?_
    rintro e w4 ⟨rfl, hw⟩
    have HW4 := Lib.hid hw
    clear hw ST
    go_wp2
    go_ret2
    refine ⟨rfl, ?_⟩
    have h1 := HB.out
    have h2 := HZ.out
    have h3 := HW3.out.2.1
    have h4 := HW4.out
    rw [hgb.out] at h2 h3 h4
    exact bnext h1 ((h2.trans h3).trans h4)
end Go.Proofs.YtllkimdlmnjoiaaGreatDoor



