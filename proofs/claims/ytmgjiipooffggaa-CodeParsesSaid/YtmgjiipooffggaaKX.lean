/- The chapter's examples: known answers true. -/
import Derived.Test.YtmgjiipooffggaaKW
import Derived.Test.YtmgjiipooffggaaVPh
namespace Go.Proofs.Ytmgjiipooffggaa
set_option maxRecDepth 100000
open Go.RowKit Go.Sort
attribute [local go_sem ↓] Go.wp_at_zero Go.wp_at_succ

def ke1 : V := .mk 2 1 ⟨#[]⟩ [] []
def ke2 : V := .mk 3 0 ⟨#[97, 39, 98]⟩ [] []
def ke3 : V := .mk 4 3 ⟨#[]⟩ [] []
def ke4 : V := .mk 7 0 ⟨#[]⟩ [.mk 3 0 ⟨#[107]⟩ [] []] [.mk 1 1 ⟨#[]⟩ [] []]
def kn1 : V := .mk 6 0 ⟨#[]⟩ [ke1, ke2, ke3, ke4] []
def kn2 : V := .mk 8 0 ⟨#[]⟩ [.mk 4 0 ⟨#[]⟩ [] [], .mk 5 2 ⟨#[]⟩ [] []] []
abbrev kl1 : Bs := [91, 49, 44, 32, 39, 97, 92, 39, 98, 39, 44, 32, 118, 91, 51, 93, 44, 32, 123, 39, 107, 39, 58, 32, 116, 114, 117, 101, 125, 93]
abbrev kl2 : Bs := [112, 97, 116, 104, 91, 118, 91, 48, 93, 44, 32, 101, 91, 50, 93, 93]
abbrev kl3 : Bs := [91, 49, 44, 50, 93]
theorem rd_kl1 : rd 12 kl1 = some (kn1, []) := by kernel_rfl
theorem rd_kl2 : rd 12 kl2 = some (kn2, []) := by kernel_rfl
theorem rd_kl3 : rd 12 kl3 = none := by kernel_rfl
theorem ok_leaf (r : Nat) (t : V) (hf : fitsV t = true) (hl : t.l = []) (hm : t.m = []) : okV (r + 1) t = true :=
  (ok_parts r t).2 ⟨hf, by simp [hl], by simp [hm], fun _ => by rw [hl]; rfl⟩
theorem e_list : (⟨#[]⟩ : ByteArray).toList = [] := lit_list []
theorem fits_l2 (n : Int) : fitsV (.mk 2 n ⟨#[]⟩ [] []) = true := by simp [fitsV, noItems, V.k, V.s, V.l, V.m]
theorem fits_l1 : fitsV (.mk 1 1 ⟨#[]⟩ [] []) = true := by simp [fitsV, noItems, V.k, V.n, V.s, V.l, V.m]
theorem fits_l4 (n : Int) (h : 0 ≤ n) : fitsV (.mk 4 n ⟨#[]⟩ [] []) = true := by simp [fitsV, noItems, V.k, V.n, V.s, V.l, V.m, h]
theorem fits_l5 (n : Int) (h : 0 ≤ n) : fitsV (.mk 5 n ⟨#[]⟩ [] []) = true := by simp [fitsV, noItems, V.k, V.n, V.s, V.l, V.m, h]
theorem fits_l3 (s : ByteArray) (h : s.size ≤ 1000) : fitsV (.mk 3 0 s [] []) = true := by simp [fitsV, noItems, V.k, V.n, V.s, V.l, V.m, h]
theorem fits_r6 (l : List V) (h : l.length ≤ 1000) : fitsV (.mk 6 0 ⟨#[]⟩ l []) = true := by simp [fitsV, V.k, V.n, V.s, V.l, V.m, h]
theorem fits_r8 (l : List V) (h : l.length ≤ 1000) : fitsV (.mk 8 0 ⟨#[]⟩ l []) = true := by simp [fitsV, V.k, V.n, V.s, V.l, V.m, h]
theorem fits_r7 (l m : List V) (h : l.length ≤ 1000) (hm : m.length = l.length) : fitsV (.mk 7 0 ⟨#[]⟩ l m) = true := by simp [fitsV, V.k, V.n, V.s, V.l, V.m, h, hm]
theorem ok_kn1 : okV 12 kn1 = true := by
  refine (ok_parts 11 kn1).2 ⟨fits_r6 _ (by decide), fun x hx => ?_, (fun x hx => by cases hx), (fun h => by cases h)⟩
  have hx : x = ke1 ∨ x = ke2 ∨ x = ke3 ∨ x = ke4 := by simpa [kn1, V.l] using hx
  rcases hx with rfl | rfl | rfl | rfl
  · exact ok_leaf _ _ (fits_l2 1) rfl rfl
  · exact ok_leaf _ _ (fits_l3 _ (by decide)) rfl rfl
  · exact ok_leaf _ _ (fits_l4 3 (by decide)) rfl rfl
  · refine (ok_parts 10 ke4).2 ⟨fits_r7 _ _ (by decide) rfl, fun x hx => ?_, fun x hx => ?_, fun _ => rfl⟩
    · have hx : x = .mk 3 0 ⟨#[107]⟩ [] [] := by simpa [ke4, V.l] using hx
      subst hx
      exact ok_leaf _ _ (fits_l3 _ (by decide)) rfl rfl
    · have hx : x = .mk 1 1 ⟨#[]⟩ [] [] := by simpa [ke4, V.m] using hx
      subst hx
      exact ok_leaf _ _ fits_l1 rfl rfl
theorem ok_kn2 : okV 12 kn2 = true := by
  refine (ok_parts 11 kn2).2 ⟨fits_r8 _ (by decide), fun x hx => ?_, (fun x hx => by cases hx), (fun h => by cases h)⟩
  have hx : x = .mk 4 0 ⟨#[]⟩ [] [] ∨ x = .mk 5 2 ⟨#[]⟩ [] [] := by simpa [kn2, V.l] using hx
  rcases hx with rfl | rfl
  · exact ok_leaf _ _ (fits_l4 0 (by decide)) rfl rfl
  · exact ok_leaf _ _ (fits_l5 2 (by decide)) rfl rfl
theorem txt_kn1 : txt 12 kn1 = kl1 := by
  have := rd_sound 12 _ _ _ rd_kl1
  rw [List.append_nil] at this
  exact this.symm
theorem prs_kl1 : prs kl1 = some kn1 := by rw [prs_some rd_kl1, ok_kn1]; rfl
theorem prs_kl2 : prs kl2 = some kn2 := by rw [prs_some rd_kl2, ok_kn2]; rfl
theorem prs_kl3 : prs kl3 = none := prs_none rd_kl3
theorem known_q (w : World) : Calls Try.prog 16 #[.string ⟨#[10]⟩] w fun e w' => e = .returned (.string ⟨#[39, 92, 120, 48, 97, 39]⟩) ∧ Below w.heap.size w w' := by
  refine (quote_any ⟨#[10]⟩ w (by decide)).mono ?_
  rintro e w' ⟨he, hb⟩
  refine ⟨?_, hb⟩
  rw [he, show (⟨#[10]⟩ : ByteArray).toList = [10] from lit_list [10], show qL [10] = [39, 92, 120, 48, 97, 39] from by decide]
theorem known_1 (w : World) : Calls Try.prog 18 #[.string ⟨#[91, 49, 44, 32, 39, 97, 92, 39, 98, 39, 44, 32, 118, 91, 51, 93, 44, 32, 123, 39, 107, 39, 58, 32, 116, 114, 117, 101, 125, 93]⟩] w fun e w' => ∃ (A : Option Addr) (c : Nat) (A' : Option Addr) (c' : Nat), e = .returned (.tuple #[.agg #[.int .i64 6, .int .i64 0, .string ⟨#[]⟩, .slice A 4 c, .slice A' 0 c'], .int .i64 0]) ∧ (⟨kn1, A, c, A', c'⟩ : At).In w' 14 ∧ Below w.heap.size w w' := by
  refine (parse_code w ⟨kl1.toArray⟩ (by decide)).mono ?_
  rw [lit_list, prs_kl1]
  rintro e w' ⟨q, he, hr, hb, h1, _⟩
  obtain ⟨t, A, c, A', c'⟩ := q
  have ht : t = kn1 := h1 kn1 rfl
  subst ht
  exact ⟨A, c, A', c', he, Rd.more hr (Nat.zero_le _) (Nat.le_refl _) (Nat.le_refl _), hb⟩
theorem known_2 (w : World) : Calls Try.prog 18 #[.string ⟨#[112, 97, 116, 104, 91, 118, 91, 48, 93, 44, 32, 101, 91, 50, 93, 93]⟩] w fun e w' => ∃ (A : Option Addr) (c : Nat) (A' : Option Addr) (c' : Nat), e = .returned (.tuple #[.agg #[.int .i64 8, .int .i64 0, .string ⟨#[]⟩, .slice A 2 c, .slice A' 0 c'], .int .i64 0]) ∧ Below w.heap.size w w' := by
  refine (parse_code w ⟨kl2.toArray⟩ (by decide)).mono ?_
  rw [lit_list, prs_kl2]
  rintro e w' ⟨q, he, hr, hb, h1, _⟩
  obtain ⟨t, A, c, A', c'⟩ := q
  have ht : t = kn2 := h1 kn2 rfl
  subst ht
  exact ⟨A, c, A', c', he, hb⟩
theorem known_3 (w : World) : Calls Try.prog 18 #[.string ⟨#[91, 49, 44, 50, 93]⟩] w fun e w' => ∃ (x : At), e = .returned (.tuple #[x.v, .int .i64 30]) ∧ Below w.heap.size w w' := by
  refine (parse_code w ⟨kl3.toArray⟩ (by decide)).mono ?_
  rw [lit_list, prs_kl3]
  rintro e w' ⟨q, he, hr, hb, _, _⟩
  exact ⟨q, he, hb⟩
theorem known_p (w : World) (A : Option Addr) (c : Nat) (A' : Option Addr) (c' : Nat) (h : (⟨kn1, A, c, A', c'⟩ : At).In w 14) : Calls Try.prog 12 #[.agg #[.int .i64 6, .int .i64 0, .string ⟨#[]⟩, .slice A 4 c, .slice A' 0 c']] w fun e w' => e = .returned (.tuple #[.string ⟨#[91, 49, 44, 32, 39, 97, 92, 39, 98, 39, 44, 32, 118, 91, 51, 93, 44, 32, 123, 39, 107, 39, 58, 32, 116, 114, 117, 101, 125, 93]⟩, .int .i64 0]) ∧ Below w.heap.size w w' := by
  have := print_any w 14 ⟨kn1, A, c, A', c'⟩ h (fun _ => by rw [txt_kn1]; decide)
  refine Calls.mono this ?_
  rintro e w' ⟨he, hb⟩
  refine ⟨?_, hb⟩
  rw [he]
  show Ending.returned (.tuple #[.string ⟨(prtS kn1).toArray⟩, .int .i64 (prtE kn1)]) = _
  have e1 : prtS kn1 = kl1 := by unfold prtS; rw [ok_kn1]; exact txt_kn1
  have e2 : prtE kn1 = 0 := by unfold prtE; rw [ok_kn1]; rfl
  rw [e1, e2]
set_option maxHeartbeats 8000000 in
theorem known_any (w : World) : Calls Try.prog 11 #[] w fun e w' => e = .returned (.bool true) ∧ Below w.heap.size w w' := by
  go_enter Try.func11, Try.ntmps11
  go_wp2_with fail
  refine (known_1 w).mono ?_
  rintro e w1 ⟨A1, c1, A1', c1', rfl, h1, hb1⟩
  have H1 := Lib.hid h1
  have HB := Lib.hid hb1
  clear h1 hb1
  go_upto_region 3 with fail
  have z1 := below_new w1 (.cells #[.int .i64 6, .int .i64 0, .string ⟨#[]⟩, .slice A1 4 c1, .slice A1' 0 c1'] 24)
  have x1 := Cell.new w1 (.int .i64 6) (.int .i64 0) (.string ⟨#[]⟩) (.slice A1 4 c1) (.slice A1' 0 c1')
  generalize hW2 : World.alloc w1 _ = W2 at z1 x1 ⊢
  have hg1 : w1.heap.size < W2.heap.size := by rw [← hW2]; simp
  clear hW2
  have H2 := Lib.hid (H1.out.next z1)
  have X2 := Lib.hid x1
  have B2 := Lib.hid (bnext HB.out z1)
  clear z1 x1 H1 HB
  generalize w1.heap.size = g1 at *
  obtain ⟨q0, q1, q2, q3, q4, _⟩ := X2.out
  go_wp2_with fail
  refine (known_p W2 A1 c1 A1' c1' H2.out).mono ?_
  rintro e w3 ⟨rfl, hb⟩
  have H3 := Lib.hid (H2.out.next hb)
  have X3 := Lib.hid (X2.out.below hb hg1)
  have B3 := Lib.hid (bnext B2.out hb)
  have hg3 : g1 < w3.heap.size := Nat.lt_of_lt_of_le hg1 hb.size
  clear hb H2 X2 B2 hg1 q0 q1 q2 q3 q4
  go_wp2_with fail
  refine (known_2 w3).mono ?_
  rintro e w4 ⟨A2, c2, A2', c2', rfl, hb⟩
  have H4 := Lib.hid (H3.out.next hb)
  have X4 := Lib.hid (X3.out.below hb hg3)
  have B4 := Lib.hid (bnext B3.out hb)
  have hg4 : g1 < w4.heap.size := Nat.lt_of_lt_of_le hg3 hb.size
  clear hb H3 X3 B3 hg3
  go_upto_region 5 with fail
  have z1 := below_new w4 (.cells #[.int .i64 8, .int .i64 0, .string ⟨#[]⟩, .slice A2 2 c2, .slice A2' 0 c2'] 24)
  have x1 := Cell.new w4 (.int .i64 8) (.int .i64 0) (.string ⟨#[]⟩) (.slice A2 2 c2) (.slice A2' 0 c2')
  generalize hW2 : World.alloc w4 _ = W5 at z1 x1 ⊢
  have hg2 : w4.heap.size < W5.heap.size := by rw [← hW2]; simp
  clear hW2
  have H5 := Lib.hid (H4.out.next z1)
  have X5 := Lib.hid (X4.out.below z1 hg4)
  have Y5 := Lib.hid x1
  have B5 := Lib.hid (bnext B4.out z1)
  have hg5 : g1 < W5.heap.size := by omega
  clear z1 x1 H4 X4 B4 hg4
  generalize w4.heap.size = g2 at *
  go_wp2_with fail
  refine (known_3 W5).mono ?_
  rintro e w6 ⟨z, rfl, hb⟩
  have H6 := Lib.hid (H5.out.next hb)
  have X6 := Lib.hid (X5.out.below hb hg5)
  have Y6 := Lib.hid (Y5.out.below hb hg2)
  have B6 := Lib.hid (bnext B5.out hb)
  have hg6 : g1 < w6.heap.size := Nat.lt_of_lt_of_le hg5 hb.size
  have hg7 : g2 < w6.heap.size := Nat.lt_of_lt_of_le hg2 hb.size
  clear hb H5 X5 Y5 B5 hg5 hg2
  go_upto_region 6 with fail
  have z1 := below_new w6 (.cells #[.int .i64 z.t.k, .int .i64 z.t.n, .string z.t.s, .slice z.A z.t.l.length z.c, .slice z.A' z.t.m.length z.c'] 24)
  generalize hW2 : World.alloc w6 _ = W at z1 ⊢
  clear hW2
  have H7 := Lib.hid (H6.out.next z1)
  have HB1 := Lib.hid (X6.out.below z1 hg6)
  have HB2 := Lib.hid (Y6.out.below z1 hg7)
  have HBW := Lib.hid (bnext B6.out z1)
  have hg1l := Lib.hid (show g1 < W.heap.size by have := z1.size; omega)
  have hg2l := Lib.hid (show g2 < W.heap.size by have := z1.size; omega)
  clear z1 H6 X6 Y6 B6 hg6 hg7
  obtain ⟨b, off, t, a1, b1, a2, b2, hA, _, hb, ht, ce1, _⟩ := H7.out.2.1.elem (k := 1) (by show 1 < 4; decide)
  obtain ⟨b', off', t', a1', b1', a2', b2', hA', _, hb', ht', ce2, _⟩ := H7.out.2.1.elem (k := 2) (by show 2 < 4; decide)
  have hA0 : A1 = some ⟨b, off, none⟩ := hA
  have hA1 : A1 = some ⟨b', off', none⟩ := hA'
  subst hA0
  injection hA1 with hA1
  injection hA1 with e1 e2
  subst e1 e2
  have et : t = ke2 := by have : some ke2 = some t := ht; injection this with this; exact this.symm
  have et' : t' = ke3 := by have : some ke3 = some t' := ht'; injection this with this; exact this.symm
  subst et et'
  have CE1 := Lib.hid ce1
  have CE2 := Lib.hid ce2
  have hbl := Lib.hid hb
  clear ce1 ce2 hb hb' ht ht' hA hA' H7
  obtain ⟨q0, q1, q2, q3, q4, _⟩ := HB1.out
  obtain ⟨p0, p1, p2, p3, p4, _⟩ := HB2.out
  obtain ⟨a0, a1', a2', a3', a4'⟩ := CE1.out
  obtain ⟨d0, d1, d2, d3, d4⟩ := CE2.out
  rw [Nat.one_mul] at a0 a1' a2' a3' a4'
  rw [show 2 * 5 = 10 from rfl] at d0 d1 d2 d3 d4
  replace a2' : W.cell? ⟨b, off + 5 + 2, none⟩ = some (.string ⟨#[97, 39, 98]⟩) := a2'
  replace d0 : W.cell? ⟨b, off + 10, none⟩ = some (.int .i64 4) := d0
  clear a0 a1' a3' a4' d1 d2 d3 d4
  go_wp2_with fail
  refine (known_q W).mono ?_
  rintro e w9 ⟨rfl, hb⟩
  have HB9 := Lib.hid (bnext HBW.out hb)
  clear hb q0 q1 q2 q3 q4 p0 p1 p2 p3 p4 a2' d0
  go_wp2
  go_ret
  exact ⟨rfl, HB9.out⟩
end Go.Proofs.Ytmgjiipooffggaa
