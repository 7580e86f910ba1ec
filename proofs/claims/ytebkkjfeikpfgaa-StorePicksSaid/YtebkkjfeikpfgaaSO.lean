/- The chapter's example: 'known' answers true. -/
import Derived.Test.YtebkkjfeikpfgaaSN
namespace Go.Proofs.Ytebkkjfeikpfgaa
open Go.RowKit Go.Sort
set_option maxRecDepth 100000
attribute [local go_sem ↓] Go.wp_at_zero Go.wp_at_succ

theorem known_made (w X : World) (hX : ((w.alloc (.cells #[.int .i64 0, .string ⟨#[97]⟩, .int .i64 0, .int .i64 0, .slice none 0 0, .int .i64 1, .string ⟨#[97]⟩, .int .i64 0, .int .i64 0, .slice none 0 0] 42)).alloc (.cells #[.int .i64 1, .string ⟨#[120]⟩, .int .i64 0, .int .i64 1, .slice none 0 0, .int .i64 2, .string ⟨#[121]⟩, .int .i64 1, .int .i64 1, .slice none 0 0] 42)).alloc (.cells #[.slice (some ⟨w.heap.size, 0, none⟩) 2 2, .slice (some ⟨w.heap.size + 1, 0, none⟩) 2 2] 24) = X) :
    TRow X 13 (some ⟨w.heap.size, 0, none⟩) 2 [kt 0 ⟨#[97]⟩ 0 0, kt 1 ⟨#[97]⟩ 0 0] ∧ TRow X 13 (some ⟨w.heap.size + 1, 0, none⟩) 2 [kt 1 ⟨#[120]⟩ 0 1, kt 2 ⟨#[121]⟩ 1 1] ∧ K24 X (w.heap.size + 1 + 1) (.slice (some ⟨w.heap.size, 0, none⟩) 2 2) (.slice (some ⟨w.heap.size + 1, 0, none⟩) 2 2) ∧ Below w.heap.size w X := by
  subst hX
  have h1 := trow_two w 0 0 0 1 0 0 ⟨#[97]⟩ ⟨#[97]⟩
  generalize hA : w.alloc (.cells #[.int .i64 0, .string ⟨#[97]⟩, .int .i64 0, .int .i64 0, .slice none 0 0, .int .i64 1, .string ⟨#[97]⟩, .int .i64 0, .int .i64 0, .slice none 0 0] 42) = A at h1 ⊢
  have sA : A.heap.size = w.heap.size + 1 := by rw [← hA]; simp
  have bA : Below w.heap.size w A := by rw [← hA]; exact below_new _ _
  have h2 := trow_two A 1 0 1 2 1 1 ⟨#[120]⟩ ⟨#[121]⟩
  rw [sA] at h2
  generalize hB : A.alloc (.cells #[.int .i64 1, .string ⟨#[120]⟩, .int .i64 0, .int .i64 1, .slice none 0 0, .int .i64 2, .string ⟨#[121]⟩, .int .i64 1, .int .i64 1, .slice none 0 0] 42) = B at h2 ⊢
  have sB : B.heap.size = w.heap.size + 1 + 1 := by rw [← hB, size_alloc, sA]
  have bB : Below A.heap.size A B := by rw [← hB]; exact below_new _ _
  obtain ⟨c0, c1, b3, s3⟩ := box24 B (.slice (some ⟨w.heap.size, 0, none⟩) 2 2) (.slice (some ⟨w.heap.size + 1, 0, none⟩) 2 2) _ rfl
  rw [sB] at c0 c1
  exact ⟨(h1.next bB).next b3, h2.next b3, ⟨c0, c1, by rw [s3, sB]; omega⟩, bnext (bnext bA bB) b3⟩
set_option maxHeartbeats 16000000 in
theorem known_any (w : World) : Calls Try.prog 12 #[] w fun e w' => e = .returned (.bool true) ∧ Below w.heap.size w w' := by
  go_enter Try.func12, Try.ntmps12
  go_upto_region 2 with fail
  generalize hX : World.alloc (World.alloc (World.alloc w _) _) _ = X
  obtain ⟨hv, he, hk, hb⟩ := known_made w X hX
  have HV := Lib.hid hv
  have HE := Lib.hid he
  have K := Lib.hid hk
  have B0 := Lib.hid hb
  clear hX hv he hk hb
  generalize w.heap.size + 1 + 1 = g3 at K ⊢
  generalize w.heap.size + 1 = g2 at HE K ⊢
  generalize w.heap.size = g1 at HV K ⊢
  have G : Hid (GA.In ⟨some ⟨g1, 0, none⟩, 2, [kt 0 ⟨#[97]⟩ 0 0, kt 1 ⟨#[97]⟩ 0 0], some ⟨g2, 0, none⟩, 2, [kt 1 ⟨#[120]⟩ 0 1, kt 2 ⟨#[121]⟩ 1 1]⟩ X 13) := Lib.hid ⟨HV.out, HE.out, (by intro t ht; simp at ht; rcases ht with rfl | rfl <;> exact ⟨by decide, by decide, by decide⟩), by intro t ht; simp at ht; rcases ht with rfl | rfl <;> exact ⟨by decide, by decide, by decide⟩⟩
  obtain ⟨z0, z1, -⟩ := K.out
  go_wp2_with fail
  refine (new_any X 13 _ G.out).mono ?_
  rintro e w1 ⟨hb1, ⟨he, -⟩ | ⟨-, s, vs, es, rfl, hs, ev, ee⟩⟩
  · exfalso
    have h0 := errG_tv (vs := [kt 0 ⟨#[97]⟩ 0 0, kt 1 ⟨#[97]⟩ 0 0]) (es := [kt 1 ⟨#[120]⟩ 0 1, kt 2 ⟨#[121]⟩ 1 1]) k_ok
    rw [if_pos rfl] at h0
    exact absurd (h0.symm.trans he) (by decide)
  have B1 := Lib.hid (bnext B0.out hb1)
  have S1 := Lib.hid hs
  have EE : Hid (es.map TA.tv' = kE) := Lib.hid ee
  have lv : Hid (vs.length = 2) := Lib.hid (by have := congrArg List.length ev; simpa using this)
  have le : Hid (es.length = 2) := Lib.hid (by have := congrArg List.length ee; simpa using this)
  have K1 := Lib.hid (K.out.next hb1)
  have HE1 := Lib.hid (HE.out.next hb1)
  clear hb1 hs ev ee z0 z1 K HV HE G
  go_wp2_with fail
  refine (len_any w1 (some ⟨s, 0, none⟩) vs es (.inr ⟨s, rfl, S1.out⟩)).mono ?_
  rintro e w2 ⟨rfl, hb2⟩
  have S2 := Lib.hid (S1.out.next hb2)
  have B2 := Lib.hid (bnext B1.out hb2)
  have K2 := Lib.hid (K1.out.next hb2)
  have HE2 := Lib.hid (HE1.out.next hb2)
  rw [lv.out, le.out]
  clear hb2 lv le
  obtain ⟨z0, z1, -⟩ := K2.out
  have G2 : Hid (GA.In ⟨none, 0, [], some ⟨g2, 0, none⟩, 2, [kt 1 ⟨#[120]⟩ 0 1, kt 2 ⟨#[121]⟩ 1 1]⟩ w2 13) := Lib.hid ⟨trow_none _, HE2.out, (by intro t ht; cases ht), by intro t ht; simp at ht; rcases ht with rfl | rfl <;> exact ⟨by decide, by decide, by decide⟩⟩
  go_wp2_with fail
  refine (new_any w2 13 _ G2.out).mono ?_
  rintro e w3 ⟨hb3, ⟨-, rfl⟩ | ⟨hok, -⟩⟩
  · have S3 := Lib.hid (S2.out.next hb3)
    have B3 := Lib.hid (bnext B2.out hb3)
    clear hb3 z0 z1
    have CA := Lib.hid (fun (W : World) (hW : Sto W s vs es) => around_any W (some ⟨s, 0, none⟩) vs es (.inr ⟨s, rfl, hW⟩) 1 3 (by decide) (by decide) none 0 [] (lrow_nil _ _ _) (by simp))
    have CN := Lib.hid (fun (W : World) (hW : Sto W s vs es) => next_any W (some ⟨s, 0, none⟩) vs es (.inr ⟨s, rfl, hW⟩) 1 3 (by decide) (by decide) none 0 [] (lrow_nil _ _ _) (by simp))
    rw [EE.out, k_1] at CA
    rw [EE.out, k_2] at CN
    go_wp2_with fail
    refine (CA.out w3 S3.out).mono ?_
    rintro e w4 ⟨A4, c4, rfl, ho, hb4⟩
    have I4 := Lib.hid ((ho.row (by decide)).next (below_new w4 (.cells #[.int .i64 2, .int .i64 1, .int .i64 2] 3)))
    have J4 := Lib.hid (irow_lit w4 [2, 1, 2] (by decide))
    have S4 := Lib.hid ((S3.out.next hb4).next (below_new w4 (.cells #[.int .i64 2, .int .i64 1, .int .i64 2] 3)))
    have B4 := Lib.hid (bnext (bnext B3.out hb4) (below_new w4 (.cells #[.int .i64 2, .int .i64 1, .int .i64 2] 3)))
    clear ho hb4
    go_wp2_with fail
    refine (sameInts_any _ _ _ _ _ _ _ I4.out J4.out).mono ?_
    rintro e w5 ⟨rfl, hb5⟩
    have S5 := Lib.hid (S4.out.next hb5)
    have B5 := Lib.hid (bnext B4.out hb5)
    rw [show (([2, 1, 2] : List Int) == [2, 1, 2]) = true by decide]
    clear hb5 I4 J4 S4 B4
    go_wp2_with fail
    refine (CN.out w5 S5.out).mono ?_
    rintro e w6 ⟨A6, c6, rfl, ho, hb6⟩
    have I6 := Lib.hid ((ho.row (by decide)).next (below_new w6 (.cells #[.int .i64 1, .int .i64 0, .int .i64 1] 3)))
    have J6 := Lib.hid (irow_lit w6 [1, 0, 1] (by decide))
    have S6 := Lib.hid ((S5.out.next hb6).next (below_new w6 (.cells #[.int .i64 1, .int .i64 0, .int .i64 1] 3)))
    have B6 := Lib.hid (bnext (bnext B5.out hb6) (below_new w6 (.cells #[.int .i64 1, .int .i64 0, .int .i64 1] 3)))
    clear ho hb6
    go_wp2_with fail
    refine (sameInts_any _ _ _ _ _ _ _ I6.out J6.out).mono ?_
    rintro e w7 ⟨rfl, hb7⟩
    have S7 := Lib.hid (S6.out.next hb7)
    have B7 := Lib.hid (bnext B6.out hb7)
    rw [show (([1, 0, 1] : List Int) == [1, 0, 1]) = true by decide]
    clear hb7 I6 J6 S6 B6
    have LR := Lib.hid (lrow_one w7 ⟨#[120]⟩ (by decide))
    have S8 := Lib.hid (S7.out.next (below_new w7 (.cells #[.string ⟨#[120]⟩] 9)))
    have B8 := Lib.hid (bnext B7.out (below_new w7 (.cells #[.string ⟨#[120]⟩] 9)))
    have CL := Lib.hid (around_any _ (some ⟨s, 0, none⟩) vs es (.inr ⟨s, rfl, S8.out⟩) 1 3 (by decide) (by decide) _ _ _ LR.out (by simp))
    rw [EE.out, k_3] at CL
    go_wp2_with fail
    refine CL.out.mono ?_
    rintro e w9 ⟨A9, c9, rfl, ho, hb9⟩
    have I9 := Lib.hid ((ho.row (by decide)).next (below_new w9 (.cells #[.int .i64 1] 3)))
    have J9 := Lib.hid (irow_lit w9 [1] (by decide))
    have S9 := Lib.hid ((S8.out.next hb9).next (below_new w9 (.cells #[.int .i64 1] 3)))
    have B9 := Lib.hid (bnext (bnext B8.out hb9) (below_new w9 (.cells #[.int .i64 1] 3)))
    clear ho hb9
    go_wp2_with fail
    refine (sameInts_any _ _ _ _ _ _ _ I9.out J9.out).mono ?_
    rintro e w10 ⟨rfl, hb10⟩
    have S10 := Lib.hid (S9.out.next hb10)
    have B10 := Lib.hid (bnext B9.out hb10)
    rw [show (([1] : List Int) == [1]) = true by decide]
    clear hb10 I9 J9 S9 B9
    go_wp2
    go_ret
    exact ⟨rfl, B10.out⟩
  · exfalso
    rw [okG_tv] at hok
    exact absurd (hok.symm.trans k_no) (by decide)
end Go.Proofs.Ytebkkjfeikpfgaa
