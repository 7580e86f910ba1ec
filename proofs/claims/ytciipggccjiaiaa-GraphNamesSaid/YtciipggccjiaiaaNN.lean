/- The law on names and on what may be a property's value. -/
import Derived.Test.YtciipggccjiaiaaNM
import Derived.Test.YtciipggccjiaiaaVCa
namespace Go.Proofs.Ytciipggccjiaiaa
open Go.RowKit Go.Sort
set_option maxRecDepth 100000
attribute [local go_sem ↓] Go.wp_at_zero Go.wp_at_succ

def n3rD : Nat → Tmp := fun j => [14, 15, 16, 17, 18, 19, 20, 21, 22, 23, 24, 25, 26, 27, 28, 4].getD j 0
def n3rE : Nat → List Nat := fun j => [[], [0], [], [2], [1, 3], [4], [5], [5, 6], [5], [5, 8], [5, 7, 9], [5, 10], [11], [12], [12, 13], [14]].getD j []

set_option maxHeartbeats 8000000 in
theorem names_law (w : World) (d : Nat) (s : ByteArray) (x : At) (_hs : s.size ≤ maxLen) (hx : x.In w d) : Calls Try.prog 4 #[.string s, x.v] w fun e w' => e = .returned (.bool true) ∧ Below w.heap.size w w' := by
  have HX := Lib.hid hx
  clear hx _hs
  go_enter Try.func4, Try.ntmps4
  go_upto_region 1 with fail
  have bx := Bx.new w x
  generalize hW : World.alloc w _ = W at bx
  have HB := Lib.hid (show Below w.heap.size w W by rw [← hW]; exact below_new _ _)
  clear hW
  have BXa := Lib.hid bx
  obtain ⟨a0, a1, a2, a3, a4, _⟩ := bx
  by_cases h3 : 300 < s.size
  · have g3 : (300 : Int) < (s.size : Int) := by omega
    go_wp2_with fail
    refine (known_any W).mono ?_
    rintro e w1 ⟨rfl, hb1⟩
    have B1 := Lib.hid (bnext HB.out hb1)
    clear hb1 a0 a1 a2 a3 a4
    go_wp2
    go_ret
    exact ⟨rfl, B1.out⟩
  · have g3 : ¬ (300 : Int) < (s.size : Int) := by omega
    go_wp2_with fail
    refine (count_any d W x.t x.A x.c x.A' x.c' 500 (by decide) (by decide) (HX.out.next HB.out)).mono ?_
    rintro e W1 ⟨c, rfl, c0, c1, hb1⟩
    have B1 := Lib.hid (bnext HB.out hb1)
    have BXb := Lib.hid (BXa.out.next hb1)
    clear hb1 a0 a1 a2 a3 a4 BXa HB
    by_cases h5 : 500 ≤ c
    · go_wp2_with fail
      refine (known_any W1).mono ?_
      rintro e w2 ⟨rfl, hb2⟩
      have B2 := Lib.hid (bnext B1.out hb2)
      clear hb2
      go_wp2
      go_ret
      exact ⟨rfl, B2.out⟩
    · go_upto_region 3 with fail
      have hs3 : s.size ≤ 1000 := by omega
      obtain ⟨W, hW⟩ : ∃ W : World, W = W1 := ⟨_, rfl⟩
      subst hW
      have HB := B1
      have BX := BXb
      have XI := Lib.hid (HX.out.next B1.out)
      have HNM := Lib.hid (fun wk => name_any s wk)
      have HRN := Lib.hid (fun wk => refName_any s wk hs3)
      have HPL := Lib.hid (fun (wk : World) (h : x.In wk d) => plain_any wk d x h)
      have HRP := Lib.hid (fun (wk : World) (h : x.In wk d) => refPlain_any wk d x h)
      generalize nameB s = nb at HNM HRN
      generalize plainB x.t = pb at HPL HRP
      refine region_phase_all [0, 1, 2, 3, 4, 5, 6, 7, 8, 9, 10, 11, 12, 13, 14, 15] n3rD n3rE (fun w' => Below W.heap.size W w') (saidOf [Is (.string s), Is (.bool nb), Is (.string s), Is (.bool nb), Is (.bool true), Is (.bool true), Is x.v, Is (.bool pb), Is x.v, Is (.bool pb), Is (.bool true), Is (.bool true), Is (.bool true), Is (.bool true), Is (.bool true), Is (.bool true)]) 29 rfl (by kernel_rfl) (by kernel_rfl) (by kernel_rfl) (fun _ _ h hb => bnext h hb) (stays_said _ (stays_cons (Is.stays _) (stays_cons (Is.stays _) (stays_cons (Is.stays _) (stays_cons (Is.stays _) (stays_cons (Is.stays _) (stays_cons (Is.stays _) (stays_cons (Is.stays _) (stays_cons (Is.stays _) (stays_cons (Is.stays _) (stays_cons (Is.stays _) (stays_cons (Is.stays _) (stays_cons (Is.stays _) (stays_cons (Is.stays _) (stays_cons (Is.stays _) (stays_cons (Is.stays _) (stays_cons (Is.stays _) stays_nil))))))))))))))))) (below_drewN _ _ 1) (by kernel_rfl) ?_ ?_
      · skip
        refine owes_cons (Owes.mk (o := ({ dst := some 14, op := .move (.tmp 0), type := 9, pos := "law.go:52", after := #[], guard := none } : Oper)) rfl (fun v wk hj hD K hK => ?_)) ?_
        · simp only [n3rD, n3rE, putAll, Act.put, List.getD_cons_succ, List.getD_cons_zero, List.setIfInBounds_toArray, List.set_cons_zero, List.set_cons_succ] at hK ⊢
          go_simp
          exact hK.out _ _ (Below.refl _ _) rfl
        refine owes_cons (Owes.mk (o := ({ dst := some 15, op := .call { callee := .value (.func 16), args := #[.tmp 14], argTypes := #[9] }, type := 4, pos := "law.go:52", after := #[{ on := 0, ground := .data }], guard := none } : Oper)) rfl (fun v wk hj hD K hK => ?_)) ?_
        · have h0 : v 0 = (.string s) := hD 0 (by decide)
          simp only [n3rD, n3rE, putAll, Act.put, List.getD_cons_succ, List.getD_cons_zero, List.setIfInBounds_toArray, List.set_cons_zero, List.set_cons_succ, h0] at hK ⊢
          go_simp
          refine (HNM.out wk).mono ?_
          rintro e w2 ⟨rfl, rfl⟩
          exact hK.out _ _ (Below.refl _ _) rfl
        refine owes_cons (Owes.mk (o := ({ dst := some 16, op := .move (.tmp 0), type := 9, pos := "law.go:52", after := #[], guard := none } : Oper)) rfl (fun v wk hj hD K hK => ?_)) ?_
        · simp only [n3rD, n3rE, putAll, Act.put, List.getD_cons_succ, List.getD_cons_zero, List.setIfInBounds_toArray, List.set_cons_zero, List.set_cons_succ] at hK ⊢
          go_simp
          exact hK.out _ _ (Below.refl _ _) rfl
        refine owes_cons (Owes.mk (o := ({ dst := some 17, op := .call { callee := .value (.func 17), args := #[.tmp 16], argTypes := #[9] }, type := 4, pos := "law.go:52", after := #[{ on := 2, ground := .data }, { on := 1, ground := .chain }], guard := none } : Oper)) rfl (fun v wk hj hD K hK => ?_)) ?_
        · have h2 : v 2 = (.string s) := hD 2 (by decide)
          simp only [n3rD, n3rE, putAll, Act.put, List.getD_cons_succ, List.getD_cons_zero, List.setIfInBounds_toArray, List.set_cons_zero, List.set_cons_succ, h2] at hK ⊢
          go_simp
          refine (HRN.out wk).mono ?_
          rintro e w2 ⟨rfl, rfl⟩
          exact hK.out _ _ (Below.refl _ _) rfl
        refine owes_cons (Owes.mk (o := ({ dst := some 18, op := .binOp .eql 4 (.tmp 15) (.tmp 17) 4, type := 4, pos := "law.go:52", after := #[{ on := 1, ground := .data }, { on := 3, ground := .data }], guard := none } : Oper)) rfl (fun v wk hj hD K hK => ?_)) ?_
        · have h1 : v 1 = (.bool nb) := hD 1 (by decide)
          have h3 : v 3 = (.bool nb) := hD 3 (by decide)
          simp only [n3rD, n3rE, putAll, Act.put, List.getD_cons_succ, List.getD_cons_zero, List.setIfInBounds_toArray, List.set_cons_zero, List.set_cons_succ, h1, h3] at hK ⊢
          go_simp
          exact hK.out _ _ (Below.refl _ _) rfl
        refine owes_cons (Owes.mk (o := ({ dst := some 19, op := .move (.tmp 18), type := 4, pos := "law.go:52", after := #[{ on := 4, ground := .data }, { on := 3, ground := .chain }], guard := none } : Oper)) rfl (fun v wk hj hD K hK => ?_)) ?_
        · have h4 : v 4 = (.bool true) := hD 4 (by decide)
          simp only [n3rD, n3rE, putAll, Act.put, List.getD_cons_succ, List.getD_cons_zero, List.setIfInBounds_toArray, List.set_cons_zero, List.set_cons_succ, h4] at hK ⊢
          go_simp
          exact hK.out _ _ (Below.refl _ _) rfl
        refine owes_cons (Owes.mk (o := ({ dst := some 20, op := .load 37 (.tmp 3), type := 37, pos := "law.go:52", after := #[{ on := 5, ground := .guard }], guard := some (5, true) } : Oper)) rfl (fun v wk hj hD K hK => ?_)) ?_
        · have h5 : v 5 = (.bool true) := hD 5 (by decide)
          simp only [n3rD, n3rE, putAll, Act.put, List.getD_cons_succ, List.getD_cons_zero, List.setIfInBounds_toArray, List.set_cons_zero, List.set_cons_succ, h5] at hK ⊢
          obtain ⟨q0, q1, q2, q3, q4, _⟩ := (BX.out.next hj)
          go_simp
          exact hK.out _ _ (Below.refl _ _) rfl
        refine owes_cons (Owes.mk (o := ({ dst := some 21, op := .call { callee := .value (.func 18), args := #[.tmp 20], argTypes := #[37] }, type := 4, pos := "law.go:52", after := #[{ on := 6, ground := .data }, { on := 5, ground := .chain }, { on := 5, ground := .guard }], guard := some (5, true) } : Oper)) rfl (fun v wk hj hD K hK => ?_)) ?_
        · have h5 : v 5 = (.bool true) := hD 5 (by decide)
          have h6 : v 6 = x.v := hD 6 (by decide)
          simp only [n3rD, n3rE, putAll, Act.put, List.getD_cons_succ, List.getD_cons_zero, List.setIfInBounds_toArray, List.set_cons_zero, List.set_cons_succ, h5, h6] at hK ⊢
          go_simp
          refine (HPL.out wk (XI.out.next hj)).mono ?_
          rintro e w2 ⟨rfl, hb⟩
          exact hK.out _ _ hb rfl
        refine owes_cons (Owes.mk (o := ({ dst := some 22, op := .load 37 (.tmp 3), type := 37, pos := "law.go:52", after := #[{ on := 5, ground := .guard }], guard := some (5, true) } : Oper)) rfl (fun v wk hj hD K hK => ?_)) ?_
        · have h5 : v 5 = (.bool true) := hD 5 (by decide)
          simp only [n3rD, n3rE, putAll, Act.put, List.getD_cons_succ, List.getD_cons_zero, List.setIfInBounds_toArray, List.set_cons_zero, List.set_cons_succ, h5] at hK ⊢
          obtain ⟨q0, q1, q2, q3, q4, _⟩ := (BX.out.next hj)
          go_simp
          exact hK.out _ _ (Below.refl _ _) rfl
        refine owes_cons (Owes.mk (o := ({ dst := some 23, op := .call { callee := .value (.func 19), args := #[.tmp 22], argTypes := #[37] }, type := 4, pos := "law.go:52", after := #[{ on := 8, ground := .data }, { on := 7, ground := .chain }, { on := 5, ground := .guard }], guard := some (5, true) } : Oper)) rfl (fun v wk hj hD K hK => ?_)) ?_
        · have h5 : v 5 = (.bool true) := hD 5 (by decide)
          have h8 : v 8 = x.v := hD 8 (by decide)
          simp only [n3rD, n3rE, putAll, Act.put, List.getD_cons_succ, List.getD_cons_zero, List.setIfInBounds_toArray, List.set_cons_zero, List.set_cons_succ, h5, h8] at hK ⊢
          go_simp
          refine (HRP.out wk (XI.out.next hj)).mono ?_
          rintro e w2 ⟨rfl, hb⟩
          exact hK.out _ _ hb rfl
        refine owes_cons (Owes.mk (o := ({ dst := some 24, op := .binOp .eql 4 (.tmp 21) (.tmp 23) 4, type := 4, pos := "law.go:52", after := #[{ on := 7, ground := .data }, { on := 9, ground := .data }, { on := 5, ground := .guard }], guard := some (5, true) } : Oper)) rfl (fun v wk hj hD K hK => ?_)) ?_
        · have h5 : v 5 = (.bool true) := hD 5 (by decide)
          have h7 : v 7 = (.bool pb) := hD 7 (by decide)
          have h9 : v 9 = (.bool pb) := hD 9 (by decide)
          simp only [n3rD, n3rE, putAll, Act.put, List.getD_cons_succ, List.getD_cons_zero, List.setIfInBounds_toArray, List.set_cons_zero, List.set_cons_succ, h5, h7, h9] at hK ⊢
          go_simp
          exact hK.out _ _ (Below.refl _ _) rfl
        refine owes_cons (Owes.mk (o := ({ dst := some 25, op := .pick (.tmp 19) (.tmp 24) (.const (.bool false)), type := 4, pos := "law.go:52", after := #[{ on := 5, ground := .data }, { on := 10, ground := .data }], guard := none } : Oper)) rfl (fun v wk hj hD K hK => ?_)) ?_
        · have h5 : v 5 = (.bool true) := hD 5 (by decide)
          have h10 : v 10 = (.bool true) := hD 10 (by decide)
          simp only [n3rD, n3rE, putAll, Act.put, List.getD_cons_succ, List.getD_cons_zero, List.setIfInBounds_toArray, List.set_cons_zero, List.set_cons_succ, h5, h10] at hK ⊢
          go_simp
          exact hK.out _ _ (Below.refl _ _) rfl
        refine owes_cons (Owes.mk (o := ({ dst := some 26, op := .move (.tmp 25), type := 4, pos := "law.go:52", after := #[{ on := 11, ground := .data }, { on := 9, ground := .chain }], guard := none } : Oper)) rfl (fun v wk hj hD K hK => ?_)) ?_
        · have h11 : v 11 = (.bool true) := hD 11 (by decide)
          simp only [n3rD, n3rE, putAll, Act.put, List.getD_cons_succ, List.getD_cons_zero, List.setIfInBounds_toArray, List.set_cons_zero, List.set_cons_succ, h11] at hK ⊢
          go_simp
          exact hK.out _ _ (Below.refl _ _) rfl
        refine owes_cons (Owes.mk (o := ({ dst := some 27, op := .call { callee := .value (.func 10), args := #[], argTypes := #[] }, type := 4, pos := "law.go:52", after := #[{ on := 12, ground := .chain }, { on := 12, ground := .guard }], guard := some (12, true) } : Oper)) rfl (fun v wk hj hD K hK => ?_)) ?_
        · have h12 : v 12 = (.bool true) := hD 12 (by decide)
          simp only [n3rD, n3rE, putAll, Act.put, List.getD_cons_succ, List.getD_cons_zero, List.setIfInBounds_toArray, List.set_cons_zero, List.set_cons_succ, h12] at hK ⊢
          go_simp
          refine (known_any wk).mono ?_
          rintro e w2 ⟨rfl, hb⟩
          exact hK.out _ _ hb rfl
        refine owes_cons (Owes.mk (o := ({ dst := some 28, op := .pick (.tmp 26) (.tmp 27) (.const (.bool false)), type := 4, pos := "law.go:52", after := #[{ on := 12, ground := .data }, { on := 13, ground := .data }], guard := none } : Oper)) rfl (fun v wk hj hD K hK => ?_)) ?_
        · have h12 : v 12 = (.bool true) := hD 12 (by decide)
          have h13 : v 13 = (.bool true) := hD 13 (by decide)
          simp only [n3rD, n3rE, putAll, Act.put, List.getD_cons_succ, List.getD_cons_zero, List.setIfInBounds_toArray, List.set_cons_zero, List.set_cons_succ, h12, h13] at hK ⊢
          go_simp
          exact hK.out _ _ (Below.refl _ _) rfl
        refine owes_cons (Owes.mk (o := ({ dst := some 4, op := .assign (.tmp 28), type := 4, pos := "law.go:52", after := #[{ on := 14, ground := .data }, { on := 13, ground := .chain }, { on := 0, ground := .phase }, { on := 1, ground := .phase }, { on := 2, ground := .phase }, { on := 3, ground := .phase }, { on := 4, ground := .phase }, { on := 5, ground := .phase }, { on := 6, ground := .phase }, { on := 7, ground := .phase }, { on := 8, ground := .phase }, { on := 9, ground := .phase }, { on := 10, ground := .phase }, { on := 11, ground := .phase }, { on := 12, ground := .phase }, { on := 13, ground := .phase }, { on := 14, ground := .phase }], guard := none } : Oper)) rfl (fun v wk hj hD K hK => ?_)) ?_
        · have h14 : v 14 = (.bool true) := hD 14 (by decide)
          simp only [n3rD, n3rE, putAll, Act.put, List.getD_cons_succ, List.getD_cons_zero, List.setIfInBounds_toArray, List.set_cons_zero, List.set_cons_succ, h14] at hK ⊢
          go_simp
          exact hK.out _ _ (Below.refl _ _) rfl
        exact owes_nil
      · intro v wf hj hr
        have h15 : v 15 = .bool true := hr 15 (by decide)
        simp only [n3rD, putAll, Act.put, List.getD_cons_succ, List.getD_cons_zero, List.setIfInBounds_toArray, List.set_cons_zero, List.set_cons_succ, h15]
        clear h15 hr
        have HJ := Lib.hid (bnext HB.out hj)
        clear hj
        go_wp2_with fail
        go_ret
        exact ⟨rfl, HJ.out⟩
end Go.Proofs.Ytciipggccjiaiaa
