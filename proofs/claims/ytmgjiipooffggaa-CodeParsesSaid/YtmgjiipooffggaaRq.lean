/- The document's quote. -/
import Derived.Test.YtmgjiipooffggaaLc
namespace Go.Proofs.Ytmgjiipooffggaa
set_option maxRecDepth 100000
open Go.RowKit Go.Sort

theorem hex_cut (n : Nat) (h : n < 16) : ((⟨#[48, 49, 50, 51, 52, 53, 54, 55, 56, 57, 97, 98, 99, 100, 101, 102]⟩ : ByteArray).extract n (n + 1)).toList = [hexD n] := by
  rw [toList_cut, lit_list]
  have : ∀ m : Fin 16, (([48, 49, 50, 51, 52, 53, 54, 55, 56, 57, 97, 98, 99, 100, 101, 102] : Bs).take (m.val + 1)).drop m.val = [hexD m.val] := by decide
  exact this ⟨n, h⟩
theorem nibs (n : Nat) (h : n < 16) : (0 : Int) ≤ (n : Int) ∧ (n : Int) ≤ (n : Int) + 1 ∧ wrap64 ((n : Int) + 1) = (n : Int) + 1 ∧ wrap64 (n : Int) = (n : Int) ∧ (n : Int) + 1 ≤ 16 := by
  refine ⟨by omega, by omega, ?_, ?_, by omega⟩ <;> unfold wrap64 <;> omega
theorem nib_i64 (n : Nat) (h : n < 16) : IntKind.i64.wrap ((n : Int) + 1) = (n : Int) + 1 := IntWalk.i64_in _ (by omega)
theorem one_cut (s : ByteArray) (k : Nat) (h : k < s.size) : (s.extract k (k + 1)).toList = [s[k]'h] := by
  rw [toList_cut]
  have h1 := toList_at s k h
  rw [take_next s.toList k h1, List.drop_append_of_le_length (by rw [List.length_take, toList_size]; omega), List.drop_eq_nil_of_le (by rw [List.length_take]; omega)]
  rfl

def qf8D : Nat → Tmp := fun j => [23, 24, 25, 26, 27, 28, 29, 30, 31, 32, 33, 34, 35, 36, 37, 38, 39, 40, 4].getD j 0
def qf8E : Nat → List Nat := fun j => [[], [0], [], [], [3], [], [5], [6], [2, 4, 7], [1, 8], [], [], [11], [], [13], [14], [10, 12, 15], [9, 16], [17]].getD j []
set_option maxHeartbeats 3200000 in
theorem refQuote_any (s : ByteArray) (w : World) (hs : s.size ≤ 1000000000000) : Calls Try.prog 17 #[.string s] w fun e w' => e = .returned (.string ⟨(qL s.toList).toArray⟩) ∧ Below w.heap.size w w' := by
  go_enter Try.func17, Try.ntmps17
  go_wp2_with fail
  obtain ⟨X, hX⟩ : ∃ X : ByteArray, X = (⟨#[48, 49, 50, 51, 52, 53, 54, 55, 56, 57, 97, 98, 99, 100, 101, 102]⟩ : ByteArray) := ⟨_, rfl⟩
  rw [← hX]
  have XS : X.size = 16 := by rw [hX]; rfl
  replace hX := Lib.hid hX
  go_loopw [4, 5] (fun o i wr => ∃ (k : Nat) (O : ByteArray), o = .string O ∧ i = .int .i64 k ∧ k ≤ s.size ∧ Hid (Below w.heap.size w wr) ∧ Hid (O.toList = 39 :: qM (s.toList.take k))) (fun _ i _ => s.size - (RowKit.intOf i).toNat)
  case atStart => exact ⟨0, _, rfl, rfl, by omega, Lib.hid (Below.refl _ _), Lib.hid (by rw [show (⟨#[39]⟩ : ByteArray).toList = [39] from lit_list [39]]; simp [qM])⟩
  case round =>
    obtain ⟨k, O, rfl, rfl, hk, hbel, hO⟩ := hrel
    have hOs : O.size ≤ 4 * s.size + 1 := by
      rw [← toList_size, hO.out, List.length_cons]
      have := qM_len (s.toList.take k)
      rw [List.length_take, toList_size] at this
      omega
    by_cases hlt : k < s.size
    · have NX := Lib.hid (qM_next s.toList k (toList_at s k hlt))
      have OC := Lib.hid (one_cut s k hlt)
      have k0 : (0 : Int) ≤ (k : Int) := by omega
      have k1 : (k : Int) < (s.size : Int) := by omega
      have k2 : (k : Int) + 1 ≤ (s.size : Int) := by omega
      go_upto_region 7 with fail
      generalize s[k]'hlt = c at NX OC ⊢
      have hcl := c.toNat_lt
      have kk : (k : Int) ≤ (k : Int) + 1 := by omega
      have wk : wrap64 ((k : Int) + 1) = (k : Int) + 1 := by unfold wrap64; omega
      rw [show wrap64 (c.toNat : Int) = (c.toNat : Int) from wrap64_in (by omega)]
      by_cases hsn : (c.toNat : Int) < 32 ∨ (126 : Int) < (c.toNat : Int)
      · have h12 : ¬ (c = 39 ∨ c = 92) := by
          rintro (h | h) <;> subst h <;> revert hsn <;> decide
        have QB : Hid (qB c = [92, 120, hexD (c.toNat / 16), hexD (c.toNat % 16)]) := Lib.hid (by unfold qB; rw [if_neg h12, if_neg (by simp [seenB]; omega)])
        have HA : Hid ((X.extract (c.toNat / 16) (c.toNat / 16 + 1)).toList = [hexD (c.toNat / 16)]) := Lib.hid (by rw [hX.out]; exact hex_cut (c.toNat / 16) (by omega))
        have HB2 : Hid ((X.extract (c.toNat % 16) (c.toNat % 16 + 1)).toList = [hexD (c.toNat % 16)]) := Lib.hid (by rw [hX.out]; exact hex_cut (c.toNat % 16) (by omega))
        have t1 : IntKind.i64.wrap ((c.toNat : Int) / 16) = ((c.toNat / 16 : Nat) : Int) := by rw [IntWalk.i64_in _ (by omega)]; omega
        have t2 : (c.toNat : Int).tmod 16 = ((c.toNat % 16 : Nat) : Int) := by rw [Int.tmod_eq_emod_of_nonneg (by omega)]; omega
        have t3 : (c.toNat : Int).tdiv 16 = ((c.toNat / 16 : Nat) : Int) := by rw [Int.tdiv_eq_ediv_of_nonneg (by omega)]; omega
        obtain ⟨hh, hhe⟩ : ∃ n : Nat, n = c.toNat / 16 := ⟨_, rfl⟩
        obtain ⟨ll, lle⟩ : ∃ n : Nat, n = c.toNat % 16 := ⟨_, rfl⟩
        have hh0 : hh < 16 := by omega
        have ll0 : ll < 16 := by omega
        rw [← hhe] at QB HA t1 t3
        rw [← lle] at QB HB2 t2
        clear h12 hhe lle
        obtain ⟨g1, g2, w1, w3, g3⟩ := nibs hh hh0
        obtain ⟨g4, g5, w2, w4, g6⟩ := nibs ll ll0
        rw [show (16 : Int) = (X.size : Int) by rw [XS]; rfl] at g3 g6
        have E2 : Hid (IntKind.i64.wrap ((c.toNat : Int) / 16) = (hh : Int)) := Lib.hid t1
        have E5 : Hid ((c.toNat : Int).tmod 16 = (ll : Int)) := Lib.hid t2
        have WH : Hid (IntKind.i64.wrap ((hh : Int) + 1) = (hh : Int) + 1) := Lib.hid (nib_i64 hh hh0)
        have WL : Hid (IntKind.i64.wrap ((ll : Int) + 1) = (ll : Int) + 1) := Lib.hid (nib_i64 ll ll0)
        obtain ⟨HS, eHS⟩ : ∃ y : ByteArray, y = X.extract hh (hh + 1) := ⟨_, rfl⟩
        obtain ⟨LS, eLS⟩ : ∃ y : ByteArray, y = X.extract ll (ll + 1) := ⟨_, rfl⟩
        have sHS : HS.size = 1 := by rw [← toList_size, eHS, HA.out]; rfl
        have sLS : LS.size = 1 := by rw [← toList_size, eLS, HB2.out]; rfl
        have EHS : Hid (∀ wx, (Instr.slice 9 (.string X) (some (.int .i64 (hh : Int))) (some (.int .i64 ((hh : Int) + 1))) none).run Try.prog wx = .ok (.string HS) wx) := Lib.hid (fun wx => by
          rw [run_slice_string (P := Try.prog) wx 9 X .i64 .i64 (hh : Int) ((hh : Int) + 1) Try.underlying9 g1 g2 g3, eHS]; rfl)
        have ELS : Hid (∀ wx, (Instr.slice 9 (.string X) (some (.int .i64 (ll : Int))) (some (.int .i64 ((ll : Int) + 1))) none).run Try.prog wx = .ok (.string LS) wx) := Lib.hid (fun wx => by
          rw [run_slice_string (P := Try.prog) wx 9 X .i64 .i64 (ll : Int) ((ll : Int) + 1) Try.underlying9 g4 g5 g6, eLS]; rfl)
        obtain ⟨O1, eO1⟩ : ∃ y : ByteArray, y = O ++ (⟨#[92, 120]⟩ : ByteArray) := ⟨_, rfl⟩
        have sO1 : O1.size = O.size + 2 := by rw [eO1, ByteArray.size_append]; rfl
        obtain ⟨O2, eO2⟩ : ∃ y : ByteArray, y = O1 ++ HS := ⟨_, rfl⟩
        have sO2 : O2.size = O1.size + 1 := by rw [eO2, ByteArray.size_append, sHS]
        obtain ⟨O3, eO3⟩ : ∃ y : ByteArray, y = O2 ++ LS := ⟨_, rfl⟩
        have EO1 : Hid (¬ 9223372036854775807 < O.size + 2) := Lib.hid (by omega)
        have EO2 : Hid (¬ 9223372036854775807 < O.size + 2 + 1) := Lib.hid (by omega)
        have EO3 : Hid (¬ 9223372036854775807 < O.size + 2 + 1 + 1) := Lib.hid (by omega)
        have QHS := Lib.hid eHS
        have QLS := Lib.hid eLS
        have O1E := Lib.hid eO1.symm
        have O2E := Lib.hid eO2.symm
        have O3E := Lib.hid eO3.symm
        clear eHS eLS eO1 eO2 eO3 t1 t2 t3 g1 g2 g3 g4 g5 g6
        rcases hsn with h1 | h1
        · go_wp2_with fail
          refine region_phase [0, 1, 2, 3, 4, 5, 6, 7, 8, 9, 10, 11, 12, 13, 14, 15, 16, 17] [] qf8D qf8E 2 (fun w' => Below w.heap.size w w') (saidOf [Is (.string O), Is (.string O1), Is (.string X), Is (.int .i64 (c.toNat : Int)), Is (.int .i64 (hh : Int)), Is (.int .i64 (c.toNat : Int)), Is (.int .i64 (hh : Int)), Is (.int .i64 ((hh : Int) + 1)), Is (.string HS), Is (.string O2), Is (.string X), Is (.int .i64 (c.toNat : Int)), Is (.int .i64 (ll : Int)), Is (.int .i64 (c.toNat : Int)), Is (.int .i64 (ll : Int)), Is (.int .i64 ((ll : Int) + 1)), Is (.string LS), Is (.string O3), fun _ _ => True]) 58 rfl (by kernel_rfl) (by kernel_rfl) (fun _ _ h hb => bnext h hb) (stays_said _ (stays_cons (Is.stays _) (stays_cons (Is.stays _) (stays_cons (Is.stays _) (stays_cons (Is.stays _) (stays_cons (Is.stays _) (stays_cons (Is.stays _) (stays_cons (Is.stays _) (stays_cons (Is.stays _) (stays_cons (Is.stays _) (stays_cons (Is.stays _) (stays_cons (Is.stays _) (stays_cons (Is.stays _) (stays_cons (Is.stays _) (stays_cons (Is.stays _) (stays_cons (Is.stays _) (stays_cons (Is.stays _) (stays_cons (Is.stays _) (stays_cons (Is.stays _) (stays_cons (fun _ _ _ _ _ => trivial) stays_nil)))))))))))))))))))) (bnext hbel.out (below_drewN _ _ 1)) (by kernel_rfl) ?_ ?_
          · skip
            refine owes_cons (Owes.mk (o := ({ dst := some 23, op := .move (.tmp 4), type := 9, pos := "ref.go:24", after := #[], guard := none } : Oper)) rfl (fun v wk hj hD K hK => ?_)) ?_
            · clear hD hj
              simp only [qf8D, qf8E, putAll, Act.put, List.getD_cons_zero, List.setIfInBounds_toArray, List.set_cons_zero, List.set_cons_succ] at hK ⊢
              go_simp
              exact hK.out _ _ (Below.refl _ _) rfl
            refine owes_cons (Owes.mk (o := ({ dst := some 24, op := .binOp .add 9 (.tmp 23) (.const (.string { data := #[92, 120] })) 9, type := 9, pos := "ref.go:24", after := #[{ on := 0, ground := .data }], guard := none } : Oper)) rfl (fun v wk hj hD K hK => ?_)) ?_
            · have h0 : v 0 = (.string O) := hD 0 (by decide)
              clear hD hj
              simp only [qf8D, qf8E, putAll, Act.put, List.getD_cons_succ, List.getD_cons_zero, List.setIfInBounds_toArray, List.set_cons_zero, List.set_cons_succ, h0] at hK ⊢
              clear h0
              have fx := EO1.out
              go_simp
              exact hK.out _ _ (Below.refl _ _) (congrArg Value.string O1E.out)
            refine owes_cons (Owes.mk (o := ({ dst := some 25, op := .move (.tmp 3), type := 9, pos := "ref.go:24", after := #[], guard := none } : Oper)) rfl (fun v wk hj hD K hK => ?_)) ?_
            · clear hD hj
              simp only [qf8D, qf8E, putAll, Act.put, List.getD_cons_succ, List.getD_cons_zero, List.setIfInBounds_toArray, List.set_cons_zero, List.set_cons_succ] at hK ⊢
              go_simp
              exact hK.out _ _ (Below.refl _ _) rfl
            refine owes_cons (Owes.mk (o := ({ dst := some 26, op := .move (.tmp 6), type := 3, pos := "ref.go:24", after := #[], guard := none } : Oper)) rfl (fun v wk hj hD K hK => ?_)) ?_
            · clear hD hj
              simp only [qf8D, qf8E, putAll, Act.put, List.getD_cons_succ, List.getD_cons_zero, List.setIfInBounds_toArray, List.set_cons_zero, List.set_cons_succ] at hK ⊢
              go_simp
              exact hK.out _ _ (Below.refl _ _) rfl
            refine owes_cons (Owes.mk (o := ({ dst := some 27, op := .binOp .quo 3 (.tmp 26) (.const (.int .i64 16)) 3, type := 3, pos := "ref.go:24", after := #[{ on := 3, ground := .data }], guard := none } : Oper)) rfl (fun v wk hj hD K hK => ?_)) ?_
            · have h3 : v 3 = (.int .i64 (c.toNat : Int)) := hD 3 (by decide)
              clear hD hj
              simp only [qf8D, qf8E, putAll, Act.put, List.getD_cons_succ, List.getD_cons_zero, List.setIfInBounds_toArray, List.set_cons_zero, List.set_cons_succ, h3] at hK ⊢
              clear h3
              have fx := E2.out
              go_simp
              exact hK.out _ _ (Below.refl _ _) rfl
            refine owes_cons (Owes.mk (o := ({ dst := some 28, op := .move (.tmp 6), type := 3, pos := "ref.go:24", after := #[], guard := none } : Oper)) rfl (fun v wk hj hD K hK => ?_)) ?_
            · clear hD hj
              simp only [qf8D, qf8E, putAll, Act.put, List.getD_cons_succ, List.getD_cons_zero, List.setIfInBounds_toArray, List.set_cons_zero, List.set_cons_succ] at hK ⊢
              go_simp
              exact hK.out _ _ (Below.refl _ _) rfl
            refine owes_cons (Owes.mk (o := ({ dst := some 29, op := .binOp .quo 3 (.tmp 28) (.const (.int .i64 16)) 3, type := 3, pos := "ref.go:24", after := #[{ on := 5, ground := .data }], guard := none } : Oper)) rfl (fun v wk hj hD K hK => ?_)) ?_
            · have h5 : v 5 = (.int .i64 (c.toNat : Int)) := hD 5 (by decide)
              clear hD hj
              simp only [qf8D, qf8E, putAll, Act.put, List.getD_cons_succ, List.getD_cons_zero, List.setIfInBounds_toArray, List.set_cons_zero, List.set_cons_succ, h5] at hK ⊢
              clear h5
              have fx := E2.out
              go_simp
              exact hK.out _ _ (Below.refl _ _) rfl
            refine owes_cons (Owes.mk (o := ({ dst := some 30, op := .binOp .add 3 (.tmp 29) (.const (.int .i64 1)) 3, type := 3, pos := "ref.go:24", after := #[{ on := 6, ground := .data }], guard := none } : Oper)) rfl (fun v wk hj hD K hK => ?_)) ?_
            · have h6 : v 6 = (.int .i64 (hh : Int)) := hD 6 (by decide)
              clear hD hj
              simp only [qf8D, qf8E, putAll, Act.put, List.getD_cons_succ, List.getD_cons_zero, List.setIfInBounds_toArray, List.set_cons_zero, List.set_cons_succ, h6] at hK ⊢
              clear h6
              have fx := WH.out
              go_simp
              exact hK.out _ _ (Below.refl _ _) rfl
            refine owes_cons (Owes.mk (o := ({ dst := some 31, op := .slice 9 (.tmp 25) (some (.tmp 27)) (some (.tmp 30)) none, type := 9, pos := "ref.go:24", after := #[{ on := 2, ground := .data }, { on := 4, ground := .data }, { on := 7, ground := .data }], guard := none } : Oper)) rfl (fun v wk hj hD K hK => ?_)) ?_
            · have h2 : v 2 = (.string X) := hD 2 (by decide)
              have h4 : v 4 = (.int .i64 (hh : Int)) := hD 4 (by decide)
              have h7 : v 7 = (.int .i64 ((hh : Int) + 1)) := hD 7 (by decide)
              clear hD hj
              simp only [qf8D, qf8E, putAll, Act.put, List.getD_cons_succ, List.getD_cons_zero, List.setIfInBounds_toArray, List.set_cons_zero, List.set_cons_succ, h2, h4, h7] at hK ⊢
              clear h2 h4 h7
              have fx := EHS.out
              go_simp
              exact hK.out _ _ (Below.refl _ _) rfl
            refine owes_cons (Owes.mk (o := ({ dst := some 32, op := .binOp .add 9 (.tmp 24) (.tmp 31) 9, type := 9, pos := "ref.go:24", after := #[{ on := 1, ground := .data }, { on := 8, ground := .data }], guard := none } : Oper)) rfl (fun v wk hj hD K hK => ?_)) ?_
            · have h1 : v 1 = (.string O1) := hD 1 (by decide)
              have h8 : v 8 = (.string HS) := hD 8 (by decide)
              clear hD hj
              simp only [qf8D, qf8E, putAll, Act.put, List.getD_cons_succ, List.getD_cons_zero, List.setIfInBounds_toArray, List.set_cons_zero, List.set_cons_succ, h1, h8] at hK ⊢
              clear h1 h8
              have fx := EO2.out
              go_simp
              exact hK.out _ _ (Below.refl _ _) (congrArg Value.string O2E.out)
            refine owes_cons (Owes.mk (o := ({ dst := some 33, op := .move (.tmp 3), type := 9, pos := "ref.go:24", after := #[], guard := none } : Oper)) rfl (fun v wk hj hD K hK => ?_)) ?_
            · clear hD hj
              simp only [qf8D, qf8E, putAll, Act.put, List.getD_cons_succ, List.getD_cons_zero, List.setIfInBounds_toArray, List.set_cons_zero, List.set_cons_succ] at hK ⊢
              go_simp
              exact hK.out _ _ (Below.refl _ _) rfl
            refine owes_cons (Owes.mk (o := ({ dst := some 34, op := .move (.tmp 6), type := 3, pos := "ref.go:24", after := #[], guard := none } : Oper)) rfl (fun v wk hj hD K hK => ?_)) ?_
            · clear hD hj
              simp only [qf8D, qf8E, putAll, Act.put, List.getD_cons_succ, List.getD_cons_zero, List.setIfInBounds_toArray, List.set_cons_zero, List.set_cons_succ] at hK ⊢
              go_simp
              exact hK.out _ _ (Below.refl _ _) rfl
            refine owes_cons (Owes.mk (o := ({ dst := some 35, op := .binOp .rem 3 (.tmp 34) (.const (.int .i64 16)) 3, type := 3, pos := "ref.go:24", after := #[{ on := 11, ground := .data }], guard := none } : Oper)) rfl (fun v wk hj hD K hK => ?_)) ?_
            · have h11 : v 11 = (.int .i64 (c.toNat : Int)) := hD 11 (by decide)
              clear hD hj
              simp only [qf8D, qf8E, putAll, Act.put, List.getD_cons_succ, List.getD_cons_zero, List.setIfInBounds_toArray, List.set_cons_zero, List.set_cons_succ, h11] at hK ⊢
              clear h11
              have fx := E5.out
              go_simp
              exact hK.out _ _ (Below.refl _ _) rfl
            refine owes_cons (Owes.mk (o := ({ dst := some 36, op := .move (.tmp 6), type := 3, pos := "ref.go:24", after := #[], guard := none } : Oper)) rfl (fun v wk hj hD K hK => ?_)) ?_
            · clear hD hj
              simp only [qf8D, qf8E, putAll, Act.put, List.getD_cons_succ, List.getD_cons_zero, List.setIfInBounds_toArray, List.set_cons_zero, List.set_cons_succ] at hK ⊢
              go_simp
              exact hK.out _ _ (Below.refl _ _) rfl
            refine owes_cons (Owes.mk (o := ({ dst := some 37, op := .binOp .rem 3 (.tmp 36) (.const (.int .i64 16)) 3, type := 3, pos := "ref.go:24", after := #[{ on := 13, ground := .data }], guard := none } : Oper)) rfl (fun v wk hj hD K hK => ?_)) ?_
            · have h13 : v 13 = (.int .i64 (c.toNat : Int)) := hD 13 (by decide)
              clear hD hj
              simp only [qf8D, qf8E, putAll, Act.put, List.getD_cons_succ, List.getD_cons_zero, List.setIfInBounds_toArray, List.set_cons_zero, List.set_cons_succ, h13] at hK ⊢
              clear h13
              have fx := E5.out
              go_simp
              exact hK.out _ _ (Below.refl _ _) rfl
            refine owes_cons (Owes.mk (o := ({ dst := some 38, op := .binOp .add 3 (.tmp 37) (.const (.int .i64 1)) 3, type := 3, pos := "ref.go:24", after := #[{ on := 14, ground := .data }], guard := none } : Oper)) rfl (fun v wk hj hD K hK => ?_)) ?_
            · have h14 : v 14 = (.int .i64 (ll : Int)) := hD 14 (by decide)
              clear hD hj
              simp only [qf8D, qf8E, putAll, Act.put, List.getD_cons_succ, List.getD_cons_zero, List.setIfInBounds_toArray, List.set_cons_zero, List.set_cons_succ, h14] at hK ⊢
              clear h14
              have fx := WL.out
              go_simp
              exact hK.out _ _ (Below.refl _ _) rfl
            refine owes_cons (Owes.mk (o := ({ dst := some 39, op := .slice 9 (.tmp 33) (some (.tmp 35)) (some (.tmp 38)) none, type := 9, pos := "ref.go:24", after := #[{ on := 10, ground := .data }, { on := 12, ground := .data }, { on := 15, ground := .data }], guard := none } : Oper)) rfl (fun v wk hj hD K hK => ?_)) ?_
            · have h10 : v 10 = (.string X) := hD 10 (by decide)
              have h12 : v 12 = (.int .i64 (ll : Int)) := hD 12 (by decide)
              have h15 : v 15 = (.int .i64 ((ll : Int) + 1)) := hD 15 (by decide)
              clear hD hj
              simp only [qf8D, qf8E, putAll, Act.put, List.getD_cons_succ, List.getD_cons_zero, List.setIfInBounds_toArray, List.set_cons_zero, List.set_cons_succ, h10, h12, h15] at hK ⊢
              clear h10 h12 h15
              have fx := ELS.out
              go_simp
              exact hK.out _ _ (Below.refl _ _) rfl
            refine owes_cons (Owes.mk (o := ({ dst := some 40, op := .binOp .add 9 (.tmp 32) (.tmp 39) 9, type := 9, pos := "ref.go:24", after := #[{ on := 9, ground := .data }, { on := 16, ground := .data }], guard := none } : Oper)) rfl (fun v wk hj hD K hK => ?_)) ?_
            · have h9 : v 9 = (.string O2) := hD 9 (by decide)
              have h16 : v 16 = (.string LS) := hD 16 (by decide)
              clear hD hj
              simp only [qf8D, qf8E, putAll, Act.put, List.getD_cons_succ, List.getD_cons_zero, List.setIfInBounds_toArray, List.set_cons_zero, List.set_cons_succ, h9, h16] at hK ⊢
              clear h9 h16
              have fx := EO3.out
              go_simp
              exact hK.out _ _ (Below.refl _ _) (congrArg Value.string O3E.out)
            exact owes_nil
          · intro p v wf h1 h2 hj hr
            obtain rfl := marks_all h1 (fun m hm => h2 m hm (by simp))
            have hl : v 17 = (.string O3) := hr 17 (by decide) (by decide)
            rw [show List.filter (fun k => [0, 1, 2, 3, 4, 5, 6, 7, 8, 9, 10, 11, 12, 13, 14, 15, 16, 17].contains k) [0, 1, 2, 3, 4, 5, 6, 7, 8, 9, 10, 11, 12, 13, 14, 15, 16, 17] = [0, 1, 2, 3, 4, 5, 6, 7, 8, 9, 10, 11, 12, 13, 14, 15, 16, 17] from rfl]
            simp only [qf8D, putAll, Act.put, List.getD_cons_succ, List.getD_cons_zero, List.setIfInBounds_toArray, List.set_cons_zero, List.set_cons_succ, hl]
            clear hl hr h1 h2
            have BF := Lib.hid hj
            clear hj
            refine anyN_any (S := fun _ => True) (N := []) _ _ _ _ ?_
            refine anyN_one (i := 18) (o := ({ dst := some 4, op := .assign (.tmp 40), type := 9, pos := "ref.go:24", after := #[{ on := 17, ground := .data }, { on := 0, ground := .phase }, { on := 1, ground := .phase }, { on := 2, ground := .phase }, { on := 3, ground := .phase }, { on := 4, ground := .phase }, { on := 5, ground := .phase }, { on := 6, ground := .phase }, { on := 7, ground := .phase }, { on := 8, ground := .phase }, { on := 9, ground := .phase }, { on := 10, ground := .phase }, { on := 11, ground := .phase }, { on := 12, ground := .phase }, { on := 13, ground := .phase }, { on := 14, ground := .phase }, { on := 15, ground := .phase }, { on := 16, ground := .phase }, { on := 17, ground := .phase }], guard := none } : Oper)) (by kernel_rfl) rfl (fun K hK => ?_)
            go_simp
            refine hK.out _ _ (fun _ => trivial) ?_
            clear hK K
            try simp only [Act.put, List.setIfInBounds_toArray, List.set_cons_zero, List.set_cons_succ]
            refine anyN_done (by kernel_rfl) ?_ _
            go_wp2
            go_roundw
            case rel => exact ⟨k + 1, _, rfl, by go_num, by omega, BF, Lib.hid (by rw [← O3E.out, list_app, ← O2E.out, list_app, ← O1E.out, list_app, QHS.out, QLS.out, HA.out, HB2.out, hO.out, NX.out, QB.out, show (⟨#[92, 120]⟩ : ByteArray).toList = [92, 120] from lit_list [92, 120]]; simp)⟩
            case measure => simp [RowKit.intOf]; omega
        · have h2 : ¬ (c.toNat : Int) < 32 := by omega
          go_wp2_with fail
          refine region_phase [0, 1, 2, 3, 4, 5, 6, 7, 8, 9, 10, 11, 12, 13, 14, 15, 16, 17] [] qf8D qf8E 2 (fun w' => Below w.heap.size w w') (saidOf [Is (.string O), Is (.string O1), Is (.string X), Is (.int .i64 (c.toNat : Int)), Is (.int .i64 (hh : Int)), Is (.int .i64 (c.toNat : Int)), Is (.int .i64 (hh : Int)), Is (.int .i64 ((hh : Int) + 1)), Is (.string HS), Is (.string O2), Is (.string X), Is (.int .i64 (c.toNat : Int)), Is (.int .i64 (ll : Int)), Is (.int .i64 (c.toNat : Int)), Is (.int .i64 (ll : Int)), Is (.int .i64 ((ll : Int) + 1)), Is (.string LS), Is (.string O3), fun _ _ => True]) 58 rfl (by kernel_rfl) (by kernel_rfl) (fun _ _ h hb => bnext h hb) (stays_said _ (stays_cons (Is.stays _) (stays_cons (Is.stays _) (stays_cons (Is.stays _) (stays_cons (Is.stays _) (stays_cons (Is.stays _) (stays_cons (Is.stays _) (stays_cons (Is.stays _) (stays_cons (Is.stays _) (stays_cons (Is.stays _) (stays_cons (Is.stays _) (stays_cons (Is.stays _) (stays_cons (Is.stays _) (stays_cons (Is.stays _) (stays_cons (Is.stays _) (stays_cons (Is.stays _) (stays_cons (Is.stays _) (stays_cons (Is.stays _) (stays_cons (Is.stays _) (stays_cons (fun _ _ _ _ _ => trivial) stays_nil)))))))))))))))))))) (bnext hbel.out (below_drewN _ _ 1)) (by kernel_rfl) ?_ ?_
          · skip
            refine owes_cons (Owes.mk (o := ({ dst := some 23, op := .move (.tmp 4), type := 9, pos := "ref.go:24", after := #[], guard := none } : Oper)) rfl (fun v wk hj hD K hK => ?_)) ?_
            · clear hD hj
              simp only [qf8D, qf8E, putAll, Act.put, List.getD_cons_zero, List.setIfInBounds_toArray, List.set_cons_zero, List.set_cons_succ] at hK ⊢
              go_simp
              exact hK.out _ _ (Below.refl _ _) rfl
            refine owes_cons (Owes.mk (o := ({ dst := some 24, op := .binOp .add 9 (.tmp 23) (.const (.string { data := #[92, 120] })) 9, type := 9, pos := "ref.go:24", after := #[{ on := 0, ground := .data }], guard := none } : Oper)) rfl (fun v wk hj hD K hK => ?_)) ?_
            · have h0 : v 0 = (.string O) := hD 0 (by decide)
              clear hD hj
              simp only [qf8D, qf8E, putAll, Act.put, List.getD_cons_succ, List.getD_cons_zero, List.setIfInBounds_toArray, List.set_cons_zero, List.set_cons_succ, h0] at hK ⊢
              clear h0
              have fx := EO1.out
              go_simp
              exact hK.out _ _ (Below.refl _ _) (congrArg Value.string O1E.out)
            refine owes_cons (Owes.mk (o := ({ dst := some 25, op := .move (.tmp 3), type := 9, pos := "ref.go:24", after := #[], guard := none } : Oper)) rfl (fun v wk hj hD K hK => ?_)) ?_
            · clear hD hj
              simp only [qf8D, qf8E, putAll, Act.put, List.getD_cons_succ, List.getD_cons_zero, List.setIfInBounds_toArray, List.set_cons_zero, List.set_cons_succ] at hK ⊢
              go_simp
              exact hK.out _ _ (Below.refl _ _) rfl
            refine owes_cons (Owes.mk (o := ({ dst := some 26, op := .move (.tmp 6), type := 3, pos := "ref.go:24", after := #[], guard := none } : Oper)) rfl (fun v wk hj hD K hK => ?_)) ?_
            · clear hD hj
              simp only [qf8D, qf8E, putAll, Act.put, List.getD_cons_succ, List.getD_cons_zero, List.setIfInBounds_toArray, List.set_cons_zero, List.set_cons_succ] at hK ⊢
              go_simp
              exact hK.out _ _ (Below.refl _ _) rfl
            refine owes_cons (Owes.mk (o := ({ dst := some 27, op := .binOp .quo 3 (.tmp 26) (.const (.int .i64 16)) 3, type := 3, pos := "ref.go:24", after := #[{ on := 3, ground := .data }], guard := none } : Oper)) rfl (fun v wk hj hD K hK => ?_)) ?_
            · have h3 : v 3 = (.int .i64 (c.toNat : Int)) := hD 3 (by decide)
              clear hD hj
              simp only [qf8D, qf8E, putAll, Act.put, List.getD_cons_succ, List.getD_cons_zero, List.setIfInBounds_toArray, List.set_cons_zero, List.set_cons_succ, h3] at hK ⊢
              clear h3
              have fx := E2.out
              go_simp
              exact hK.out _ _ (Below.refl _ _) rfl
            refine owes_cons (Owes.mk (o := ({ dst := some 28, op := .move (.tmp 6), type := 3, pos := "ref.go:24", after := #[], guard := none } : Oper)) rfl (fun v wk hj hD K hK => ?_)) ?_
            · clear hD hj
              simp only [qf8D, qf8E, putAll, Act.put, List.getD_cons_succ, List.getD_cons_zero, List.setIfInBounds_toArray, List.set_cons_zero, List.set_cons_succ] at hK ⊢
              go_simp
              exact hK.out _ _ (Below.refl _ _) rfl
            refine owes_cons (Owes.mk (o := ({ dst := some 29, op := .binOp .quo 3 (.tmp 28) (.const (.int .i64 16)) 3, type := 3, pos := "ref.go:24", after := #[{ on := 5, ground := .data }], guard := none } : Oper)) rfl (fun v wk hj hD K hK => ?_)) ?_
            · have h5 : v 5 = (.int .i64 (c.toNat : Int)) := hD 5 (by decide)
              clear hD hj
              simp only [qf8D, qf8E, putAll, Act.put, List.getD_cons_succ, List.getD_cons_zero, List.setIfInBounds_toArray, List.set_cons_zero, List.set_cons_succ, h5] at hK ⊢
              clear h5
              have fx := E2.out
              go_simp
              exact hK.out _ _ (Below.refl _ _) rfl
            refine owes_cons (Owes.mk (o := ({ dst := some 30, op := .binOp .add 3 (.tmp 29) (.const (.int .i64 1)) 3, type := 3, pos := "ref.go:24", after := #[{ on := 6, ground := .data }], guard := none } : Oper)) rfl (fun v wk hj hD K hK => ?_)) ?_
            · have h6 : v 6 = (.int .i64 (hh : Int)) := hD 6 (by decide)
              clear hD hj
              simp only [qf8D, qf8E, putAll, Act.put, List.getD_cons_succ, List.getD_cons_zero, List.setIfInBounds_toArray, List.set_cons_zero, List.set_cons_succ, h6] at hK ⊢
              clear h6
              have fx := WH.out
              go_simp
              exact hK.out _ _ (Below.refl _ _) rfl
            refine owes_cons (Owes.mk (o := ({ dst := some 31, op := .slice 9 (.tmp 25) (some (.tmp 27)) (some (.tmp 30)) none, type := 9, pos := "ref.go:24", after := #[{ on := 2, ground := .data }, { on := 4, ground := .data }, { on := 7, ground := .data }], guard := none } : Oper)) rfl (fun v wk hj hD K hK => ?_)) ?_
            · have h2 : v 2 = (.string X) := hD 2 (by decide)
              have h4 : v 4 = (.int .i64 (hh : Int)) := hD 4 (by decide)
              have h7 : v 7 = (.int .i64 ((hh : Int) + 1)) := hD 7 (by decide)
              clear hD hj
              simp only [qf8D, qf8E, putAll, Act.put, List.getD_cons_succ, List.getD_cons_zero, List.setIfInBounds_toArray, List.set_cons_zero, List.set_cons_succ, h2, h4, h7] at hK ⊢
              clear h2 h4 h7
              have fx := EHS.out
              go_simp
              exact hK.out _ _ (Below.refl _ _) rfl
            refine owes_cons (Owes.mk (o := ({ dst := some 32, op := .binOp .add 9 (.tmp 24) (.tmp 31) 9, type := 9, pos := "ref.go:24", after := #[{ on := 1, ground := .data }, { on := 8, ground := .data }], guard := none } : Oper)) rfl (fun v wk hj hD K hK => ?_)) ?_
            · have h1 : v 1 = (.string O1) := hD 1 (by decide)
              have h8 : v 8 = (.string HS) := hD 8 (by decide)
              clear hD hj
              simp only [qf8D, qf8E, putAll, Act.put, List.getD_cons_succ, List.getD_cons_zero, List.setIfInBounds_toArray, List.set_cons_zero, List.set_cons_succ, h1, h8] at hK ⊢
              clear h1 h8
              have fx := EO2.out
              go_simp
              exact hK.out _ _ (Below.refl _ _) (congrArg Value.string O2E.out)
            refine owes_cons (Owes.mk (o := ({ dst := some 33, op := .move (.tmp 3), type := 9, pos := "ref.go:24", after := #[], guard := none } : Oper)) rfl (fun v wk hj hD K hK => ?_)) ?_
            · clear hD hj
              simp only [qf8D, qf8E, putAll, Act.put, List.getD_cons_succ, List.getD_cons_zero, List.setIfInBounds_toArray, List.set_cons_zero, List.set_cons_succ] at hK ⊢
              go_simp
              exact hK.out _ _ (Below.refl _ _) rfl
            refine owes_cons (Owes.mk (o := ({ dst := some 34, op := .move (.tmp 6), type := 3, pos := "ref.go:24", after := #[], guard := none } : Oper)) rfl (fun v wk hj hD K hK => ?_)) ?_
            · clear hD hj
              simp only [qf8D, qf8E, putAll, Act.put, List.getD_cons_succ, List.getD_cons_zero, List.setIfInBounds_toArray, List.set_cons_zero, List.set_cons_succ] at hK ⊢
              go_simp
              exact hK.out _ _ (Below.refl _ _) rfl
            refine owes_cons (Owes.mk (o := ({ dst := some 35, op := .binOp .rem 3 (.tmp 34) (.const (.int .i64 16)) 3, type := 3, pos := "ref.go:24", after := #[{ on := 11, ground := .data }], guard := none } : Oper)) rfl (fun v wk hj hD K hK => ?_)) ?_
            · have h11 : v 11 = (.int .i64 (c.toNat : Int)) := hD 11 (by decide)
              clear hD hj
              simp only [qf8D, qf8E, putAll, Act.put, List.getD_cons_succ, List.getD_cons_zero, List.setIfInBounds_toArray, List.set_cons_zero, List.set_cons_succ, h11] at hK ⊢
              clear h11
              have fx := E5.out
              go_simp
              exact hK.out _ _ (Below.refl _ _) rfl
            refine owes_cons (Owes.mk (o := ({ dst := some 36, op := .move (.tmp 6), type := 3, pos := "ref.go:24", after := #[], guard := none } : Oper)) rfl (fun v wk hj hD K hK => ?_)) ?_
            · clear hD hj
              simp only [qf8D, qf8E, putAll, Act.put, List.getD_cons_succ, List.getD_cons_zero, List.setIfInBounds_toArray, List.set_cons_zero, List.set_cons_succ] at hK ⊢
              go_simp
              exact hK.out _ _ (Below.refl _ _) rfl
            refine owes_cons (Owes.mk (o := ({ dst := some 37, op := .binOp .rem 3 (.tmp 36) (.const (.int .i64 16)) 3, type := 3, pos := "ref.go:24", after := #[{ on := 13, ground := .data }], guard := none } : Oper)) rfl (fun v wk hj hD K hK => ?_)) ?_
            · have h13 : v 13 = (.int .i64 (c.toNat : Int)) := hD 13 (by decide)
              clear hD hj
              simp only [qf8D, qf8E, putAll, Act.put, List.getD_cons_succ, List.getD_cons_zero, List.setIfInBounds_toArray, List.set_cons_zero, List.set_cons_succ, h13] at hK ⊢
              clear h13
              have fx := E5.out
              go_simp
              exact hK.out _ _ (Below.refl _ _) rfl
            refine owes_cons (Owes.mk (o := ({ dst := some 38, op := .binOp .add 3 (.tmp 37) (.const (.int .i64 1)) 3, type := 3, pos := "ref.go:24", after := #[{ on := 14, ground := .data }], guard := none } : Oper)) rfl (fun v wk hj hD K hK => ?_)) ?_
            · have h14 : v 14 = (.int .i64 (ll : Int)) := hD 14 (by decide)
              clear hD hj
              simp only [qf8D, qf8E, putAll, Act.put, List.getD_cons_succ, List.getD_cons_zero, List.setIfInBounds_toArray, List.set_cons_zero, List.set_cons_succ, h14] at hK ⊢
              clear h14
              have fx := WL.out
              go_simp
              exact hK.out _ _ (Below.refl _ _) rfl
            refine owes_cons (Owes.mk (o := ({ dst := some 39, op := .slice 9 (.tmp 33) (some (.tmp 35)) (some (.tmp 38)) none, type := 9, pos := "ref.go:24", after := #[{ on := 10, ground := .data }, { on := 12, ground := .data }, { on := 15, ground := .data }], guard := none } : Oper)) rfl (fun v wk hj hD K hK => ?_)) ?_
            · have h10 : v 10 = (.string X) := hD 10 (by decide)
              have h12 : v 12 = (.int .i64 (ll : Int)) := hD 12 (by decide)
              have h15 : v 15 = (.int .i64 ((ll : Int) + 1)) := hD 15 (by decide)
              clear hD hj
              simp only [qf8D, qf8E, putAll, Act.put, List.getD_cons_succ, List.getD_cons_zero, List.setIfInBounds_toArray, List.set_cons_zero, List.set_cons_succ, h10, h12, h15] at hK ⊢
              clear h10 h12 h15
              have fx := ELS.out
              go_simp
              exact hK.out _ _ (Below.refl _ _) rfl
            refine owes_cons (Owes.mk (o := ({ dst := some 40, op := .binOp .add 9 (.tmp 32) (.tmp 39) 9, type := 9, pos := "ref.go:24", after := #[{ on := 9, ground := .data }, { on := 16, ground := .data }], guard := none } : Oper)) rfl (fun v wk hj hD K hK => ?_)) ?_
            · have h9 : v 9 = (.string O2) := hD 9 (by decide)
              have h16 : v 16 = (.string LS) := hD 16 (by decide)
              clear hD hj
              simp only [qf8D, qf8E, putAll, Act.put, List.getD_cons_succ, List.getD_cons_zero, List.setIfInBounds_toArray, List.set_cons_zero, List.set_cons_succ, h9, h16] at hK ⊢
              clear h9 h16
              have fx := EO3.out
              go_simp
              exact hK.out _ _ (Below.refl _ _) (congrArg Value.string O3E.out)
            exact owes_nil
          · intro p v wf h1 h2 hj hr
            obtain rfl := marks_all h1 (fun m hm => h2 m hm (by simp))
            have hl : v 17 = (.string O3) := hr 17 (by decide) (by decide)
            rw [show List.filter (fun k => [0, 1, 2, 3, 4, 5, 6, 7, 8, 9, 10, 11, 12, 13, 14, 15, 16, 17].contains k) [0, 1, 2, 3, 4, 5, 6, 7, 8, 9, 10, 11, 12, 13, 14, 15, 16, 17] = [0, 1, 2, 3, 4, 5, 6, 7, 8, 9, 10, 11, 12, 13, 14, 15, 16, 17] from rfl]
            simp only [qf8D, putAll, Act.put, List.getD_cons_succ, List.getD_cons_zero, List.setIfInBounds_toArray, List.set_cons_zero, List.set_cons_succ, hl]
            clear hl hr h1 h2
            have BF := Lib.hid hj
            clear hj
            refine anyN_any (S := fun _ => True) (N := []) _ _ _ _ ?_
            refine anyN_one (i := 18) (o := ({ dst := some 4, op := .assign (.tmp 40), type := 9, pos := "ref.go:24", after := #[{ on := 17, ground := .data }, { on := 0, ground := .phase }, { on := 1, ground := .phase }, { on := 2, ground := .phase }, { on := 3, ground := .phase }, { on := 4, ground := .phase }, { on := 5, ground := .phase }, { on := 6, ground := .phase }, { on := 7, ground := .phase }, { on := 8, ground := .phase }, { on := 9, ground := .phase }, { on := 10, ground := .phase }, { on := 11, ground := .phase }, { on := 12, ground := .phase }, { on := 13, ground := .phase }, { on := 14, ground := .phase }, { on := 15, ground := .phase }, { on := 16, ground := .phase }, { on := 17, ground := .phase }], guard := none } : Oper)) (by kernel_rfl) rfl (fun K hK => ?_)
            go_simp
            refine hK.out _ _ (fun _ => trivial) ?_
            clear hK K
            try simp only [Act.put, List.setIfInBounds_toArray, List.set_cons_zero, List.set_cons_succ]
            refine anyN_done (by kernel_rfl) ?_ _
            go_wp2
            go_roundw
            case rel => exact ⟨k + 1, _, rfl, by go_num, by omega, BF, Lib.hid (by rw [← O3E.out, list_app, ← O2E.out, list_app, ← O1E.out, list_app, QHS.out, QLS.out, HA.out, HB2.out, hO.out, NX.out, QB.out, show (⟨#[92, 120]⟩ : ByteArray).toList = [92, 120] from lit_list [92, 120]]; simp)⟩
            case measure => simp [RowKit.intOf]; omega
      · have h1 : ¬ (c.toNat : Int) < 32 := by omega
        have h2 : ¬ (126 : Int) < (c.toNat : Int) := by omega
        have SB : seenB c = true := by simp [seenB]; omega
        by_cases hq : c = 39 ∨ c = 92
        · have QB : Hid (qB c = [92, c]) := Lib.hid (by unfold qB; rw [if_pos hq])
          rcases hq with hq | hq
          · have q1 : ((c.toNat : Int) == 39) = true := by rw [hq]; rfl
            clear hsn hq SB
            go_wp2
            go_roundw
            case rel => exact ⟨k + 1, _, rfl, by go_num, by omega, hbel, Lib.hid (by rw [list_app, list_app, hO.out, NX.out, QB.out, OC.out, show (⟨#[92]⟩ : ByteArray).toList = [92] from lit_list [92]]; simp)⟩
            case measure => simp [RowKit.intOf]; omega
          · have q1 : ((c.toNat : Int) == 39) = false := by rw [hq]; rfl
            have q2 : ((c.toNat : Int) == 92) = true := by rw [hq]; rfl
            clear hsn hq SB
            go_wp2
            go_roundw
            case rel => exact ⟨k + 1, _, rfl, by go_num, by omega, hbel, Lib.hid (by rw [list_app, list_app, hO.out, NX.out, QB.out, OC.out, show (⟨#[92]⟩ : ByteArray).toList = [92] from lit_list [92]]; simp)⟩
            case measure => simp [RowKit.intOf]; omega
        · have QB : Hid (qB c = [c]) := Lib.hid (by unfold qB; rw [if_neg hq, if_pos SB])
          have q1 : ((c.toNat : Int) == 39) = false := by rw [show (39 : Int) = ((39 : Nat) : Int) from rfl, byte_is c 39 (by omega)]; exact decide_eq_false (fun h => hq (.inl h))
          have q2 : ((c.toNat : Int) == 92) = false := by rw [show (92 : Int) = ((92 : Nat) : Int) from rfl, byte_is c 92 (by omega)]; exact decide_eq_false (fun h => hq (.inr h))
          clear hsn hq SB
          go_wp2
          go_roundw
          case rel => exact ⟨k + 1, _, rfl, by go_num, by omega, hbel, Lib.hid (by rw [list_app, hO.out, NX.out, QB.out, OC.out]; simp)⟩
          case measure => simp [RowKit.intOf]; omega
    · obtain rfl : k = s.size := by omega
      have e1 : O.toList = 39 :: qM s.toList := by rw [hO.out, List.take_of_length_le (by rw [toList_size]; exact Nat.le_refl _)]
      have HE : Hid ((⟨(qL s.toList).toArray⟩ : ByteArray) = O ++ (⟨#[39]⟩ : ByteArray)) := Lib.hid (by
        rw [← str_eta (O ++ (⟨#[39]⟩ : ByteArray)), list_app, e1, show (⟨#[39]⟩ : ByteArray).toList = [39] from lit_list [39], List.cons_append, qL])
      clear e1
      go_wp2
      go_ret
      exact ⟨congrArg (fun z => Ending.returned (.string z)) HE.out.symm, hbel.out⟩
end Go.Proofs.Ytmgjiipooffggaa
