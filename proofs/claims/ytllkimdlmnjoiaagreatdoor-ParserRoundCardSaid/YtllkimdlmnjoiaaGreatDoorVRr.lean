/- Carried over from an earlier seat. -/
import Derived.Test.YtllkimdlmnjoiaaGreatDoorVVb
import Derived.Test.YtllkimdlmnjoiaaGreatDoorVFr
namespace Go.Proofs.YtllkimdlmnjoiaaGreatDoor
set_option maxRecDepth 100000
set_option maxRecDepth 100000
set_option maxRecDepth 100000
set_option maxRecDepth 100000
set_option maxRecDepth 100000
open Go.RowKit
attribute [local go_sem ↓] Go.wp_at_zero Go.wp_at_succ

theorem rises_all : ∀ l : List V, risesV l = true ↔ ∀ i x y, l[i]? = some x → l[i + 1]? = some y → cmpV 12 x y < 0
  | [] => by simp [risesV]
  | [a] => by
    simp only [risesV, true_iff]
    intro i x y _ h
    cases i <;> simp at h
  | a :: b :: r => by
    have ih := rises_all (b :: r)
    rw [risesV, Bool.and_eq_true, decide_eq_true_eq, ih]
    constructor
    · rintro ⟨h1, h2⟩ i x y hx hy
      cases i with
      | zero =>
        simp at hx hy
        subst hx; subst hy; exact h1
      | succ i => exact h2 i x y (by simpa using hx) (by simpa using hy)
    · intro h
      exact ⟨h 0 a b (by simp) (by simp), fun i x y hx hy => h (i + 1) x y (by simpa using hx) (by simpa using hy)⟩
theorem ok_parts (r : Nat) (t : V) : okV (r + 1) t = true ↔ fitsV t = true ∧ (∀ x ∈ t.l, okV r x = true) ∧ (∀ x ∈ t.m, okV r x = true) ∧ (t.k = 7 → risesV t.l = true) := by
  rw [okV]
  simp only [Bool.and_eq_true, List.all_eq_true, Bool.or_eq_true, bne_iff_ne, ne_eq]
  constructor
  · rintro ⟨⟨⟨h1, h2⟩, h3⟩, h4⟩
    exact ⟨h1, h2, h3, fun h => h4.resolve_left (fun hn => hn h)⟩
  · rintro ⟨h1, h2, h3, h4⟩
    refine ⟨⟨⟨h1, h2⟩, h3⟩, ?_⟩
    by_cases h : t.k = 7
    · exact .inr (h4 h)
    · exact .inl h
theorem no_of {b : Bool} (h : ¬ b = true) : b = false := by cases b <;> simp_all
/-- So far the row is right. -/
structure So (r : Nat) (t : V) (k : Nat) : Prop where
  ok : ∀ i x, i < k → t.l[i]? = some x → okV r x = true
  up : t.k = 7 → ∀ i x y, i + 1 < k → t.l[i]? = some x → t.l[i + 1]? = some y → cmpV 12 x y < 0
theorem So.next {r : Nat} {t : V} {k : Nat} {y : V} (h : So r t k) (hy : t.l[k]? = some y) (ho : okV r y = true) (hu : t.k = 7 → ∀ i x, i + 1 = k → t.l[i]? = some x → cmpV 12 x y < 0) : So r t (k + 1) :=
  ⟨fun i x hi hx => by
    by_cases e : i = k
    · subst e; rw [hy] at hx; injection hx with hx; subst hx; exact ho
    · exact h.ok i x (by omega) hx, fun h7 i x z hi hx hz => by
    by_cases e : i + 1 = k
    · rw [e, hy] at hz; injection hz with hz; subst hz; exact hu h7 i x e hx
    · exact h.up h7 i x z (by omega) hx hz⟩
def RRight (r : Nat) : Prop := ∀ (w : World) (d : Nat) (x : At) (lev : Int), lev = 13 - r → r ≤ 12 → x.In w d → Calls Tryz.prog 113 #[x.v, .int .i64 lev] w fun e w' => e = .returned (.bool (okV r x.t)) ∧ Below w.heap.size w w'
theorem fits_at (w : World) (x : At) : Calls Tryz.prog 130 #[x.v] w (FitsPost x.t w) := fits_58 w x.t _ _ _ _

set_option maxHeartbeats 1600000 in
theorem rright_zero : RRight 0 := by
  intro w d x lev hlev _ hx
  have hl : 12 < lev := by omega
  clear hlev hx
  go_enter Tryz.func113, Tryz.ntmps113
  go_wp2
  go_ret
  exact ⟨by rfl, below_new _ _⟩

def q8D : Nat → Tmp := fun j => [30, 31, 32, 33, 34, 35, 36, 37, 38, 39, 40, 41, 42, 43, 44, 45, 46, 47, 48, 49, 50, 51].getD j 0
def q8E : Nat → List Nat := fun j => [[], [0], [1], [2], [3], [3, 4], [3, 5], [6], [7], [7, 8], [7], [7, 10], [7, 9, 11], [7, 12], [7], [7, 14], [7], [7, 15, 16], [7, 17], [7, 13, 18], [7, 19], [7, 20]].getD j []

set_option maxHeartbeats 8000000 in
set_option maxRecDepth 100000 in
theorem rright_succ (r : Nat) (ih : RRight r) : RRight (r + 1) := by
  intro w d x lev hlev hr hx
  have hl : lev ≤ 12 := by omega
  have hl0 : 0 ≤ lev := by omega
  have HL := Lib.hid (show lev + 1 = 13 - r by omega)
  obtain ⟨d', rfl⟩ := hx.pos
  have HX := Lib.hid hx
  have IH := Lib.hid ih
  have hbig := hx.2.1.big
  have hbig2 := hx.2.2.big
  clear hlev hx ih
  go_enter Tryz.func113, Tryz.ntmps113
  go_upto_region 1 with fail
  have bx := Bx.new w x
  generalize hW : World.alloc w _ = W at bx
  have HB := Lib.hid (show Below w.heap.size w W by rw [← hW]; exact below_new _ _)
  have hgW : w.heap.size < W.heap.size := by rw [← hW]; simp
  clear hW
  have BX := Lib.hid bx
  obtain ⟨a0, a1, a2, a3, a4, _⟩ := bx
  go_wp2_with fail
  refine (fits_at W x).mono ?_
  rintro e w1 ⟨rfl, hb1⟩
  have BX1 := Lib.hid (BX.out.next hb1)
  have B1 := Lib.hid (bnext HB.out hb1)
  have hg1 : w.heap.size < w1.heap.size := Nat.lt_of_lt_of_le hgW hb1.size
  clear hb1 a0 a1 a2 a3 a4 BX HB hgW
  have i3 : IntKind.i64.wrap (lev + 1) = lev + 1 := IntWalk.i64_in _ (by omega)
  cases hf : fitsV x.t
  · have FIN := Lib.hid (okV_0 r x.t hf)
    go_wp2
    go_ret
    exact ⟨by rw [FIN.out]; rfl, B1.out⟩
  · have HF := Lib.hid hf
    clear hf
    have G1 := Lib.hid B1.out
    generalize hg : w.heap.size = g at BX1 hg1 G1
    go_wp2_with fail
    go_loopw [5] (fun i wr => ∃ k : Nat, k ≤ x.t.l.length ∧ i = .int .i64 k ∧ Hid (So r x.t k) ∧ Hid (Below w1.heap.size w1 wr)) (fun i _ => x.t.l.length - (intOf i).toNat)
    case atStart => exact ⟨0, by omega, rfl, Lib.hid ⟨fun i x h => absurd h (by omega), fun _ i x y h => absurd h (by omega)⟩, Lib.hid (Below.refl _ _)⟩
    case round =>
      obtain ⟨k, hk, rfl, hS, hBr⟩ := hrel
      have hgr : g < wr.heap.size := Nat.lt_of_lt_of_le hg1 hBr.out.size
      have BXr := Lib.hid (BX1.out.next hBr.out)
      have BR := Lib.hid (bnext B1.out hBr.out)
      obtain ⟨q0, q1, q2, q3, q4, _⟩ := BXr.out
      by_cases hlt : k < x.t.l.length
      · obtain ⟨b, off, t, A1, c1, A2, c2, hA, _, hb, ht, q, rd⟩ := (HX.out.2.1.next BR.out).elem hlt
        obtain ⟨y, hy⟩ : ∃ y : At, y = ⟨t, A1, c1, A2, c2⟩ := ⟨_, rfl⟩
        have CY0 : cells5 wr b (off + k * 5) y.t y.A y.c y.A' y.c' := by rw [hy]; exact q
        have IY0 : y.In wr d' := by rw [hy]; exact rd
        have TY := Lib.hid (show x.t.l[k]? = some y.t by rw [hy]; exact ht)
        have EA := Lib.hid hA
        clear q rd ht hy
        rw [hA] at q3
        clear hA
        obtain ⟨z0, z1, z2, z3, z4⟩ := CY0
        have CY1 := Lib.hid (cells5.mk z0 z1 z2 z3 z4)
        have IY1 := Lib.hid IY0
        clear IY0
        have k0 : (0 : Int) ≤ (k : Int) := by omega
        have k1 : (k : Int) < (x.t.l.length : Int) := by omega
        go_wp2_with fail
        refine (IH.out wr d' y (lev + 1) HL.out (by omega) IY1.out).mono ?_
        rintro e wy ⟨rfl, hby⟩
        have hbl : b < wy.heap.size := Nat.lt_of_lt_of_le hb hby.size
        have hgl : g < wy.heap.size := Nat.lt_of_lt_of_le hgr hby.size
        have CY := Lib.hid (CY1.out.keep (lo := 0) (Kept.of_below hby (Nat.le_refl _)) (Nat.zero_le _) hb)
        have IY := Lib.hid (IY1.out.next hby)
        have HBX := Lib.hid (BXr.out.next hby)
        have BY := Lib.hid (bnext BR.out hby)
        have BY1 := Lib.hid (hBr.out.trans (hby.mono hBr.out.size))
        clear q0 q1 q2 q3 q4 z0 z1 z2 z3 z4 hby CY1 IY1 BXr
        cases hok : okV r y.t
        · have FIN : Hid (okV (r + 1) x.t = false) := Lib.hid (no_of fun h => by
            have := ((ok_parts r x.t).1 h).2.1 y.t (List.mem_of_getElem? TY.out)
            rw [hok] at this; cases this)
          clear hok
          go_wp2_with fail
          go_ret
          exact ⟨by rw [FIN.out]; rfl, BY.out⟩
        · have HOK := Lib.hid hok
          clear hok
          obtain ⟨q0, q1, q2, q3, q4, _⟩ := HBX.out
          by_cases h7 : x.t.k = 7
          · have hk7 : (x.t.k == 7) = true := by rw [h7]; rfl
            have H7 := Lib.hid h7
            clear h7
            by_cases hpos : 0 < k
            · obtain ⟨kp, hkp⟩ : ∃ kp, k = kp + 1 := ⟨k - 1, by omega⟩
              have HKP := Lib.hid hkp
              have hkpl : kp < x.t.l.length := by omega
              obtain ⟨b', off', tp, D1, f1, D2, f2, hA', _, _, htp, qp, rdp⟩ := (HX.out.2.1.next BY.out).elem hkpl
              rw [EA.out] at hA'
              injection hA' with hA'
              injection hA' with e1 e2
              subst e1; subst e2
              obtain ⟨yp, hyp⟩ : ∃ yp : At, yp = ⟨tp, D1, f1, D2, f2⟩ := ⟨_, rfl⟩
              have CP : Hid (cells5 wy b (off + kp * 5) yp.t yp.A yp.c yp.A' yp.c') := Lib.hid (by rw [hyp]; exact qp)
              have IP : Hid (yp.In wy d') := Lib.hid (by rw [hyp]; exact rdp)
              have TP := Lib.hid (show x.t.l[kp]? = some yp.t by rw [hyp]; exact htp)
              clear qp rdp htp hyp
              have kz : (0 : Int) < (k : Int) := by omega
              have dz : decide ((0 : Int) < (k : Int)) = true := decide_eq_true kz
              have kw : IntKind.i64.wrap ((k : Int) - 1) = (kp : Int) := by rw [hkp, IntWalk.i64_in _ (by omega)]; omega
              have kp0 : (0 : Int) ≤ (kp : Int) := by omega
              have kp1 : (kp : Int) < (x.t.l.length : Int) := by omega
              have kpn : ((kp : Int)).toNat = kp := by simp
              have TR := (ord_cmpV 12).tri yp.t y.t
              generalize hp : cmpV 12 yp.t y.t = p at TR
              have HP := Lib.hid hp
              clear hp hkp
              by_cases hbad : p = -1
              · have NX := Lib.hid (hS.out.next TY.out HOK.out (fun _ i x' hi hx' => by
                  have := HKP.out
                  obtain rfl : i = kp := by omega
                  rw [TP.out] at hx'
                  injection hx' with hx'
                  subst hx'
                  rw [HP.out]; omega))
                have pb : (p != -1) = false := by rw [hbad]; rfl
                clear TR
                have HBAD := Lib.hid hbad
                clear hbad
                go_wp2_with fail
                refine region_phase_all [0, 1, 2, 3, 4, 5, 6, 7, 8, 9, 10, 11, 12, 13, 14, 15, 16, 17, 18, 19, 20, 21] q8D q8E (fun w' => Below wy.heap.size wy w') (saidOf [Is (.pointer (some ⟨g, 0, none⟩)), Is (.int .i64 (x.t.k)), Is (.bool true), Is (.bool true), Is (.int .i64 ((k : Int))), Is (.bool true), Is (.bool true), Is (.bool true), Is (.pointer (some ⟨g, 3, none⟩)), Is (.slice (some ⟨b, off, none⟩) x.t.l.length x.c), Is (.int .i64 ((k : Int))), Is (.int .i64 ((kp : Int))), Is (.pointer (some ⟨b, off + kp * 5, none⟩)), Is yp.v, Is (.pointer (some ⟨g, 3, none⟩)), Is (.slice (some ⟨b, off, none⟩) x.t.l.length x.c), Is (.int .i64 ((k : Int))), Is (.pointer (some ⟨b, off + k * 5, none⟩)), Is y.v, Is (.int .i64 (p)), Is (.bool false), Is (.bool false)]) 68 rfl (by kernel_rfl) (by kernel_rfl) (by kernel_rfl) (fun _ _ h hb => bnext h hb) (stays_said _ (stays_cons (Is.stays _) (stays_cons (Is.stays _) (stays_cons (Is.stays _) (stays_cons (Is.stays _) (stays_cons (Is.stays _) (stays_cons (Is.stays _) (stays_cons (Is.stays _) (stays_cons (Is.stays _) (stays_cons (Is.stays _) (stays_cons (Is.stays _) (stays_cons (Is.stays _) (stays_cons (Is.stays _) (stays_cons (Is.stays _) (stays_cons (Is.stays _) (stays_cons (Is.stays _) (stays_cons (Is.stays _) (stays_cons (Is.stays _) (stays_cons (Is.stays _) (stays_cons (Is.stays _) (stays_cons (Is.stays _) (stays_cons (Is.stays _) (stays_cons (Is.stays _) stays_nil))))))))))))))))))))))) (below_drewN _ _ 1) (by kernel_rfl) ?_ ?_
                · skip
                  refine owes_cons (Owes.mk (o := ({ dst := some 30, op := .fieldAddr 77 (.tmp 2) 0, type := 0, pos := "ref.go:142", after := #[], guard := none } : Oper)) rfl (fun v wk hj hD K hK => ?_)) ?_
                  · simp only [q8D, q8E, putAll, Act.put, List.getD_cons_zero, List.setIfInBounds_toArray, List.set_cons_zero, List.set_cons_succ] at hK ⊢
                    go_simp
                    exact hK.out _ _ (Below.refl _ _) rfl
                  refine owes_cons (Owes.mk (o := ({ dst := some 31, op := .load 3 (.tmp 30), type := 3, pos := "ref.go:142", after := #[{ on := 0, ground := .data }], guard := none } : Oper)) rfl (fun v wk hj hD K hK => ?_)) ?_
                  · have h0 : v 0 = (.pointer (some ⟨g, 0, none⟩)) := hD 0 (by decide)
                    simp only [q8D, q8E, putAll, Act.put, List.getD_cons_succ, List.getD_cons_zero, List.setIfInBounds_toArray, List.set_cons_zero, List.set_cons_succ, h0] at hK ⊢
                    obtain ⟨q0, q1, q2, q3, q4, _⟩ := HBX.out.below hj hgl
                    go_simp
                    exact hK.out _ _ (Below.refl _ _) rfl
                  refine owes_cons (Owes.mk (o := ({ dst := some 32, op := .binOp .eql 3 (.tmp 31) (.const (.int .i64 7)) 3, type := 4, pos := "ref.go:142", after := #[{ on := 1, ground := .data }], guard := none } : Oper)) rfl (fun v wk hj hD K hK => ?_)) ?_
                  · have h1 : v 1 = (.int .i64 (x.t.k)) := hD 1 (by decide)
                    simp only [q8D, q8E, putAll, Act.put, List.getD_cons_succ, List.getD_cons_zero, List.setIfInBounds_toArray, List.set_cons_zero, List.set_cons_succ, h1] at hK ⊢
                    go_simp
                    exact hK.out _ _ (Below.refl _ _) rfl
                  refine owes_cons (Owes.mk (o := ({ dst := some 33, op := .move (.tmp 32), type := 4, pos := "ref.go:142", after := #[{ on := 2, ground := .data }], guard := none } : Oper)) rfl (fun v wk hj hD K hK => ?_)) ?_
                  · have h2 : v 2 = (.bool true) := hD 2 (by decide)
                    simp only [q8D, q8E, putAll, Act.put, List.getD_cons_succ, List.getD_cons_zero, List.setIfInBounds_toArray, List.set_cons_zero, List.set_cons_succ, h2] at hK ⊢
                    go_simp
                    exact hK.out _ _ (Below.refl _ _) rfl
                  refine owes_cons (Owes.mk (o := ({ dst := some 34, op := .move (.tmp 5), type := 3, pos := "ref.go:142", after := #[{ on := 3, ground := .guard }], guard := some (3, true) } : Oper)) rfl (fun v wk hj hD K hK => ?_)) ?_
                  · have h3 : v 3 = (.bool true) := hD 3 (by decide)
                    simp only [q8D, q8E, putAll, Act.put, List.getD_cons_succ, List.getD_cons_zero, List.setIfInBounds_toArray, List.set_cons_zero, List.set_cons_succ, h3] at hK ⊢
                    go_simp
                    exact hK.out _ _ (Below.refl _ _) rfl
                  refine owes_cons (Owes.mk (o := ({ dst := some 35, op := .binOp .gtr 3 (.tmp 34) (.const (.int .i64 0)) 3, type := 4, pos := "ref.go:142", after := #[{ on := 4, ground := .data }, { on := 3, ground := .guard }], guard := some (3, true) } : Oper)) rfl (fun v wk hj hD K hK => ?_)) ?_
                  · have h3 : v 3 = (.bool true) := hD 3 (by decide)
                    have h4 : v 4 = (.int .i64 ((k : Int))) := hD 4 (by decide)
                    simp only [q8D, q8E, putAll, Act.put, List.getD_cons_succ, List.getD_cons_zero, List.setIfInBounds_toArray, List.set_cons_zero, List.set_cons_succ, h3, h4] at hK ⊢
                    go_simp
                    exact hK.out _ _ (Below.refl _ _) rfl
                  refine owes_cons (Owes.mk (o := ({ dst := some 36, op := .pick (.tmp 33) (.tmp 35) (.const (.bool false)), type := 4, pos := "ref.go:142", after := #[{ on := 3, ground := .data }, { on := 5, ground := .data }], guard := none } : Oper)) rfl (fun v wk hj hD K hK => ?_)) ?_
                  · have h3 : v 3 = (.bool true) := hD 3 (by decide)
                    have h5 : v 5 = (.bool true) := hD 5 (by decide)
                    simp only [q8D, q8E, putAll, Act.put, List.getD_cons_succ, List.getD_cons_zero, List.setIfInBounds_toArray, List.set_cons_zero, List.set_cons_succ, h3, h5] at hK ⊢
                    go_simp
                    exact hK.out _ _ (Below.refl _ _) rfl
                  refine owes_cons (Owes.mk (o := ({ dst := some 37, op := .move (.tmp 36), type := 4, pos := "ref.go:142", after := #[{ on := 6, ground := .data }, { on := 3, ground := .chain }], guard := none } : Oper)) rfl (fun v wk hj hD K hK => ?_)) ?_
                  · have h6 : v 6 = (.bool true) := hD 6 (by decide)
                    simp only [q8D, q8E, putAll, Act.put, List.getD_cons_succ, List.getD_cons_zero, List.setIfInBounds_toArray, List.set_cons_zero, List.set_cons_succ, h6] at hK ⊢
                    go_simp
                    exact hK.out _ _ (Below.refl _ _) rfl
                  refine owes_cons (Owes.mk (o := ({ dst := some 38, op := .fieldAddr 77 (.tmp 2) 3, type := 0, pos := "ref.go:142", after := #[{ on := 7, ground := .guard }], guard := some (7, true) } : Oper)) rfl (fun v wk hj hD K hK => ?_)) ?_
                  · have h7 : v 7 = (.bool true) := hD 7 (by decide)
                    simp only [q8D, q8E, putAll, Act.put, List.getD_cons_succ, List.getD_cons_zero, List.setIfInBounds_toArray, List.set_cons_zero, List.set_cons_succ, h7] at hK ⊢
                    go_simp
                    exact hK.out _ _ (Below.refl _ _) rfl
                  refine owes_cons (Owes.mk (o := ({ dst := some 39, op := .load 75 (.tmp 38), type := 75, pos := "ref.go:142", after := #[{ on := 8, ground := .data }, { on := 7, ground := .guard }], guard := some (7, true) } : Oper)) rfl (fun v wk hj hD K hK => ?_)) ?_
                  · have h7 : v 7 = (.bool true) := hD 7 (by decide)
                    have h8 : v 8 = (.pointer (some ⟨g, 3, none⟩)) := hD 8 (by decide)
                    simp only [q8D, q8E, putAll, Act.put, List.getD_cons_succ, List.getD_cons_zero, List.setIfInBounds_toArray, List.set_cons_zero, List.set_cons_succ, h7, h8] at hK ⊢
                    obtain ⟨q0, q1, q2, q3, q4, _⟩ := HBX.out.below hj hgl
                    rw [EA.out] at q3
                    go_simp
                    exact hK.out _ _ (Below.refl _ _) rfl
                  refine owes_cons (Owes.mk (o := ({ dst := some 40, op := .move (.tmp 5), type := 3, pos := "ref.go:142", after := #[{ on := 7, ground := .guard }], guard := some (7, true) } : Oper)) rfl (fun v wk hj hD K hK => ?_)) ?_
                  · have h7 : v 7 = (.bool true) := hD 7 (by decide)
                    simp only [q8D, q8E, putAll, Act.put, List.getD_cons_succ, List.getD_cons_zero, List.setIfInBounds_toArray, List.set_cons_zero, List.set_cons_succ, h7] at hK ⊢
                    go_simp
                    exact hK.out _ _ (Below.refl _ _) rfl
                  refine owes_cons (Owes.mk (o := ({ dst := some 41, op := .binOp .sub 3 (.tmp 40) (.const (.int .i64 1)) 3, type := 3, pos := "ref.go:142", after := #[{ on := 10, ground := .data }, { on := 7, ground := .guard }], guard := some (7, true) } : Oper)) rfl (fun v wk hj hD K hK => ?_)) ?_
                  · have h7 : v 7 = (.bool true) := hD 7 (by decide)
                    have h10 : v 10 = (.int .i64 ((k : Int))) := hD 10 (by decide)
                    simp only [q8D, q8E, putAll, Act.put, List.getD_cons_succ, List.getD_cons_zero, List.setIfInBounds_toArray, List.set_cons_zero, List.set_cons_succ, h7, h10] at hK ⊢
                    go_simp
                    exact hK.out _ _ (Below.refl _ _) rfl
                  refine owes_cons (Owes.mk (o := ({ dst := some 42, op := .indexAddr 75 (.tmp 39) (.tmp 41), type := 0, pos := "ref.go:142", after := #[{ on := 9, ground := .data }, { on := 11, ground := .data }, { on := 7, ground := .guard }], guard := some (7, true) } : Oper)) rfl (fun v wk hj hD K hK => ?_)) ?_
                  · have h7 : v 7 = (.bool true) := hD 7 (by decide)
                    have h9 : v 9 = (.slice (some ⟨b, off, none⟩) x.t.l.length x.c) := hD 9 (by decide)
                    have h11 : v 11 = (.int .i64 ((kp : Int))) := hD 11 (by decide)
                    simp only [q8D, q8E, putAll, Act.put, List.getD_cons_succ, List.getD_cons_zero, List.setIfInBounds_toArray, List.set_cons_zero, List.set_cons_succ, h7, h9, h11] at hK ⊢
                    go_simp
                    exact hK.out _ _ (Below.refl _ _) rfl
                  refine owes_cons (Owes.mk (o := ({ dst := some 43, op := .load 77 (.tmp 42), type := 77, pos := "ref.go:142", after := #[{ on := 12, ground := .data }, { on := 7, ground := .guard }], guard := some (7, true) } : Oper)) rfl (fun v wk hj hD K hK => ?_)) ?_
                  · have h7 : v 7 = (.bool true) := hD 7 (by decide)
                    have h12 : v 12 = (.pointer (some ⟨b, off + kp * 5, none⟩)) := hD 12 (by decide)
                    simp only [q8D, q8E, putAll, Act.put, List.getD_cons_succ, List.getD_cons_zero, List.setIfInBounds_toArray, List.set_cons_zero, List.set_cons_succ, h7, h12] at hK ⊢
                    obtain ⟨q0, q1, q2, q3, q4⟩ := CP.out.keep (lo := 0) (Kept.of_below hj (Nat.le_refl _)) (Nat.zero_le _) hbl
                    go_simp
                    exact hK.out _ _ (Below.refl _ _) rfl
                  refine owes_cons (Owes.mk (o := ({ dst := some 44, op := .fieldAddr 77 (.tmp 2) 3, type := 0, pos := "ref.go:142", after := #[{ on := 7, ground := .guard }], guard := some (7, true) } : Oper)) rfl (fun v wk hj hD K hK => ?_)) ?_
                  · have h7 : v 7 = (.bool true) := hD 7 (by decide)
                    simp only [q8D, q8E, putAll, Act.put, List.getD_cons_succ, List.getD_cons_zero, List.setIfInBounds_toArray, List.set_cons_zero, List.set_cons_succ, h7] at hK ⊢
                    go_simp
                    exact hK.out _ _ (Below.refl _ _) rfl
                  refine owes_cons (Owes.mk (o := ({ dst := some 45, op := .load 75 (.tmp 44), type := 75, pos := "ref.go:142", after := #[{ on := 14, ground := .data }, { on := 7, ground := .guard }], guard := some (7, true) } : Oper)) rfl (fun v wk hj hD K hK => ?_)) ?_
                  · have h7 : v 7 = (.bool true) := hD 7 (by decide)
                    have h14 : v 14 = (.pointer (some ⟨g, 3, none⟩)) := hD 14 (by decide)
                    simp only [q8D, q8E, putAll, Act.put, List.getD_cons_succ, List.getD_cons_zero, List.setIfInBounds_toArray, List.set_cons_zero, List.set_cons_succ, h7, h14] at hK ⊢
                    obtain ⟨q0, q1, q2, q3, q4, _⟩ := HBX.out.below hj hgl
                    rw [EA.out] at q3
                    go_simp
                    exact hK.out _ _ (Below.refl _ _) rfl
                  refine owes_cons (Owes.mk (o := ({ dst := some 46, op := .move (.tmp 5), type := 3, pos := "ref.go:142", after := #[{ on := 7, ground := .guard }], guard := some (7, true) } : Oper)) rfl (fun v wk hj hD K hK => ?_)) ?_
                  · have h7 : v 7 = (.bool true) := hD 7 (by decide)
                    simp only [q8D, q8E, putAll, Act.put, List.getD_cons_succ, List.getD_cons_zero, List.setIfInBounds_toArray, List.set_cons_zero, List.set_cons_succ, h7] at hK ⊢
                    go_simp
                    exact hK.out _ _ (Below.refl _ _) rfl
                  refine owes_cons (Owes.mk (o := ({ dst := some 47, op := .indexAddr 75 (.tmp 45) (.tmp 46), type := 0, pos := "ref.go:142", after := #[{ on := 15, ground := .data }, { on := 16, ground := .data }, { on := 7, ground := .guard }], guard := some (7, true) } : Oper)) rfl (fun v wk hj hD K hK => ?_)) ?_
                  · have h7 : v 7 = (.bool true) := hD 7 (by decide)
                    have h15 : v 15 = (.slice (some ⟨b, off, none⟩) x.t.l.length x.c) := hD 15 (by decide)
                    have h16 : v 16 = (.int .i64 ((k : Int))) := hD 16 (by decide)
                    simp only [q8D, q8E, putAll, Act.put, List.getD_cons_succ, List.getD_cons_zero, List.setIfInBounds_toArray, List.set_cons_zero, List.set_cons_succ, h7, h15, h16] at hK ⊢
                    go_simp
                    exact hK.out _ _ (Below.refl _ _) rfl
                  refine owes_cons (Owes.mk (o := ({ dst := some 48, op := .load 77 (.tmp 47), type := 77, pos := "ref.go:142", after := #[{ on := 17, ground := .data }, { on := 7, ground := .guard }], guard := some (7, true) } : Oper)) rfl (fun v wk hj hD K hK => ?_)) ?_
                  · have h7 : v 7 = (.bool true) := hD 7 (by decide)
                    have h17 : v 17 = (.pointer (some ⟨b, off + k * 5, none⟩)) := hD 17 (by decide)
                    simp only [q8D, q8E, putAll, Act.put, List.getD_cons_succ, List.getD_cons_zero, List.setIfInBounds_toArray, List.set_cons_zero, List.set_cons_succ, h7, h17] at hK ⊢
                    obtain ⟨q0, q1, q2, q3, q4⟩ := CY.out.keep (lo := 0) (Kept.of_below hj (Nat.le_refl _)) (Nat.zero_le _) hbl
                    go_simp
                    exact hK.out _ _ (Below.refl _ _) rfl
                  refine owes_cons (Owes.mk (o := ({ dst := some 49, op := .call { callee := .value (.func 131), args := #[.tmp 43, .tmp 48], argTypes := #[77, 77] }, type := 3, pos := "ref.go:142", after := #[{ on := 13, ground := .data }, { on := 18, ground := .data }, { on := 7, ground := .chain }, { on := 7, ground := .guard }], guard := some (7, true) } : Oper)) rfl (fun v wk hj hD K hK => ?_)) ?_
                  · have h7 : v 7 = (.bool true) := hD 7 (by decide)
                    have h13 : v 13 = yp.v := hD 13 (by decide)
                    have h18 : v 18 = y.v := hD 18 (by decide)
                    simp only [q8D, q8E, putAll, Act.put, List.getD_cons_succ, List.getD_cons_zero, List.setIfInBounds_toArray, List.set_cons_zero, List.set_cons_succ, h7, h13, h18] at hK ⊢
                    go_simp
                    refine (refCmp_at _ _ yp y (IP.out.next hj) (IY.out.next hj)).mono ?_
                    rintro e w2 ⟨rfl, hb⟩
                    exact hK.out _ _ hb (show Value.int _ _ = _ by rw [HP.out])
                  refine owes_cons (Owes.mk (o := ({ dst := some 50, op := .binOp .neq 3 (.tmp 49) (.const (.int .i64 (-1))) 3, type := 4, pos := "ref.go:142", after := #[{ on := 19, ground := .data }, { on := 7, ground := .guard }], guard := some (7, true) } : Oper)) rfl (fun v wk hj hD K hK => ?_)) ?_
                  · have h7 : v 7 = (.bool true) := hD 7 (by decide)
                    have h19 : v 19 = (.int .i64 (p)) := hD 19 (by decide)
                    simp only [q8D, q8E, putAll, Act.put, List.getD_cons_succ, List.getD_cons_zero, List.setIfInBounds_toArray, List.set_cons_zero, List.set_cons_succ, h7, h19] at hK ⊢
                    go_simp
                    exact hK.out _ _ (Below.refl _ _) rfl
                  refine owes_cons (Owes.mk (o := ({ dst := some 51, op := .pick (.tmp 37) (.tmp 50) (.const (.bool false)), type := 4, pos := "ref.go:142", after := #[{ on := 7, ground := .data }, { on := 20, ground := .data }], guard := none } : Oper)) rfl (fun v wk hj hD K hK => ?_)) ?_
                  · have h7 : v 7 = (.bool true) := hD 7 (by decide)
                    have h20 : v 20 = (.bool false) := hD 20 (by decide)
                    simp only [q8D, q8E, putAll, Act.put, List.getD_cons_succ, List.getD_cons_zero, List.setIfInBounds_toArray, List.set_cons_zero, List.set_cons_succ, h7, h20] at hK ⊢
                    go_simp
                    exact hK.out _ _ (Below.refl _ _) rfl
                  exact owes_nil
                · intro v wf hj hr
                  have hl : v 21 = (.bool false) := hr 21 (by decide)
                  simp only [q8D, putAll, Act.put, List.getD_cons_succ, List.getD_cons_zero, List.setIfInBounds_toArray, List.set_cons_zero, List.set_cons_succ, hl]
                  clear hl hr
                  go_wp2
                  go_roundw
                  case rel => exact ⟨k + 1, by omega, by go_num, NX, Lib.hid (bnext BY1.out hj)⟩
                  case measure => simp [intOf]; omega
              · have FIN : Hid (okV (r + 1) x.t = false) := Lib.hid (no_of fun h => by
                  have := (rises_all x.t.l).1 (((ok_parts r x.t).1 h).2.2.2 H7.out) kp yp.t y.t TP.out (by rw [← HKP.out]; exact TY.out)
                  rw [HP.out] at this
                  omega)
                have pb : (p != -1) = true := by simpa using hbad
                clear TR hbad
                go_wp2_with fail
                refine region_phase_all [0, 1, 2, 3, 4, 5, 6, 7, 8, 9, 10, 11, 12, 13, 14, 15, 16, 17, 18, 19, 20, 21] q8D q8E (fun w' => Below wy.heap.size wy w') (saidOf [Is (.pointer (some ⟨g, 0, none⟩)), Is (.int .i64 (x.t.k)), Is (.bool true), Is (.bool true), Is (.int .i64 ((k : Int))), Is (.bool true), Is (.bool true), Is (.bool true), Is (.pointer (some ⟨g, 3, none⟩)), Is (.slice (some ⟨b, off, none⟩) x.t.l.length x.c), Is (.int .i64 ((k : Int))), Is (.int .i64 ((kp : Int))), Is (.pointer (some ⟨b, off + kp * 5, none⟩)), Is yp.v, Is (.pointer (some ⟨g, 3, none⟩)), Is (.slice (some ⟨b, off, none⟩) x.t.l.length x.c), Is (.int .i64 ((k : Int))), Is (.pointer (some ⟨b, off + k * 5, none⟩)), Is y.v, Is (.int .i64 (p)), Is (.bool true), Is (.bool true)]) 68 rfl (by kernel_rfl) (by kernel_rfl) (by kernel_rfl) (fun _ _ h hb => bnext h hb) (stays_said _ (stays_cons (Is.stays _) (stays_cons (Is.stays _) (stays_cons (Is.stays _) (stays_cons (Is.stays _) (stays_cons (Is.stays _) (stays_cons (Is.stays _) (stays_cons (Is.stays _) (stays_cons (Is.stays _) (stays_cons (Is.stays _) (stays_cons (Is.stays _) (stays_cons (Is.stays _) (stays_cons (Is.stays _) (stays_cons (Is.stays _) (stays_cons (Is.stays _) (stays_cons (Is.stays _) (stays_cons (Is.stays _) (stays_cons (Is.stays _) (stays_cons (Is.stays _) (stays_cons (Is.stays _) (stays_cons (Is.stays _) (stays_cons (Is.stays _) (stays_cons (Is.stays _) stays_nil))))))))))))))))))))))) (below_drewN _ _ 1) (by kernel_rfl) ?_ ?_
                · skip
                  refine owes_cons (Owes.mk (o := ({ dst := some 30, op := .fieldAddr 77 (.tmp 2) 0, type := 0, pos := "ref.go:142", after := #[], guard := none } : Oper)) rfl (fun v wk hj hD K hK => ?_)) ?_
                  · simp only [q8D, q8E, putAll, Act.put, List.getD_cons_zero, List.setIfInBounds_toArray, List.set_cons_zero, List.set_cons_succ] at hK ⊢
                    go_simp
                    exact hK.out _ _ (Below.refl _ _) rfl
                  refine owes_cons (Owes.mk (o := ({ dst := some 31, op := .load 3 (.tmp 30), type := 3, pos := "ref.go:142", after := #[{ on := 0, ground := .data }], guard := none } : Oper)) rfl (fun v wk hj hD K hK => ?_)) ?_
                  · have h0 : v 0 = (.pointer (some ⟨g, 0, none⟩)) := hD 0 (by decide)
                    simp only [q8D, q8E, putAll, Act.put, List.getD_cons_succ, List.getD_cons_zero, List.setIfInBounds_toArray, List.set_cons_zero, List.set_cons_succ, h0] at hK ⊢
                    obtain ⟨q0, q1, q2, q3, q4, _⟩ := HBX.out.below hj hgl
                    go_simp
                    exact hK.out _ _ (Below.refl _ _) rfl
                  refine owes_cons (Owes.mk (o := ({ dst := some 32, op := .binOp .eql 3 (.tmp 31) (.const (.int .i64 7)) 3, type := 4, pos := "ref.go:142", after := #[{ on := 1, ground := .data }], guard := none } : Oper)) rfl (fun v wk hj hD K hK => ?_)) ?_
                  · have h1 : v 1 = (.int .i64 (x.t.k)) := hD 1 (by decide)
                    simp only [q8D, q8E, putAll, Act.put, List.getD_cons_succ, List.getD_cons_zero, List.setIfInBounds_toArray, List.set_cons_zero, List.set_cons_succ, h1] at hK ⊢
                    go_simp
                    exact hK.out _ _ (Below.refl _ _) rfl
                  refine owes_cons (Owes.mk (o := ({ dst := some 33, op := .move (.tmp 32), type := 4, pos := "ref.go:142", after := #[{ on := 2, ground := .data }], guard := none } : Oper)) rfl (fun v wk hj hD K hK => ?_)) ?_
                  · have h2 : v 2 = (.bool true) := hD 2 (by decide)
                    simp only [q8D, q8E, putAll, Act.put, List.getD_cons_succ, List.getD_cons_zero, List.setIfInBounds_toArray, List.set_cons_zero, List.set_cons_succ, h2] at hK ⊢
                    go_simp
                    exact hK.out _ _ (Below.refl _ _) rfl
                  refine owes_cons (Owes.mk (o := ({ dst := some 34, op := .move (.tmp 5), type := 3, pos := "ref.go:142", after := #[{ on := 3, ground := .guard }], guard := some (3, true) } : Oper)) rfl (fun v wk hj hD K hK => ?_)) ?_
                  · have h3 : v 3 = (.bool true) := hD 3 (by decide)
                    simp only [q8D, q8E, putAll, Act.put, List.getD_cons_succ, List.getD_cons_zero, List.setIfInBounds_toArray, List.set_cons_zero, List.set_cons_succ, h3] at hK ⊢
                    go_simp
                    exact hK.out _ _ (Below.refl _ _) rfl
                  refine owes_cons (Owes.mk (o := ({ dst := some 35, op := .binOp .gtr 3 (.tmp 34) (.const (.int .i64 0)) 3, type := 4, pos := "ref.go:142", after := #[{ on := 4, ground := .data }, { on := 3, ground := .guard }], guard := some (3, true) } : Oper)) rfl (fun v wk hj hD K hK => ?_)) ?_
                  · have h3 : v 3 = (.bool true) := hD 3 (by decide)
                    have h4 : v 4 = (.int .i64 ((k : Int))) := hD 4 (by decide)
                    simp only [q8D, q8E, putAll, Act.put, List.getD_cons_succ, List.getD_cons_zero, List.setIfInBounds_toArray, List.set_cons_zero, List.set_cons_succ, h3, h4] at hK ⊢
                    go_simp
                    exact hK.out _ _ (Below.refl _ _) rfl
                  refine owes_cons (Owes.mk (o := ({ dst := some 36, op := .pick (.tmp 33) (.tmp 35) (.const (.bool false)), type := 4, pos := "ref.go:142", after := #[{ on := 3, ground := .data }, { on := 5, ground := .data }], guard := none } : Oper)) rfl (fun v wk hj hD K hK => ?_)) ?_
                  · have h3 : v 3 = (.bool true) := hD 3 (by decide)
                    have h5 : v 5 = (.bool true) := hD 5 (by decide)
                    simp only [q8D, q8E, putAll, Act.put, List.getD_cons_succ, List.getD_cons_zero, List.setIfInBounds_toArray, List.set_cons_zero, List.set_cons_succ, h3, h5] at hK ⊢
                    go_simp
                    exact hK.out _ _ (Below.refl _ _) rfl
                  refine owes_cons (Owes.mk (o := ({ dst := some 37, op := .move (.tmp 36), type := 4, pos := "ref.go:142", after := #[{ on := 6, ground := .data }, { on := 3, ground := .chain }], guard := none } : Oper)) rfl (fun v wk hj hD K hK => ?_)) ?_
                  · have h6 : v 6 = (.bool true) := hD 6 (by decide)
                    simp only [q8D, q8E, putAll, Act.put, List.getD_cons_succ, List.getD_cons_zero, List.setIfInBounds_toArray, List.set_cons_zero, List.set_cons_succ, h6] at hK ⊢
                    go_simp
                    exact hK.out _ _ (Below.refl _ _) rfl
                  refine owes_cons (Owes.mk (o := ({ dst := some 38, op := .fieldAddr 77 (.tmp 2) 3, type := 0, pos := "ref.go:142", after := #[{ on := 7, ground := .guard }], guard := some (7, true) } : Oper)) rfl (fun v wk hj hD K hK => ?_)) ?_
                  · have h7 : v 7 = (.bool true) := hD 7 (by decide)
                    simp only [q8D, q8E, putAll, Act.put, List.getD_cons_succ, List.getD_cons_zero, List.setIfInBounds_toArray, List.set_cons_zero, List.set_cons_succ, h7] at hK ⊢
                    go_simp
                    exact hK.out _ _ (Below.refl _ _) rfl
                  refine owes_cons (Owes.mk (o := ({ dst := some 39, op := .load 75 (.tmp 38), type := 75, pos := "ref.go:142", after := #[{ on := 8, ground := .data }, { on := 7, ground := .guard }], guard := some (7, true) } : Oper)) rfl (fun v wk hj hD K hK => ?_)) ?_
                  · have h7 : v 7 = (.bool true) := hD 7 (by decide)
                    have h8 : v 8 = (.pointer (some ⟨g, 3, none⟩)) := hD 8 (by decide)
                    simp only [q8D, q8E, putAll, Act.put, List.getD_cons_succ, List.getD_cons_zero, List.setIfInBounds_toArray, List.set_cons_zero, List.set_cons_succ, h7, h8] at hK ⊢
                    obtain ⟨q0, q1, q2, q3, q4, _⟩ := HBX.out.below hj hgl
                    rw [EA.out] at q3
                    go_simp
                    exact hK.out _ _ (Below.refl _ _) rfl
                  refine owes_cons (Owes.mk (o := ({ dst := some 40, op := .move (.tmp 5), type := 3, pos := "ref.go:142", after := #[{ on := 7, ground := .guard }], guard := some (7, true) } : Oper)) rfl (fun v wk hj hD K hK => ?_)) ?_
                  · have h7 : v 7 = (.bool true) := hD 7 (by decide)
                    simp only [q8D, q8E, putAll, Act.put, List.getD_cons_succ, List.getD_cons_zero, List.setIfInBounds_toArray, List.set_cons_zero, List.set_cons_succ, h7] at hK ⊢
                    go_simp
                    exact hK.out _ _ (Below.refl _ _) rfl
                  refine owes_cons (Owes.mk (o := ({ dst := some 41, op := .binOp .sub 3 (.tmp 40) (.const (.int .i64 1)) 3, type := 3, pos := "ref.go:142", after := #[{ on := 10, ground := .data }, { on := 7, ground := .guard }], guard := some (7, true) } : Oper)) rfl (fun v wk hj hD K hK => ?_)) ?_
                  · have h7 : v 7 = (.bool true) := hD 7 (by decide)
                    have h10 : v 10 = (.int .i64 ((k : Int))) := hD 10 (by decide)
                    simp only [q8D, q8E, putAll, Act.put, List.getD_cons_succ, List.getD_cons_zero, List.setIfInBounds_toArray, List.set_cons_zero, List.set_cons_succ, h7, h10] at hK ⊢
                    go_simp
                    exact hK.out _ _ (Below.refl _ _) rfl
                  refine owes_cons (Owes.mk (o := ({ dst := some 42, op := .indexAddr 75 (.tmp 39) (.tmp 41), type := 0, pos := "ref.go:142", after := #[{ on := 9, ground := .data }, { on := 11, ground := .data }, { on := 7, ground := .guard }], guard := some (7, true) } : Oper)) rfl (fun v wk hj hD K hK => ?_)) ?_
                  · have h7 : v 7 = (.bool true) := hD 7 (by decide)
                    have h9 : v 9 = (.slice (some ⟨b, off, none⟩) x.t.l.length x.c) := hD 9 (by decide)
                    have h11 : v 11 = (.int .i64 ((kp : Int))) := hD 11 (by decide)
                    simp only [q8D, q8E, putAll, Act.put, List.getD_cons_succ, List.getD_cons_zero, List.setIfInBounds_toArray, List.set_cons_zero, List.set_cons_succ, h7, h9, h11] at hK ⊢
                    go_simp
                    exact hK.out _ _ (Below.refl _ _) rfl
                  refine owes_cons (Owes.mk (o := ({ dst := some 43, op := .load 77 (.tmp 42), type := 77, pos := "ref.go:142", after := #[{ on := 12, ground := .data }, { on := 7, ground := .guard }], guard := some (7, true) } : Oper)) rfl (fun v wk hj hD K hK => ?_)) ?_
                  · have h7 : v 7 = (.bool true) := hD 7 (by decide)
                    have h12 : v 12 = (.pointer (some ⟨b, off + kp * 5, none⟩)) := hD 12 (by decide)
                    simp only [q8D, q8E, putAll, Act.put, List.getD_cons_succ, List.getD_cons_zero, List.setIfInBounds_toArray, List.set_cons_zero, List.set_cons_succ, h7, h12] at hK ⊢
                    obtain ⟨q0, q1, q2, q3, q4⟩ := CP.out.keep (lo := 0) (Kept.of_below hj (Nat.le_refl _)) (Nat.zero_le _) hbl
                    go_simp
                    exact hK.out _ _ (Below.refl _ _) rfl
                  refine owes_cons (Owes.mk (o := ({ dst := some 44, op := .fieldAddr 77 (.tmp 2) 3, type := 0, pos := "ref.go:142", after := #[{ on := 7, ground := .guard }], guard := some (7, true) } : Oper)) rfl (fun v wk hj hD K hK => ?_)) ?_
                  · have h7 : v 7 = (.bool true) := hD 7 (by decide)
                    simp only [q8D, q8E, putAll, Act.put, List.getD_cons_succ, List.getD_cons_zero, List.setIfInBounds_toArray, List.set_cons_zero, List.set_cons_succ, h7] at hK ⊢
                    go_simp
                    exact hK.out _ _ (Below.refl _ _) rfl
                  refine owes_cons (Owes.mk (o := ({ dst := some 45, op := .load 75 (.tmp 44), type := 75, pos := "ref.go:142", after := #[{ on := 14, ground := .data }, { on := 7, ground := .guard }], guard := some (7, true) } : Oper)) rfl (fun v wk hj hD K hK => ?_)) ?_
                  · have h7 : v 7 = (.bool true) := hD 7 (by decide)
                    have h14 : v 14 = (.pointer (some ⟨g, 3, none⟩)) := hD 14 (by decide)
                    simp only [q8D, q8E, putAll, Act.put, List.getD_cons_succ, List.getD_cons_zero, List.setIfInBounds_toArray, List.set_cons_zero, List.set_cons_succ, h7, h14] at hK ⊢
                    obtain ⟨q0, q1, q2, q3, q4, _⟩ := HBX.out.below hj hgl
                    rw [EA.out] at q3
                    go_simp
                    exact hK.out _ _ (Below.refl _ _) rfl
                  refine owes_cons (Owes.mk (o := ({ dst := some 46, op := .move (.tmp 5), type := 3, pos := "ref.go:142", after := #[{ on := 7, ground := .guard }], guard := some (7, true) } : Oper)) rfl (fun v wk hj hD K hK => ?_)) ?_
                  · have h7 : v 7 = (.bool true) := hD 7 (by decide)
                    simp only [q8D, q8E, putAll, Act.put, List.getD_cons_succ, List.getD_cons_zero, List.setIfInBounds_toArray, List.set_cons_zero, List.set_cons_succ, h7] at hK ⊢
                    go_simp
                    exact hK.out _ _ (Below.refl _ _) rfl
                  refine owes_cons (Owes.mk (o := ({ dst := some 47, op := .indexAddr 75 (.tmp 45) (.tmp 46), type := 0, pos := "ref.go:142", after := #[{ on := 15, ground := .data }, { on := 16, ground := .data }, { on := 7, ground := .guard }], guard := some (7, true) } : Oper)) rfl (fun v wk hj hD K hK => ?_)) ?_
                  · have h7 : v 7 = (.bool true) := hD 7 (by decide)
                    have h15 : v 15 = (.slice (some ⟨b, off, none⟩) x.t.l.length x.c) := hD 15 (by decide)
                    have h16 : v 16 = (.int .i64 ((k : Int))) := hD 16 (by decide)
                    simp only [q8D, q8E, putAll, Act.put, List.getD_cons_succ, List.getD_cons_zero, List.setIfInBounds_toArray, List.set_cons_zero, List.set_cons_succ, h7, h15, h16] at hK ⊢
                    go_simp
                    exact hK.out _ _ (Below.refl _ _) rfl
                  refine owes_cons (Owes.mk (o := ({ dst := some 48, op := .load 77 (.tmp 47), type := 77, pos := "ref.go:142", after := #[{ on := 17, ground := .data }, { on := 7, ground := .guard }], guard := some (7, true) } : Oper)) rfl (fun v wk hj hD K hK => ?_)) ?_
                  · have h7 : v 7 = (.bool true) := hD 7 (by decide)
                    have h17 : v 17 = (.pointer (some ⟨b, off + k * 5, none⟩)) := hD 17 (by decide)
                    simp only [q8D, q8E, putAll, Act.put, List.getD_cons_succ, List.getD_cons_zero, List.setIfInBounds_toArray, List.set_cons_zero, List.set_cons_succ, h7, h17] at hK ⊢
                    obtain ⟨q0, q1, q2, q3, q4⟩ := CY.out.keep (lo := 0) (Kept.of_below hj (Nat.le_refl _)) (Nat.zero_le _) hbl
                    go_simp
                    exact hK.out _ _ (Below.refl _ _) rfl
                  refine owes_cons (Owes.mk (o := ({ dst := some 49, op := .call { callee := .value (.func 131), args := #[.tmp 43, .tmp 48], argTypes := #[77, 77] }, type := 3, pos := "ref.go:142", after := #[{ on := 13, ground := .data }, { on := 18, ground := .data }, { on := 7, ground := .chain }, { on := 7, ground := .guard }], guard := some (7, true) } : Oper)) rfl (fun v wk hj hD K hK => ?_)) ?_
                  · have h7 : v 7 = (.bool true) := hD 7 (by decide)
                    have h13 : v 13 = yp.v := hD 13 (by decide)
                    have h18 : v 18 = y.v := hD 18 (by decide)
                    simp only [q8D, q8E, putAll, Act.put, List.getD_cons_succ, List.getD_cons_zero, List.setIfInBounds_toArray, List.set_cons_zero, List.set_cons_succ, h7, h13, h18] at hK ⊢
                    go_simp
                    refine (refCmp_at _ _ yp y (IP.out.next hj) (IY.out.next hj)).mono ?_
                    rintro e w2 ⟨rfl, hb⟩
                    exact hK.out _ _ hb (show Value.int _ _ = _ by rw [HP.out])
                  refine owes_cons (Owes.mk (o := ({ dst := some 50, op := .binOp .neq 3 (.tmp 49) (.const (.int .i64 (-1))) 3, type := 4, pos := "ref.go:142", after := #[{ on := 19, ground := .data }, { on := 7, ground := .guard }], guard := some (7, true) } : Oper)) rfl (fun v wk hj hD K hK => ?_)) ?_
                  · have h7 : v 7 = (.bool true) := hD 7 (by decide)
                    have h19 : v 19 = (.int .i64 (p)) := hD 19 (by decide)
                    simp only [q8D, q8E, putAll, Act.put, List.getD_cons_succ, List.getD_cons_zero, List.setIfInBounds_toArray, List.set_cons_zero, List.set_cons_succ, h7, h19] at hK ⊢
                    go_simp
                    exact hK.out _ _ (Below.refl _ _) rfl
                  refine owes_cons (Owes.mk (o := ({ dst := some 51, op := .pick (.tmp 37) (.tmp 50) (.const (.bool false)), type := 4, pos := "ref.go:142", after := #[{ on := 7, ground := .data }, { on := 20, ground := .data }], guard := none } : Oper)) rfl (fun v wk hj hD K hK => ?_)) ?_
                  · have h7 : v 7 = (.bool true) := hD 7 (by decide)
                    have h20 : v 20 = (.bool true) := hD 20 (by decide)
                    simp only [q8D, q8E, putAll, Act.put, List.getD_cons_succ, List.getD_cons_zero, List.setIfInBounds_toArray, List.set_cons_zero, List.set_cons_succ, h7, h20] at hK ⊢
                    go_simp
                    exact hK.out _ _ (Below.refl _ _) rfl
                  exact owes_nil
                · intro v wf hj hr
                  have hl : v 21 = (.bool true) := hr 21 (by decide)
                  simp only [q8D, putAll, Act.put, List.getD_cons_succ, List.getD_cons_zero, List.setIfInBounds_toArray, List.set_cons_zero, List.set_cons_succ, hl]
                  clear hl hr
                  go_wp2_with fail
                  go_ret
                  exact ⟨by rw [FIN.out]; rfl, bnext BY.out hj⟩
            · have kz : ¬ (0 : Int) < (k : Int) := by omega
              have dz : decide ((0 : Int) < (k : Int)) = false := decide_eq_false kz
              have NX := Lib.hid (hS.out.next TY.out HOK.out (fun _ i x' hi _ => absurd hi (by omega)))
              go_wp2_with fail
              refine region_phase_all [0, 1, 2, 3, 4, 5, 6, 7, 8, 9, 10, 11, 12, 13, 14, 15, 16, 17, 18, 19, 20, 21] q8D q8E (fun w' => Below wy.heap.size wy w') (saidOf [Is (.pointer (some ⟨g, 0, none⟩)), Is (.int .i64 (x.t.k)), Is (.bool true), Is (.bool true), Is (.int .i64 ((k : Int))), Is (.bool false), Is (.bool false), Is (.bool false), Is undef, Is undef, Is undef, Is undef, Is undef, Is undef, Is undef, Is undef, Is undef, Is undef, Is undef, Is undef, Is undef, Is (.bool false)]) 68 rfl (by kernel_rfl) (by kernel_rfl) (by kernel_rfl) (fun _ _ h hb => bnext h hb) (stays_said _ (stays_cons (Is.stays _) (stays_cons (Is.stays _) (stays_cons (Is.stays _) (stays_cons (Is.stays _) (stays_cons (Is.stays _) (stays_cons (Is.stays _) (stays_cons (Is.stays _) (stays_cons (Is.stays _) (stays_cons (Is.stays _) (stays_cons (Is.stays _) (stays_cons (Is.stays _) (stays_cons (Is.stays _) (stays_cons (Is.stays _) (stays_cons (Is.stays _) (stays_cons (Is.stays _) (stays_cons (Is.stays _) (stays_cons (Is.stays _) (stays_cons (Is.stays _) (stays_cons (Is.stays _) (stays_cons (Is.stays _) (stays_cons (Is.stays _) (stays_cons (Is.stays _) stays_nil))))))))))))))))))))))) (below_drewN _ _ 1) (by kernel_rfl) ?_ ?_
              · skip
                refine owes_cons (Owes.mk (o := ({ dst := some 30, op := .fieldAddr 77 (.tmp 2) 0, type := 0, pos := "ref.go:142", after := #[], guard := none } : Oper)) rfl (fun v wk hj hD K hK => ?_)) ?_
                · simp only [q8D, q8E, putAll, Act.put, List.getD_cons_zero, List.setIfInBounds_toArray, List.set_cons_zero, List.set_cons_succ] at hK ⊢
                  go_simp
                  exact hK.out _ _ (Below.refl _ _) rfl
                refine owes_cons (Owes.mk (o := ({ dst := some 31, op := .load 3 (.tmp 30), type := 3, pos := "ref.go:142", after := #[{ on := 0, ground := .data }], guard := none } : Oper)) rfl (fun v wk hj hD K hK => ?_)) ?_
                · have h0 : v 0 = (.pointer (some ⟨g, 0, none⟩)) := hD 0 (by decide)
                  simp only [q8D, q8E, putAll, Act.put, List.getD_cons_succ, List.getD_cons_zero, List.setIfInBounds_toArray, List.set_cons_zero, List.set_cons_succ, h0] at hK ⊢
                  obtain ⟨q0, q1, q2, q3, q4, _⟩ := HBX.out.below hj hgl
                  go_simp
                  exact hK.out _ _ (Below.refl _ _) rfl
                refine owes_cons (Owes.mk (o := ({ dst := some 32, op := .binOp .eql 3 (.tmp 31) (.const (.int .i64 7)) 3, type := 4, pos := "ref.go:142", after := #[{ on := 1, ground := .data }], guard := none } : Oper)) rfl (fun v wk hj hD K hK => ?_)) ?_
                · have h1 : v 1 = (.int .i64 (x.t.k)) := hD 1 (by decide)
                  simp only [q8D, q8E, putAll, Act.put, List.getD_cons_succ, List.getD_cons_zero, List.setIfInBounds_toArray, List.set_cons_zero, List.set_cons_succ, h1] at hK ⊢
                  go_simp
                  exact hK.out _ _ (Below.refl _ _) rfl
                refine owes_cons (Owes.mk (o := ({ dst := some 33, op := .move (.tmp 32), type := 4, pos := "ref.go:142", after := #[{ on := 2, ground := .data }], guard := none } : Oper)) rfl (fun v wk hj hD K hK => ?_)) ?_
                · have h2 : v 2 = (.bool true) := hD 2 (by decide)
                  simp only [q8D, q8E, putAll, Act.put, List.getD_cons_succ, List.getD_cons_zero, List.setIfInBounds_toArray, List.set_cons_zero, List.set_cons_succ, h2] at hK ⊢
                  go_simp
                  exact hK.out _ _ (Below.refl _ _) rfl
                refine owes_cons (Owes.mk (o := ({ dst := some 34, op := .move (.tmp 5), type := 3, pos := "ref.go:142", after := #[{ on := 3, ground := .guard }], guard := some (3, true) } : Oper)) rfl (fun v wk hj hD K hK => ?_)) ?_
                · have h3 : v 3 = (.bool true) := hD 3 (by decide)
                  simp only [q8D, q8E, putAll, Act.put, List.getD_cons_succ, List.getD_cons_zero, List.setIfInBounds_toArray, List.set_cons_zero, List.set_cons_succ, h3] at hK ⊢
                  go_simp
                  exact hK.out _ _ (Below.refl _ _) rfl
                refine owes_cons (Owes.mk (o := ({ dst := some 35, op := .binOp .gtr 3 (.tmp 34) (.const (.int .i64 0)) 3, type := 4, pos := "ref.go:142", after := #[{ on := 4, ground := .data }, { on := 3, ground := .guard }], guard := some (3, true) } : Oper)) rfl (fun v wk hj hD K hK => ?_)) ?_
                · have h3 : v 3 = (.bool true) := hD 3 (by decide)
                  have h4 : v 4 = (.int .i64 ((k : Int))) := hD 4 (by decide)
                  simp only [q8D, q8E, putAll, Act.put, List.getD_cons_succ, List.getD_cons_zero, List.setIfInBounds_toArray, List.set_cons_zero, List.set_cons_succ, h3, h4] at hK ⊢
                  go_simp
                  exact hK.out _ _ (Below.refl _ _) rfl
                refine owes_cons (Owes.mk (o := ({ dst := some 36, op := .pick (.tmp 33) (.tmp 35) (.const (.bool false)), type := 4, pos := "ref.go:142", after := #[{ on := 3, ground := .data }, { on := 5, ground := .data }], guard := none } : Oper)) rfl (fun v wk hj hD K hK => ?_)) ?_
                · have h3 : v 3 = (.bool true) := hD 3 (by decide)
                  have h5 : v 5 = (.bool false) := hD 5 (by decide)
                  simp only [q8D, q8E, putAll, Act.put, List.getD_cons_succ, List.getD_cons_zero, List.setIfInBounds_toArray, List.set_cons_zero, List.set_cons_succ, h3, h5] at hK ⊢
                  go_simp
                  exact hK.out _ _ (Below.refl _ _) rfl
                refine owes_cons (Owes.mk (o := ({ dst := some 37, op := .move (.tmp 36), type := 4, pos := "ref.go:142", after := #[{ on := 6, ground := .data }, { on := 3, ground := .chain }], guard := none } : Oper)) rfl (fun v wk hj hD K hK => ?_)) ?_
                · have h6 : v 6 = (.bool false) := hD 6 (by decide)
                  simp only [q8D, q8E, putAll, Act.put, List.getD_cons_succ, List.getD_cons_zero, List.setIfInBounds_toArray, List.set_cons_zero, List.set_cons_succ, h6] at hK ⊢
                  go_simp
                  exact hK.out _ _ (Below.refl _ _) rfl
                refine owes_cons (Owes.mk (o := ({ dst := some 38, op := .fieldAddr 77 (.tmp 2) 3, type := 0, pos := "ref.go:142", after := #[{ on := 7, ground := .guard }], guard := some (7, true) } : Oper)) rfl (fun v wk hj hD K hK => ?_)) ?_
                · have h7 : v 7 = (.bool false) := hD 7 (by decide)
                  simp only [q8D, q8E, putAll, Act.put, List.getD_cons_succ, List.getD_cons_zero, List.setIfInBounds_toArray, List.set_cons_zero, List.set_cons_succ, h7] at hK ⊢
                  go_simp
                  exact hK.out _ _ (Below.refl _ _) rfl
                refine owes_cons (Owes.mk (o := ({ dst := some 39, op := .load 75 (.tmp 38), type := 75, pos := "ref.go:142", after := #[{ on := 8, ground := .data }, { on := 7, ground := .guard }], guard := some (7, true) } : Oper)) rfl (fun v wk hj hD K hK => ?_)) ?_
                · have h7 : v 7 = (.bool false) := hD 7 (by decide)
                  have h8 : v 8 = undef := hD 8 (by decide)
                  simp only [q8D, q8E, putAll, Act.put, List.getD_cons_succ, List.getD_cons_zero, List.setIfInBounds_toArray, List.set_cons_zero, List.set_cons_succ, h7, h8] at hK ⊢
                  go_simp
                  exact hK.out _ _ (Below.refl _ _) rfl
                refine owes_cons (Owes.mk (o := ({ dst := some 40, op := .move (.tmp 5), type := 3, pos := "ref.go:142", after := #[{ on := 7, ground := .guard }], guard := some (7, true) } : Oper)) rfl (fun v wk hj hD K hK => ?_)) ?_
                · have h7 : v 7 = (.bool false) := hD 7 (by decide)
                  simp only [q8D, q8E, putAll, Act.put, List.getD_cons_succ, List.getD_cons_zero, List.setIfInBounds_toArray, List.set_cons_zero, List.set_cons_succ, h7] at hK ⊢
                  go_simp
                  exact hK.out _ _ (Below.refl _ _) rfl
                refine owes_cons (Owes.mk (o := ({ dst := some 41, op := .binOp .sub 3 (.tmp 40) (.const (.int .i64 1)) 3, type := 3, pos := "ref.go:142", after := #[{ on := 10, ground := .data }, { on := 7, ground := .guard }], guard := some (7, true) } : Oper)) rfl (fun v wk hj hD K hK => ?_)) ?_
                · have h7 : v 7 = (.bool false) := hD 7 (by decide)
                  have h10 : v 10 = undef := hD 10 (by decide)
                  simp only [q8D, q8E, putAll, Act.put, List.getD_cons_succ, List.getD_cons_zero, List.setIfInBounds_toArray, List.set_cons_zero, List.set_cons_succ, h7, h10] at hK ⊢
                  go_simp
                  exact hK.out _ _ (Below.refl _ _) rfl
                refine owes_cons (Owes.mk (o := ({ dst := some 42, op := .indexAddr 75 (.tmp 39) (.tmp 41), type := 0, pos := "ref.go:142", after := #[{ on := 9, ground := .data }, { on := 11, ground := .data }, { on := 7, ground := .guard }], guard := some (7, true) } : Oper)) rfl (fun v wk hj hD K hK => ?_)) ?_
                · have h7 : v 7 = (.bool false) := hD 7 (by decide)
                  have h9 : v 9 = undef := hD 9 (by decide)
                  have h11 : v 11 = undef := hD 11 (by decide)
                  simp only [q8D, q8E, putAll, Act.put, List.getD_cons_succ, List.getD_cons_zero, List.setIfInBounds_toArray, List.set_cons_zero, List.set_cons_succ, h7, h9, h11] at hK ⊢
                  go_simp
                  exact hK.out _ _ (Below.refl _ _) rfl
                refine owes_cons (Owes.mk (o := ({ dst := some 43, op := .load 77 (.tmp 42), type := 77, pos := "ref.go:142", after := #[{ on := 12, ground := .data }, { on := 7, ground := .guard }], guard := some (7, true) } : Oper)) rfl (fun v wk hj hD K hK => ?_)) ?_
                · have h7 : v 7 = (.bool false) := hD 7 (by decide)
                  have h12 : v 12 = undef := hD 12 (by decide)
                  simp only [q8D, q8E, putAll, Act.put, List.getD_cons_succ, List.getD_cons_zero, List.setIfInBounds_toArray, List.set_cons_zero, List.set_cons_succ, h7, h12] at hK ⊢
                  go_simp
                  exact hK.out _ _ (Below.refl _ _) rfl
                refine owes_cons (Owes.mk (o := ({ dst := some 44, op := .fieldAddr 77 (.tmp 2) 3, type := 0, pos := "ref.go:142", after := #[{ on := 7, ground := .guard }], guard := some (7, true) } : Oper)) rfl (fun v wk hj hD K hK => ?_)) ?_
                · have h7 : v 7 = (.bool false) := hD 7 (by decide)
                  simp only [q8D, q8E, putAll, Act.put, List.getD_cons_succ, List.getD_cons_zero, List.setIfInBounds_toArray, List.set_cons_zero, List.set_cons_succ, h7] at hK ⊢
                  go_simp
                  exact hK.out _ _ (Below.refl _ _) rfl
                refine owes_cons (Owes.mk (o := ({ dst := some 45, op := .load 75 (.tmp 44), type := 75, pos := "ref.go:142", after := #[{ on := 14, ground := .data }, { on := 7, ground := .guard }], guard := some (7, true) } : Oper)) rfl (fun v wk hj hD K hK => ?_)) ?_
                · have h7 : v 7 = (.bool false) := hD 7 (by decide)
                  have h14 : v 14 = undef := hD 14 (by decide)
                  simp only [q8D, q8E, putAll, Act.put, List.getD_cons_succ, List.getD_cons_zero, List.setIfInBounds_toArray, List.set_cons_zero, List.set_cons_succ, h7, h14] at hK ⊢
                  go_simp
                  exact hK.out _ _ (Below.refl _ _) rfl
                refine owes_cons (Owes.mk (o := ({ dst := some 46, op := .move (.tmp 5), type := 3, pos := "ref.go:142", after := #[{ on := 7, ground := .guard }], guard := some (7, true) } : Oper)) rfl (fun v wk hj hD K hK => ?_)) ?_
                · have h7 : v 7 = (.bool false) := hD 7 (by decide)
                  simp only [q8D, q8E, putAll, Act.put, List.getD_cons_succ, List.getD_cons_zero, List.setIfInBounds_toArray, List.set_cons_zero, List.set_cons_succ, h7] at hK ⊢
                  go_simp
                  exact hK.out _ _ (Below.refl _ _) rfl
                refine owes_cons (Owes.mk (o := ({ dst := some 47, op := .indexAddr 75 (.tmp 45) (.tmp 46), type := 0, pos := "ref.go:142", after := #[{ on := 15, ground := .data }, { on := 16, ground := .data }, { on := 7, ground := .guard }], guard := some (7, true) } : Oper)) rfl (fun v wk hj hD K hK => ?_)) ?_
                · have h7 : v 7 = (.bool false) := hD 7 (by decide)
                  have h15 : v 15 = undef := hD 15 (by decide)
                  have h16 : v 16 = undef := hD 16 (by decide)
                  simp only [q8D, q8E, putAll, Act.put, List.getD_cons_succ, List.getD_cons_zero, List.setIfInBounds_toArray, List.set_cons_zero, List.set_cons_succ, h7, h15, h16] at hK ⊢
                  go_simp
                  exact hK.out _ _ (Below.refl _ _) rfl
                refine owes_cons (Owes.mk (o := ({ dst := some 48, op := .load 77 (.tmp 47), type := 77, pos := "ref.go:142", after := #[{ on := 17, ground := .data }, { on := 7, ground := .guard }], guard := some (7, true) } : Oper)) rfl (fun v wk hj hD K hK => ?_)) ?_
                · have h7 : v 7 = (.bool false) := hD 7 (by decide)
                  have h17 : v 17 = undef := hD 17 (by decide)
                  simp only [q8D, q8E, putAll, Act.put, List.getD_cons_succ, List.getD_cons_zero, List.setIfInBounds_toArray, List.set_cons_zero, List.set_cons_succ, h7, h17] at hK ⊢
                  go_simp
                  exact hK.out _ _ (Below.refl _ _) rfl
                refine owes_cons (Owes.mk (o := ({ dst := some 49, op := .call { callee := .value (.func 131), args := #[.tmp 43, .tmp 48], argTypes := #[77, 77] }, type := 3, pos := "ref.go:142", after := #[{ on := 13, ground := .data }, { on := 18, ground := .data }, { on := 7, ground := .chain }, { on := 7, ground := .guard }], guard := some (7, true) } : Oper)) rfl (fun v wk hj hD K hK => ?_)) ?_
                · have h7 : v 7 = (.bool false) := hD 7 (by decide)
                  have h13 : v 13 = undef := hD 13 (by decide)
                  have h18 : v 18 = undef := hD 18 (by decide)
                  simp only [q8D, q8E, putAll, Act.put, List.getD_cons_succ, List.getD_cons_zero, List.setIfInBounds_toArray, List.set_cons_zero, List.set_cons_succ, h7, h13, h18] at hK ⊢
                  go_simp
                  exact hK.out _ _ (Below.refl _ _) rfl
                refine owes_cons (Owes.mk (o := ({ dst := some 50, op := .binOp .neq 3 (.tmp 49) (.const (.int .i64 (-1))) 3, type := 4, pos := "ref.go:142", after := #[{ on := 19, ground := .data }, { on := 7, ground := .guard }], guard := some (7, true) } : Oper)) rfl (fun v wk hj hD K hK => ?_)) ?_
                · have h7 : v 7 = (.bool false) := hD 7 (by decide)
                  have h19 : v 19 = undef := hD 19 (by decide)
                  simp only [q8D, q8E, putAll, Act.put, List.getD_cons_succ, List.getD_cons_zero, List.setIfInBounds_toArray, List.set_cons_zero, List.set_cons_succ, h7, h19] at hK ⊢
                  go_simp
                  exact hK.out _ _ (Below.refl _ _) rfl
                refine owes_cons (Owes.mk (o := ({ dst := some 51, op := .pick (.tmp 37) (.tmp 50) (.const (.bool false)), type := 4, pos := "ref.go:142", after := #[{ on := 7, ground := .data }, { on := 20, ground := .data }], guard := none } : Oper)) rfl (fun v wk hj hD K hK => ?_)) ?_
                · have h7 : v 7 = (.bool false) := hD 7 (by decide)
                  have h20 : v 20 = undef := hD 20 (by decide)
                  simp only [q8D, q8E, putAll, Act.put, List.getD_cons_succ, List.getD_cons_zero, List.setIfInBounds_toArray, List.set_cons_zero, List.set_cons_succ, h7, h20] at hK ⊢
                  go_simp
                  exact hK.out _ _ (Below.refl _ _) rfl
                exact owes_nil
              · intro v wf hj hr
                have hl : v 21 = (.bool false) := hr 21 (by decide)
                simp only [q8D, putAll, Act.put, List.getD_cons_succ, List.getD_cons_zero, List.setIfInBounds_toArray, List.set_cons_zero, List.set_cons_succ, hl]
                clear hl hr
                go_wp2
                go_roundw
                case rel => exact ⟨k + 1, by omega, by go_num, NX, Lib.hid (bnext BY1.out hj)⟩
                case measure => simp [intOf]; omega
          · have hk7 : (x.t.k == 7) = false := by simpa using h7
            have NX := Lib.hid (hS.out.next TY.out HOK.out (fun h => absurd h h7))
            clear h7
            go_wp2_with fail
            refine region_phase_all [0, 1, 2, 3, 4, 5, 6, 7, 8, 9, 10, 11, 12, 13, 14, 15, 16, 17, 18, 19, 20, 21] q8D q8E (fun w' => Below wy.heap.size wy w') (saidOf [Is (.pointer (some ⟨g, 0, none⟩)), Is (.int .i64 (x.t.k)), Is (.bool false), Is (.bool false), Is undef, Is undef, Is (.bool false), Is (.bool false), Is undef, Is undef, Is undef, Is undef, Is undef, Is undef, Is undef, Is undef, Is undef, Is undef, Is undef, Is undef, Is undef, Is (.bool false)]) 68 rfl (by kernel_rfl) (by kernel_rfl) (by kernel_rfl) (fun _ _ h hb => bnext h hb) (stays_said _ (stays_cons (Is.stays _) (stays_cons (Is.stays _) (stays_cons (Is.stays _) (stays_cons (Is.stays _) (stays_cons (Is.stays _) (stays_cons (Is.stays _) (stays_cons (Is.stays _) (stays_cons (Is.stays _) (stays_cons (Is.stays _) (stays_cons (Is.stays _) (stays_cons (Is.stays _) (stays_cons (Is.stays _) (stays_cons (Is.stays _) (stays_cons (Is.stays _) (stays_cons (Is.stays _) (stays_cons (Is.stays _) (stays_cons (Is.stays _) (stays_cons (Is.stays _) (stays_cons (Is.stays _) (stays_cons (Is.stays _) (stays_cons (Is.stays _) (stays_cons (Is.stays _) stays_nil))))))))))))))))))))))) (below_drewN _ _ 1) (by kernel_rfl) ?_ ?_
            · skip
              refine owes_cons (Owes.mk (o := ({ dst := some 30, op := .fieldAddr 77 (.tmp 2) 0, type := 0, pos := "ref.go:142", after := #[], guard := none } : Oper)) rfl (fun v wk hj hD K hK => ?_)) ?_
              · simp only [q8D, q8E, putAll, Act.put, List.getD_cons_zero, List.setIfInBounds_toArray, List.set_cons_zero, List.set_cons_succ] at hK ⊢
                go_simp
                exact hK.out _ _ (Below.refl _ _) rfl
              refine owes_cons (Owes.mk (o := ({ dst := some 31, op := .load 3 (.tmp 30), type := 3, pos := "ref.go:142", after := #[{ on := 0, ground := .data }], guard := none } : Oper)) rfl (fun v wk hj hD K hK => ?_)) ?_
              · have h0 : v 0 = (.pointer (some ⟨g, 0, none⟩)) := hD 0 (by decide)
                simp only [q8D, q8E, putAll, Act.put, List.getD_cons_succ, List.getD_cons_zero, List.setIfInBounds_toArray, List.set_cons_zero, List.set_cons_succ, h0] at hK ⊢
                obtain ⟨q0, q1, q2, q3, q4, _⟩ := HBX.out.below hj hgl
                go_simp
                exact hK.out _ _ (Below.refl _ _) rfl
              refine owes_cons (Owes.mk (o := ({ dst := some 32, op := .binOp .eql 3 (.tmp 31) (.const (.int .i64 7)) 3, type := 4, pos := "ref.go:142", after := #[{ on := 1, ground := .data }], guard := none } : Oper)) rfl (fun v wk hj hD K hK => ?_)) ?_
              · have h1 : v 1 = (.int .i64 (x.t.k)) := hD 1 (by decide)
                simp only [q8D, q8E, putAll, Act.put, List.getD_cons_succ, List.getD_cons_zero, List.setIfInBounds_toArray, List.set_cons_zero, List.set_cons_succ, h1] at hK ⊢
                go_simp
                exact hK.out _ _ (Below.refl _ _) rfl
              refine owes_cons (Owes.mk (o := ({ dst := some 33, op := .move (.tmp 32), type := 4, pos := "ref.go:142", after := #[{ on := 2, ground := .data }], guard := none } : Oper)) rfl (fun v wk hj hD K hK => ?_)) ?_
              · have h2 : v 2 = (.bool false) := hD 2 (by decide)
                simp only [q8D, q8E, putAll, Act.put, List.getD_cons_succ, List.getD_cons_zero, List.setIfInBounds_toArray, List.set_cons_zero, List.set_cons_succ, h2] at hK ⊢
                go_simp
                exact hK.out _ _ (Below.refl _ _) rfl
              refine owes_cons (Owes.mk (o := ({ dst := some 34, op := .move (.tmp 5), type := 3, pos := "ref.go:142", after := #[{ on := 3, ground := .guard }], guard := some (3, true) } : Oper)) rfl (fun v wk hj hD K hK => ?_)) ?_
              · have h3 : v 3 = (.bool false) := hD 3 (by decide)
                simp only [q8D, q8E, putAll, Act.put, List.getD_cons_succ, List.getD_cons_zero, List.setIfInBounds_toArray, List.set_cons_zero, List.set_cons_succ, h3] at hK ⊢
                go_simp
                exact hK.out _ _ (Below.refl _ _) rfl
              refine owes_cons (Owes.mk (o := ({ dst := some 35, op := .binOp .gtr 3 (.tmp 34) (.const (.int .i64 0)) 3, type := 4, pos := "ref.go:142", after := #[{ on := 4, ground := .data }, { on := 3, ground := .guard }], guard := some (3, true) } : Oper)) rfl (fun v wk hj hD K hK => ?_)) ?_
              · have h3 : v 3 = (.bool false) := hD 3 (by decide)
                have h4 : v 4 = undef := hD 4 (by decide)
                simp only [q8D, q8E, putAll, Act.put, List.getD_cons_succ, List.getD_cons_zero, List.setIfInBounds_toArray, List.set_cons_zero, List.set_cons_succ, h3, h4] at hK ⊢
                go_simp
                exact hK.out _ _ (Below.refl _ _) rfl
              refine owes_cons (Owes.mk (o := ({ dst := some 36, op := .pick (.tmp 33) (.tmp 35) (.const (.bool false)), type := 4, pos := "ref.go:142", after := #[{ on := 3, ground := .data }, { on := 5, ground := .data }], guard := none } : Oper)) rfl (fun v wk hj hD K hK => ?_)) ?_
              · have h3 : v 3 = (.bool false) := hD 3 (by decide)
                have h5 : v 5 = undef := hD 5 (by decide)
                simp only [q8D, q8E, putAll, Act.put, List.getD_cons_succ, List.getD_cons_zero, List.setIfInBounds_toArray, List.set_cons_zero, List.set_cons_succ, h3, h5] at hK ⊢
                go_simp
                exact hK.out _ _ (Below.refl _ _) rfl
              refine owes_cons (Owes.mk (o := ({ dst := some 37, op := .move (.tmp 36), type := 4, pos := "ref.go:142", after := #[{ on := 6, ground := .data }, { on := 3, ground := .chain }], guard := none } : Oper)) rfl (fun v wk hj hD K hK => ?_)) ?_
              · have h6 : v 6 = (.bool false) := hD 6 (by decide)
                simp only [q8D, q8E, putAll, Act.put, List.getD_cons_succ, List.getD_cons_zero, List.setIfInBounds_toArray, List.set_cons_zero, List.set_cons_succ, h6] at hK ⊢
                go_simp
                exact hK.out _ _ (Below.refl _ _) rfl
              refine owes_cons (Owes.mk (o := ({ dst := some 38, op := .fieldAddr 77 (.tmp 2) 3, type := 0, pos := "ref.go:142", after := #[{ on := 7, ground := .guard }], guard := some (7, true) } : Oper)) rfl (fun v wk hj hD K hK => ?_)) ?_
              · have h7 : v 7 = (.bool false) := hD 7 (by decide)
                simp only [q8D, q8E, putAll, Act.put, List.getD_cons_succ, List.getD_cons_zero, List.setIfInBounds_toArray, List.set_cons_zero, List.set_cons_succ, h7] at hK ⊢
                go_simp
                exact hK.out _ _ (Below.refl _ _) rfl
              refine owes_cons (Owes.mk (o := ({ dst := some 39, op := .load 75 (.tmp 38), type := 75, pos := "ref.go:142", after := #[{ on := 8, ground := .data }, { on := 7, ground := .guard }], guard := some (7, true) } : Oper)) rfl (fun v wk hj hD K hK => ?_)) ?_
              · have h7 : v 7 = (.bool false) := hD 7 (by decide)
                have h8 : v 8 = undef := hD 8 (by decide)
                simp only [q8D, q8E, putAll, Act.put, List.getD_cons_succ, List.getD_cons_zero, List.setIfInBounds_toArray, List.set_cons_zero, List.set_cons_succ, h7, h8] at hK ⊢
                go_simp
                exact hK.out _ _ (Below.refl _ _) rfl
              refine owes_cons (Owes.mk (o := ({ dst := some 40, op := .move (.tmp 5), type := 3, pos := "ref.go:142", after := #[{ on := 7, ground := .guard }], guard := some (7, true) } : Oper)) rfl (fun v wk hj hD K hK => ?_)) ?_
              · have h7 : v 7 = (.bool false) := hD 7 (by decide)
                simp only [q8D, q8E, putAll, Act.put, List.getD_cons_succ, List.getD_cons_zero, List.setIfInBounds_toArray, List.set_cons_zero, List.set_cons_succ, h7] at hK ⊢
                go_simp
                exact hK.out _ _ (Below.refl _ _) rfl
              refine owes_cons (Owes.mk (o := ({ dst := some 41, op := .binOp .sub 3 (.tmp 40) (.const (.int .i64 1)) 3, type := 3, pos := "ref.go:142", after := #[{ on := 10, ground := .data }, { on := 7, ground := .guard }], guard := some (7, true) } : Oper)) rfl (fun v wk hj hD K hK => ?_)) ?_
              · have h7 : v 7 = (.bool false) := hD 7 (by decide)
                have h10 : v 10 = undef := hD 10 (by decide)
                simp only [q8D, q8E, putAll, Act.put, List.getD_cons_succ, List.getD_cons_zero, List.setIfInBounds_toArray, List.set_cons_zero, List.set_cons_succ, h7, h10] at hK ⊢
                go_simp
                exact hK.out _ _ (Below.refl _ _) rfl
              refine owes_cons (Owes.mk (o := ({ dst := some 42, op := .indexAddr 75 (.tmp 39) (.tmp 41), type := 0, pos := "ref.go:142", after := #[{ on := 9, ground := .data }, { on := 11, ground := .data }, { on := 7, ground := .guard }], guard := some (7, true) } : Oper)) rfl (fun v wk hj hD K hK => ?_)) ?_
              · have h7 : v 7 = (.bool false) := hD 7 (by decide)
                have h9 : v 9 = undef := hD 9 (by decide)
                have h11 : v 11 = undef := hD 11 (by decide)
                simp only [q8D, q8E, putAll, Act.put, List.getD_cons_succ, List.getD_cons_zero, List.setIfInBounds_toArray, List.set_cons_zero, List.set_cons_succ, h7, h9, h11] at hK ⊢
                go_simp
                exact hK.out _ _ (Below.refl _ _) rfl
              refine owes_cons (Owes.mk (o := ({ dst := some 43, op := .load 77 (.tmp 42), type := 77, pos := "ref.go:142", after := #[{ on := 12, ground := .data }, { on := 7, ground := .guard }], guard := some (7, true) } : Oper)) rfl (fun v wk hj hD K hK => ?_)) ?_
              · have h7 : v 7 = (.bool false) := hD 7 (by decide)
                have h12 : v 12 = undef := hD 12 (by decide)
                simp only [q8D, q8E, putAll, Act.put, List.getD_cons_succ, List.getD_cons_zero, List.setIfInBounds_toArray, List.set_cons_zero, List.set_cons_succ, h7, h12] at hK ⊢
                go_simp
                exact hK.out _ _ (Below.refl _ _) rfl
              refine owes_cons (Owes.mk (o := ({ dst := some 44, op := .fieldAddr 77 (.tmp 2) 3, type := 0, pos := "ref.go:142", after := #[{ on := 7, ground := .guard }], guard := some (7, true) } : Oper)) rfl (fun v wk hj hD K hK => ?_)) ?_
              · have h7 : v 7 = (.bool false) := hD 7 (by decide)
                simp only [q8D, q8E, putAll, Act.put, List.getD_cons_succ, List.getD_cons_zero, List.setIfInBounds_toArray, List.set_cons_zero, List.set_cons_succ, h7] at hK ⊢
                go_simp
                exact hK.out _ _ (Below.refl _ _) rfl
              refine owes_cons (Owes.mk (o := ({ dst := some 45, op := .load 75 (.tmp 44), type := 75, pos := "ref.go:142", after := #[{ on := 14, ground := .data }, { on := 7, ground := .guard }], guard := some (7, true) } : Oper)) rfl (fun v wk hj hD K hK => ?_)) ?_
              · have h7 : v 7 = (.bool false) := hD 7 (by decide)
                have h14 : v 14 = undef := hD 14 (by decide)
                simp only [q8D, q8E, putAll, Act.put, List.getD_cons_succ, List.getD_cons_zero, List.setIfInBounds_toArray, List.set_cons_zero, List.set_cons_succ, h7, h14] at hK ⊢
                go_simp
                exact hK.out _ _ (Below.refl _ _) rfl
              refine owes_cons (Owes.mk (o := ({ dst := some 46, op := .move (.tmp 5), type := 3, pos := "ref.go:142", after := #[{ on := 7, ground := .guard }], guard := some (7, true) } : Oper)) rfl (fun v wk hj hD K hK => ?_)) ?_
              · have h7 : v 7 = (.bool false) := hD 7 (by decide)
                simp only [q8D, q8E, putAll, Act.put, List.getD_cons_succ, List.getD_cons_zero, List.setIfInBounds_toArray, List.set_cons_zero, List.set_cons_succ, h7] at hK ⊢
                go_simp
                exact hK.out _ _ (Below.refl _ _) rfl
              refine owes_cons (Owes.mk (o := ({ dst := some 47, op := .indexAddr 75 (.tmp 45) (.tmp 46), type := 0, pos := "ref.go:142", after := #[{ on := 15, ground := .data }, { on := 16, ground := .data }, { on := 7, ground := .guard }], guard := some (7, true) } : Oper)) rfl (fun v wk hj hD K hK => ?_)) ?_
              · have h7 : v 7 = (.bool false) := hD 7 (by decide)
                have h15 : v 15 = undef := hD 15 (by decide)
                have h16 : v 16 = undef := hD 16 (by decide)
                simp only [q8D, q8E, putAll, Act.put, List.getD_cons_succ, List.getD_cons_zero, List.setIfInBounds_toArray, List.set_cons_zero, List.set_cons_succ, h7, h15, h16] at hK ⊢
                go_simp
                exact hK.out _ _ (Below.refl _ _) rfl
              refine owes_cons (Owes.mk (o := ({ dst := some 48, op := .load 77 (.tmp 47), type := 77, pos := "ref.go:142", after := #[{ on := 17, ground := .data }, { on := 7, ground := .guard }], guard := some (7, true) } : Oper)) rfl (fun v wk hj hD K hK => ?_)) ?_
              · have h7 : v 7 = (.bool false) := hD 7 (by decide)
                have h17 : v 17 = undef := hD 17 (by decide)
                simp only [q8D, q8E, putAll, Act.put, List.getD_cons_succ, List.getD_cons_zero, List.setIfInBounds_toArray, List.set_cons_zero, List.set_cons_succ, h7, h17] at hK ⊢
                go_simp
                exact hK.out _ _ (Below.refl _ _) rfl
              refine owes_cons (Owes.mk (o := ({ dst := some 49, op := .call { callee := .value (.func 131), args := #[.tmp 43, .tmp 48], argTypes := #[77, 77] }, type := 3, pos := "ref.go:142", after := #[{ on := 13, ground := .data }, { on := 18, ground := .data }, { on := 7, ground := .chain }, { on := 7, ground := .guard }], guard := some (7, true) } : Oper)) rfl (fun v wk hj hD K hK => ?_)) ?_
              · have h7 : v 7 = (.bool false) := hD 7 (by decide)
                have h13 : v 13 = undef := hD 13 (by decide)
                have h18 : v 18 = undef := hD 18 (by decide)
                simp only [q8D, q8E, putAll, Act.put, List.getD_cons_succ, List.getD_cons_zero, List.setIfInBounds_toArray, List.set_cons_zero, List.set_cons_succ, h7, h13, h18] at hK ⊢
                go_simp
                exact hK.out _ _ (Below.refl _ _) rfl
              refine owes_cons (Owes.mk (o := ({ dst := some 50, op := .binOp .neq 3 (.tmp 49) (.const (.int .i64 (-1))) 3, type := 4, pos := "ref.go:142", after := #[{ on := 19, ground := .data }, { on := 7, ground := .guard }], guard := some (7, true) } : Oper)) rfl (fun v wk hj hD K hK => ?_)) ?_
              · have h7 : v 7 = (.bool false) := hD 7 (by decide)
                have h19 : v 19 = undef := hD 19 (by decide)
                simp only [q8D, q8E, putAll, Act.put, List.getD_cons_succ, List.getD_cons_zero, List.setIfInBounds_toArray, List.set_cons_zero, List.set_cons_succ, h7, h19] at hK ⊢
                go_simp
                exact hK.out _ _ (Below.refl _ _) rfl
              refine owes_cons (Owes.mk (o := ({ dst := some 51, op := .pick (.tmp 37) (.tmp 50) (.const (.bool false)), type := 4, pos := "ref.go:142", after := #[{ on := 7, ground := .data }, { on := 20, ground := .data }], guard := none } : Oper)) rfl (fun v wk hj hD K hK => ?_)) ?_
              · have h7 : v 7 = (.bool false) := hD 7 (by decide)
                have h20 : v 20 = undef := hD 20 (by decide)
                simp only [q8D, q8E, putAll, Act.put, List.getD_cons_succ, List.getD_cons_zero, List.setIfInBounds_toArray, List.set_cons_zero, List.set_cons_succ, h7, h20] at hK ⊢
                go_simp
                exact hK.out _ _ (Below.refl _ _) rfl
              exact owes_nil
            · intro v wf hj hr
              have hl : v 21 = (.bool false) := hr 21 (by decide)
              simp only [q8D, putAll, Act.put, List.getD_cons_succ, List.getD_cons_zero, List.setIfInBounds_toArray, List.set_cons_zero, List.set_cons_succ, hl]
              clear hl hr
              go_wp2
              go_roundw
              case rel => exact ⟨k + 1, by omega, by go_num, NX, Lib.hid (bnext BY1.out hj)⟩
              case measure => simp [intOf]; omega
      · obtain rfl : k = x.t.l.length := by omega
        have AL : Hid (∀ z ∈ x.t.l, okV r z = true) := Lib.hid (fun z hz => by
          obtain ⟨i, hi, e⟩ := List.mem_iff_getElem.1 hz
          exact hS.out.ok i z hi (by rw [List.getElem?_eq_getElem hi, e]))
        have AU : Hid (x.t.k = 7 → risesV x.t.l = true) := Lib.hid (fun h7 => (rises_all x.t.l).2 fun i p q hp hq => hS.out.up h7 i p q (by have := (List.getElem?_eq_some_iff.1 hq).1; omega) hp hq)
        clear hS
        go_wp2_with fail
        go_loopw [6] (fun i wr => ∃ k : Nat, k ≤ x.t.m.length ∧ i = .int .i64 k ∧ Hid (∀ i z, i < k → x.t.m[i]? = some z → okV r z = true) ∧ Hid (Below w1.heap.size w1 wr)) (fun i _ => x.t.m.length - (intOf i).toNat)
        case atStart => exact ⟨0, by omega, rfl, Lib.hid (fun i z h => absurd h (by omega)), hBr⟩
        case round =>
          clear q0 q1 q2 q3 q4 BXr BR hBr hgr
          obtain ⟨k, hk2, rfl, hM, hBm⟩ := hrel
          have BXm := Lib.hid (BX1.out.next hBm.out)
          have BM := Lib.hid (bnext B1.out hBm.out)
          obtain ⟨q0, q1, q2, q3, q4, _⟩ := BXm.out
          by_cases hlt2 : k < x.t.m.length
          · obtain ⟨b, off, t, A1, c1, A2, c2, hA, _, hb, ht, q, rd⟩ := (HX.out.2.2.next BM.out).elem hlt2
            obtain ⟨y, hy⟩ : ∃ y : At, y = ⟨t, A1, c1, A2, c2⟩ := ⟨_, rfl⟩
            have CY0 : cells5 wr b (off + k * 5) y.t y.A y.c y.A' y.c' := by rw [hy]; exact q
            have IY : Hid (y.In wr d') := Lib.hid (by rw [hy]; exact rd)
            have TY := Lib.hid (show x.t.m[k]? = some y.t by rw [hy]; exact ht)
            clear q rd ht hy
            rw [hA] at q4
            clear hA
            obtain ⟨z0, z1, z2, z3, z4⟩ := CY0
            have k0 : (0 : Int) ≤ (k : Int) := by omega
            have k1 : (k : Int) < (x.t.m.length : Int) := by omega
            go_wp2_with fail
            refine (IH.out wr d' y (lev + 1) HL.out (by omega) IY.out).mono ?_
            rintro e wy ⟨rfl, hby⟩
            have BY := Lib.hid (bnext BM.out hby)
            have BY1 := Lib.hid (bnext hBm.out hby)
            clear q0 q1 q2 q3 q4 z0 z1 z2 z3 z4 hby BXm
            cases hok : okV r y.t
            · have FIN : Hid (okV (r + 1) x.t = false) := Lib.hid (no_of fun h => by
                have := ((ok_parts r x.t).1 h).2.2.1 y.t (List.mem_of_getElem? TY.out)
                rw [hok] at this; cases this)
              clear hok
              go_wp2_with fail
              go_ret
              exact ⟨by rw [FIN.out]; rfl, BY.out⟩
            · have NX : Hid (∀ i z, i < k + 1 → x.t.m[i]? = some z → okV r z = true) := Lib.hid (fun i z hi hz => by
                by_cases e : i = k
                · subst e; rw [TY.out] at hz; injection hz with hz; subst hz; exact hok
                · exact hM.out i z (by omega) hz)
              clear hok
              go_wp2
              go_roundw
              case rel => exact ⟨k + 1, by omega, by go_num, NX, BY1⟩
              case measure => simp [intOf]; omega
          · obtain rfl : k = x.t.m.length := by omega
            have FIN : Hid (okV (r + 1) x.t = true) := Lib.hid ((ok_parts r x.t).2 ⟨HF.out, AL.out, fun z hz => by
              obtain ⟨i, hi, e⟩ := List.mem_iff_getElem.1 hz
              exact hM.out i z hi (by rw [List.getElem?_eq_getElem hi, e]), AU.out⟩)
            go_wp2_with fail
            go_ret
            exact ⟨by rw [FIN.out]; rfl, BM.out⟩
theorem rright_any : ∀ r, RRight r
  | 0 => rright_zero
  | r + 1 => rright_succ r (rright_any r)
set_option maxHeartbeats 1600000 in
theorem refCheck_at (w : World) (d : Nat) (x : At) (hx : x.In w d) : Calls Tryz.prog 82 #[x.v] w fun e w' => e = .returned (.int .i64 (errI (okV 12 x.t))) ∧ Below w.heap.size w w' := by
  have HX := Lib.hid hx
  clear hx
  go_enter Tryz.func82, Tryz.ntmps82
  go_upto_region 1 with fail
  have bx := Bx.new w x
  generalize hW : World.alloc w _ = W at bx
  have HB := Lib.hid (show Below w.heap.size w W by rw [← hW]; exact below_new _ _)
  clear hW
  obtain ⟨a0, a1, a2, a3, a4, _⟩ := bx
  go_wp2_with fail
  refine (rright_any 12 W d x 1 (by omega) (by omega) (HX.out.next HB.out)).mono ?_
  rintro e w1 ⟨rfl, hb1⟩
  have B1 := Lib.hid (bnext HB.out hb1)
  clear hb1 a0 a1 a2 a3 a4
  cases hq : okV 12 x.t
  · go_wp2
    go_ret
    exact ⟨by rw [hq]; rfl, B1.out⟩
  · go_wp2
    go_ret
    exact ⟨by rw [hq]; rfl, B1.out⟩
end Go.Proofs.YtllkimdlmnjoiaaGreatDoor






