/- Carried over from an earlier seat. -/
import Derived.Test.YtllkimdlmnjoiaaGreatDoorTV
namespace Go.Proofs.YtllkimdlmnjoiaaGreatDoor
set_option maxRecDepth 100000
set_option maxRecDepth 100000
set_option maxRecDepth 100000
open Go.RowKit Go.Sort

theorem Pt.In.up {x : Pt} {w : World} {n m : Nat} (h : x.In w n) (hm : n ≤ m) : x.In w m := Pd.more h (Nat.le_refl _) (Nat.le_refl _) hm
def zeroA : At := ⟨zeroV, none, 0, none, 0⟩
def zeroPt : Pt := ⟨.mk 0 [] [], none, 0, none, 0⟩
theorem zeroA_in (w : World) : zeroA.In w 1 :=
  ⟨⟨by show (-9223372036854775808 : Int) ≤ 0; omega, by show (0 : Int) ≤ 9223372036854775807; omega, by show (-9223372036854775808 : Int) ≤ 0; omega, by show (0 : Int) ≤ 9223372036854775807; omega, by show (0 : Nat) ≤ _; omega⟩, rw_nil _ _ _ _, rw_nil _ _ _ _⟩
theorem zeroPt_in (w : World) : zeroPt.In w 1 := ⟨⟨by show (-9223372036854775808 : Int) ≤ 0; omega, by show (0 : Int) ≤ 9223372036854775807; omega⟩, ⟨0, rw_nil _ _ _ _⟩, pw_nil _ _ _ _⟩
theorem eqL_nil {α : Type} (f : α → α → Bool) (l : List α) : eqL f l [] = (l.length == 0) := by cases l <;> rfl
theorem sameP_zero (p : P) : sameP p (.mk 0 [] []) = isZeroP p := by
  rw [sameP_leaf p (.mk 0 [] []) rfl]
  show (p.k == 0 && (eqL _ p.v [] && eqL _ p.p [])) = _
  rw [eqL_nil, eqL_nil]
  unfold isZeroP
  rw [Bool.and_assoc]
theorem isZero_at (w : World) (d : Nat) (x : Pt) (hx : x.In w d) :
    Calls Tryz.prog 123 #[x.val, .agg #[.int .i64 0, .slice none 0 0, .slice none 0 0]] w fun e w' => e = .returned (.bool (isZeroP x.t)) ∧ Below w.heap.size w w' := by
  have := samePred_flat w (d + 1) x zeroPt rfl (hx.up (by omega)) (Pt.In.up (zeroPt_in w) (by omega))
  rw [show sameP x.t zeroPt.t = isZeroP x.t from sameP_zero x.t] at this
  exact this
theorem zero_at (w : World) (d : Nat) (x : At) (hx : x.In w d) :
    Calls Tryz.prog 122 #[x.v, .agg #[.int .i64 0, .int .i64 0, .string ⟨#[]⟩, .slice none 0 0, .slice none 0 0]] w fun e w' => e = .returned (.bool (cmpV 12 x.t zeroV == 0)) ∧ Below w.heap.size w w' :=
  same_at w d 1 x zeroA hx (zeroA_in w)
theorem box44 (w : World) (g : Gt) (W : World) (hW : w.alloc (.cells #[.int .i64 g.k, .int .i64 g.x.t.k, .int .i64 g.x.t.n, .string g.x.t.s, .slice g.x.A g.x.t.l.length g.x.c, .slice g.x.A' g.x.t.m.length g.x.c', .int .i64 g.q.t.k, .slice g.q.A g.q.t.v.length g.q.c, .slice g.q.A' g.q.t.p.length g.q.c', .slice g.A g.l.length g.c, .string g.s] 82) = W) : BG W w.heap.size g ∧ Below w.heap.size w W := by
  subst hW; exact ⟨BG.new w g, below_new _ _⟩
theorem box36 (w : World) (x : Ct) (W : World) (hW : w.alloc (.cells #[.string x.n, .slice x.A x.l.length x.c] 74) = W) : BC W w.heap.size x ∧ Below w.heap.size w W := by
  subst hW; exact ⟨BC.new w x, below_new _ _⟩
theorem len_zero {α : Type} (l : List α) : (l.length == 0) = ((l.length : Int) == 0) := by
  cases l <;> simp; omega


set_option maxHeartbeats 6400000 in
theorem fitsA_any (w : World) (d : Nat) (g : Gt) (hg : g.In w d) : Calls Tryz.prog 101 #[g.val] w fun e w' => e = .returned (.bool (fitsA g.t)) ∧ Below w.heap.size w w' := by
  obtain ⟨nv, hv⟩ := hg.v
  obtain ⟨np, hp⟩ := hg.p
  have HV := Lib.hid (show g.x.In w nv from hv)
  have HP := Lib.hid (show g.q.In w np from hp)
  have FIN := Lib.hid (show fitsA g.t = (((g.k == 1) || (cmpV 12 g.x.t zeroV == 0)) && ((g.k == 2) || isZeroP g.q.t) && ((g.k == 3) || ((g.l.length : Int) == 0)) && ((g.k == 4) || g.s.toList.isEmpty)) by rw [← len_zero]; rfl)
  obtain ⟨ans, hans⟩ : ∃ b, b = fitsA g.t := ⟨_, rfl⟩
  rw [← hans] at FIN ⊢
  have hbg := hg.c.big
  clear hg hv hp hans
  go_enter Tryz.func101, Tryz.ntmps101
  go_upto_region 1 with fail
  generalize hW : World.alloc w _ = W
  obtain ⟨k1, hb⟩ := box44 _ _ _ hW
  have K1 := Lib.hid k1
  have HB := Lib.hid hb
  obtain ⟨a0, a1, a2, a3, a4, a5, a6, a7, a8, a9, a10, _⟩ := k1
  clear hW hb
  by_cases h : g.k = 1 ∨ g.k = 2 ∨ g.k = 3 ∨ g.k = 4
  · rcases h with hk | hk | hk | hk
    · have n1 : (g.k == 1) = true := by rw [hk]; rfl
      have n2 : (g.k == 2) = false := by rw [hk]; rfl
      have n3 : (g.k == 3) = false := by rw [hk]; rfl
      have n4 : (g.k == 4) = false := by rw [hk]; rfl
      rw [n1, n2, n3, n4] at FIN
      clear hk
      have CT := Lib.hid (isZero_at W _ g.q (HP.out.next HB.out))
      generalize isZeroP g.q.t = b2 at *
      go_wp2_with fail
      refine CT.out.mono ?_
      rintro e w1 ⟨rfl, hb⟩
      have HB1 := Lib.hid (bnext HB.out hb)
      have K3 := Lib.hid (K1.out.next hb)
      clear hb CT a0 a1 a2 a3 a4 a5 a6 a7 a8 a9 a10
      obtain ⟨a0, a1, a2, a3, a4, a5, a6, a7, a8, a9, a10, _⟩ := K3.out
      cases b2
      case false =>
        go_wp2_with fail
        go_ret
        exact ⟨by rw [FIN.out]; rfl, HB1.out⟩
      cases hc : ((g.l.length : Int) == 0) <;> cases hs : g.s.toList.isEmpty
      all_goals
        rw [hc, hs] at FIN
        go_wp2_with fail
        go_ret
        exact ⟨by rw [FIN.out]; first | rfl | (simp only [hc, hs]; rfl), HB1.out⟩
    · have n1 : (g.k == 1) = false := by rw [hk]; rfl
      have n2 : (g.k == 2) = true := by rw [hk]; rfl
      have n3 : (g.k == 3) = false := by rw [hk]; rfl
      have n4 : (g.k == 4) = false := by rw [hk]; rfl
      rw [n1, n2, n3, n4] at FIN
      clear hk
      have CT := Lib.hid (zero_at W _ g.x (HV.out.next HB.out))
      generalize (cmpV 12 g.x.t zeroV == 0) = b1 at *
      go_wp2_with fail
      refine CT.out.mono ?_
      rintro e w1 ⟨rfl, hb⟩
      have HB1 := Lib.hid (bnext HB.out hb)
      have K2 := Lib.hid (K1.out.next hb)
      clear hb CT a0 a1 a2 a3 a4 a5 a6 a7 a8 a9 a10
      obtain ⟨a0, a1, a2, a3, a4, a5, a6, a7, a8, a9, a10, _⟩ := K2.out
      cases b1
      case false =>
        go_wp2_with fail
        go_ret
        exact ⟨by rw [FIN.out]; rfl, HB1.out⟩
      cases hc : ((g.l.length : Int) == 0) <;> cases hs : g.s.toList.isEmpty
      all_goals
        rw [hc, hs] at FIN
        go_wp2_with fail
        go_ret
        exact ⟨by rw [FIN.out]; first | rfl | (simp only [hc, hs]; rfl), HB1.out⟩
    · have n1 : (g.k == 1) = false := by rw [hk]; rfl
      have n2 : (g.k == 2) = false := by rw [hk]; rfl
      have n3 : (g.k == 3) = true := by rw [hk]; rfl
      have n4 : (g.k == 4) = false := by rw [hk]; rfl
      rw [n1, n2, n3, n4] at FIN
      clear hk
      have CT := Lib.hid (zero_at W _ g.x (HV.out.next HB.out))
      generalize (cmpV 12 g.x.t zeroV == 0) = b1 at *
      go_wp2_with fail
      refine CT.out.mono ?_
      rintro e w1 ⟨rfl, hb⟩
      have HB1 := Lib.hid (bnext HB.out hb)
      have K2 := Lib.hid (K1.out.next hb)
      clear hb CT a0 a1 a2 a3 a4 a5 a6 a7 a8 a9 a10
      obtain ⟨a0, a1, a2, a3, a4, a5, a6, a7, a8, a9, a10, _⟩ := K2.out
      cases b1
      case false =>
        go_wp2_with fail
        go_ret
        exact ⟨by rw [FIN.out]; rfl, HB1.out⟩
      have CT := Lib.hid (isZero_at w1 _ g.q (HP.out.next HB1.out))
      generalize isZeroP g.q.t = b2 at *
      go_wp2_with fail
      refine CT.out.mono ?_
      rintro e w2 ⟨rfl, hb⟩
      have HB2 := Lib.hid (bnext HB1.out hb)
      have K3 := Lib.hid (K2.out.next hb)
      clear hb CT a0 a1 a2 a3 a4 a5 a6 a7 a8 a9 a10
      obtain ⟨a0, a1, a2, a3, a4, a5, a6, a7, a8, a9, a10, _⟩ := K3.out
      cases b2
      case false =>
        go_wp2_with fail
        go_ret
        exact ⟨by rw [FIN.out]; rfl, HB2.out⟩
      cases hs : g.s.toList.isEmpty
      all_goals
        rw [hs] at FIN
        go_wp2_with fail
        go_ret
        exact ⟨by rw [FIN.out]; first | rfl | (simp only [hs]; rfl), HB2.out⟩
    · have n1 : (g.k == 1) = false := by rw [hk]; rfl
      have n2 : (g.k == 2) = false := by rw [hk]; rfl
      have n3 : (g.k == 3) = false := by rw [hk]; rfl
      have n4 : (g.k == 4) = true := by rw [hk]; rfl
      rw [n1, n2, n3, n4] at FIN
      clear hk
      have CT := Lib.hid (zero_at W _ g.x (HV.out.next HB.out))
      generalize (cmpV 12 g.x.t zeroV == 0) = b1 at *
      go_wp2_with fail
      refine CT.out.mono ?_
      rintro e w1 ⟨rfl, hb⟩
      have HB1 := Lib.hid (bnext HB.out hb)
      have K2 := Lib.hid (K1.out.next hb)
      clear hb CT a0 a1 a2 a3 a4 a5 a6 a7 a8 a9 a10
      obtain ⟨a0, a1, a2, a3, a4, a5, a6, a7, a8, a9, a10, _⟩ := K2.out
      cases b1
      case false =>
        go_wp2_with fail
        go_ret
        exact ⟨by rw [FIN.out]; rfl, HB1.out⟩
      have CT := Lib.hid (isZero_at w1 _ g.q (HP.out.next HB1.out))
      generalize isZeroP g.q.t = b2 at *
      go_wp2_with fail
      refine CT.out.mono ?_
      rintro e w2 ⟨rfl, hb⟩
      have HB2 := Lib.hid (bnext HB1.out hb)
      have K3 := Lib.hid (K2.out.next hb)
      clear hb CT a0 a1 a2 a3 a4 a5 a6 a7 a8 a9 a10
      obtain ⟨a0, a1, a2, a3, a4, a5, a6, a7, a8, a9, a10, _⟩ := K3.out
      cases b2
      case false =>
        go_wp2_with fail
        go_ret
        exact ⟨by rw [FIN.out]; rfl, HB2.out⟩
      cases hc : ((g.l.length : Int) == 0)
      all_goals
        rw [hc] at FIN
        go_wp2_with fail
        go_ret
        exact ⟨by rw [FIN.out]; first | rfl | (simp only [hc]; rfl), HB2.out⟩
  · have hk : ¬ (g.k = 1 ∨ g.k = 2 ∨ g.k = 3 ∨ g.k = 4) := h
    clear h
    have n1 : (g.k == 1) = false := by exact beq_eq_false_iff_ne.2 (by omega)
    have n2 : (g.k == 2) = false := by exact beq_eq_false_iff_ne.2 (by omega)
    have n3 : (g.k == 3) = false := by exact beq_eq_false_iff_ne.2 (by omega)
    have n4 : (g.k == 4) = false := by exact beq_eq_false_iff_ne.2 (by omega)
    rw [n1, n2, n3, n4] at FIN
    clear hk
    have CT := Lib.hid (zero_at W _ g.x (HV.out.next HB.out))
    generalize (cmpV 12 g.x.t zeroV == 0) = b1 at *
    go_wp2_with fail
    refine CT.out.mono ?_
    rintro e w1 ⟨rfl, hb⟩
    have HB1 := Lib.hid (bnext HB.out hb)
    have K2 := Lib.hid (K1.out.next hb)
    clear hb CT a0 a1 a2 a3 a4 a5 a6 a7 a8 a9 a10
    obtain ⟨a0, a1, a2, a3, a4, a5, a6, a7, a8, a9, a10, _⟩ := K2.out
    cases b1
    case false =>
      go_wp2_with fail
      go_ret
      exact ⟨by rw [FIN.out]; rfl, HB1.out⟩
    have CT := Lib.hid (isZero_at w1 _ g.q (HP.out.next HB1.out))
    generalize isZeroP g.q.t = b2 at *
    go_wp2_with fail
    refine CT.out.mono ?_
    rintro e w2 ⟨rfl, hb⟩
    have HB2 := Lib.hid (bnext HB1.out hb)
    have K3 := Lib.hid (K2.out.next hb)
    clear hb CT a0 a1 a2 a3 a4 a5 a6 a7 a8 a9 a10
    obtain ⟨a0, a1, a2, a3, a4, a5, a6, a7, a8, a9, a10, _⟩ := K3.out
    cases b2
    case false =>
      go_wp2_with fail
      go_ret
      exact ⟨by rw [FIN.out]; rfl, HB2.out⟩
    cases hc : ((g.l.length : Int) == 0) <;> cases hs : g.s.toList.isEmpty
    all_goals
      rw [hc, hs] at FIN
      go_wp2_with fail
      go_ret
      exact ⟨by rw [FIN.out]; first | rfl | (simp only [hc, hs]; rfl), HB2.out⟩
end Go.Proofs.YtllkimdlmnjoiaaGreatDoor



