/- Carried over from an earlier seat. -/
import Derived.Test.YtllkimdlmnjoiaaGreatDoorTM
import Derived.Test.YtllkimdlmnjoiaaGreatDoorWC
import Derived.Test.YtllkimdlmnjoiaaGreatDoorPK
import Derived.Test.YtllkimdlmnjoiaaGreatDoorTR
import Derived.Test.YtllkimdlmnjoiaaGreatDoorTC
import Derived.Laws.OwnMore
import Derived.Laws.AppendOwn
import Derived.IntWalk
import Derived.Deep.DeepCutAuto
import Derived.Deep.Cut
namespace Go.Proofs.YtllkimdlmnjoiaaGreatDoor
set_option maxRecDepth 100000
set_option maxRecDepth 100000
open Go.RowKit Go.Sort

theorem okV_up1 : ∀ (r : Nat) (v : V), okV r v = true → okV (r + 1) v = true
  | 0, _, h => by cases h
  | r + 1, v, h => by
    obtain ⟨h1, h2, h3, h4⟩ := (ok_parts r v).1 h
    exact (ok_parts (r + 1) v).2 ⟨h1, fun x hx => okV_up1 r x (h2 x hx), fun x hx => okV_up1 r x (h3 x hx), h4⟩
theorem wrV_up1 : ∀ (r : Nat) (v : V), okV r v = true → wrV (r + 1) v = wrV r v
  | 0, _, h => by cases h
  | r + 1, v, h => by
    obtain ⟨_, h2, _, _⟩ := (ok_parts r v).1 h
    have e : v.l.all (wrV (r + 1)) = v.l.all (wrV r) := all_congr_mem fun x hx => wrV_up1 r x (h2 x hx)
    show (if v.k = 1 ∨ v.k = 2 then true else if v.k = 3 then v.s.toList.all (fun c => decide (32 ≤ c.toNat)) else if v.k = 6 then v.l.all (wrV (r + 1)) else false) = (if v.k = 1 ∨ v.k = 2 then true else if v.k = 3 then v.s.toList.all (fun c => decide (32 ≤ c.toNat)) else if v.k = 6 then v.l.all (wrV r) else false)
    rw [e]
/-- What the document asks of a written value. -/
def wrR (v : V) : Bool := okV 12 v && wrV 12 v
theorem wrR_eq (v : V) (h : okV 12 v = true) : wrR v = ((v.k == 1 || (v.k == 2 || (v.k == 3 || v.k == 6))) && (v.s.toList.all (fun c => decide (32 ≤ c.toNat)) && v.l.all wrR)) := by
  obtain ⟨f, h2, _, _⟩ := (ok_parts 11 v).1 h
  unfold wrR
  rw [h, Bool.true_and]
  have e : ∀ x ∈ v.l, wrR x = wrV 11 x := fun x hx => by
    unfold wrR
    rw [okV_up1 11 x (h2 x hx), wrV_up1 11 x (h2 x hx)]; rfl
  show wrV 12 v = ((v.k == 1 || (v.k == 2 || (v.k == 3 || v.k == 6))) && (v.s.toList.all (fun c => decide (32 ≤ c.toNat)) && v.l.all wrR))
  rw [all_congr_mem e]
  show (if v.k = 1 ∨ v.k = 2 then true else if v.k = 3 then v.s.toList.all (fun c => decide (32 ≤ c.toNat)) else if v.k = 6 then v.l.all (wrV 11) else false) = _
  unfold fitsV at f
  by_cases h1 : v.k = 1
  · rw [if_pos h1] at f
    simp only [noItems, Bool.and_eq_true, List.isEmpty_iff, beq_iff_eq, List.length_eq_zero_iff] at f
    rw [if_pos (.inl h1), f.1.2, f.2.1, h1]; rfl
  rw [if_neg h1] at f
  by_cases h2 : v.k = 2
  · rw [if_pos h2] at f
    simp only [noItems, Bool.and_eq_true, List.isEmpty_iff, beq_iff_eq, List.length_eq_zero_iff] at f
    rw [if_pos (.inr h2), f.1, f.2.1, h2]; rfl
  rw [if_neg h2] at f
  rw [if_neg (by omega)]
  by_cases h3 : v.k = 3
  · rw [if_pos h3] at f
    simp only [noItems, Bool.and_eq_true, beq_iff_eq, List.length_eq_zero_iff] at f
    rw [if_pos h3, f.2.1, h3]; simp
  rw [if_neg h3] at f
  rw [if_neg h3]
  by_cases h6 : v.k = 6
  · rw [if_neg (by omega), if_pos (by omega)] at f
    simp only [Bool.and_eq_true, List.isEmpty_iff, beq_iff_eq, List.length_eq_zero_iff] at f
    rw [if_pos h6, f.1.1.2, h6]; simp
  · rw [if_neg h6]
    rw [beq_eq_false_iff_ne.2 h1, beq_eq_false_iff_ne.2 h2, beq_eq_false_iff_ne.2 h3, beq_eq_false_iff_ne.2 h6]; rfl
theorem all_hit {α : Type} (p : α → Bool) (l : List α) (k : Nat) {x : α} (h : l[k]? = some x) (hp : p x = false) : l.all p = false := by
  rw [List.all_eq_false]
  exact ⟨x, List.mem_of_getElem? h, by simp [hp]⟩
theorem all_snoc {α : Type} (p : α → Bool) (l : List α) (k : Nat) {x : α} (h : l[k]? = some x) : (l.take (k + 1)).all p = ((l.take k).all p && p x) := by
  rw [take_snoc l k h, List.all_append]; simp
def RWr (d : Nat) : Prop := ∀ (w : World) (x : At), x.In w d → Calls Tryz.prog 58 #[x.v] w fun e w' => e = .returned (.bool (wrR x.t)) ∧ Below w.heap.size w w'
set_option maxHeartbeats 6400000 in
theorem rwr_succ (d : Nat) (ih : RWr d) : RWr (d + 1) := by
  intro w x hx
  have RL := Lib.hid hx.2.1
  have SZ := hx.1.s1
  have IH := Lib.hid ih
  have b0 := below_new w (.cells #[.int .i64 x.t.k, .int .i64 x.t.n, .string x.t.s, .slice x.A x.t.l.length x.c, .slice x.A' x.t.m.length x.c'] 77)
  have CK := Lib.hid (fun (W : World) (h : x.In W (d + 1)) => refCheck_at W (d + 1) x h)
  have HX := Lib.hid hx
  obtain ⟨ans, hans⟩ : ∃ b, b = wrR x.t := ⟨_, rfl⟩
  rw [← hans]
  have ANS := Lib.hid hans
  have hbig := hx.2.1.big
  have hs' : (x.t.s.size : Int) ≤ 140737488355328 := by omega
  clear hx ih hans b0
  unfold At.v
  go_enter Tryz.func58, Tryz.ntmps58
  go_upto_region 1 with fail
  have k1 := Bx.new w x
  generalize hW : World.alloc w _ = W
  have K1 : Hid (Bx W w.heap.size x) := Lib.hid (by rw [← hW]; exact k1)
  have HB : Hid (Below w.heap.size w W) := Lib.hid (by rw [← hW]; exact below_new _ _)
  obtain ⟨a0, a1, a2, a3, a4, _⟩ := K1.out
  clear hW k1
  have CT := Lib.hid (CK.out W (HX.out.next HB.out))
  obtain ⟨o, ho⟩ : ∃ o, okV 12 x.t = o := ⟨_, rfl⟩
  rw [ho] at CT
  have HO := Lib.hid ho
  clear ho CK
  go_wp2_with fail
  refine CT.out.mono ?_
  rintro e w1 ⟨rfl, hb⟩
  have HB1 := Lib.hid (bnext HB.out hb)
  have K2 := Lib.hid (K1.out.next hb)
  clear hb CT a0 a1 a2 a3 a4
  obtain ⟨a0, a1, a2, a3, a4, _⟩ := K2.out
  cases o
  case false =>
    have e1 : errI false = 2 := rfl
    have FIN := Lib.hid (show ans = false by rw [ANS.out]; unfold wrR; rw [HO.out]; rfl)
    go_wp2
    go_ret
    exact ⟨by rw [FIN.out]; rfl, HB1.out⟩
  have e1 : errI true = 0 := rfl
  have EQ := Lib.hid (show ans = ((x.t.k == 1 || (x.t.k == 2 || (x.t.k == 3 || x.t.k == 6))) && (x.t.s.toList.all (fun c => decide (32 ≤ c.toNat)) && x.t.l.all wrR)) by rw [ANS.out, wrR_eq _ HO.out])
  by_cases hk : x.t.k = 1 ∨ x.t.k = 2 ∨ x.t.k = 3 ∨ x.t.k = 6
  case neg =>
    have n1 : (x.t.k != 1) = true := by simp; omega
    have n2 : (x.t.k != 2) = true := by simp; omega
    have n3 : (x.t.k != 3) = true := by simp; omega
    have n6 : (x.t.k != 6) = true := by simp; omega
    have FIN := Lib.hid (show ans = false by
      rw [EQ.out, beq_eq_false_iff_ne.2 (show x.t.k ≠ 1 by omega), beq_eq_false_iff_ne.2 (show x.t.k ≠ 2 by omega), beq_eq_false_iff_ne.2 (show x.t.k ≠ 3 by omega), beq_eq_false_iff_ne.2 (show x.t.k ≠ 6 by omega)]; rfl)
    clear hk
    go_wp2
    go_ret
    exact ⟨by rw [FIN.out]; rfl, HB1.out⟩
  have EQ2 := Lib.hid (show ans = (x.t.s.toList.all (fun c => decide (32 ≤ c.toNat)) && x.t.l.all wrR) by
    rw [EQ.out]
    obtain h | h | h | h := hk <;> rw [h] <;> rfl)
  clear EQ
  go_upto_region 2 with fail
  go_cut [29] (fun s29 wx => s29 = .bool false ∧ wx = w1)
  case first =>
    obtain h | h | h | h := hk
    · have n1 : (x.t.k != 1) = false := by rw [h]; rfl
      clear h
      go_wp2_with fail
      go_meet
      exact ⟨rfl, rfl⟩
    · have n1 : (x.t.k != 1) = true := by rw [h]; rfl
      have n2 : (x.t.k != 2) = false := by rw [h]; rfl
      clear h
      go_wp2_with fail
      go_meet
      exact ⟨rfl, rfl⟩
    · have n1 : (x.t.k != 1) = true := by rw [h]; rfl
      have n2 : (x.t.k != 2) = true := by rw [h]; rfl
      have n3 : (x.t.k != 3) = false := by rw [h]; rfl
      clear h
      go_wp2_with fail
      go_meet
      exact ⟨rfl, rfl⟩
    · have n1 : (x.t.k != 1) = true := by rw [h]; rfl
      have n2 : (x.t.k != 2) = true := by rw [h]; rfl
      have n3 : (x.t.k != 3) = true := by rw [h]; rfl
      have n6 : (x.t.k != 6) = false := by rw [h]; rfl
      clear h
      go_wp2_with fail
      go_meet
      exact ⟨rfl, rfl⟩
  case rest =>
    obtain ⟨rfl, rfl⟩ := hcut
    clear hk
    go_wp2
    go_loopw [4] (fun i wr => ∃ k : Nat, k ≤ x.t.s.size ∧ i = .int .i64 k ∧ Hid (Below wc.heap.size wc wr) ∧ Hid ((x.t.s.toList.take k).all (fun c => decide (32 ≤ c.toNat)) = true)) (fun i _ => x.t.s.size - (intOf i).toNat)
    case atStart => exact ⟨0, by omega, rfl, Lib.hid (Below.refl _ _), Lib.hid rfl⟩
    case round =>
      obtain ⟨k, hk, rfl, hbel0, hA⟩ := hrel
      have K4 := Lib.hid (K2.out.next hbel0.out)
      obtain ⟨a0, a1, a2, a3, a4, _⟩ := K4.out
      by_cases hlt : k < x.t.s.size
      · have hx := toList_at x.t.s k hlt
        have NX := Lib.hid (all_snoc (fun c : UInt8 => decide (32 ≤ c.toNat)) x.t.s.toList k hx)
        have ST := Lib.hid (fun h => all_hit (fun c : UInt8 => decide (32 ≤ c.toNat)) x.t.s.toList k hx h)
        clear hx
        have k0 : (0 : Int) ≤ (k : Int) := by omega
        have k1 : (k : Int) < (x.t.s.size : Int) := by omega
        by_cases hc : (x.t.s[k]'hlt).toNat < 32
        · have FIN := Lib.hid (show ans = false by rw [EQ2.out, ST.out (by simp; omega)]; rfl)
          have hc' : (((x.t.s[k]'hlt).toNat : Nat) : Int) < 32 := by omega
          clear hc
          go_wp2
          go_ret
          exact ⟨by rw [FIN.out]; rfl, bnext HB1.out hbel0.out⟩
        · have hc' : ¬ (((x.t.s[k]'hlt).toNat : Nat) : Int) < 32 := by omega
          have OK := Lib.hid (show decide (32 ≤ (x.t.s[k]'hlt).toNat) = true by simp; omega)
          clear hc
          go_wp2
          go_roundw
          case rel => exact ⟨k + 1, by omega, by go_num, hbel0, Lib.hid (by rw [NX.out, hA.out, OK.out]; rfl)⟩
          case measure => simp [intOf]; omega
      · have EQ3 := Lib.hid (show ans = x.t.l.all wrR by
          have h := hA.out
          rw [List.take_of_length_le (by rw [toList_size]; omega)] at h
          rw [EQ2.out, h, Bool.true_and])
        have hk9 : ¬ (k : Int) < (x.t.s.size : Int) := by omega
        clear hlt hk hA
        have HB9 := Lib.hid (bnext HB1.out hbel0.out)
        go_wp2
        obtain ⟨wo, hwo⟩ : ∃ q, q = wr := ⟨_, rfl⟩
        subst hwo
        go_loopw [5] (fun i wx => ∃ j : Nat, j ≤ x.t.l.length ∧ i = .int .i64 j ∧ Hid (Below wo.heap.size wo wx) ∧ Hid ((x.t.l.take j).all wrR = true)) (fun i _ => x.t.l.length - (intOf i).toNat)
        case atStart => exact ⟨0, by omega, rfl, Lib.hid (Below.refl _ _), Lib.hid rfl⟩
        case round =>
          obtain ⟨j, hj, rfl, hbel, hA⟩ := hrel
          have K3 := Lib.hid (K4.out.next hbel.out)
          obtain ⟨a0, a1, a2, a3, a4, _⟩ := K3.out
          by_cases hlt : j < x.t.l.length
          · obtain ⟨b2, off, y0, A1, c1, A2, c2, eA, _, hb2, hy, q, ry⟩ := (RL.out.next (bnext HB9.out hbel.out)).elem hlt
            obtain ⟨y, rfl, rfl, rfl, rfl, rfl⟩ : ∃ y : At, y0 = y.t ∧ A1 = y.A ∧ c1 = y.c ∧ A2 = y.A' ∧ c2 = y.c' := ⟨⟨y0, A1, c1, A2, c2⟩, rfl, rfl, rfl, rfl, rfl⟩
            rw [eA] at a3
            obtain ⟨q0, q1, q2, q3, q4⟩ := q
            have NX := Lib.hid (all_snoc wrR x.t.l j hy)
            have ST := Lib.hid (fun h => all_hit wrR x.t.l j hy h)
            have CT := Lib.hid (IH.out wr y ry)
            obtain ⟨z, hz⟩ : ∃ z, wrR y.t = z := ⟨_, rfl⟩
            rw [hz] at CT ST NX
            have j0 : (0 : Int) ≤ (j : Int) := by omega
            have j1 : (j : Int) < (x.t.l.length : Int) := by omega
            clear ry hy eA hz
            go_wp2_with fail
            refine CT.out.mono ?_
            rintro e w2 ⟨rfl, hb⟩
            have HB2 := Lib.hid (bnext hbel.out hb)
            clear hb CT a0 a1 a2 a3 a4 q0 q1 q2 q3 q4
            cases z
            · have FIN := Lib.hid (show ans = false by rw [EQ3.out]; exact ST.out rfl)
              go_wp2
              go_ret
              exact ⟨by rw [FIN.out]; rfl, bnext HB9.out HB2.out⟩
            · go_wp2
              go_roundw
              case rel => exact ⟨j + 1, by omega, by go_num, HB2, Lib.hid (by rw [NX.out, hA.out]; rfl)⟩
              case measure => simp [intOf]; omega
          · have FIN := Lib.hid (show ans = true by
              have h := hA.out
              rw [List.take_of_length_le (by omega)] at h
              rw [EQ3.out, h])
            go_wp2
            go_ret
            exact ⟨by rw [FIN.out]; rfl, bnext HB9.out hbel.out⟩
theorem rwr_any : ∀ d, RWr d
  | 0 => fun _ _ h => h.elim
  | d + 1 => rwr_succ d (rwr_any d)
def RWrP (r : Nat) : Prop := ∀ (w : World) (d : Nat) (x : Pt), okP r x.t = true → x.In w d → Calls Tryz.prog 60 #[x.val] w fun e w' => e = .returned (.bool (wrP r x.t)) ∧ Below w.heap.size w w'
set_option maxHeartbeats 6400000 in
theorem rwrP_succ (r : Nat) (ih : RWrP r) : RWrP (r + 1) := by
  intro w d x ho hx
  obtain ⟨d', rfl⟩ := hx.pos
  obtain ⟨n, rv⟩ := hx.2.1
  have rp := hx.2.2
  have hbv := rv.big
  have hbp := rp.big
  obtain ⟨_, ov, op⟩ := (okP_parts r x.t).1 ho
  have RV := Lib.hid rv
  have RP := Lib.hid rp
  have OV := Lib.hid ov
  have OP := Lib.hid op
  have IH := Lib.hid ih
  obtain ⟨ans, hans⟩ : ∃ b, b = wrP (r + 1) x.t := ⟨_, rfl⟩
  rw [← hans]
  have ANS := Lib.hid (show ans = (x.t.v.all (wrV 12) && x.t.p.all (wrP r)) by rw [hans]; rfl)
  clear hx ih hans rv rp ho ov op
  unfold Pt.val
  go_enter Tryz.func60, Tryz.ntmps60
  go_upto_region 1 with fail
  have k1 := BP.new w x
  generalize hW : World.alloc w _ = W
  have K1 : Hid (BP W w.heap.size x) := Lib.hid (by rw [← hW]; exact k1)
  have HB : Hid (Below w.heap.size w W) := Lib.hid (by rw [← hW]; exact below_new _ _)
  clear hW k1
  go_wp2
  go_loopw [3] (fun i wr => ∃ j : Nat, j ≤ x.t.v.length ∧ i = .int .i64 j ∧ Hid (Below W.heap.size W wr) ∧ Hid ((x.t.v.take j).all (wrV 12) = true)) (fun i _ => x.t.v.length - (intOf i).toNat)
  case atStart => exact ⟨0, by omega, rfl, Lib.hid (Below.refl _ _), Lib.hid rfl⟩
  case round =>
    obtain ⟨j, hj, rfl, hbel, hA⟩ := hrel
    have K2 := Lib.hid (K1.out.next hbel.out)
    obtain ⟨a0, a1, a2, _⟩ := K2.out
    by_cases hlt : j < x.t.v.length
    · obtain ⟨b2, off, y0, A1, c1, A2, c2, eA, _, hb2, hy, q, ry⟩ := (RV.out.next (bnext HB.out hbel.out)).elem hlt
      obtain ⟨y, rfl, rfl, rfl, rfl, rfl⟩ : ∃ y : At, y0 = y.t ∧ A1 = y.A ∧ c1 = y.c ∧ A2 = y.A' ∧ c2 = y.c' := ⟨⟨y0, A1, c1, A2, c2⟩, rfl, rfl, rfl, rfl, rfl⟩
      rw [eA] at a1
      obtain ⟨q0, q1, q2, q3, q4⟩ := q
      have NX := Lib.hid (all_snoc (wrV 12) x.t.v j hy)
      have ST := Lib.hid (fun h => all_hit (wrV 12) x.t.v j hy h)
      have WE := Lib.hid (show wrR y.t = wrV 12 y.t by unfold wrR; rw [OV.out y.t (List.mem_of_getElem? hy)]; rfl)
      have CT := rwr_any _ wr y ry
      rw [WE.out] at CT
      obtain ⟨z, hz⟩ : ∃ z, wrV 12 y.t = z := ⟨_, rfl⟩
      rw [hz] at CT ST NX
      replace CT := Lib.hid CT
      have j0 : (0 : Int) ≤ (j : Int) := by omega
      have j1 : (j : Int) < (x.t.v.length : Int) := by omega
      clear ry hy eA hz WE
      go_wp2_with fail
      refine CT.out.mono ?_
      rintro e w2 ⟨rfl, hb⟩
      have HB2 := Lib.hid (bnext hbel.out hb)
      clear hb CT a0 a1 a2 q0 q1 q2 q3 q4
      cases z
      · have FIN := Lib.hid (show ans = false by rw [ANS.out, ST.out rfl]; rfl)
        go_wp2
        go_ret
        exact ⟨by rw [FIN.out]; rfl, bnext HB.out HB2.out⟩
      · go_wp2
        go_roundw
        case rel => exact ⟨j + 1, by omega, by go_num, HB2, Lib.hid (by rw [NX.out, hA.out]; rfl)⟩
        case measure => simp [intOf]; omega
    · have EQ3 := Lib.hid (show ans = x.t.p.all (wrP r) by
        have h := hA.out
        rw [List.take_of_length_le (by omega)] at h
        rw [ANS.out, h, Bool.true_and])
      have hk9 : ¬ (j : Int) < (x.t.v.length : Int) := by omega
      have HB9 := Lib.hid (bnext HB.out hbel.out)
      clear hlt hj hA
      go_wp2
      obtain ⟨wo, hwo⟩ : ∃ q, q = wr := ⟨_, rfl⟩
      subst hwo
      go_loopw [4] (fun i wx => ∃ j : Nat, j ≤ x.t.p.length ∧ i = .int .i64 j ∧ Hid (Below wo.heap.size wo wx) ∧ Hid ((x.t.p.take j).all (wrP r) = true)) (fun i _ => x.t.p.length - (intOf i).toNat)
      case atStart => exact ⟨0, by omega, rfl, Lib.hid (Below.refl _ _), Lib.hid rfl⟩
      case round =>
        obtain ⟨j, hj, rfl, hbel, hA⟩ := hrel
        have K3 := Lib.hid (K2.out.next hbel.out)
        obtain ⟨a0, a1, a2, _⟩ := K3.out
        by_cases hlt : j < x.t.p.length
        · obtain ⟨b2, off, y, eA, _, hb2, hy, q, ry⟩ := (RP.out.next (bnext HB9.out hbel.out)).elem hlt
          rw [eA] at a2
          obtain ⟨q0, q1, q2⟩ := q
          have NX := Lib.hid (all_snoc (wrP r) x.t.p j hy)
          have ST := Lib.hid (fun h => all_hit (wrP r) x.t.p j hy h)
          have CT := Lib.hid (IH.out wr _ y (OP.out y.t (List.mem_of_getElem? hy)) ry)
          obtain ⟨z, hz⟩ : ∃ z, wrP r y.t = z := ⟨_, rfl⟩
          rw [hz] at CT ST NX
          have j0 : (0 : Int) ≤ (j : Int) := by omega
          have j1 : (j : Int) < (x.t.p.length : Int) := by omega
          clear ry hy eA hz
          go_wp2_with fail
          refine CT.out.mono ?_
          rintro e w2 ⟨rfl, hb⟩
          have HB2 := Lib.hid (bnext hbel.out hb)
          clear hb CT a0 a1 a2 q0 q1 q2
          cases z
          · have FIN := Lib.hid (show ans = false by rw [EQ3.out]; exact ST.out rfl)
            go_wp2
            go_ret
            exact ⟨by rw [FIN.out]; rfl, bnext HB9.out HB2.out⟩
          · go_wp2
            go_roundw
            case rel => exact ⟨j + 1, by omega, by go_num, HB2, Lib.hid (by rw [NX.out, hA.out]; rfl)⟩
            case measure => simp [intOf]; omega
        · have FIN := Lib.hid (show ans = true by
            have h := hA.out
            rw [List.take_of_length_le (by omega)] at h
            rw [EQ3.out, h])
          go_wp2
          go_ret
          exact ⟨by rw [FIN.out]; rfl, bnext HB9.out hbel.out⟩
theorem rwrP_any : ∀ r, RWrP r
  | 0 => fun _ _ _ h => by cases h
  | r + 1 => rwrP_succ r (rwrP_any r)
/-- All words that are something else. -/
def words18 : List ByteArray := namesL ++ [⟨#[116, 114, 117, 101]⟩, ⟨#[102, 97, 108, 115, 101]⟩, ⟨#[95, 95]⟩]
theorem taken_any18 (s : ByteArray) : words18.any (fun n => n.toList == s.toList) = takenB s := by
  have e : ∀ (n : ByteArray) (m : Bs), n.toList = m → (n.toList == s.toList) = (s.toList == m) := fun n m h => by
    rw [h]
    cases hb : (s.toList == m)
    · rw [beq_eq_false_iff_ne] at hb ⊢
      exact fun h => hb h.symm
    · rw [beq_iff_eq] at hb ⊢
      exact hb.symm
  have en : ∀ (l : List ByteArray) (m : List Bs), l.map (·.toList) = m → l.any (fun n => n.toList == s.toList) = m.any (fun n => s.toList == n) := by
    intro l
    induction l with
    | nil => intro m h; simp at h; subst h; rfl
    | cons a l ih =>
      intro m h
      cases m with
      | nil => simp at h
      | cons b m =>
        simp only [List.map_cons] at h
        injection h with h1 h2
        rw [List.any_cons, List.any_cons, e a b h1, ih m h2]
  unfold words18 takenB
  rw [List.any_append, en namesL namesB (by kernel_rfl), en [⟨#[116, 114, 117, 101]⟩, ⟨#[102, 97, 108, 115, 101]⟩, ⟨#[95, 95]⟩] [[116, 114, 117, 101], [102, 97, 108, 115, 101], [95, 95]] (by kernel_rfl)]
  simp only [List.any_cons, List.any_nil, Bool.or_false, Bool.or_assoc]
theorem info9 : (Tryz.prog.info? 9).map (fun i => (i.zero, i.size, i.bytes)) = some (some (.string ⟨#[]⟩), 1, 16) := by kernel_rfl
theorem addr_addW (b off j : Nat) : (⟨b, off, none⟩ : Addr).add j = ⟨b, off + j, none⟩ := by unfold Addr.add; split <;> simp_all
theorem three_cells (W : World) (a b c : Value) (T : TypeId) (j : Nat) (u : Value) (h : [a, b, c][j]? = some u) : (W.alloc (.cells #[a, b, c] T)).cell? ((⟨W.heap.size, 0, none⟩ : Addr).add j) = some u := by
  rw [addr_addW, World.cell?_alloc_at _ _ _ _ rfl, Nat.zero_add]
  simpa using h
theorem any_snocW {α : Type} (p : α → Bool) (l : List α) (k : Nat) {x : α} (h : l[k]? = some x) : (l.take (k + 1)).any p = ((l.take k).any p || p x) := by
  rw [take_snoc l k h, List.any_append]; simp
theorem any_hit {α : Type} (p : α → Bool) (l : List α) (k : Nat) {x : α} (h : l[k]? = some x) (hp : p x = true) : l.any p = true := by
  rw [List.any_eq_true]
  exact ⟨x, List.mem_of_getElem? h, hp⟩
set_option maxHeartbeats 3200000 in
theorem rnames_any (w : World) : Calls Tryz.prog 84 #[] w fun e w' => e = .returned (.slice (some ⟨w.heap.size, 0, none⟩) 15 15) ∧ w' = w.alloc (.cells (namesL.map Value.string).toArray 9) := by
  go_enter Tryz.func84, Tryz.ntmps84
  go_wp2
  go_ret
  exact ⟨rfl, rfl⟩
set_option maxHeartbeats 3200000 in
theorem rword_any (s : ByteArray) (w : World) (hs : s.size ≤ 140737488355328) : Calls Tryz.prog 61 #[.string s] w fun e w' => e = .returned (.bool (nameB s && !takenB s)) ∧ Below w.heap.size w w' := by
  have hs' : (s.size : Int) ≤ 140737488355328 := by omega
  have CF := Lib.hid (fun W => refName_any s W hs)
  obtain ⟨ans, hans⟩ : ∃ b, b = (nameB s && !takenB s) := ⟨_, rfl⟩
  rw [← hans]
  have ANS := Lib.hid hans
  obtain ⟨i0, hi, hz0, hz1, hz2⟩ : ∃ i0, Tryz.prog.info? 9 = some i0 ∧ i0.zero = some (.string ⟨#[]⟩) ∧ i0.size = 1 ∧ i0.bytes = 16 := by
    obtain ⟨i0, hi, e⟩ := Option.map_eq_some_iff.1 info9
    simp only [Prod.mk.injEq] at e
    exact ⟨i0, hi, e.1, e.2.1, e.2.2⟩
  have CT := Lib.hid (rnames_any w)
  clear hans hs
  go_enter Tryz.func61, Tryz.ntmps61
  go_wp2_with fail
  refine CT.out.mono ?_
  rintro e W ⟨rfl, hW⟩
  have HB := Lib.hid (show Below w.heap.size w W by rw [hW]; exact below_new _ _)
  have OW := Lib.hid (show W.ownsRow w.heap.size 9 1 (.slice (some ⟨w.heap.size, 0, none⟩) 15 15) 15 (namesL.map Value.string) by
    rw [hW]
    exact ⟨rfl, .inr ⟨w.heap.size, 15, _, rfl, Nat.le_refl _, heap_alloc_new _ _, Nat.le_refl _, by unfold maxLen; omega, rfl, rfl⟩⟩)
  have HSZ := Lib.hid HB.out.size
  clear hW CT
  go_upto_region 3 with (at_builtin; refine wpList_append_own _ rfl (.tmp 6) (.tmp 7) 43 rfl w.heap.size 9 i0 (.string ⟨#[]⟩) 1 16 Tryz.underlying43 hi hz0 hz1 hz2 rfl (by decide) _ _ _ rfl (OW.out.alloc _) ⟨W.heap.size, 0, none⟩ 3 3 [.string ⟨#[116, 114, 117, 101]⟩, .string ⟨#[102, 97, 108, 115, 101]⟩, .string ⟨#[95, 95]⟩] rfl rfl (three_cells W _ _ _ 9) (by intro u hu; simp at hu; rcases hu with rfl | rfl | rfl <;> rfl) (by unfold maxLen; omega) (by omega) (by have := HSZ.out; simp; omega) ?_; intro v9 w9 ho hgr _; have HO := Lib.hid ho; have HB9 := Lib.hid (show Below w.heap.size w w9 from ⟨hgr.os.trans HB.out.os, hgr.tape.trans HB.out.tape, hgr.output.trans HB.out.output, Nat.le_trans HB.out.size (Nat.le_trans (by simp) hgr.size), fun k hk => (hgr.block k (by have := HSZ.out; simp; omega) (fun e => by have := (World.ownsRow.lt OW.out k e.symm).1; omega)).trans (((below_new W _).block k (by have := HSZ.out; omega)).trans (HB.out.block k hk))⟩); clear ho hgr)
  obtain ⟨g, cap, hv, hcells, hgl⟩ : ∃ g cap, v9 = .slice (some ⟨g, 0, none⟩) 18 cap ∧ (∀ (j : Nat) (x : ByteArray), words18[j]? = some x → w9.cell? ⟨g, j, none⟩ = some (.string x)) ∧ g < w9.heap.size := by
    have ho := HO.out
    rcases ho.2 with ⟨_, h0⟩ | ⟨g, cap, cur, hv, hb, hg, _⟩
    · exact absurd h0 (by decide)
    · subst hv
      refine ⟨g, cap, rfl, fun j x hj => ?_, (Array.getElem?_eq_some_iff.1 hg).1⟩
      have := World.ownsRow.cells (g := g) ho rfl j (.string x) (by
        have e : (namesL.map Value.string ++ [.string ⟨#[116, 114, 117, 101]⟩, .string ⟨#[102, 97, 108, 115, 101]⟩, .string ⟨#[95, 95]⟩] : List Value) = words18.map Value.string := by
          unfold words18; rw [List.map_append]; rfl
        rw [e, List.getElem?_map, hj]; rfl)
      rwa [addr_addW, Nat.zero_add] at this
  subst hv
  have HC := Lib.hid hcells
  have HG := Lib.hid hgl
  clear hcells hgl HO OW hi hz0 hz1 hz2
  go_wp2
  go_loopw [4] (fun i wr => ∃ j : Nat, j ≤ 18 ∧ i = .int .i64 j ∧ Hid (Below w9.heap.size w9 wr) ∧ Hid ((words18.take j).any (fun n => n.toList == s.toList) = false)) (fun i _ => 18 - (intOf i).toNat)
  case atStart => exact ⟨0, by omega, rfl, Lib.hid (Below.refl _ _), Lib.hid rfl⟩
  case round =>
    obtain ⟨j, hj, rfl, hbel, hA⟩ := hrel
    by_cases hlt : j < 18
    · have hx : words18[j]? = some words18[j] := List.getElem?_eq_getElem (show j < words18.length from hlt)
      have q0 := cell_below hbel.out (HC.out j _ hx) HG.out
      have NX := Lib.hid (any_snocW (fun n : ByteArray => n.toList == s.toList) words18 j hx)
      have ST := Lib.hid (fun h => any_hit (fun n : ByteArray => n.toList == s.toList) words18 j hx h)
      generalize words18[j] = x at q0 NX ST
      have j0 : (0 : Int) ≤ (j : Int) := by omega
      have j1 : (j : Int) < 18 := by omega
      clear hx
      cases hc : (x.toList == s.toList)
      · have NX1 := Lib.hid (show (words18.take (j + 1)).any (fun n => n.toList == s.toList) = false by rw [NX.out, hA.out, hc]; rfl)
        go_wp2
        go_roundw
        case rel => exact ⟨j + 1, by omega, by go_num, hbel, NX1⟩
        case measure => simp [intOf]; omega
      · have FIN := Lib.hid (show ans = false by rw [ANS.out, ← taken_any18, ST.out hc, Bool.not_true, Bool.and_false])
        go_wp2
        go_ret
        exact ⟨by rw [FIN.out]; rfl, HB9.out.trans (hbel.out.mono HB9.out.size)⟩
    · have FIN := Lib.hid (show ans = nameB s by
        have h := hA.out
        rw [List.take_of_length_le (show words18.length ≤ j from (by show 18 ≤ j; omega))] at h
        rw [ANS.out, ← taken_any18, h, Bool.not_false, Bool.and_true])
      have hj9 : ¬ (j : Int) < 18 := by omega
      have CT := Lib.hid (CF.out wr)
      clear hlt hj
      go_wp2_with fail
      refine CT.out.mono ?_
      rintro e w2 ⟨rfl, rfl⟩
      clear CT
      go_wp2
      go_ret
      exact ⟨by rw [FIN.out]; rfl, HB9.out.trans (hbel.out.mono HB9.out.size)⟩
end Go.Proofs.YtllkimdlmnjoiaaGreatDoor
namespace Go.Proofs.YtllkimdlmnjoiaaGreatDoor
set_option maxRecDepth 100000
set_option maxRecDepth 100000
open Go.RowKit Go.Sort

theorem cmp_turn (v : V) : (cmpV 12 (at0 v0).t v == 0) = (cmpV 12 v zeroV == 0) := by
  have h := (ord_cmpV 12).anti v zeroV
  show (cmpV 12 zeroV v == 0) = _
  rw [h]
  by_cases e : cmpV 12 v zeroV = 0
  · rw [e]; rfl
  · rw [beq_eq_false_iff_ne.2 e, beq_eq_false_iff_ne.2 (by omega)]
theorem cmp_self (v : V) : (cmpV 12 v v == 0) = true := by rw [(ord_cmpV 12).refl v]; rfl
theorem sameP_self (p : P) : sameP p p = true := by
  have r : ∀ (n : Nat) (p : P), sameQ n p p = true := by
    intro n
    induction n with
    | zero => intro p; rfl
    | succ n ih =>
      intro p
      have e : ∀ {α : Type} (f : α → α → Bool) (l : List α), (∀ x ∈ l, f x x = true) → eqL f l l = true := by
        intro α f l
        induction l with
        | nil => intro _; rfl
        | cons a l ih2 => intro h; simp only [eqL]; rw [h a (by simp), ih2 (fun x hx => h x (by simp [hx]))]; rfl
      simp only [sameQ]
      rw [e eqV p.v (fun x _ => by unfold eqV; exact cmp_self x), e (sameQ n) p.p (fun x _ => ih x)]
      simp
  exact r _ p
theorem sameP_z (p : P) : sameP (pt0).t p = isZeroP p := by
  show sameP (.mk 0 [] []) p = isZeroP p
  have e : hP (.mk 0 [] []) = 1 := rfl
  unfold sameP
  rw [e]
  show ((0 : Int) == p.k && (eqL eqV [] p.v && eqL (sameQ 0) [] p.p)) = _
  have n : ∀ {α : Type} (f : α → α → Bool) (l : List α), eqL f [] l = (l.length == 0) := by intro α f l; cases l <;> rfl
  rw [n, n]
  unfold isZeroP
  rw [Bool.and_assoc, show ((0 : Int) == p.k) = (p.k == 0) from by
    by_cases h : p.k = 0
    · rw [h]
    · rw [beq_eq_false_iff_ne.2 h, beq_eq_false_iff_ne.2 (fun e => h e.symm)]]
theorem len_turn (l : List C) : (((0 : Nat) : Int) == (l.length : Int)) = (l.length == 0) := by
  cases l with
  | nil => rfl
  | cons a l => simp; omega
theorem str_turn (s : ByteArray) : ((⟨#[]⟩ : ByteArray).toList == s.toList) = s.toList.isEmpty := by
  have e : (⟨#[]⟩ : ByteArray).toList = [] := by rw [ByteArray.toList_eq]
  rw [e]
  cases s.toList <;> rfl
/-- The document's arg. -/
def RArg (D : Nat) : Prop := ∀ (w : World) (d : Nat) (g : Gt) (deep : Nat), DpC D g.t.c → deep + D ≤ 900 → g.In w d →
  Calls Tryz.prog 39 #[g.val, .int .i64 (deep : Int)] w fun e w' => e = .returned (.bool (argOk (chOk (10 - deep)) g.t)) ∧ Below w.heap.size w w'
/-- The document's chain. -/
def RChain (D : Nat) : Prop := ∀ (w : World) (d : Nat) (A : Option Addr) (c : Nat) (l : List C) (deep : Nat), DpC D l → deep + D ≤ 901 → Ch w 0 w.heap.size d A c l →
  Calls Tryz.prog 22 #[.slice A l.length c, .int .i64 (deep : Int)] w fun e w' => e = .returned (.bool (chOk (11 - deep) l)) ∧ Below w.heap.size w w'
theorem box_two (w : World) (g : Gt) (W : World) (hW : (w.alloc (.cells #[.int .i64 g.k, .int .i64 g.x.t.k, .int .i64 g.x.t.n, .string g.x.t.s, .slice g.x.A g.x.t.l.length g.x.c, .slice g.x.A' g.x.t.m.length g.x.c', .int .i64 g.q.t.k, .slice g.q.A g.q.t.v.length g.q.c, .slice g.q.A' g.q.t.p.length g.q.c', .slice g.A g.l.length g.c, .string g.s] 82)).alloc (.cells #[.int .i64 g.k, .int .i64 0, .int .i64 0, .string ⟨#[]⟩, .slice none 0 0, .slice none 0 0, .int .i64 0, .slice none 0 0, .slice none 0 0, .slice none 0 0, .string ⟨#[]⟩] 82) = W) :
    BG W w.heap.size g ∧ W.heap[w.heap.size + 1]? = some (.cells #[.int .i64 g.k, .int .i64 0, .int .i64 0, .string ⟨#[]⟩, .slice none 0 0, .slice none 0 0, .int .i64 0, .slice none 0 0, .slice none 0 0, .slice none 0 0, .string ⟨#[]⟩] 82 (0, 0)) ∧ Below w.heap.size w W ∧ W.heap.size = w.heap.size + 1 + 1 := by
  subst hW
  have b := below_new (w.alloc (.cells #[.int .i64 g.k, .int .i64 g.x.t.k, .int .i64 g.x.t.n, .string g.x.t.s, .slice g.x.A g.x.t.l.length g.x.c, .slice g.x.A' g.x.t.m.length g.x.c', .int .i64 g.q.t.k, .slice g.q.A g.q.t.v.length g.q.c, .slice g.q.A' g.q.t.p.length g.q.c', .slice g.A g.l.length g.c, .string g.s] 82)) (.cells #[.int .i64 g.k, .int .i64 0, .int .i64 0, .string ⟨#[]⟩, .slice none 0 0, .slice none 0 0, .int .i64 0, .slice none 0 0, .slice none 0 0, .slice none 0 0, .string ⟨#[]⟩] 82)
  have h := heap_alloc_new (w.alloc (.cells #[.int .i64 g.k, .int .i64 g.x.t.k, .int .i64 g.x.t.n, .string g.x.t.s, .slice g.x.A g.x.t.l.length g.x.c, .slice g.x.A' g.x.t.m.length g.x.c', .int .i64 g.q.t.k, .slice g.q.A g.q.t.v.length g.q.c, .slice g.q.A' g.q.t.p.length g.q.c', .slice g.A g.l.length g.c, .string g.s] 82)) (.cells #[.int .i64 g.k, .int .i64 0, .int .i64 0, .string ⟨#[]⟩, .slice none 0 0, .slice none 0 0, .int .i64 0, .slice none 0 0, .slice none 0 0, .slice none 0 0, .string ⟨#[]⟩] 82)
  rw [size_alloc] at h
  exact ⟨(BG.new w g).next b, h, below_new2 _ _ _, by simp⟩
theorem BG.far {W Z : World} {gb gz : Nat} {g : Gt} (h : BG W gb g) (hne : gb ≠ gz) (ho : ∀ q, q ≠ gz → Z.heap[q]? = W.heap[q]?) : BG Z gb g := by
  have c : ∀ i, Z.cell? ⟨gb, i, none⟩ = W.cell? ⟨gb, i, none⟩ := fun i => World.cell?_of_block (w := W) (a := ⟨gb, i, none⟩) (ho gb hne)
  have hl : gb < Z.heap.size := by
    rcases Nat.lt_or_ge gb Z.heap.size with h' | h'
    · exact h'
    · have := ho gb hne
      rw [Array.getElem?_eq_none h', Array.getElem?_eq_getElem h.lt] at this
      cases this
  exact ⟨(c 0).trans h.c0, (c 1).trans h.c1, (c 2).trans h.c2, (c 3).trans h.c3, (c 4).trans h.c4, (c 5).trans h.c5, (c 6).trans h.c6, (c 7).trans h.c7, (c 8).trans h.c8, (c 9).trans h.c9, (c 10).trans h.c10, hl⟩
theorem BG.of_lit {W : World} {gz : Nat} {u : Gt} (h : W.heap[gz]? = some (.cells u.cs.toArray 82 (0, 0))) : BG W gz u := by
  have hl : gz < W.heap.size := (Array.getElem?_eq_some_iff.1 h).1
  have c : ∀ i v, u.cs[i]? = some v → W.cell? ⟨gz, i, none⟩ = some v := fun i v hi => by
    rw [cell_of_row W gz i _ 82 (0, 0) h]
    simpa using hi
  exact ⟨c 0 _ rfl, c 1 _ rfl, c 2 _ rfl, c 3 _ rfl, c 4 _ rfl, c 5 _ rfl, c 6 _ rfl, c 7 _ rfl, c 8 _ rfl, c 9 _ rfl, c 10 _ rfl, hl⟩
set_option maxHeartbeats 25600000 in
theorem rarg_step (D : Nat) (ih : RChain D) : RArg D := by
  intro w d g deep hD hdeep hg
  obtain ⟨nv, hv⟩ := hg.v
  obtain ⟨np, hp⟩ := hg.p
  have HV := Lib.hid (show g.x.In w nv from hv)
  have HP := Lib.hid (show g.q.In w np from hp)
  have HC := Lib.hid hg.c
  have HS1 := hg.s1
  have hbc := hg.c.big
  have k0 := hg.k0
  have k1 := hg.k1
  have HD := Lib.hid (show DpC D g.l from hD)
  have IH := Lib.hid ih
  have hs' : (g.s.size : Int) ≤ 140737488355328 := by omega
  obtain ⟨ans, hans⟩ : ∃ b, b = argOk (chOk (10 - deep)) g.t := ⟨_, rfl⟩
  rw [← hans]
  have ANS := Lib.hid (show ans = (fitsA g.t && (if g.k = 1 then okV 12 g.x.t && wrV 12 g.x.t else if g.k = 2 then okP 12 g.q.t && wrP 12 g.q.t else if g.k = 3 then chOk (10 - deep) g.l else if g.k = 4 then wordB g.s else false)) from hans)
  have FIT := Lib.hid (show fitsA g.t = ((g.k == 1 || cmpV 12 g.x.t zeroV == 0) && (g.k == 2 || isZeroP g.q.t) && (g.k == 3 || g.l.length == 0) && (g.k == 4 || g.s.toList.isEmpty)) from rfl)
  clear hg hv hp hD ih hans
  unfold Gt.val
  go_enter Tryz.func39, Tryz.ntmps39
  go_upto_region 2 with fail
  generalize hW : World.alloc (World.alloc _ _) _ = W
  obtain ⟨kb, kz, hb, hz⟩ := box_two w g W hW
  obtain ⟨gz, hgz⟩ : ∃ q, q = w.heap.size + 1 := ⟨_, rfl⟩
  rw [← hgz] at kz ⊢
  have KB := Lib.hid kb
  have KZ := Lib.hid kz
  have HB := Lib.hid hb
  have HGZ := Lib.hid (show w.heap.size + 1 = gz ∧ gz < W.heap.size from ⟨hgz.symm, by omega⟩)
  obtain ⟨a0, a1, a2, a3, a4, a5, a6, a7, a8, a9, a10, _⟩ := kb
  clear hW hb hz kz hgz
  by_cases h1 : g.k = 1
  case pos =>
    have n1 : (g.k == 1) = true := by rw [h1]; rfl
    have z1 : W.cell? ⟨gz, 1, none⟩ = some (.int .i64 0) := by rw [cell_of_row W gz 1 _ 82 (0, 0) KZ.out]; rfl
    have f1 : W.frozen? ⟨gz, 1, none⟩ = false := by unfold World.frozen?; rw [KZ.out]; simp
    have z2 : W.cell? ⟨gz, 2, none⟩ = some (.int .i64 0) := by rw [cell_of_row W gz 2 _ 82 (0, 0) KZ.out]; rfl
    have f2 : W.frozen? ⟨gz, 2, none⟩ = false := by unfold World.frozen?; rw [KZ.out]; simp
    have z3 : W.cell? ⟨gz, 3, none⟩ = some (.string ⟨#[]⟩) := by rw [cell_of_row W gz 3 _ 82 (0, 0) KZ.out]; rfl
    have f3 : W.frozen? ⟨gz, 3, none⟩ = false := by unfold World.frozen?; rw [KZ.out]; simp
    have z4 : W.cell? ⟨gz, 4, none⟩ = some (.slice none 0 0) := by rw [cell_of_row W gz 4 _ 82 (0, 0) KZ.out]; rfl
    have f4 : W.frozen? ⟨gz, 4, none⟩ = false := by unfold World.frozen?; rw [KZ.out]; simp
    have z5 : W.cell? ⟨gz, 5, none⟩ = some (.slice none 0 0) := by rw [cell_of_row W gz 5 _ 82 (0, 0) KZ.out]; rfl
    have f5 : W.frozen? ⟨gz, 5, none⟩ = false := by unfold World.frozen?; rw [KZ.out]; simp
    have EQ := Lib.hid (show ans = (wrR g.x.t && ((cmpV 12 (g.x).t g.x.t == 0) && (sameP (pt0).t g.q.t && ((((0 : Nat) : Int) == (g.l.length : Int)) && ((⟨#[]⟩ : ByteArray).toList == g.s.toList))))) by
      rw [ANS.out, FIT.out, if_pos h1, h1]
      rw [cmp_self]
      rw [sameP_z]
      rw [len_turn]
      rw [str_turn]
      unfold wrR
      generalize (okV 12 g.x.t && wrV 12 g.x.t) = q0
      generalize isZeroP g.q.t = q1
      generalize (g.l.length == 0) = q2
      generalize g.s.toList.isEmpty = q3
      cases q0 <;> cases q1 <;> cases q2 <;> cases q3 <;> rfl)
    clear h1
    go_upto_region 6 with fail
    obtain ⟨Z, hZ⟩ : ∃ q, q = ((((W.setCell ⟨gz, 1, none⟩ (.int .i64 g.x.t.k)).setCell ⟨gz, 2, none⟩ (.int .i64 g.x.t.n)).setCell ⟨gz, 3, none⟩ (.string g.x.t.s)).setCell ⟨gz, 4, none⟩ (.slice g.x.A g.x.t.l.length g.x.c)).setCell ⟨gz, 5, none⟩ (.slice g.x.A' g.x.t.m.length g.x.c') := ⟨_, rfl⟩
    rw [← hZ]
    have ZL : Z.heap[gz]? = some (.cells ((⟨g.k, g.x, pt0, [], none, 0, ⟨#[]⟩⟩ : Gt).cs).toArray 82 (0, 0)) := by
      have kz := KZ.out
      rw [hZ]
      simp [World.setCell, Array.getElem?_modify, kz, Gt.cs, pt0, p0, V.k, V.n, V.s, V.l, V.m, P.k, P.v, P.p]
    have ZBB := Lib.hid (show Below w.heap.size w Z by rw [hZ]; exact (Below.setCell (p := ⟨gz, 5, none⟩) (Below.setCell (p := ⟨gz, 4, none⟩) (Below.setCell (p := ⟨gz, 3, none⟩) (Below.setCell (p := ⟨gz, 2, none⟩) (Below.setCell (p := ⟨gz, 1, none⟩) HB.out (by show w.heap.size ≤ gz; have := HGZ.out.1; omega) _) (by show w.heap.size ≤ gz; have := HGZ.out.1; omega) _) (by show w.heap.size ≤ gz; have := HGZ.out.1; omega) _) (by show w.heap.size ≤ gz; have := HGZ.out.1; omega) _) (by show w.heap.size ≤ gz; have := HGZ.out.1; omega) _))
    have OTH : ∀ q, q ≠ gz → Z.heap[q]? = W.heap[q]? := by
      intro q hq
      rw [hZ]
      simp [World.setCell, Array.getElem?_modify, Ne.symm hq]
    have ZG := Lib.hid (show BG Z w.heap.size g from BG.far KB.out (by have := HGZ.out.1; omega) OTH)
    have ZZ := Lib.hid (BG.of_lit (u := ⟨g.k, g.x, pt0, [], none, 0, ⟨#[]⟩⟩) ZL)
    have VX := Lib.hid (show g.x.In Z nv from HV.out.next ZBB.out)
    have PX := Lib.hid (show g.q.In Z np from HP.out.next ZBB.out)
    have CX := Lib.hid (HC.out.next ZBB.out)
    clear hZ ZL OTH z1 f1 z2 f2 z3 f3 z4 f4 z5 f5 a0 a1 a2 a3 a4 a5 a6 a7 a8 a9 a10
    obtain ⟨a0, a1, a2, a3, a4, a5, a6, a7, a8, a9, a10, _⟩ := ZG.out
    have CT := Lib.hid (rwr_any _ Z g.x VX.out)
    obtain ⟨t0, ht0⟩ : ∃ q, wrR g.x.t = q := ⟨_, rfl⟩
    rw [ht0] at CT EQ
    clear ht0
    go_wp2_with fail
    refine CT.out.mono ?_
    rintro e ZW ⟨rfl, hb⟩
    have ZB := Lib.hid hb
    have ZBB2 := Lib.hid (bnext ZBB.out hb)
    clear CT hb a0 a1 a2 a3 a4 a5 a6 a7 a8 a9 a10
    replace ZG := Lib.hid (ZG.out.next ZB.out)
    replace ZZ := Lib.hid (ZZ.out.next ZB.out)
    replace ZBB := ZBB2
    clear ZBB2
    obtain ⟨a0, a1, a2, a3, a4, a5, a6, a7, a8, a9, a10, _⟩ := ZG.out
    obtain ⟨y0, y1, y2, y3, y4, y5, y6, y7, y8, y9, y10, _⟩ := ZZ.out
    cases t0
    case false =>
      have FIN := Lib.hid (show ans = false by rw [EQ.out]; rfl)
      go_wp2
      go_ret
      exact ⟨by rw [FIN.out]; rfl, ZBB.out⟩
    have CT := Lib.hid (refSameV_any ZW _ _ g.x g.x (Lib.hid (VX.out.next ZB.out)).out (VX.out.next ZB.out))
    replace CT := Lib.hid (show Calls Tryz.prog 45 #[g.x.v, g.x.v] ZW fun e w' => e = .returned (.bool (cmpV 12 (g.x).t g.x.t == 0)) ∧ Below ZW.heap.size ZW w' from CT.out)
    obtain ⟨b1, hb1⟩ : ∃ q, (cmpV 12 (g.x).t g.x.t == 0) = q := ⟨_, rfl⟩
    rw [hb1] at CT EQ
    clear hb1
    go_wp2_with fail
    refine CT.out.mono ?_
    rintro e zu ⟨rfl, hb⟩
    have BU := Lib.hid (bnext ZBB.out hb)
    have GU := Lib.hid (ZG.out.next hb)
    have ZU := Lib.hid (ZZ.out.next hb)
    have DU := Lib.hid (bnext ZB.out hb)
    clear CT hb a0 a1 a2 a3 a4 a5 a6 a7 a8 a9 a10 y0 y1 y2 y3 y4 y5 y6 y7 y8 y9 y10
    obtain ⟨a0, a1, a2, a3, a4, a5, a6, a7, a8, a9, a10, _⟩ := GU.out
    obtain ⟨y0, y1, y2, y3, y4, y5, y6, y7, y8, y9, y10, _⟩ := ZU.out
    cases b1
    case false =>
      have FIN := Lib.hid (show ans = false by rw [EQ.out]; rfl)
      go_wp2
      go_ret
      exact ⟨by rw [FIN.out]; rfl, BU.out⟩
    have CT := Lib.hid (refSameP_any zu _ _ pt0 g.q (show (pt0).In zu 1 from pt0_in zu) (PX.out.next DU.out))
    replace CT := Lib.hid (show Calls Tryz.prog 46 #[(.agg #[.int .i64 0, .slice none 0 0, .slice none 0 0]), g.q.val] zu fun e w' => e = .returned (.bool (sameP (pt0).t g.q.t)) ∧ Below zu.heap.size zu w' from CT.out)
    obtain ⟨b2, hb2⟩ : ∃ q, sameP (pt0).t g.q.t = q := ⟨_, rfl⟩
    rw [hb2] at CT EQ
    clear hb2
    go_wp2_with fail
    refine CT.out.mono ?_
    rintro e zv ⟨rfl, hb⟩
    have BV := Lib.hid (bnext BU.out hb)
    have GV := Lib.hid (GU.out.next hb)
    have ZV := Lib.hid (ZU.out.next hb)
    clear CT hb a0 a1 a2 a3 a4 a5 a6 a7 a8 a9 a10 y0 y1 y2 y3 y4 y5 y6 y7 y8 y9 y10
    obtain ⟨a0, a1, a2, a3, a4, a5, a6, a7, a8, a9, a10, _⟩ := GV.out
    obtain ⟨y0, y1, y2, y3, y4, y5, y6, y7, y8, y9, y10, _⟩ := ZV.out
    cases b2
    case false =>
      have FIN := Lib.hid (show ans = false by rw [EQ.out]; rfl)
      go_wp2
      go_ret
      exact ⟨by rw [FIN.out]; rfl, BV.out⟩
    obtain ⟨b3, hb3⟩ : ∃ q, (((0 : Nat) : Int) == (g.l.length : Int)) = q := ⟨_, rfl⟩
    rw [hb3] at EQ
    have hb3' : ((0 : Int) == (g.l.length : Int)) = b3 := hb3
    clear hb3
    cases b3
    case false =>
      have FIN := Lib.hid (show ans = false by rw [EQ.out]; rfl)
      go_wp2
      go_ret
      exact ⟨by rw [FIN.out]; rfl, BV.out⟩
    obtain ⟨b4, hb4⟩ : ∃ q, ((⟨#[]⟩ : ByteArray).toList == g.s.toList) = q := ⟨_, rfl⟩
    rw [hb4] at EQ
    have hb5 : g.s.toList.isEmpty = b4 := by rw [← str_turn]; exact hb4
    have FIN := Lib.hid (show ans = b4 by rw [EQ.out]; cases b4 <;> rfl)
    cases b4
    · go_wp2
      go_ret
      exact ⟨by rw [FIN.out]; first | rfl | simp, BV.out⟩
    · go_wp2
      go_ret
      exact ⟨by rw [FIN.out]; first | rfl | simp, BV.out⟩

  by_cases h2 : g.k = 2
  case pos =>
    have n1 : (g.k == 1) = false := by rw [h2]; rfl
    have n2 : (g.k == 2) = true := by rw [h2]; rfl
    have z6 : W.cell? ⟨gz, 6, none⟩ = some (.int .i64 0) := by rw [cell_of_row W gz 6 _ 82 (0, 0) KZ.out]; rfl
    have f6 : W.frozen? ⟨gz, 6, none⟩ = false := by unfold World.frozen?; rw [KZ.out]; simp
    have z7 : W.cell? ⟨gz, 7, none⟩ = some (.slice none 0 0) := by rw [cell_of_row W gz 7 _ 82 (0, 0) KZ.out]; rfl
    have f7 : W.frozen? ⟨gz, 7, none⟩ = false := by unfold World.frozen?; rw [KZ.out]; simp
    have z8 : W.cell? ⟨gz, 8, none⟩ = some (.slice none 0 0) := by rw [cell_of_row W gz 8 _ 82 (0, 0) KZ.out]; rfl
    have f8 : W.frozen? ⟨gz, 8, none⟩ = false := by unfold World.frozen?; rw [KZ.out]; simp
    have EQ := Lib.hid (show ans = ((okP 12 g.q.t && wrP 12 g.q.t) && ((cmpV 12 (at0 v0).t g.x.t == 0) && (sameP (g.q).t g.q.t && ((((0 : Nat) : Int) == (g.l.length : Int)) && ((⟨#[]⟩ : ByteArray).toList == g.s.toList))))) by
      rw [ANS.out, FIT.out, if_neg (show ¬ g.k = 1 by omega), if_pos h2, h2]
      rw [cmp_turn]
      rw [sameP_self]
      rw [len_turn]
      rw [str_turn]
      generalize (okP 12 g.q.t && wrP 12 g.q.t) = q0
      generalize (cmpV 12 g.x.t zeroV == 0) = q1
      generalize (g.l.length == 0) = q2
      generalize g.s.toList.isEmpty = q3
      cases q0 <;> cases q1 <;> cases q2 <;> cases q3 <;> rfl)
    clear h1 h2
    go_upto_region 10 with fail
    obtain ⟨Z, hZ⟩ : ∃ q, q = ((W.setCell ⟨gz, 6, none⟩ (.int .i64 g.q.t.k)).setCell ⟨gz, 7, none⟩ (.slice g.q.A g.q.t.v.length g.q.c)).setCell ⟨gz, 8, none⟩ (.slice g.q.A' g.q.t.p.length g.q.c') := ⟨_, rfl⟩
    rw [← hZ]
    have ZL : Z.heap[gz]? = some (.cells ((⟨g.k, at0 v0, g.q, [], none, 0, ⟨#[]⟩⟩ : Gt).cs).toArray 82 (0, 0)) := by
      have kz := KZ.out
      rw [hZ]
      simp [World.setCell, Array.getElem?_modify, kz, Gt.cs, at0, v0, V.k, V.n, V.s, V.l, V.m, P.k, P.v, P.p]
    have ZBB := Lib.hid (show Below w.heap.size w Z by rw [hZ]; exact (Below.setCell (p := ⟨gz, 8, none⟩) (Below.setCell (p := ⟨gz, 7, none⟩) (Below.setCell (p := ⟨gz, 6, none⟩) HB.out (by show w.heap.size ≤ gz; have := HGZ.out.1; omega) _) (by show w.heap.size ≤ gz; have := HGZ.out.1; omega) _) (by show w.heap.size ≤ gz; have := HGZ.out.1; omega) _))
    have OTH : ∀ q, q ≠ gz → Z.heap[q]? = W.heap[q]? := by
      intro q hq
      rw [hZ]
      simp [World.setCell, Array.getElem?_modify, Ne.symm hq]
    have ZG := Lib.hid (show BG Z w.heap.size g from BG.far KB.out (by have := HGZ.out.1; omega) OTH)
    have ZZ := Lib.hid (BG.of_lit (u := ⟨g.k, at0 v0, g.q, [], none, 0, ⟨#[]⟩⟩) ZL)
    have VX := Lib.hid (show g.x.In Z nv from HV.out.next ZBB.out)
    have PX := Lib.hid (show g.q.In Z np from HP.out.next ZBB.out)
    have CX := Lib.hid (HC.out.next ZBB.out)
    clear hZ ZL OTH z6 f6 z7 f7 z8 f8 a0 a1 a2 a3 a4 a5 a6 a7 a8 a9 a10
    obtain ⟨a0, a1, a2, a3, a4, a5, a6, a7, a8, a9, a10, _⟩ := ZG.out
    obtain ⟨t0, ht0⟩ : ∃ q, okP 12 g.q.t = q := ⟨_, rfl⟩
    have CT := refPCheck Z np g.q PX.out
    rw [ht0] at CT
    replace CT := Lib.hid CT
    have HT0 := Lib.hid ht0
    rw [ht0] at EQ
    clear ht0
    go_wp2_with fail
    refine CT.out.mono ?_
    rintro e Z1 ⟨rfl, hb⟩
    have ZB := Lib.hid hb
    have ZBB2 := Lib.hid (bnext ZBB.out hb)
    clear CT hb a0 a1 a2 a3 a4 a5 a6 a7 a8 a9 a10
    replace ZG := Lib.hid (ZG.out.next ZB.out)
    replace ZZ := Lib.hid (ZZ.out.next ZB.out)
    replace ZBB := ZBB2
    clear ZBB2
    obtain ⟨a0, a1, a2, a3, a4, a5, a6, a7, a8, a9, a10, _⟩ := ZG.out
    cases t0
    case false =>
      have e1 : errI false = 2 := rfl
      have FIN := Lib.hid (show ans = false by rw [EQ.out]; rfl)
      go_wp2
      go_ret
      exact ⟨by rw [FIN.out]; rfl, ZBB.out⟩
    have e1 : errI true = 0 := rfl
    have CT := rwrP_any 12 Z1 np g.q HT0.out (PX.out.next ZB.out)
    obtain ⟨t1, ht1⟩ : ∃ q, wrP 12 g.q.t = q := ⟨_, rfl⟩
    rw [ht1] at CT EQ
    replace CT := Lib.hid CT
    clear ht1
    go_wp2_with fail
    refine CT.out.mono ?_
    rintro e ZW ⟨rfl, hb⟩
    have ZB2 := Lib.hid (bnext ZB.out hb)
    have ZBB2 := Lib.hid (bnext ZBB.out hb)
    replace ZG := Lib.hid (ZG.out.next hb)
    replace ZZ := Lib.hid (ZZ.out.next hb)
    clear CT hb a0 a1 a2 a3 a4 a5 a6 a7 a8 a9 a10
    replace ZBB := ZBB2
    replace ZB := ZB2
    clear ZBB2 ZB2
    obtain ⟨a0, a1, a2, a3, a4, a5, a6, a7, a8, a9, a10, _⟩ := ZG.out
    obtain ⟨y0, y1, y2, y3, y4, y5, y6, y7, y8, y9, y10, _⟩ := ZZ.out
    cases t1
    case false =>
      have FIN := Lib.hid (show ans = false by rw [EQ.out]; rfl)
      go_wp2
      go_ret
      exact ⟨by rw [FIN.out]; rfl, ZBB.out⟩
    have CT := Lib.hid (refSameV_any ZW _ _ (at0 v0) g.x (Lib.hid (show (at0 v0).In ZW 1 from at0_in ZW v0 rfl rfl v0_fld)).out (VX.out.next ZB.out))
    replace CT := Lib.hid (show Calls Tryz.prog 45 #[(.agg #[.int .i64 0, .int .i64 0, .string ⟨#[]⟩, .slice none 0 0, .slice none 0 0]), g.x.v] ZW fun e w' => e = .returned (.bool (cmpV 12 ((at0 v0)).t g.x.t == 0)) ∧ Below ZW.heap.size ZW w' from CT.out)
    obtain ⟨b1, hb1⟩ : ∃ q, (cmpV 12 ((at0 v0)).t g.x.t == 0) = q := ⟨_, rfl⟩
    rw [hb1] at CT EQ
    clear hb1
    go_wp2_with fail
    refine CT.out.mono ?_
    rintro e zu ⟨rfl, hb⟩
    have BU := Lib.hid (bnext ZBB.out hb)
    have GU := Lib.hid (ZG.out.next hb)
    have ZU := Lib.hid (ZZ.out.next hb)
    have DU := Lib.hid (bnext ZB.out hb)
    clear CT hb a0 a1 a2 a3 a4 a5 a6 a7 a8 a9 a10 y0 y1 y2 y3 y4 y5 y6 y7 y8 y9 y10
    obtain ⟨a0, a1, a2, a3, a4, a5, a6, a7, a8, a9, a10, _⟩ := GU.out
    obtain ⟨y0, y1, y2, y3, y4, y5, y6, y7, y8, y9, y10, _⟩ := ZU.out
    cases b1
    case false =>
      have FIN := Lib.hid (show ans = false by rw [EQ.out]; rfl)
      go_wp2
      go_ret
      exact ⟨by rw [FIN.out]; rfl, BU.out⟩
    have CT := Lib.hid (refSameP_any zu _ _ g.q g.q (PX.out.next DU.out) (PX.out.next DU.out))
    replace CT := Lib.hid (show Calls Tryz.prog 46 #[g.q.val, g.q.val] zu fun e w' => e = .returned (.bool (sameP (g.q).t g.q.t)) ∧ Below zu.heap.size zu w' from CT.out)
    obtain ⟨b2, hb2⟩ : ∃ q, sameP (g.q).t g.q.t = q := ⟨_, rfl⟩
    rw [hb2] at CT EQ
    clear hb2
    go_wp2_with fail
    refine CT.out.mono ?_
    rintro e zv ⟨rfl, hb⟩
    have BV := Lib.hid (bnext BU.out hb)
    have GV := Lib.hid (GU.out.next hb)
    have ZV := Lib.hid (ZU.out.next hb)
    clear CT hb a0 a1 a2 a3 a4 a5 a6 a7 a8 a9 a10 y0 y1 y2 y3 y4 y5 y6 y7 y8 y9 y10
    obtain ⟨a0, a1, a2, a3, a4, a5, a6, a7, a8, a9, a10, _⟩ := GV.out
    obtain ⟨y0, y1, y2, y3, y4, y5, y6, y7, y8, y9, y10, _⟩ := ZV.out
    cases b2
    case false =>
      have FIN := Lib.hid (show ans = false by rw [EQ.out]; rfl)
      go_wp2
      go_ret
      exact ⟨by rw [FIN.out]; rfl, BV.out⟩
    obtain ⟨b3, hb3⟩ : ∃ q, (((0 : Nat) : Int) == (g.l.length : Int)) = q := ⟨_, rfl⟩
    rw [hb3] at EQ
    have hb3' : ((0 : Int) == (g.l.length : Int)) = b3 := hb3
    clear hb3
    cases b3
    case false =>
      have FIN := Lib.hid (show ans = false by rw [EQ.out]; rfl)
      go_wp2
      go_ret
      exact ⟨by rw [FIN.out]; rfl, BV.out⟩
    obtain ⟨b4, hb4⟩ : ∃ q, ((⟨#[]⟩ : ByteArray).toList == g.s.toList) = q := ⟨_, rfl⟩
    rw [hb4] at EQ
    have hb5 : g.s.toList.isEmpty = b4 := by rw [← str_turn]; exact hb4
    have FIN := Lib.hid (show ans = b4 by rw [EQ.out]; cases b4 <;> rfl)
    cases b4
    · go_wp2
      go_ret
      exact ⟨by rw [FIN.out]; first | rfl | simp, BV.out⟩
    · go_wp2
      go_ret
      exact ⟨by rw [FIN.out]; first | rfl | simp, BV.out⟩

  by_cases h3 : g.k = 3
  case pos =>
    have n1 : (g.k == 1) = false := by rw [h3]; rfl
    have n2 : (g.k == 2) = false := by rw [h3]; rfl
    have n3 : (g.k == 3) = true := by rw [h3]; rfl
    have z9 : W.cell? ⟨gz, 9, none⟩ = some (.slice none 0 0) := by rw [cell_of_row W gz 9 _ 82 (0, 0) KZ.out]; rfl
    have f9 : W.frozen? ⟨gz, 9, none⟩ = false := by unfold World.frozen?; rw [KZ.out]; simp
    have EQ := Lib.hid (show ans = (chOk (10 - deep) g.l && ((cmpV 12 (at0 v0).t g.x.t == 0) && (sameP (pt0).t g.q.t && (true && ((⟨#[]⟩ : ByteArray).toList == g.s.toList))))) by
      rw [ANS.out, FIT.out, if_neg (show ¬ g.k = 1 by omega), if_neg (show ¬ g.k = 2 by omega), if_pos h3, h3]
      rw [cmp_turn]
      rw [sameP_z]
      rw [str_turn]
      generalize chOk (10 - deep) g.l = q0
      generalize (cmpV 12 g.x.t zeroV == 0) = q1
      generalize isZeroP g.q.t = q2
      generalize g.s.toList.isEmpty = q3
      cases q0 <;> cases q1 <;> cases q2 <;> cases q3 <;> rfl)
    clear h1 h2 h3
    go_upto_region 15 with fail
    obtain ⟨Z, hZ⟩ : ∃ q, q = W.setCell ⟨gz, 9, none⟩ (.slice g.A g.l.length g.c) := ⟨_, rfl⟩
    rw [← hZ]
    have ZL : Z.heap[gz]? = some (.cells ((⟨g.k, at0 v0, pt0, g.l, g.A, g.c, ⟨#[]⟩⟩ : Gt).cs).toArray 82 (0, 0)) := by
      have kz := KZ.out
      rw [hZ]
      simp [World.setCell, Array.getElem?_modify, kz, Gt.cs, at0, pt0, v0, p0, V.k, V.n, V.s, V.l, V.m, P.k, P.v, P.p]
    have ZBB := Lib.hid (show Below w.heap.size w Z by rw [hZ]; exact (Below.setCell (p := ⟨gz, 9, none⟩) HB.out (by show w.heap.size ≤ gz; have := HGZ.out.1; omega) _))
    have OTH : ∀ q, q ≠ gz → Z.heap[q]? = W.heap[q]? := by
      intro q hq
      rw [hZ]
      simp [World.setCell, Array.getElem?_modify, Ne.symm hq]
    have ZG := Lib.hid (show BG Z w.heap.size g from BG.far KB.out (by have := HGZ.out.1; omega) OTH)
    have ZZ := Lib.hid (BG.of_lit (u := ⟨g.k, at0 v0, pt0, g.l, g.A, g.c, ⟨#[]⟩⟩) ZL)
    have VX := Lib.hid (show g.x.In Z nv from HV.out.next ZBB.out)
    have PX := Lib.hid (show g.q.In Z np from HP.out.next ZBB.out)
    have CX := Lib.hid (HC.out.next ZBB.out)
    clear hZ ZL OTH z9 f9 a0 a1 a2 a3 a4 a5 a6 a7 a8 a9 a10
    obtain ⟨a0, a1, a2, a3, a4, a5, a6, a7, a8, a9, a10, _⟩ := ZG.out
    have i1 : IntKind.i64.wrap ((deep : Int) + 1) = ((deep + 1 : Nat) : Int) := by rw [IntWalk.i64_in _ (by omega)]; omega
    have i2 : wrap64 ((deep : Int) + 1) = ((deep + 1 : Nat) : Int) := by unfold wrap64; omega
    have CQ := IH.out Z d g.A g.c g.l (deep + 1) HD.out (by omega) CX.out
    rw [show 11 - (deep + 1) = 10 - deep by omega] at CQ
    have CT := Lib.hid (CQ)
    obtain ⟨t0, ht0⟩ : ∃ q, chOk (10 - deep) g.l = q := ⟨_, rfl⟩
    rw [ht0] at CT EQ
    clear ht0
    go_wp2_with fail
    refine CT.out.mono ?_
    rintro e ZW ⟨rfl, hb⟩
    have ZB := Lib.hid hb
    have ZBB2 := Lib.hid (bnext ZBB.out hb)
    clear CT hb a0 a1 a2 a3 a4 a5 a6 a7 a8 a9 a10
    replace ZG := Lib.hid (ZG.out.next ZB.out)
    replace ZZ := Lib.hid (ZZ.out.next ZB.out)
    replace ZBB := ZBB2
    clear ZBB2
    obtain ⟨a0, a1, a2, a3, a4, a5, a6, a7, a8, a9, a10, _⟩ := ZG.out
    obtain ⟨y0, y1, y2, y3, y4, y5, y6, y7, y8, y9, y10, _⟩ := ZZ.out
    cases t0
    case false =>
      have FIN := Lib.hid (show ans = false by rw [EQ.out]; rfl)
      go_wp2
      go_ret
      exact ⟨by rw [FIN.out]; rfl, ZBB.out⟩
    have CT := Lib.hid (refSameV_any ZW _ _ (at0 v0) g.x (Lib.hid (show (at0 v0).In ZW 1 from at0_in ZW v0 rfl rfl v0_fld)).out (VX.out.next ZB.out))
    replace CT := Lib.hid (show Calls Tryz.prog 45 #[(.agg #[.int .i64 0, .int .i64 0, .string ⟨#[]⟩, .slice none 0 0, .slice none 0 0]), g.x.v] ZW fun e w' => e = .returned (.bool (cmpV 12 ((at0 v0)).t g.x.t == 0)) ∧ Below ZW.heap.size ZW w' from CT.out)
    obtain ⟨b1, hb1⟩ : ∃ q, (cmpV 12 ((at0 v0)).t g.x.t == 0) = q := ⟨_, rfl⟩
    rw [hb1] at CT EQ
    clear hb1
    go_wp2_with fail
    refine CT.out.mono ?_
    rintro e zu ⟨rfl, hb⟩
    have BU := Lib.hid (bnext ZBB.out hb)
    have GU := Lib.hid (ZG.out.next hb)
    have ZU := Lib.hid (ZZ.out.next hb)
    have DU := Lib.hid (bnext ZB.out hb)
    clear CT hb a0 a1 a2 a3 a4 a5 a6 a7 a8 a9 a10 y0 y1 y2 y3 y4 y5 y6 y7 y8 y9 y10
    obtain ⟨a0, a1, a2, a3, a4, a5, a6, a7, a8, a9, a10, _⟩ := GU.out
    obtain ⟨y0, y1, y2, y3, y4, y5, y6, y7, y8, y9, y10, _⟩ := ZU.out
    cases b1
    case false =>
      have FIN := Lib.hid (show ans = false by rw [EQ.out]; rfl)
      go_wp2
      go_ret
      exact ⟨by rw [FIN.out]; rfl, BU.out⟩
    have CT := Lib.hid (refSameP_any zu _ _ pt0 g.q (show (pt0).In zu 1 from pt0_in zu) (PX.out.next DU.out))
    replace CT := Lib.hid (show Calls Tryz.prog 46 #[(.agg #[.int .i64 0, .slice none 0 0, .slice none 0 0]), g.q.val] zu fun e w' => e = .returned (.bool (sameP (pt0).t g.q.t)) ∧ Below zu.heap.size zu w' from CT.out)
    obtain ⟨b2, hb2⟩ : ∃ q, sameP (pt0).t g.q.t = q := ⟨_, rfl⟩
    rw [hb2] at CT EQ
    clear hb2
    go_wp2_with fail
    refine CT.out.mono ?_
    rintro e zv ⟨rfl, hb⟩
    have BV := Lib.hid (bnext BU.out hb)
    have GV := Lib.hid (GU.out.next hb)
    have ZV := Lib.hid (ZU.out.next hb)
    clear CT hb a0 a1 a2 a3 a4 a5 a6 a7 a8 a9 a10 y0 y1 y2 y3 y4 y5 y6 y7 y8 y9 y10
    obtain ⟨a0, a1, a2, a3, a4, a5, a6, a7, a8, a9, a10, _⟩ := GV.out
    obtain ⟨y0, y1, y2, y3, y4, y5, y6, y7, y8, y9, y10, _⟩ := ZV.out
    cases b2
    case false =>
      have FIN := Lib.hid (show ans = false by rw [EQ.out]; rfl)
      go_wp2
      go_ret
      exact ⟨by rw [FIN.out]; rfl, BV.out⟩
    have hb3 : ((g.l.length : Int) == (g.l.length : Int)) = true := by simp
    obtain ⟨b4, hb4⟩ : ∃ q, ((⟨#[]⟩ : ByteArray).toList == g.s.toList) = q := ⟨_, rfl⟩
    rw [hb4] at EQ
    have hb5 : g.s.toList.isEmpty = b4 := by rw [← str_turn]; exact hb4
    have FIN := Lib.hid (show ans = b4 by rw [EQ.out]; cases b4 <;> rfl)
    cases b4
    · go_wp2
      go_ret
      exact ⟨by rw [FIN.out]; first | rfl | simp, BV.out⟩
    · go_wp2
      go_ret
      exact ⟨by rw [FIN.out]; first | rfl | simp, BV.out⟩

  by_cases h4 : g.k = 4
  case pos =>
    have n1 : (g.k == 1) = false := by rw [h4]; rfl
    have n2 : (g.k == 2) = false := by rw [h4]; rfl
    have n3 : (g.k == 3) = false := by rw [h4]; rfl
    have n4 : (g.k == 4) = true := by rw [h4]; rfl
    have z10 : W.cell? ⟨gz, 10, none⟩ = some (.string ⟨#[]⟩) := by rw [cell_of_row W gz 10 _ 82 (0, 0) KZ.out]; rfl
    have f10 : W.frozen? ⟨gz, 10, none⟩ = false := by unfold World.frozen?; rw [KZ.out]; simp
    have EQ := Lib.hid (show ans = ((nameB g.s && !takenB g.s) && ((cmpV 12 (at0 v0).t g.x.t == 0) && (sameP (pt0).t g.q.t && ((((0 : Nat) : Int) == (g.l.length : Int)) && true)))) by
      rw [ANS.out, FIT.out, if_neg (show ¬ g.k = 1 by omega), if_neg (show ¬ g.k = 2 by omega), if_neg (show ¬ g.k = 3 by omega), if_pos h4, h4]
      rw [cmp_turn]
      rw [sameP_z]
      rw [len_turn]
      unfold wordB
      generalize (nameB g.s && !takenB g.s) = q0
      generalize (cmpV 12 g.x.t zeroV == 0) = q1
      generalize isZeroP g.q.t = q2
      generalize (g.l.length == 0) = q3
      cases q0 <;> cases q1 <;> cases q2 <;> cases q3 <;> rfl)
    clear h1 h2 h3 h4
    go_upto_region 19 with fail
    obtain ⟨Z, hZ⟩ : ∃ q, q = W.setCell ⟨gz, 10, none⟩ (.string g.s) := ⟨_, rfl⟩
    rw [← hZ]
    have ZL : Z.heap[gz]? = some (.cells ((⟨g.k, at0 v0, pt0, [], none, 0, g.s⟩ : Gt).cs).toArray 82 (0, 0)) := by
      have kz := KZ.out
      rw [hZ]
      simp [World.setCell, Array.getElem?_modify, kz, Gt.cs, at0, pt0, v0, p0, V.k, V.n, V.s, V.l, V.m, P.k, P.v, P.p]
    have ZBB := Lib.hid (show Below w.heap.size w Z by rw [hZ]; exact (Below.setCell (p := ⟨gz, 10, none⟩) HB.out (by show w.heap.size ≤ gz; have := HGZ.out.1; omega) _))
    have OTH : ∀ q, q ≠ gz → Z.heap[q]? = W.heap[q]? := by
      intro q hq
      rw [hZ]
      simp [World.setCell, Array.getElem?_modify, Ne.symm hq]
    have ZG := Lib.hid (show BG Z w.heap.size g from BG.far KB.out (by have := HGZ.out.1; omega) OTH)
    have ZZ := Lib.hid (BG.of_lit (u := ⟨g.k, at0 v0, pt0, [], none, 0, g.s⟩) ZL)
    have VX := Lib.hid (show g.x.In Z nv from HV.out.next ZBB.out)
    have PX := Lib.hid (show g.q.In Z np from HP.out.next ZBB.out)
    have CX := Lib.hid (HC.out.next ZBB.out)
    clear hZ ZL OTH z10 f10 a0 a1 a2 a3 a4 a5 a6 a7 a8 a9 a10
    obtain ⟨a0, a1, a2, a3, a4, a5, a6, a7, a8, a9, a10, _⟩ := ZG.out
    have CT := Lib.hid (rword_any g.s Z HS1)
    obtain ⟨t0, ht0⟩ : ∃ q, (nameB g.s && !takenB g.s) = q := ⟨_, rfl⟩
    rw [ht0] at CT EQ
    clear ht0
    go_wp2_with fail
    refine CT.out.mono ?_
    rintro e ZW ⟨rfl, hb⟩
    have ZB := Lib.hid hb
    have ZBB2 := Lib.hid (bnext ZBB.out hb)
    clear CT hb a0 a1 a2 a3 a4 a5 a6 a7 a8 a9 a10
    replace ZG := Lib.hid (ZG.out.next ZB.out)
    replace ZZ := Lib.hid (ZZ.out.next ZB.out)
    replace ZBB := ZBB2
    clear ZBB2
    obtain ⟨a0, a1, a2, a3, a4, a5, a6, a7, a8, a9, a10, _⟩ := ZG.out
    obtain ⟨y0, y1, y2, y3, y4, y5, y6, y7, y8, y9, y10, _⟩ := ZZ.out
    cases t0
    case false =>
      have FIN := Lib.hid (show ans = false by rw [EQ.out]; rfl)
      go_wp2
      go_ret
      exact ⟨by rw [FIN.out]; rfl, ZBB.out⟩
    have CT := Lib.hid (refSameV_any ZW _ _ (at0 v0) g.x (Lib.hid (show (at0 v0).In ZW 1 from at0_in ZW v0 rfl rfl v0_fld)).out (VX.out.next ZB.out))
    replace CT := Lib.hid (show Calls Tryz.prog 45 #[(.agg #[.int .i64 0, .int .i64 0, .string ⟨#[]⟩, .slice none 0 0, .slice none 0 0]), g.x.v] ZW fun e w' => e = .returned (.bool (cmpV 12 ((at0 v0)).t g.x.t == 0)) ∧ Below ZW.heap.size ZW w' from CT.out)
    obtain ⟨b1, hb1⟩ : ∃ q, (cmpV 12 ((at0 v0)).t g.x.t == 0) = q := ⟨_, rfl⟩
    rw [hb1] at CT EQ
    clear hb1
    go_wp2_with fail
    refine CT.out.mono ?_
    rintro e zu ⟨rfl, hb⟩
    have BU := Lib.hid (bnext ZBB.out hb)
    have GU := Lib.hid (ZG.out.next hb)
    have ZU := Lib.hid (ZZ.out.next hb)
    have DU := Lib.hid (bnext ZB.out hb)
    clear CT hb a0 a1 a2 a3 a4 a5 a6 a7 a8 a9 a10 y0 y1 y2 y3 y4 y5 y6 y7 y8 y9 y10
    obtain ⟨a0, a1, a2, a3, a4, a5, a6, a7, a8, a9, a10, _⟩ := GU.out
    obtain ⟨y0, y1, y2, y3, y4, y5, y6, y7, y8, y9, y10, _⟩ := ZU.out
    cases b1
    case false =>
      have FIN := Lib.hid (show ans = false by rw [EQ.out]; rfl)
      go_wp2
      go_ret
      exact ⟨by rw [FIN.out]; rfl, BU.out⟩
    have CT := Lib.hid (refSameP_any zu _ _ pt0 g.q (show (pt0).In zu 1 from pt0_in zu) (PX.out.next DU.out))
    replace CT := Lib.hid (show Calls Tryz.prog 46 #[(.agg #[.int .i64 0, .slice none 0 0, .slice none 0 0]), g.q.val] zu fun e w' => e = .returned (.bool (sameP (pt0).t g.q.t)) ∧ Below zu.heap.size zu w' from CT.out)
    obtain ⟨b2, hb2⟩ : ∃ q, sameP (pt0).t g.q.t = q := ⟨_, rfl⟩
    rw [hb2] at CT EQ
    clear hb2
    go_wp2_with fail
    refine CT.out.mono ?_
    rintro e zv ⟨rfl, hb⟩
    have BV := Lib.hid (bnext BU.out hb)
    have GV := Lib.hid (GU.out.next hb)
    have ZV := Lib.hid (ZU.out.next hb)
    clear CT hb a0 a1 a2 a3 a4 a5 a6 a7 a8 a9 a10 y0 y1 y2 y3 y4 y5 y6 y7 y8 y9 y10
    obtain ⟨a0, a1, a2, a3, a4, a5, a6, a7, a8, a9, a10, _⟩ := GV.out
    obtain ⟨y0, y1, y2, y3, y4, y5, y6, y7, y8, y9, y10, _⟩ := ZV.out
    cases b2
    case false =>
      have FIN := Lib.hid (show ans = false by rw [EQ.out]; rfl)
      go_wp2
      go_ret
      exact ⟨by rw [FIN.out]; rfl, BV.out⟩
    obtain ⟨b3, hb3⟩ : ∃ q, (((0 : Nat) : Int) == (g.l.length : Int)) = q := ⟨_, rfl⟩
    rw [hb3] at EQ
    have hb3' : ((0 : Int) == (g.l.length : Int)) = b3 := hb3
    clear hb3
    cases b3
    case false =>
      have FIN := Lib.hid (show ans = false by rw [EQ.out]; rfl)
      go_wp2
      go_ret
      exact ⟨by rw [FIN.out]; rfl, BV.out⟩
    have FIN := Lib.hid (show ans = true by rw [EQ.out]; rfl)
    go_wp2
    go_ret
    exact ⟨by rw [FIN.out]; first | rfl | simp, BV.out⟩

  have FIN := Lib.hid (show ans = false by rw [ANS.out, if_neg h1, if_neg h2, if_neg h3, if_neg h4, Bool.and_false])
  have n1 : (g.k == 1) = false := beq_eq_false_iff_ne.2 h1
  have n2 : (g.k == 2) = false := beq_eq_false_iff_ne.2 h2
  have n3 : (g.k == 3) = false := beq_eq_false_iff_ne.2 h3
  have n4 : (g.k == 4) = false := beq_eq_false_iff_ne.2 h4
  clear h1 h2 h3 h4
  go_wp2
  go_ret
  exact ⟨by rw [FIN.out]; rfl, HB.out⟩
theorem chOk_all (deep : Nat) (l : List C) : chOk (11 - deep) l = (l.all (callOk (chOk (10 - deep))) && (decide (0 < l.length) && decide (deep ≤ 10))) := by
  by_cases h : deep ≤ 10
  · rw [show 11 - deep = (10 - deep) + 1 by omega, decide_eq_true h, Bool.and_true, Bool.and_comm]
    rfl
  · rw [show 11 - deep = 0 by omega, decide_eq_false h, Bool.and_false, Bool.and_false]
    rfl
set_option maxHeartbeats 12800000 in
theorem rchain_step (D : Nat) (ih : ∀ E, D = E + 1 → RArg E) : RChain D := by
  intro w d A c l deep hD hdeep hx
  have H := Lib.hid hx
  have hbig := hx.big
  have HARG := Lib.hid (show ∀ x ∈ l, ∀ g ∈ x.a, ∀ (W : World) (e : Nat) (G : Gt), G.t = g → G.In W e → Calls Tryz.prog 39 #[G.val, .int .i64 (deep : Int)] W fun e w' => e = .returned (.bool (argOk (chOk (10 - deep)) g)) ∧ Below W.heap.size W w' from by
    intro x hxl g hg W e G hG hGi
    cases D with
    | zero =>
      obtain rfl : l = [] := hD
      cases hxl
    | succ E =>
      subst hG
      exact ih E rfl W e G deep (hD x hxl G.t hg) (by omega) hGi)
  obtain ⟨ans, hans⟩ : ∃ b, b = chOk (11 - deep) l := ⟨_, rfl⟩
  rw [← hans]
  have ANS := Lib.hid (show ans = (l.all (callOk (chOk (10 - deep))) && (decide (0 < l.length) && decide (deep ≤ 10))) by rw [hans]; exact chOk_all deep l)
  have hdp : (deep : Int) ≤ 901 := by omega
  have hdp0 : (0 : Int) ≤ (deep : Int) := by omega
  clear hx ih hD hans
  go_enter Tryz.func22, Tryz.ntmps22
  go_wp2
  go_loopw [5] (fun i wr => ∃ k : Nat, k ≤ l.length ∧ i = .int .i64 k ∧ Hid (Below w.heap.size w wr) ∧ Hid ((l.take k).all (callOk (chOk (10 - deep))) = true)) (fun i _ => l.length - (intOf i).toNat)
  case atStart => exact ⟨0, by omega, rfl, Lib.hid (Below.refl _ _), Lib.hid rfl⟩
  case round =>
    obtain ⟨k, hk, rfl, hbel, hA⟩ := hrel
    by_cases hlt : k < l.length
    case neg =>
      have ALL := Lib.hid (show ans = (decide (0 < l.length) && decide (deep ≤ 10)) by
        have h := hA.out
        rw [List.take_of_length_le (by omega)] at h
        rw [ANS.out, h, Bool.true_and])
      have hk9 : ¬ (k : Int) < (l.length : Int) := by omega
      clear hlt hk hA
      by_cases h0 : 0 < l.length
      · have h0' : (0 : Int) < (l.length : Int) := by omega
        by_cases h10 : deep ≤ 10
        · have h10' : (deep : Int) ≤ 10 := by omega
          have FIN := Lib.hid (show ans = true by rw [ALL.out, decide_eq_true h0, decide_eq_true h10]; rfl)
          clear h0 h10
          go_wp2
          go_ret
          exact ⟨by rw [FIN.out]; rfl, hbel.out⟩
        · have h10' : ¬ (deep : Int) ≤ 10 := by omega
          have FIN := Lib.hid (show ans = false by rw [ALL.out, decide_eq_false h10, Bool.and_false])
          clear h0 h10
          go_wp2
          go_ret
          exact ⟨by rw [FIN.out]; rfl, hbel.out⟩
      · have h0' : ¬ (0 : Int) < (l.length : Int) := by omega
        have FIN := Lib.hid (show ans = false by rw [ALL.out, decide_eq_false h0]; rfl)
        clear h0
        go_wp2
        go_ret
        exact ⟨by rw [FIN.out]; rfl, hbel.out⟩
    obtain ⟨b, off, x, e, rfl, rfl, hb, hx, q, hn, ra⟩ := (H.out.next hbel.out).elem hlt
    have NX := Lib.hid (all_snoc (callOk (chOk (10 - deep))) l k hx)
    have ST := Lib.hid (show callOk (chOk (10 - deep)) x.t = false → ans = false from fun h => by rw [ANS.out, all_hit _ l k hx h]; rfl)
    have CALL := Lib.hid (show callOk (chOk (10 - deep)) x.t = (nameB x.n && !(x.n.toList == [95, 95]) && decide (x.l.length ≤ 50) && x.l.all (argOk (chOk (10 - deep)))) from rfl)
    have HAX := Lib.hid (HARG.out x.t (List.mem_of_getElem? hx))
    have Q0 := Lib.hid q.c0
    have Q1 := Lib.hid q.c1
    have HBB := Lib.hid hb
    have RA := Lib.hid ra
    have hbx := ra.big
    have CN := Lib.hid (refName_any x.n wr hn)
    obtain ⟨q0, q1⟩ := q
    have i0 : (0 : Int) ≤ (k : Int) := by omega
    have i2 : (k : Int) < (l.length : Int) := by omega
    clear ra hx hb hn
    obtain ⟨z1, hz1⟩ : ∃ z, nameB x.n = z := ⟨_, rfl⟩
    rw [hz1] at CN CALL
    clear hz1
    go_wp2_with fail
    refine CN.out.mono ?_
    rintro e1 w1 ⟨rfl, hw1⟩
    subst hw1
    clear CN
    cases z1
    case false =>
      have FIN := Lib.hid (ST.out (by rw [CALL.out]; rfl))
      go_wp2
      go_ret
      exact ⟨by rw [FIN.out]; rfl, hbel.out⟩
    cases hz2 : (x.n.toList == [95, 95])
    case true =>
      have FIN := Lib.hid (ST.out (by rw [CALL.out, hz2]; rfl))
      go_wp2
      go_ret
      exact ⟨by rw [FIN.out]; rfl, hbel.out⟩
    by_cases hz3 : x.l.length ≤ 50
    case neg =>
      have hz3' : (50 : Int) < (x.l.length : Int) := by omega
      have FIN := Lib.hid (ST.out (by rw [CALL.out, decide_eq_false hz3, Bool.and_false]; rfl))
      clear hz3
      go_wp2
      go_ret
      exact ⟨by rw [FIN.out]; rfl, hbel.out⟩
    have hz3' : ¬ (50 : Int) < (x.l.length : Int) := by omega
    have CALL2 := Lib.hid (show callOk (chOk (10 - deep)) x.t = x.l.all (argOk (chOk (10 - deep))) by rw [CALL.out, hz2, decide_eq_true hz3]; rfl)
    clear hz3 CALL
    go_wp2
    obtain ⟨wo, hwo⟩ : ∃ q, q = wr := ⟨_, rfl⟩
    subst hwo
    clear q0 q1 hz2
    go_loopw [6] (fun i wr => ∃ j : Nat, j ≤ x.l.length ∧ i = .int .i64 j ∧ Hid (Below wo.heap.size wo wr) ∧ Hid ((x.l.take j).all (argOk (chOk (10 - deep))) = true)) (fun i _ => x.l.length - (intOf i).toNat)
    case atStart => exact ⟨0, by omega, rfl, Lib.hid (Below.refl _ _), Lib.hid rfl⟩
    case round =>
      obtain ⟨j, hj, rfl, hbel2, hA2⟩ := hrel
      have s1 := cell_below hbel2.out Q1.out HBB.out
      by_cases hlt2 : j < x.l.length
      case neg =>
        have NX2 := Lib.hid (show (l.take (k + 1)).all (callOk (chOk (10 - deep))) = true by
          have h := hA2.out
          rw [List.take_of_length_le (by omega)] at h
          rw [NX.out, hA.out, CALL2.out, h]; rfl)
        have hj9 : ¬ (j : Int) < (x.l.length : Int) := by omega
        clear hlt2 hj
        go_wp2
        go_roundw
        case rel => exact ⟨k + 1, by omega, by go_num, Lib.hid (bnext hbel.out hbel2.out), NX2⟩
        case measure => simp [intOf]; omega
      obtain ⟨b2, off2, g, eA, hb2, hg, q, rg⟩ := (RA.out.next hbel2.out).elem hlt2
      rw [eA] at s1
      obtain ⟨q0, q1, q2, q3, q4, q5, q6, q7, q8, q9, q10⟩ := q
      have NY := Lib.hid (all_snoc (argOk (chOk (10 - deep))) x.l j hg)
      have SY := Lib.hid (show argOk (chOk (10 - deep)) g.t = false → ans = false from fun h => ST.out (by rw [CALL2.out, all_hit _ x.l j hg h]))
      have CT := HAX.out g.t (List.mem_of_getElem? hg) wr _ g rfl rg
      obtain ⟨z, hz⟩ : ∃ z, argOk (chOk (10 - deep)) g.t = z := ⟨_, rfl⟩
      rw [hz] at CT NY SY
      replace CT := Lib.hid CT
      have j0 : (0 : Int) ≤ (j : Int) := by omega
      have j1 : (j : Int) < (x.l.length : Int) := by omega
      clear rg hg eA hz hb2
      go_wp2_with fail
      refine CT.out.mono ?_
      rintro e2 w2 ⟨rfl, hb⟩
      have HB2 := Lib.hid (bnext hbel2.out hb)
      clear hb CT s1 q0 q1 q2 q3 q4 q5 q6 q7 q8 q9 q10
      cases z
      · have FIN := Lib.hid (SY.out rfl)
        go_wp2
        go_ret
        exact ⟨by rw [FIN.out]; rfl, bnext hbel.out HB2.out⟩
      · go_wp2
        go_roundw
        case rel => exact ⟨j + 1, by omega, by go_num, HB2, Lib.hid (by rw [NY.out, hA2.out]; rfl)⟩
        case measure => simp [intOf]; omega
theorem rchain_any : ∀ D, RChain D
  | 0 => rchain_step 0 (fun _ h => by omega)
  | D + 1 => rchain_step (D + 1) (fun E h => by cases h; exact rarg_step D (rchain_any D))
end Go.Proofs.YtllkimdlmnjoiaaGreatDoor
namespace Go.Proofs.YtllkimdlmnjoiaaGreatDoor
set_option maxRecDepth 100000
set_option maxRecDepth 100000
open Go.RowKit Go.Sort

def RCalls (r : Nat) : Prop := ∀ (w : World) (d : Nat) (A : Option Addr) (c : Nat) (l : List C) (most : Nat), 1 ≤ most → most ≤ 201 → r ≤ 10 → Ch w 0 w.heap.size d A c l →
  Calls Tryz.prog 37 #[.slice A l.length c, .int .i64 (r : Int), .int .i64 (most : Int)] w fun e w' => e = .returned (.int .i64 (min (cntP (r + 1) l) most : Nat)) ∧ Below w.heap.size w w'
set_option maxHeartbeats 6400000 in
theorem rcalls_step (r : Nat) (ih : ∀ s, r = s + 1 → RCalls s) : RCalls r := by
  intro w d A c l most hm1 hm2 hr hx
  have H := Lib.hid hx
  have hbig := hx.big
  have IH := Lib.hid ih
  have EQ := Lib.hid (show cntP (r + 1) l = sumL (fun x : C => 1 + sumL (fun g => cntP r g.c) x.a) l from rfl)
  have TK := Lib.hid (fun k => sumL_take (fun x : C => 1 + sumL (fun g => cntP r g.c) x.a) l k)
  have NX := Lib.hid (fun (k : Nat) (x : C) (h : l[k]? = some x) => sumL_next (fun x : C => 1 + sumL (fun g => cntP r g.c) x.a) l k h)
  obtain ⟨F, hF⟩ : ∃ F : C → Nat, F = fun x : C => 1 + sumL (fun g => cntP r g.c) x.a := ⟨_, rfl⟩
  rw [← hF] at EQ TK NX
  have FX := Lib.hid (fun x : C => congrFun hF x)
  obtain ⟨ans, hans⟩ : ∃ z : Nat, z = min (cntP (r + 1) l) most := ⟨_, rfl⟩
  rw [← hans]
  have ANS := Lib.hid hans
  have hr0 : (0 : Int) ≤ (r : Int) := by omega
  have hr10 : (r : Int) ≤ 10 := by omega
  have hmI : (most : Int) ≤ 201 := by omega
  have hmI1 : (1 : Int) ≤ (most : Int) := by omega
  clear hx ih hF hans
  go_enter Tryz.func37, Tryz.ntmps37
  go_wp2
  go_loopw [7, 8] (fun u i wr => ∃ (k m : Nat), k ≤ l.length ∧ i = .int .i64 k ∧ u = .int .i64 m ∧ m ≤ most ∧ Hid (m = min (sumL F (l.take k)) most) ∧ Hid (Below w.heap.size w wr)) (fun _ i _ => l.length - (intOf i).toNat)
  case atStart => exact ⟨0, 0, by omega, rfl, rfl, by omega, Lib.hid (by simp [sumL]), Lib.hid (Below.refl _ _)⟩
  case round =>
    obtain ⟨k, m, hk, rfl, rfl, hmm, hm, hbel⟩ := hrel
    by_cases hlt : k < l.length
    case neg =>
      have FIN := Lib.hid (show m = ans by
        have h1 := hm.out
        rw [List.take_of_length_le (by omega)] at h1
        rw [ANS.out, EQ.out, h1])
      have hk9 : ¬ (k : Int) < (l.length : Int) := by omega
      clear hlt
      go_wp2
      go_ret
      exact ⟨by rw [← FIN.out]; rfl, hbel.out⟩
    by_cases hlm : m < most
    case neg =>
      have FIN := Lib.hid (show m = ans by
        have h1 := hm.out
        have h2 := TK.out k
        have h3 := ANS.out
        have h4 := EQ.out
        omega)
      have hk9 : (k : Int) < (l.length : Int) := by omega
      have hk8 : ¬ (m : Int) < (most : Int) := by omega
      clear hlt hlm
      go_wp2
      go_ret
      exact ⟨by rw [← FIN.out]; rfl, hbel.out⟩
    obtain ⟨b, off, x, e, rfl, rfl, hb, hx, q, hn, ra⟩ := (H.out.next hbel.out).elem hlt
    have Q1 := Lib.hid q.c1
    have HBB := Lib.hid hb
    have RA := Lib.hid ra
    have HX := Lib.hid hx
    have hbx := ra.big
    have hk9 : (k : Int) < (l.length : Int) := by omega
    have hk7 : (0 : Int) ≤ (k : Int) := by omega
    have hk8 : (m : Int) < (most : Int) := by omega
    have hmb : (m : Int) ≤ 201 := by omega
    have SM := Lib.hid (show m = sumL F (l.take k) by have := hm.out; omega)
    clear ra hx hb hn q hlt
    go_wp2
    obtain ⟨wo, hwo⟩ : ∃ q, q = wr := ⟨_, rfl⟩
    subst hwo
    go_loopw [7, 9] (fun u i wr => ∃ (j m2 : Nat), j ≤ x.l.length ∧ i = .int .i64 j ∧ u = .int .i64 m2 ∧ m2 ≤ most ∧ Hid (m2 = min (m + 1 + sumL (fun g : Ag => cntP r g.c) (x.l.take j)) most) ∧ Hid (Below wo.heap.size wo wr)) (fun _ i _ => x.l.length - (intOf i).toNat)
    case atStart => exact ⟨0, m + 1, by omega, rfl, by go_num, by omega, Lib.hid (by simp [sumL]; omega), Lib.hid (Below.refl _ _)⟩
    case round =>
      obtain ⟨j, m2, hj, rfl, rfl, hmm2, hm2', hbel2⟩ := hrel
      have s1 := cell_below hbel2.out Q1.out HBB.out
      have OUT := Lib.hid (fun (m' : Nat) (h : m' = min (m + 1 + sumL (fun g : Ag => cntP r g.c) x.l) most) => (show m' = min (sumL F (l.take (k + 1))) most by
        have h1 : sumL F (l.take (k + 1)) = sumL F (l.take k) + (1 + sumL (fun g : Ag => cntP r g.c) x.l) := NX.out k _ HX.out
        have h4 := SM.out
        rw [h1]
        omega))
      by_cases hlt2 : j < x.l.length
      case neg =>
        have NX2 := Lib.hid (OUT.out m2 (by
          have h := hm2'.out
          rwa [List.take_of_length_le (by omega)] at h))
        have hj9 : ¬ (j : Int) < (x.l.length : Int) := by omega
        clear hlt2
        go_wp2
        go_roundw
        case rel => exact ⟨k + 1, m2, by omega, by go_num, rfl, hmm2, NX2, Lib.hid (bnext hbel.out hbel2.out)⟩
        case measure => simp [intOf]; omega
      have hj9 : (j : Int) < (x.l.length : Int) := by omega
      have hj7 : (0 : Int) ≤ (j : Int) := by omega
      by_cases hrz : r = 0
      case pos =>
        have NX2 := Lib.hid (OUT.out m2 (by
          have h := hm2'.out
          have z : ∀ l : List Ag, sumL (fun g : Ag => cntP r g.c) l = 0 := by
            intro l
            rw [hrz]
            induction l with
            | nil => rfl
            | cons a t ih => simp only [sumL]; rw [ih]; rfl
          rw [z] at h ⊢
          exact h))
        have hr9 : ¬ (0 : Int) < (r : Int) := by omega
        clear hrz
        go_wp2
        go_roundw
        case rel => exact ⟨k + 1, m2, by omega, by go_num, rfl, hmm2, NX2, Lib.hid (bnext hbel.out hbel2.out)⟩
        case measure => simp [intOf]; omega
      have hr9 : (0 : Int) < (r : Int) := by omega
      by_cases hlm2 : m2 < most
      case neg =>
        have NX2 := Lib.hid (OUT.out m2 (by
          have h := hm2'.out
          have h2 := sumL_take (fun g : Ag => cntP r g.c) x.l j
          omega))
        have hm9 : ¬ (m2 : Int) < (most : Int) := by omega
        clear hlm2 hrz
        go_wp2
        go_roundw
        case rel => exact ⟨k + 1, m2, by omega, by go_num, rfl, hmm2, NX2, Lib.hid (bnext hbel.out hbel2.out)⟩
        case measure => simp [intOf]; omega
      have hm9 : (m2 : Int) < (most : Int) := by omega
      obtain ⟨s, hs⟩ : ∃ s, r = s + 1 := ⟨r - 1, by omega⟩
      obtain ⟨b2, off2, g, eA, hb2, hg, q, rg⟩ := (RA.out.next hbel2.out).elem hlt2
      rw [eA] at s1
      have Q9 := q.c9
      have NXT := Lib.hid (sumL_next (fun g : Ag => cntP r g.c) x.l j hg)
      obtain ⟨more, hmore⟩ : ∃ q : Nat, q = most - m2 := ⟨_, rfl⟩
      have CT := IH.out s hs wr _ g.A g.c g.l more (by omega) (by omega) (by omega) rg.c
      rw [show s + 1 = r from hs.symm] at CT
      obtain ⟨z, hz⟩ : ∃ z, min (cntP r g.l) more = z := ⟨_, rfl⟩
      rw [hz] at CT
      have i1 : IntKind.i64.wrap ((r : Int) - 1) = (s : Int) := by rw [IntWalk.i64_in _ (by omega)]; omega
      have i3 : IntKind.i64.wrap ((most : Int) - (m2 : Int)) = (more : Int) := by rw [IntWalk.i64_in _ (by omega)]; omega
      have hz201 : z ≤ 201 := by omega
      have NZ := Lib.hid (show m2 + z = min (m + 1 + sumL (fun g : Ag => cntP r g.c) (x.l.take (j + 1))) most ∧ m2 + z ≤ most by
        have h := hm2'.out
        have h2 := NXT.out
        have h3 : cntP r g.t.c = cntP r g.l := rfl
        constructor
        · rw [h2]; simp only [h3]; omega
        · omega)
      replace CT := Lib.hid CT
      have hbg := rg.c.big
      clear rg hg eA hz hb2 q hlt2 hrz hlm2 hs NXT hmore
      go_wp2_with fail
      refine CT.out.mono ?_
      rintro e2 w2 ⟨rfl, hb⟩
      have HB2 := Lib.hid (bnext hbel2.out hb)
      have i5 : IntKind.i64.wrap ((m2 : Int) + (z : Int)) = ((m2 + z : Nat) : Int) := by rw [IntWalk.i64_in _ (by omega)]; omega
      clear hb CT s1 Q9 i1 i3
      go_wp2
      go_roundw
      case rel => exact ⟨j + 1, m2 + z, by omega, by go_num, rfl, NZ.out.2, Lib.hid NZ.out.1, HB2⟩
      case measure => simp [intOf]; omega
theorem rcalls_any : ∀ r, RCalls r
  | 0 => rcalls_step 0 (fun _ h => by omega)
  | r + 1 => rcalls_step (r + 1) (fun s h => by cases h; exact rcalls_any r)
set_option maxHeartbeats 1600000 in
theorem rCalls_any (w : World) (d : Nat) (A : Option Addr) (c : Nat) (l : List C) (h : Ch w 0 w.heap.size d A c l) :
    Calls Tryz.prog 21 #[.slice A l.length c] w fun e w' => e = .returned (.int .i64 (callsV l)) ∧ Below w.heap.size w w' := by
  have CT := rcalls_any 10 w d A c l 201 (by omega) (by omega) (by omega) h
  rw [show min (cntP (10 + 1) l) 201 = callsV l from rfl] at CT
  have hz : callsV l ≤ 201 := by unfold callsV; omega
  generalize callsV l = z at CT hz ⊢
  rw [show ((10 : Nat) : Int) = 10 from rfl, show ((201 : Nat) : Int) = 201 from rfl] at CT
  replace CT := Lib.hid CT
  have hz' : (z : Int) ≤ 201 := by omega
  clear h
  go_enter Tryz.func21, Tryz.ntmps21
  go_wp2_with fail
  refine CT.out.mono ?_
  rintro e w2 ⟨rfl, hb⟩
  have HB := Lib.hid hb
  clear hb CT
  go_wp2
  go_ret
  exact ⟨by first | rfl | (simp only [Int.min_eq_left hz']; rfl), HB.out⟩
set_option maxHeartbeats 1600000 in
/-- The document's Check. -/
theorem rCheck_any (w : World) (d : Nat) (A : Option Addr) (c : Nat) (l : List C) (hD : DpC 15 l) (h : Ch w 0 w.heap.size d A c l) :
    Calls Tryz.prog 11 #[.slice A l.length c] w fun e w' => e = .returned (.int .i64 (errI (qOk l))) ∧ Below w.heap.size w w' := by
  have H := Lib.hid h
  have HD := Lib.hid hD
  have CT := rCalls_any w d A c l h
  have QK := Lib.hid (show qOk l = (decide (cntP 11 l ≤ 200) && chOk 10 l) from rfl)
  have CV := Lib.hid (show callsV l = min (cntP 11 l) 201 from rfl)
  obtain ⟨ans, hans⟩ : ∃ q, qOk l = q := ⟨_, rfl⟩
  rw [hans] at QK
  rw [hans]
  obtain ⟨z, hz⟩ : ∃ q, callsV l = q := ⟨_, rfl⟩
  rw [hz] at CT CV
  replace CT := Lib.hid CT
  have hbig := h.big
  clear h hD hans hz
  go_enter Tryz.func11, Tryz.ntmps11
  go_wp2_with fail
  refine CT.out.mono ?_
  rintro e w1 ⟨rfl, hb⟩
  have HB := Lib.hid hb
  clear CT
  by_cases h200 : z ≤ 200
  case neg =>
    have h200' : (200 : Int) < (z : Int) := by omega
    have FIN := Lib.hid (show ans = false by
      have := CV.out
      rw [QK.out, decide_eq_false (by omega)]; rfl)
    clear h200 hb
    go_wp2
    go_ret
    exact ⟨by rw [FIN.out]; rfl, HB.out⟩
  have h200' : ¬ (200 : Int) < (z : Int) := by omega
  have FIN := Lib.hid (show ans = chOk 10 l by
    have := CV.out
    rw [QK.out, decide_eq_true (by omega), Bool.true_and])
  have CT := rchain_any 15 w1 d A c l 1 HD.out (by omega) (H.out.next hb)
  rw [show 11 - 1 = 10 from rfl, ← FIN.out, show ((1 : Nat) : Int) = 1 from rfl] at CT
  replace CT := Lib.hid CT
  clear h200 hb FIN
  go_wp2_with fail
  refine CT.out.mono ?_
  rintro e w2 ⟨rfl, hb⟩
  have HB2 := Lib.hid (bnext HB.out hb)
  clear hb CT
  cases ans
  · go_wp2
    go_ret
    exact ⟨rfl, HB2.out⟩
  · go_wp2
    go_ret
    exact ⟨rfl, HB2.out⟩
end Go.Proofs.YtllkimdlmnjoiaaGreatDoor


