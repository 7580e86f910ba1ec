/- Carried over from an earlier seat. -/
import Derived.Test.YtllkimdlmnjoiaaGreatDoorVG
namespace Go.Proofs.YtllkimdlmnjoiaaGreatDoor
set_option maxRecDepth 100000
set_option maxRecDepth 100000
set_option maxRecDepth 100000
set_option maxRecDepth 100000
set_option maxRecDepth 100000
open Go.RowKit Go.Sort

theorem toList_size (s : ByteArray) : s.toList.length = s.size := by rw [ByteArray.toList_eq]; simp
theorem toList_at (a : ByteArray) (k : Nat) (h : k < a.size) : a.toList[k]? = some (a[k]'h) := by
  rw [ByteArray.toList_eq]
  have : k < a.data.toList.length := by rw [Array.length_toList]; exact h
  rw [List.getElem?_eq_getElem this]; rfl
theorem drewN_below (w : World) (n : Nat) : Below w.heap.size w (w.drewN n) := ⟨rfl, rfl, rfl, Nat.le_refl _, fun _ _ => rfl⟩

/-- ref.compare, r levels above the last one. -/
def RCmp (r : Nat) : Prop :=
  ∀ (w : World) (da db : Nat) (a b : V) (A : Option Addr) (c : Nat) (A' : Option Addr) (c' : Nat) (D : Option Addr) (e : Nat) (D' : Option Addr) (e' : Nat) (lev : Int), lev = 13 - r → r ≤ 12 →
    Rd w 0 w.heap.size da a A c A' c' → Rd w 0 w.heap.size db b D e D' e' →
    Calls Tryz.prog 66 #[vl a A c A' c', vl b D e D' e', .int .i64 lev] w fun x w' => x = .returned (.int .i64 (cmpV r a b)) ∧ Below w.heap.size w w'

theorem rowC_tail {α : Type} (f : α → α → Int) (l l' : List α) (k : Nat) (h : l.length ≤ k ∨ l'.length ≤ k) (h1 : k ≤ l.length) (h2 : k ≤ l'.length) : rowC f (l.drop k) (l'.drop k) = cmpI l.length l'.length := by
  rcases Nat.lt_or_ge k l.length with h3 | h3
  · rw [rowC_out f l l' k h3 (by omega)]; unfold cmpI; rw [if_neg (by omega), if_pos (by omega)]
  · rcases Nat.lt_or_ge k l'.length with h4 | h4
    · rw [rowC_less f l l' k h3 h4]; unfold cmpI; rw [if_pos (by omega)]
    · rw [rowC_done f l l' k h3 h4]; unfold cmpI; rw [if_neg (by omega), if_neg (by omega)]

theorem rcmp_regrown {r : Nat} (ih : RCmp r) (hr : r ≤ 12) {w : World} {da db : Nat} {a b : V} {A : Option Addr} {c : Nat} {A' : Option Addr} {c' : Nat} {D : Option Addr} {e : Nat} {D' : Option Addr} {e' : Nat} {lev : Int} (hl : lev = 13 - r)
    (ra : Rd w 0 w.heap.size da a A c A' c') (rb : Rd w 0 w.heap.size db b D e D' e') (d : Nat) (os : Array Obj) :
    Calls Tryz.prog 66 #[vl a A c A' c', vl b D e D' e', .int .i64 lev] (grow (redrawn w d) os) fun x w'' => x = .returned (.int .i64 (cmpV r a b)) ∧ ∃ p : Regrown, w'' = grow (redrawn w p.d) p.os :=
  Calls.regrown_of (ih _ da db a b _ _ _ _ _ _ _ _ lev hl hr (ra.next (below_regrown w d os)) (rb.next (below_regrown w d os)))

set_option maxHeartbeats 1600000 in
theorem rrows (r : Nat) (ih : RCmp r) (hr : r ≤ 12) (w : World) (d d' : Nat) (A : Option Addr) (c : Nat) (l : List V) (A' : Option Addr) (c' : Nat) (l' : List V) (lev : Int) (hlev : lev = 13 - r)
    (h : Rw w 0 w.heap.size d A c l) (h' : Rw w 0 w.heap.size d' A' c' l') :
    Calls Tryz.prog 100 #[.slice A l.length c, .slice A' l'.length c', .int .i64 lev] w fun e w' => e = .returned (.int .i64 (rowC (cmpV r) l l')) ∧ Below w.heap.size w w' := by
  have IH := Lib.hid ih
  have HL := Lib.hid hlev
  have H1 := Lib.hid h
  have H2 := Lib.hid h'
  have b1 := h.big
  have b2 := h'.big
  clear ih h h' hlev
  go_enter Tryz.func100, Tryz.ntmps100
  go_wp2
  go_loopw [7] (fun i wr => ∃ k : Nat, k ≤ l.length ∧ k ≤ l'.length ∧ i = .int .i64 k ∧ Hid (Below w.heap.size w wr) ∧ Hid (rowC (cmpV r) (l.drop k) (l'.drop k) = rowC (cmpV r) l l')) (fun i _ => l.length - (intOf i).toNat)
  case atStart => exact ⟨0, by omega, by omega, rfl, Lib.hid (Below.refl _ _), Lib.hid (by simp)⟩
  case round =>
    obtain ⟨k, hk, hk', rfl, hbel, hrr⟩ := hrel
    by_cases hlt : k < l.length
    · by_cases hlt' : k < l'.length
      · obtain ⟨b, off, x, A1, c1, A2, c2, rfl, _, hb, hx, q, rx⟩ := (H1.out.next hbel.out).elem hlt
        obtain ⟨b', off', y, D1, e1, D2, e2, rfl, _, hb', hy, p, ry⟩ := (H2.out.next hbel.out).elem hlt'
        obtain ⟨q0, q1, q2, q3, q4⟩ := q
        obtain ⟨p0, p1, p2, p3, p4⟩ := p
        have cQ := Lib.hid (rcmp_regrown IH.out hr HL.out rx ry)
        have NX := Lib.hid (rowC_next (cmpV r) l l' k hx hy)
        clear rx ry hx hy
        replace q0 := cell_regrown q0
        replace q1 := cell_regrown q1
        replace q2 := cell_regrown q2
        replace q3 := cell_regrown q3
        replace q4 := cell_regrown q4
        replace p0 := cell_regrown p0
        replace p1 := cell_regrown p1
        replace p2 := cell_regrown p2
        replace p3 := cell_regrown p3
        replace p4 := cell_regrown p4
        have i0 : (0 : Int) ≤ (k : Int) := by omega
        have i1 : (k : Int) < (l.length : Int) := by omega
        have i2 : (k : Int) < (l'.length : Int) := by omega
        go_wp2_with fail
        refine wp_region_quiet_below (by kernel_rfl) (by kernel_rfl) ?_
        repeat (first | go_big_quiet_step (exact cQ.out _ _) | quiet_step (exact cQ.out _ _))
        refine wpQuiet_nil ?_
        intro _ hw'
        obtain ⟨⟨dq, osq⟩, hw''⟩ := hw'
        subst hw''
        have HB := Lib.hid (bnext hbel.out (below_regrown wr dq osq))
        clear q0 q1 q2 q3 q4 p0 p1 p2 p3 p4
        cases hne : (cmpV r x y != 0)
        · go_wp2
          go_roundw
          case rel => exact ⟨k + 1, by omega, by omega, by go_num, HB, Lib.hid (by rw [← hrr.out, NX.out, orI_eq hne])⟩
          case measure => simp [intOf]; omega
        · go_wp2
          go_ret
          exact ⟨by rw [← hrr.out, NX.out, orI_ne hne]; rfl, HB.out⟩
      · have T := Lib.hid (rowC_tail (cmpV r) l l' k (.inr (by omega)) hk hk')
        go_wp2_with (go_at_call 98; refine (signI _ _ _).mono ?_; rintro e w' ⟨rfl, rfl⟩)
        go_ret
        exact ⟨by rw [← hrr.out, T.out]; rfl, hbel.out⟩
    · have T := Lib.hid (rowC_tail (cmpV r) l l' k (.inl (by omega)) hk hk')
      go_wp2_with (go_at_call 98; refine (signI _ _ _).mono ?_; rintro e w' ⟨rfl, rfl⟩)
      go_ret
      exact ⟨by rw [← hrr.out, T.out]; rfl, hbel.out⟩

set_option maxHeartbeats 1600000 in
theorem rtexts (a b : ByteArray) (w : World) (ha : a.size ≤ 140737488355328) (hb : b.size ≤ 140737488355328) : Calls Tryz.prog 99 #[.string a, .string b] w fun e w' => e = .returned (.int .i64 (cmpS a b)) ∧ Below w.heap.size w w' := by
  go_enter Tryz.func99, Tryz.ntmps99
  go_wp2
  go_loopw [5] (fun i wr => ∃ k : Nat, k ≤ a.size ∧ k ≤ b.size ∧ i = .int .i64 k ∧ Hid (Below w.heap.size w wr) ∧ Hid (rowC cmpU (a.toList.drop k) (b.toList.drop k) = cmpS a b)) (fun i _ => a.size - (intOf i).toNat)
  case atStart => exact ⟨0, by omega, by omega, rfl, Lib.hid (Below.refl _ _), Lib.hid (by simp [cmpS])⟩
  case round =>
    obtain ⟨k, hk, hk', rfl, hbel, hr⟩ := hrel
    by_cases hlt : k < a.size
    · by_cases hlt' : k < b.size
      · have NX := Lib.hid (rowC_next cmpU a.toList b.toList k (toList_at a k hlt) (toList_at b k hlt'))
        have i0 : (0 : Int) ≤ (k : Int) := by omega
        have i1 : (k : Int) < (a.size : Int) := by omega
        have i2 : (k : Int) < (b.size : Int) := by omega
        by_cases he : ((a[k]'hlt).toNat : Int) = ((b[k]'hlt').toNat : Int)
        · have ne : ((((a[k]'hlt).toNat : Int)) != ((b[k]'hlt').toNat : Int)) = false := by simp [he]
          have E0 := Lib.hid (show cmpU (a[k]'hlt) (b[k]'hlt') = 0 by unfold cmpU cmpI; rw [if_neg (by omega), if_neg (by omega)])
          clear he
          go_wp2_with fail
          go_quiet (fail)
          go_wp2
          go_roundw
          case rel => exact ⟨k + 1, by omega, by omega, by go_num, Lib.hid (bnext hbel.out (show Below wr.heap.size wr (wr.drewN nq) from ⟨rfl, rfl, rfl, Nat.le_refl _, fun _ _ => rfl⟩)), Lib.hid (by rw [← hr.out, NX.out, E0.out]; rfl)⟩
          case measure => simp [intOf]; omega
        · have ne : ((((a[k]'hlt).toNat : Int)) != ((b[k]'hlt').toNat : Int)) = true := by simpa using he
          have E0 := Lib.hid (show orI (cmpU (a[k]'hlt) (b[k]'hlt')) (rowC cmpU (a.toList.drop (k + 1)) (b.toList.drop (k + 1))) = cmpI ((a[k]'hlt).toNat : Int) ((b[k]'hlt').toNat : Int) from orI_ne (by unfold cmpU cmpI; simp only [bne_iff_ne]; repeat' split <;> omega))
          have w1 : IntKind.i64.wrap ((a[k]'hlt).toNat : Int) = ((a[k]'hlt).toNat : Int) := IntWalk.i64_in _ (by have := (a[k]'hlt).toNat_lt; omega)
          have w2 : IntKind.i64.wrap ((b[k]'hlt').toNat : Int) = ((b[k]'hlt').toNat : Int) := IntWalk.i64_in _ (by have := (b[k]'hlt').toNat_lt; omega)
          clear he
          go_wp2_with fail
          go_quiet (fail)
          have BQ := Lib.hid (bnext hbel.out (drewN_below wr nq))
          generalize wr.drewN nq = wn at BQ
          go_wp2_with fail
          go_quiet ((go_at_call 98; exact Calls.quiet_of_same ((signI _ _ _).mono fun _ _ h => ⟨h.1, h.2.symm⟩)))
          go_wp2
          go_ret
          exact ⟨by rw [← hr.out, NX.out, E0.out]; rfl, bnext BQ.out (drewN_below wn _)⟩
      · have T := Lib.hid (rowC_tail cmpU a.toList b.toList k (.inr (by rw [toList_size]; omega)) (by rw [toList_size]; omega) (by rw [toList_size]; omega))
        go_wp2_with (go_at_call 98; refine (signI _ _ _).mono ?_; rintro e w' ⟨rfl, rfl⟩)
        go_ret
        exact ⟨by rw [← hr.out, T.out, toList_size, toList_size]; rfl, hbel.out⟩
    · have T := Lib.hid (rowC_tail cmpU a.toList b.toList k (.inl (by rw [toList_size]; omega)) (by rw [toList_size]; omega) (by rw [toList_size]; omega))
      go_wp2_with (go_at_call 98; refine (signI _ _ _).mono ?_; rintro e w' ⟨rfl, rfl⟩)
      go_ret
      exact ⟨by rw [← hr.out, T.out, toList_size, toList_size]; rfl, hbel.out⟩

theorem cmpF_1 (a b : V) (h : (cmpI a.k b.k == 0) = false) : cmpF a b = cmpI a.k b.k := by unfold cmpF orI; rw [if_neg (by simpa using h)]
theorem cmpF_2 (a b : V) (h : (cmpI a.k b.k == 0) = true) (h2 : (cmpI a.n b.n == 0) = false) : cmpF a b = cmpI a.n b.n := by unfold cmpF orI; rw [if_pos (by simpa using h), if_neg (by simpa using h2)]
theorem cmpF_3 (a b : V) (h : (cmpI a.k b.k == 0) = true) (h2 : (cmpI a.n b.n == 0) = true) : cmpF a b = cmpS a.s b.s := by unfold cmpF orI; rw [if_pos (by simpa using h), if_pos (by simpa using h2)]
theorem bne_of (x : Int) (b : Bool) (h : (x == 0) = !b) : (x != 0) = b := by simp [bne, h]

set_option maxHeartbeats 4000000 in
theorem rcmp_all (r : Nat) (ih : ∀ q, q + 1 = r → RCmp q) : RCmp r := by
  intro w da db a b A c A' c' D e D' e' lev hlev hr ra rb
  obtain ⟨da', rfl⟩ := ra.pos
  obtain ⟨db', rfl⟩ := rb.pos
  have sa := ra.1.s1
  have sb := rb.1.s1
  have RL := Lib.hid ra.2.1
  have RM := Lib.hid ra.2.2
  have QL := Lib.hid rb.2.1
  have QM := Lib.hid rb.2.2
  have IH := Lib.hid ih
  have hl0 : 1 ≤ lev := by omega
  have hl1 : lev ≤ 13 := by omega
  have HL := Lib.hid hlev
  clear ra rb ih hlev
  unfold vl
  go_enter Tryz.func66, Tryz.ntmps66
  go_wp2_with fail
  have b1 := (Box.new w a A c A' c').below (below_new _ (.cells #[.int .i64 b.k, .int .i64 b.n, .string b.s, .slice D b.l.length e, .slice D' b.m.length e'] 77)) (by simp)
  have b2 := Box.new (w.alloc (.cells #[.int .i64 a.k, .int .i64 a.n, .string a.s, .slice A a.l.length c, .slice A' a.m.length c'] 77)) b D e D' e'
  rw [size_alloc] at b2
  generalize hW : World.alloc (World.alloc _ _) _ = W
  have B1 : Hid (Box W w.heap.size a A c A' c') := Lib.hid (by rw [← hW]; exact b1)
  have B2 : Hid (Box W (w.heap.size + 1) b D e D' e') := Lib.hid (by rw [← hW]; exact b2)
  have HB : Hid (Below w.heap.size w W) := Lib.hid (by rw [← hW]; exact below_new2 _ _ _)
  have hz : w.heap.size + 1 < W.heap.size := by rw [← hW]; simp
  clear hW b1 b2
  obtain ⟨a0, a1, a2, a3, a4⟩ := B1.out
  obtain ⟨c0, c1, c2, c3, c4⟩ := B2.out
  refine (signI _ _ _).mono ?_
  rintro x w1 ⟨rfl, rfl⟩
  cases h1 : (cmpI a.k b.k == 0)
  · have FIN := Lib.hid (show cmpV r a b = cmpI a.k b.k by rw [cmpV_ne r a b (by rw [cmpF_1 a b h1]; exact bne_of _ _ (by rw [h1]; rfl)), cmpF_1 a b h1])
    go_wp2
    go_ret
    exact ⟨by rw [FIN.out]; rfl, HB.out⟩
  · go_wp2_with fail
    refine (signI _ _ _).mono ?_
    rintro x w1 ⟨rfl, rfl⟩
    cases h2 : (cmpI a.n b.n == 0)
    · have FIN := Lib.hid (show cmpV r a b = cmpI a.n b.n by rw [cmpV_ne r a b (by rw [cmpF_2 a b h1 h2]; exact bne_of _ _ (by rw [h2]; rfl)), cmpF_2 a b h1 h2])
      go_wp2
      go_ret
      exact ⟨by rw [FIN.out]; rfl, HB.out⟩
    · go_wp2_with fail
      refine (rtexts _ _ _ sa sb).mono ?_
      rintro x w2 ⟨rfl, hb2⟩
      obtain ⟨x0, x1, x2, x3, x4⟩ := B1.out.below hb2 (by omega)
      obtain ⟨y0, y1, y2, y3, y4⟩ := B2.out.below hb2 (by omega)
      have HB2 := Lib.hid (bnext HB.out hb2)
      have hz2 : w.heap.size + 1 < w2.heap.size := Nat.lt_of_lt_of_le hz hb2.size
      clear hb2 a0 a1 a2 a3 a4 c0 c1 c2 c3 c4
      have EF := Lib.hid (cmpF_3 a b h1 h2)
      cases h3 : (cmpS a.s b.s == 0)
      · have FIN := Lib.hid (show cmpV r a b = cmpS a.s b.s by rw [cmpV_ne r a b (by rw [EF.out]; exact bne_of _ _ (by rw [h3]; rfl)), EF.out])
        go_wp2
        go_ret
        exact ⟨by rw [FIN.out]; rfl, HB2.out⟩
      · have hF : (cmpF a b != 0) = false := by rw [EF.out]; exact bne_of _ _ (by rw [h3]; rfl)
        have HF := Lib.hid hF
        clear hF
        cases r with
        | zero =>
          have hl : ¬ lev ≤ 12 := by have := HL.out; omega
          have hl' : decide (lev ≤ 12) = false := decide_eq_false hl
          have FIN := Lib.hid (show cmpV 0 a b = cmpS a.s b.s from EF.out)
          go_wp2
          go_ret
          exact ⟨by rw [FIN.out]; rfl, HB2.out⟩
        | succ q =>
          have hl : lev ≤ 12 := by have := HL.out; omega
          go_wp2_with fail
          refine (rrows q (IH.out q rfl) (by omega) _ da' db' A c a.l D e b.l (lev + 1) (by have := HL.out; omega) (RL.out.next HB2.out) (QL.out.next HB2.out)).mono ?_
          rintro x w3 ⟨rfl, hb3⟩
          obtain ⟨u0, u1, u2, u3, u4⟩ := (Box.mk x0 x1 x2 x3 x4 : Box w2 w.heap.size a A c A' c').below hb3 (by omega)
          obtain ⟨v0, v1, v2, v3, v4⟩ := (Box.mk y0 y1 y2 y3 y4 : Box w2 (w.heap.size + 1) b D e D' e').below hb3 (by omega)
          have HB3 := Lib.hid (bnext HB2.out hb3)
          clear hb3 x0 x1 x2 x3 x4 y0 y1 y2 y3 y4
          cases h4 : (rowC (cmpV q) a.l b.l == 0)
          · have FIN := Lib.hid (cmpV_l q a b HF.out (bne_of _ _ (by rw [h4]; rfl)))
            go_wp2
            go_ret
            exact ⟨by rw [FIN.out]; rfl, HB3.out⟩
          · have FIN := Lib.hid (cmpV_m q a b HF.out (bne_of _ _ (by rw [h4]; rfl)))
            go_wp2_with fail
            refine (rrows q (IH.out q rfl) (by omega) _ da' db' A' c' a.m D' e' b.m (lev + 1) (by have := HL.out; omega) (RM.out.next HB3.out) (QM.out.next HB3.out)).mono ?_
            rintro x w4 ⟨rfl, hb4⟩
            have HB4 := Lib.hid (bnext HB3.out hb4)
            clear hb4
            go_wp2
            go_ret
            exact ⟨by rw [FIN.out]; rfl, HB4.out⟩
theorem rcmp_any : ∀ r, RCmp r
  | 0 => rcmp_all 0 (fun q h => absurd h (by omega))
  | r + 1 => rcmp_all (r + 1) (fun q h => by obtain rfl : q = r := by omega
                                             exact rcmp_any q)
end Go.Proofs.YtllkimdlmnjoiaaGreatDoor

namespace Go.Proofs.YtllkimdlmnjoiaaGreatDoor
set_option maxRecDepth 100000
set_option maxRecDepth 100000
set_option maxRecDepth 100000
set_option maxRecDepth 100000
set_option maxRecDepth 100000
open Go.RowKit Go.Sort

set_option maxHeartbeats 800000 in
theorem refCmp_any (w : World) (da db : Nat) (a b : V) (A : Option Addr) (c : Nat) (A' : Option Addr) (c' : Nat) (D : Option Addr) (e : Nat) (D' : Option Addr) (e' : Nat)
    (ra : Rd w 0 w.heap.size da a A c A' c') (rb : Rd w 0 w.heap.size db b D e D' e') :
    Calls Tryz.prog 131 #[vl a A c A' c', vl b D e D' e'] w fun x w' => x = .returned (.int .i64 (cmpV 12 a b)) ∧ Below w.heap.size w w' := by
  have RA := Lib.hid (ra.next (below_new2 w (.cells #[.int .i64 a.k, .int .i64 a.n, .string a.s, .slice A a.l.length c, .slice A' a.m.length c'] 77) (.cells #[.int .i64 b.k, .int .i64 b.n, .string b.s, .slice D b.l.length e, .slice D' b.m.length e'] 77)))
  have RB := Lib.hid (rb.next (below_new2 w (.cells #[.int .i64 a.k, .int .i64 a.n, .string a.s, .slice A a.l.length c, .slice A' a.m.length c'] 77) (.cells #[.int .i64 b.k, .int .i64 b.n, .string b.s, .slice D b.l.length e, .slice D' b.m.length e'] 77)))
  clear ra rb
  unfold vl
  go_enter Tryz.func131, Tryz.ntmps131
  go_wp2_with fail
  refine (rcmp_any 12 _ da db a b _ _ _ _ _ _ _ _ 1 (by omega) (by omega) RA.out RB.out).mono ?_
  rintro x w1 ⟨rfl, hb1⟩
  have HB := Lib.hid (bnext (below_new2 _ _ _) hb1)
  clear hb1
  go_wp2
  go_ret
  exact ⟨by rfl, HB.out⟩

set_option maxHeartbeats 800000 in
theorem refSame_any (w : World) (da db : Nat) (a b : V) (A : Option Addr) (c : Nat) (A' : Option Addr) (c' : Nat) (D : Option Addr) (e : Nat) (D' : Option Addr) (e' : Nat)
    (ra : Rd w 0 w.heap.size da a A c A' c') (rb : Rd w 0 w.heap.size db b D e D' e') :
    Calls Tryz.prog 45 #[vl a A c A' c', vl b D e D' e'] w fun x w' => x = .returned (.bool (cmpV 12 a b == 0)) ∧ Below w.heap.size w w' := by
  have RA := Lib.hid (ra.next (below_new2 w (.cells #[.int .i64 a.k, .int .i64 a.n, .string a.s, .slice A a.l.length c, .slice A' a.m.length c'] 77) (.cells #[.int .i64 b.k, .int .i64 b.n, .string b.s, .slice D b.l.length e, .slice D' b.m.length e'] 77)))
  have RB := Lib.hid (rb.next (below_new2 w (.cells #[.int .i64 a.k, .int .i64 a.n, .string a.s, .slice A a.l.length c, .slice A' a.m.length c'] 77) (.cells #[.int .i64 b.k, .int .i64 b.n, .string b.s, .slice D b.l.length e, .slice D' b.m.length e'] 77)))
  clear ra rb
  unfold vl
  go_enter Tryz.func45, Tryz.ntmps45
  go_wp2_with fail
  refine (rcmp_any 12 _ da db a b _ _ _ _ _ _ _ _ 1 (by omega) (by omega) RA.out RB.out).mono ?_
  rintro x w1 ⟨rfl, hb1⟩
  have HB := Lib.hid (bnext (below_new2 _ _ _) hb1)
  clear hb1
  go_wp2
  go_ret
  exact ⟨by rfl, HB.out⟩

end Go.Proofs.YtllkimdlmnjoiaaGreatDoor






