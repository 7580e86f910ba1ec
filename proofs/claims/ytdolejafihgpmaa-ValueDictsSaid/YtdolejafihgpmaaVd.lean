/- The law on what is made. -/
import Derived.Test.YtdolejafihgpmaaVc
import Derived.Test.YtdolejafihgpmaaRt
namespace Go.Proofs.Ytdolejafihgpmaa
open Go.RowKit
attribute [local go_sem ↓] Go.wp_at_zero Go.wp_at_succ

set_option maxHeartbeats 800000 in
theorem truth_lit0 (w : World) : Calls Try.prog 26 #[.bool false] w fun e w' => e = .returned (.agg #[.int .i64 1, .int .i64 0, .string ⟨#[]⟩, .slice none 0 0, .slice none 0 0]) ∧ Below w.heap.size w w' := by
  go_enter Try.func26, Try.ntmps26
  go_wp2
  exact bodyPost_ret (v := .agg #[.int .i64 1, .int .i64 0, .string ⟨#[]⟩, .slice none 0 0, .slice none 0 0]) (by simp [results, Try.results26, go_sem]) rfl ⟨rfl, below_new _ _⟩
theorem truth_both (b : Bool) (w : World) : Calls Try.prog 26 #[.bool b] w fun e w' => e = .returned (ag 1 (if b then 1 else 0) ⟨#[]⟩ none 0 0 none 0 0) ∧ Below w.heap.size w w' := by
  cases b
  · exact truth_lit0 w
  · exact truth_lit w
theorem truth_bi (b : Bool) (bi : Int) (h : bi = if b then 1 else 0) (w : World) : Calls Try.prog 26 #[.bool b] w fun e w' => e = .returned (ag 1 bi ⟨#[]⟩ none 0 0 none 0 0) ∧ Below w.heap.size w w' := by
  rw [h]; exact truth_both b w
theorem check_tr (b : Bool) (w : World) : Calls Try.prog 16 #[ag 1 (if b then 1 else 0) ⟨#[]⟩ none 0 0 none 0 0] w fun e w' => e = .returned (.int .i64 0) ∧ Below w.heap.size w w' :=
  (check_any w 1 (.mk 1 (if b then 1 else 0) ⟨#[]⟩ [] []) none 0 none 0 (rd_lit w _ _ _ (fld_mk _ _ (by decide) (by decide) (by cases b <;> decide) (by cases b <;> decide) (by decide)))).mono fun e w' ⟨he, hb⟩ => by
    have h : okV 12 (.mk 1 (if b then 1 else 0) ⟨#[]⟩ [] []) = true := by cases b <;> simp [okV, fitsV, noItems, V.k, V.n, V.s, V.l, V.m, ByteArray.toList_eq]
    rw [h] at he
    exact ⟨he, hb⟩
theorem check_num (n : Int) (w : World) (h0 : -9223372036854775808 ≤ n) (h1 : n ≤ 9223372036854775807) : Calls Try.prog 16 #[ag 2 n ⟨#[]⟩ none 0 0 none 0 0] w fun e w' => e = .returned (.int .i64 0) ∧ Below w.heap.size w w' :=
  (check_any w 1 (numV n) none 0 none 0 (rd_lit w _ _ _ (fld_num n h0 h1))).mono fun e w' ⟨he, hb⟩ => by
    have h : okV 12 (numV n) = true := by simp [okV, fitsV, noItems, numV, V.k, V.s, V.l, V.m, ByteArray.toList_eq]
    rw [h] at he
    exact ⟨he, hb⟩
theorem check_word (s : ByteArray) (w : World) (hs : s.size ≤ 140737488355328) : Calls Try.prog 16 #[ag 3 0 s none 0 0 none 0 0] w fun e w' => e = .returned (.int .i64 (errI (decide (s.size ≤ 1000)))) ∧ Below w.heap.size w w' :=
  (check_any w 1 (.mk 3 0 s [] []) none 0 none 0 (rd_lit w _ _ _ (fld_mk _ _ (by decide) (by decide) (by decide) (by decide) hs))).mono fun e w' ⟨he, hb⟩ => by
    have h : okV 12 (.mk 3 0 s [] []) = decide (s.size ≤ 1000) := by
      have e : okV 12 (.mk 3 0 s [] []) = (((decide (s.size ≤ 1000)) && true) && true && true && true) := rfl
      rw [e]; simp only [Bool.and_true]
    rw [h] at he
    exact ⟨he, hb⟩
theorem field24 (k n : Int) (s : ByteArray) (A : Option Addr) (l c : Nat) (A' : Option Addr) (l' c' : Nat) (w : World) : (Instr.field 24 (.agg #[.int .i64 k, .int .i64 n, .string s, .slice A l c, .slice A' l' c']) 3).run Try.prog w = .ok (.slice A l c) w := by
  kernel_rfl
theorem sameL_copy : ∀ l : List V, sameL (l.map (copyV 12)) l = true
  | [] => rfl
  | x :: l => by
    rw [List.map_cons, sameL, cmp_copy 12 12 x (Nat.le_refl _), sameL_copy l]; rfl

def RowMade (w : World) (l : List V) (e : Ending) (w' : World) : Prop := ∃ r : At, r.t = rowV l ∧ e = .returned r.v ∧ r.In w' 14 ∧ (0 < r.t.l.length → ∃ g, r.A = some ⟨g, 0, none⟩ ∧ Blk w' g r.t.l.length ∧ w.heap.size ≤ g ∧ g < w'.heap.size) ∧ Below w.heap.size w w'
theorem row_made (w : World) (d : Nat) (A : Option Addr) (c : Nat) (l : List V) (h : Rw w 0 w.heap.size d A c l) : Calls Try.prog 29 #[.slice A l.length c] w (RowMade w l) :=
  (row_any w d l A c h).mono fun _ _ ⟨A, c, A', c', he, rd, mn, _, hb⟩ => ⟨⟨rowV l, A, c, A', c'⟩, rfl, he, Rd.more rd (Nat.zero_le _) (Nat.le_refl _) (Nat.le_refl _), fun h0 => by
    obtain ⟨g, e, hk⟩ := mn h0
    obtain ⟨b', off, e', q1, q2, _⟩ := rd.2.1.at_ h0
    rw [e] at e'
    injection e' with e'
    injection e' with e1
    subst e1
    exact ⟨g, e, hk, q1, q2⟩, hb⟩
/-- What the loop that writes over a row holds. -/
structure Wrt (w wr : World) (g : Nat) (v0 v1 v2 : Value) (A1 : Option Addr) (n c1 : Nat) (v4 : Value) : Prop where
  bel : Below w.heap.size w wr
  lt : w.heap.size ≤ g
  box : Cell wr g v0 v1 v2 (.slice A1 n c1) v4
  row : 0 < n → ∃ b, A1 = some ⟨b, 0, none⟩ ∧ Blk wr b n ∧ w.heap.size ≤ b ∧ b ≠ g
theorem Wrt.set {w wr : World} {g b : Nat} {v0 v1 v2 : Value} {n c1 : Nat} {v4 : Value} (h : Wrt w wr g v0 v1 v2 (some ⟨b, 0, none⟩) n c1 v4) (hn : 0 < n) (o : Nat) (u : Value) : Wrt w (wr.setCell ⟨b, o, none⟩ u) g v0 v1 v2 (some ⟨b, 0, none⟩) n c1 v4 := by
  obtain ⟨b', e, h1, h2, h3⟩ := h.row hn
  injection e with e
  injection e with e
  subst e
  exact ⟨h.bel.setCell h2 _, h.lt, h.box.kept (Below.heap_setCell _ _ _ _ (fun e => h3 e.symm)), fun _ => ⟨b, rfl, h1.set _ _ rfl, h2, h3⟩⟩
theorem Wrt.next {w a b : World} {g : Nat} {v0 v1 v2 : Value} {A1 : Option Addr} {n c1 : Nat} {v4 : Value} (h : Wrt w a g v0 v1 v2 A1 n c1 v4) (hb : Below a.heap.size a b) : Wrt w b g v0 v1 v2 A1 n c1 v4 :=
  ⟨bnext h.bel hb, h.lt, h.box.next hb, fun h0 => by
    obtain ⟨x, e, h1, h2, h3⟩ := h.row h0
    exact ⟨x, e, Blk.next hb h1, h2, h3⟩⟩
theorem ir_next {x : At} {a b : World} (h : x.In a 14) (hb : Below a.heap.size a b) : x.In b 14 := Rd.next h hb
theorem rowsSame_at (w : World) (d : Nat) (r : At) (A : Option Addr) (c : Nat) (l : List V) (hr : r.In w 14) (h : Rw w 0 w.heap.size d A c l) : Calls Try.prog 30 #[.slice r.A r.t.l.length r.c, .slice A l.length c] w fun e w' => e = .returned (.bool (sameL r.t.l l)) ∧ Below w.heap.size w w' :=
  sameRows_any w 13 d r.A r.c r.t.l A c l hr.2.1 h

set_option maxHeartbeats 8000000 in
set_option maxRecDepth 100000 in
theorem makes_law (w : World) (d : Nat) (b : Bool) (n : Int) (s : ByteArray) (A : Option Addr) (c : Nat) (l : List V) (hn : -9223372036854775808 ≤ n ∧ n ≤ 9223372036854775807) (hs : s.size ≤ maxLen) (h : Rw w 0 w.heap.size d A c l) :
    Calls Try.prog 6 #[.bool b, .int .i64 n, .string s, .slice A l.length c] w fun e w' => e = .returned (.bool true) ∧ Below w.heap.size w w' := by
  have H := Lib.hid h
  have hbig := h.big
  obtain ⟨n0, n1⟩ := hn
  unfold maxLen at hs
  clear h
  go_enter Try.func6, Try.ntmps6
  go_wp2_with fail
  refine (lots_any w d A c l H.out).mono ?_
  rintro e w1 ⟨bb, rfl, hb⟩
  have H1 := Lib.hid hb
  clear hb
  cases bb
  · by_cases hlen : s.size ≤ 3000
    · have hlz : (s.size : Int) ≤ 3000 := by omega
      go_wp2_with fail
      obtain ⟨bi, hbi⟩ : ∃ bi : Int, bi = if b then 1 else 0 := ⟨_, rfl⟩
      have TB := Lib.hid (truth_bi b bi hbi w1)
      have HBI := Lib.hid hbi
      clear hbi
      refine TB.out.mono ?_
      rintro e w2 ⟨rfl, hb⟩
      have c9 := Cell.new w2 (.int .i64 1) (.int .i64 bi) (.string ⟨#[]⟩) (.slice none 0 0) (.slice none 0 0)
      have bl := bnext hb (below_new w2 (.cells #[.int .i64 1, .int .i64 bi, .string ⟨#[]⟩, .slice none 0 0, .slice none 0 0] 24))
      have H2 := Lib.hid (bnext H1.out bl)
      clear hb bl
      go_upto_region 4 with fail
      generalize World.alloc w2 _ = W2 at c9 H2
      generalize w2.heap.size = g9 at c9
      go_wp2_with fail
      refine (number_lit n W2 n0 n1).mono ?_
      rintro e w3 ⟨rfl, hb⟩
      have c10 := Cell.new w3 (.int .i64 2) (.int .i64 n) (.string ⟨#[]⟩) (.slice none 0 0) (.slice none 0 0)
      have bl := bnext hb (below_new w3 (.cells #[.int .i64 2, .int .i64 n, .string ⟨#[]⟩, .slice none 0 0, .slice none 0 0] 24))
      have H3 := Lib.hid (bnext H2.out bl)
      have d9 := c9.next bl
      clear hb bl c9
      go_upto_region 5 with fail
      generalize World.alloc w3 _ = W3 at c10 H3 d9
      generalize w3.heap.size = g10 at c10
      go_wp2_with fail
      refine (word_lit s W3).mono ?_
      rintro e w4 ⟨rfl, hb⟩
      have c11 := Cell.new w4 (.int .i64 3) (.int .i64 0) (.string s) (.slice none 0 0) (.slice none 0 0)
      have bl := bnext hb (below_new w4 (.cells #[.int .i64 3, .int .i64 0, .string s, .slice none 0 0, .slice none 0 0] 24))
      have H4 := Lib.hid (bnext H3.out bl)
      have e9 := d9.next bl
      have e10 := c10.next bl
      clear hb bl d9 c10
      go_upto_region 6 with fail
      generalize World.alloc w4 _ = W4 at c11 H4 e9 e10
      generalize w4.heap.size = g11 at c11
      go_wp2_with fail
      refine (row_made W4 d A c l (H.out.next H4.out)).mono ?_
      rintro e w5 ⟨r, hr, rfl, ir, mn, hb⟩
      have bx := Bx.new w5 r
      have nw := below_new w5 (.cells #[.int .i64 r.t.k, .int .i64 r.t.n, .string r.t.s, .slice r.A r.t.l.length r.c, .slice r.A' r.t.m.length r.c'] 24)
      have bl := bnext hb nw
      have H5 := Lib.hid (bnext H4.out bl)
      have f9 := Lib.hid (e9.next bl)
      have f10 := Lib.hid (e10.next bl)
      have f11 := Lib.hid (c11.next bl)
      have IR := Lib.hid (ir.next nw)
      have WR := Lib.hid (show Wrt w _ _ _ _ _ _ _ _ _ from ⟨H5.out, Nat.le_trans H4.out.size hb.size, bx, fun h0 => by
        obtain ⟨g, e, hk, q1, q2⟩ := mn h0
        exact ⟨g, e, hk.below nw hk.lt, Nat.le_trans H4.out.size q1, Nat.ne_of_lt q2⟩⟩)
      have HR := Lib.hid hr
      have hrl : r.t.l.length = l.length := by rw [hr]; exact List.length_map _
      have HL := Lib.hid hrl
      have hrb : r.t.l.length ≤ 1759218604441 := by omega
      have k6 : r.t.k = 6 := by rw [hr]; rfl
      have K6 := Lib.hid k6
      clear hb bl nw e9 e10 c11 bx ir mn hr hrl k6
      go_upto_region 7 with fail
      have HS := Lib.hid (show s.size ≤ 140737488355328 by omega)
      have SM : Hid (sameL r.t.l l = true) := Lib.hid (by rw [HR.out]; exact sameL_copy l)
      generalize World.alloc w5 _ = X at H5 f9 f10 f11 WR IR
      generalize w5.heap.size = g12 at WR
      obtain ⟨a0, a1, a2, a3, a4, _⟩ := f9.out
      obtain ⟨b0, b1, b2, b3, b4, _⟩ := f10.out
      obtain ⟨d0, d1, d2, d3, d4, _⟩ := f11.out
      have CT : Hid (∀ w, Calls Try.prog 16 #[ag 1 bi ⟨#[]⟩ none 0 0 none 0 0] w fun e w' => e = .returned (.int .i64 0) ∧ Below w.heap.size w w') := Lib.hid (fun w => by rw [HBI.out]; exact check_tr b w)
      have EB : (bi == 1) = b := by rw [HBI.out]; cases b <;> rfl
      go_wp2_with fail
      refine (CT.out X).mono ?_
      rintro e x1 ⟨rfl, hb⟩
      have m10 := f10.out.next hb
      have m11 := Lib.hid (f11.out.next hb)
      have WR1 := Lib.hid (WR.out.next hb)
      have IR1 := Lib.hid (ir_next IR.out hb)
      clear hb a0 a1 a2 a3 a4 b0 b1 b2 b3 b4 d0 d1 d2 d3 d4 WR IR f9 f10 f11
      obtain ⟨b0, b1, b2, b3, b4, _⟩ := m10
      obtain ⟨d0, d1, d2, d3, d4, _⟩ := m11.out
      go_wp2_with fail
      refine (check_num n x1 n0 n1).mono ?_
      rintro e x2 ⟨rfl, hb⟩
      have k11 := m11.out.next hb
      have WR2 := Lib.hid (WR1.out.next hb)
      have IR2 := Lib.hid (ir_next IR1.out hb)
      clear hb b0 b1 b2 b3 b4 d0 d1 d2 d3 d4 WR1 IR1 m11
      obtain ⟨d0, d1, d2, d3, d4, _⟩ := k11
      go_wp2_with fail
      refine (check_word s x2 HS.out).mono ?_
      rintro e x3 ⟨rfl, hb⟩
      have WR3 := Lib.hid (WR2.out.next hb)
      have IR3 := Lib.hid (ir_next IR2.out hb)
      have E3 : Hid (errI (decide (s.size ≤ 1000)) = if s.size ≤ 1000 then 0 else 2) := Lib.hid (by unfold errI; by_cases h : s.size ≤ 1000 <;> simp [h])
      clear hb d0 d1 d2 d3 d4 WR2 IR2 EB
      have H6 := Lib.hid WR3.out.bel
      obtain ⟨q0, q1, q2, q3, q4, _⟩ := WR3.out.box
      have k6 := K6.out
      by_cases hth : s.size ≤ 1000
      all_goals
        have hthz : (s.size : Int) ≤ 1000 ∨ 1000 < (s.size : Int) := by omega
        first
          | (have hthz : (s.size : Int) ≤ 1000 := by omega
             have E4 := E3.out
             rw [if_pos hth] at E4
             rw [E4]
             clear E4)
          | (have hthz : ¬ (s.size : Int) ≤ 1000 := by omega
             have E4 := E3.out
             rw [if_neg hth] at E4
             rw [E4]
             clear E4)
        go_wp2_with fail
        refine (rowsSame_at x3 d r A c l IR3.out (H.out.next H6.out)).mono ?_
        rintro e x4 ⟨rfl, hb⟩
        rw [SM.out]
        have WR4 := Lib.hid (WR3.out.next hb)
        clear hb q0 q1 q2 q3 q4 WR3 IR3 H6 k6
        go_wp2_with fail
        go_loopw [13] (fun i wr => ∃ k : Nat, k ≤ r.t.l.length ∧ i = .int .i64 k ∧ Hid (Wrt w wr g12 (.int .i64 r.t.k) (.int .i64 r.t.n) (.string r.t.s) r.A r.t.l.length r.c (.slice r.A' r.t.m.length r.c'))) (fun i _ => r.t.l.length - (intOf i).toNat)
        case atStart => exact ⟨0, by omega, rfl, WR4⟩
        case round =>
          obtain ⟨k, hk, rfl, hW⟩ := hrel
          obtain ⟨q0, q1, q2, q3, q4, _⟩ := hW.out.box
          by_cases hlt : k < r.t.l.length
          · obtain ⟨gb, eA, hbk, hge, hne⟩ := hW.out.row (by omega)
            have EA := Lib.hid eA
            rw [eA] at q3
            obtain ⟨v1, hv1⟩ := hbk.cell (i := k * 5 + 1) (by omega)
            have hfz := hbk.frozen (k * 5 + 1)
            have NX : Hid (∀ u, Wrt w (wr.setCell ⟨gb, k * 5 + 1, none⟩ u) g12 (.int .i64 r.t.k) (.int .i64 r.t.n) (.string r.t.s) r.A r.t.l.length r.c (.slice r.A' r.t.m.length r.c')) := Lib.hid (fun u => by
              have := hW.out
              rw [EA.out] at this ⊢
              exact this.set (by omega) _ u)
            clear eA hbk
            go_wp2
            go_roundw
            case rel => exact ⟨k + 1, by omega, by go_num, Lib.hid (NX.out _)⟩
            case measure => simp [intOf]; omega
          · obtain rfl : k = r.t.l.length := by omega
            have H7 := Lib.hid hW.out.bel
            go_wp2_with fail
            refine (row_made wr d A c l (H.out.next H7.out)).mono ?_
            rintro e y1 ⟨r2, hr2, rfl, ir2, _, hb⟩
            have SM2 : Hid (sameL r2.t.l l = true) := Lib.hid (by rw [hr2]; exact sameL_copy l)
            have H8 := Lib.hid (bnext H7.out hb)
            have IR5 := Lib.hid ir2
            clear hr2 ir2 hb q0 q1 q2 q3 q4
            have hfd := field24 r2.t.k r2.t.n r2.t.s r2.A r2.t.l.length r2.c r2.A' r2.t.m.length r2.c' y1
            unfold At.v
            go_wp2_with fail
            clear hfd
            refine (rowsSame_at y1 d r2 A c l IR5.out (H.out.next H8.out)).mono ?_
            rintro e y2 ⟨rfl, hb⟩
            rw [SM2.out]
            have H9 := Lib.hid (bnext H8.out hb)
            clear hb
            go_wp2_with fail
            refine (known_any _).mono ?_
            rintro e y3 ⟨rfl, hb⟩
            have H10 := Lib.hid (bnext H9.out hb)
            clear hb
            go_wp2
            go_ret
            exact ⟨rfl, H10.out⟩
    · have hlz : ¬ (s.size : Int) ≤ 3000 := by omega
      go_wp2_with fail
      refine (known_any _).mono ?_
      rintro e w2 ⟨rfl, hb2⟩
      go_wp2
      go_ret
      exact ⟨rfl, bnext H1.out hb2⟩
  · go_wp2_with fail
    refine (known_any _).mono ?_
    rintro e w2 ⟨rfl, hb2⟩
    go_wp2
    go_ret
    exact ⟨rfl, bnext H1.out hb2⟩
end Go.Proofs.Ytdolejafihgpmaa
