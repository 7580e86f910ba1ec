/- Contract of value.Find. -/
import Derived.Test.YtdolejafihgpmaaI
namespace Go.Proofs.Ytdolejafihgpmaa
open Go.RowKit

def zeroV : V := .mk 0 0 ⟨#[]⟩ [] []
/-- The value of the first key that is the same. -/
def findV (m key : V) : Option V :=
  if m.k = 7 then (let i := idxP (fun k => cmpV 12 k key == 0) m.l 0; if i < 0 then none else (m.m[i.toNat]?).map (copyV 12)) else none
def NewB (w : World) (d : Nat) (t : V) (b : Bool) (e : Ending) (w' : World) : Prop :=
  ∃ A c A' c', e = .returned (.tuple #[vl t A c A' c', .bool b]) ∧ Rd w' w.heap.size w'.heap.size d t A c A' c' ∧ Below w.heap.size w w'

/-- Three boxes, one behind the other. -/
theorem cells3 (w : World) (v0 v1 v2 v3 v4 u0 u1 u2 u3 u4 x0 x1 x2 x3 x4 : Value) (W : World) (hW : ((w.alloc (.cells #[v0, v1, v2, v3, v4] 24)).alloc (.cells #[u0, u1, u2, u3, u4] 24)).alloc (.cells #[x0, x1, x2, x3, x4] 24) = W) :
    Cell W w.heap.size v0 v1 v2 v3 v4 ∧ Cell W (w.heap.size + 1) u0 u1 u2 u3 u4 ∧ Cell W (w.heap.size + 1 + 1) x0 x1 x2 x3 x4 ∧ W.heap.size = w.heap.size + 1 + 1 + 1 ∧ Below w.heap.size w W := by
  obtain ⟨k1, k2, hz, hb⟩ := cells2 w v0 v1 v2 v3 v4 u0 u1 u2 u3 u4 _ rfl
  subst hW
  refine ⟨k1.below (below_new _ _) (by omega), k2.below (below_new _ _) (by omega), ?_, by simp, bnext hb (below_new _ _)⟩
  have := Cell.new ((w.alloc (.cells #[v0, v1, v2, v3, v4] 24)).alloc (.cells #[u0, u1, u2, u3, u4] 24)) x0 x1 x2 x3 x4
  rwa [hz] at this

set_option maxHeartbeats 1600000 in
theorem closure_find (g : Nat) (w : World) (db : Nat) (b : V) (D : Option Addr) (e : Nat) (D' : Option Addr) (e' : Nat) (hg : g < w.heap.size) (rb : Rd w 0 w.heap.size db b D e D' e') (hc : Box w g b D e D' e') : Preds 43 (.pointer (some ⟨g, 0, none⟩)) w (fun k => cmpV 12 k b == 0) := by
  intro W da a A c A' c' hb ra
  have hbb := below_new W (.cells #[.int .i64 a.k, .int .i64 a.n, .string a.s, .slice A a.l.length c, .slice A' a.m.length c'] 24)
  have RA := Lib.hid (ra.next hbb)
  have RB := Lib.hid (rb.next (bnext hb hbb))
  obtain ⟨c0, c1, c2, c3, c4⟩ := (hc.below hb hg).below hbb (Nat.lt_of_lt_of_le hg hb.size)
  clear ra rb hc hb hbb
  unfold vl
  go_enter Try.func43, Try.ntmps43
  go_wp2_with fail
  refine (same_any _ da db a b _ _ _ _ _ _ _ _ RA.out RB.out).mono ?_
  rintro x w1 ⟨rfl, hb1⟩
  have HB := Lib.hid (bnext (below_new _ _) hb1)
  clear hb1
  go_wp2
  go_ret
  exact ⟨by rfl, HB.out⟩

theorem rd_zero (w : World) (lo B : Nat) (d : Nat) : Rd w lo B (d + 1) zeroV none 0 none 0 := ⟨fld_mk _ _ (by decide) (by decide) (by decide) (by decide) (by decide), rw_nil _ _ _ _, rw_nil _ _ _ _⟩

theorem findV_no (m key : V) (h : (m.k != 7) = true) : findV m key = none := by unfold findV; rw [if_neg (by simpa using h)]
theorem findV_neg (m key : V) (h : (m.k != 7) = false) (hi : idxP (fun k => cmpV 12 k key == 0) m.l 0 < 0) : findV m key = none := by unfold findV; rw [if_pos (by simpa using h)]; simp [hi]
theorem findV_out (m key : V) (i : Nat) (h : (m.k != 7) = false) (hi : idxP (fun k => cmpV 12 k key == 0) m.l 0 = i) (ho : m.m.length ≤ i) : findV m key = none := by
  unfold findV; rw [if_pos (by simpa using h)]; simp [hi]; omega
theorem findV_at (m key : V) (i : Nat) {x : V} (h : (m.k != 7) = false) (hi : idxP (fun k => cmpV 12 k key == 0) m.l 0 = i) (hx : m.m[i]? = some x) : findV m key = some (copyV 12 x) := by
  unfold findV; rw [if_pos (by simpa using h)]; simp [hi, hx]

set_option maxHeartbeats 3200000 in
theorem find_any (w : World) (da db : Nat) (a b : V) (A : Option Addr) (c : Nat) (A' : Option Addr) (c' : Nat) (D : Option Addr) (e : Nat) (D' : Option Addr) (e' : Nat)
    (ra : Rd w 0 w.heap.size da a A c A' c') (rb : Rd w 0 w.heap.size db b D e D' e') :
    Calls Try.prog 24 #[vl a A c A' c', vl b D e D' e'] w (NewB w 13 ((findV a b).getD zeroV) (findV a b).isSome) := by
  obtain ⟨da', rfl⟩ := ra.pos
  have RL := Lib.hid ra.2.1
  have RM := Lib.hid ra.2.2
  have RB := Lib.hid rb
  have IR := Lib.hid (idxP_range (fun k => cmpV 12 k b == 0) a.l 0)
  clear ra rb
  unfold vl
  cases h7 : (a.k != 7)
  · go_enter Try.func24, Try.ntmps24
    go_wp2_with fail
    generalize hW : World.alloc (World.alloc (World.alloc _ _) _) _ = W
    obtain ⟨k1, k2, k3, hz, hb⟩ := cells3 _ _ _ _ _ _ _ _ _ _ _ _ _ _ _ _ _ hW
    have K1 := Lib.hid k1
    have K2 := Lib.hid k2
    have K3 := Lib.hid k3
    have HB := Lib.hid hb
    have hzz : w.heap.size + 1 + 1 < W.heap.size := by rw [hz]; omega
    clear hz hb hW k1 k2 k3
    refine (indexFunc43 _ _ W (closure_find (w.heap.size + 1) W db b D e D' e' (by omega) (RB.out.next HB.out) ⟨K2.out.c0, K2.out.c1, K2.out.c2, K2.out.c3, K2.out.c4⟩) da' A c a.l (RL.out.next HB.out)).mono ?_
    rintro x w1 ⟨rfl, hb1⟩
    obtain ⟨a0, a1, a2, a3, a4, _, _, _, _, _, _⟩ := K1.out.below hb1 (by omega)
    obtain ⟨r0, r1, r2, r3, r4, f0, f1, f2, f3, f4, hblk⟩ := K3.out.below hb1 (by omega)
    have B1 := Lib.hid (bnext HB.out hb1)
    have H1 := Lib.hid hb1
    have HK := Lib.hid hblk
    clear hb1 hblk
    have hrg := IR.out
    generalize hi : idxP (fun k => cmpV 12 k b == 0) a.l 0 = i at hrg
    by_cases hneg : i < 0
    · have FIN := Lib.hid (findV_neg a b h7 (by rw [hi]; exact hneg))
      have HR := Lib.hid (ret_box HK.out (.int .i64 0) (.int .i64 0) (.string ⟨#[]⟩) (.slice none 0 0) (.slice none 0 0))
      clear hi hrg
      go_wp2
      obtain ⟨F, hF, ⟨r0, r1, r2, r3, r4, _⟩, hk, hs, hbel⟩ := HR.out
      rw [← hF]
      clear hF
      exact bodyPost_ret (v := .tuple #[vl zeroV none 0 none 0, .bool false]) (by simp [results, Try.results24, go_sem, r0, r1, r2, r3, r4]; exact ⟨rfl, rfl, rfl, rfl, rfl⟩) rfl (by rw [FIN.out]; exact ⟨none, 0, none, 0, rfl, rd_zero _ _ _ _, hbel _ _ (by omega) B1.out⟩)
    · obtain ⟨j, rfl⟩ := Int.eq_ofNat_of_zero_le (show 0 ≤ i by omega)
      have hjl : j < a.l.length := by rcases hrg with ⟨h, _⟩ | ⟨_, h, _⟩ <;> omega
      have hbg := RL.out.big
      have hbg2 := RM.out.big
      have HI := Lib.hid hi
      clear hi hrg
      by_cases hj : j < a.m.length
      · obtain ⟨g, off, x, A1, c1, A2, c2, rfl, _, hb, hx, q, rx⟩ := (RM.out.next B1.out).elem hj
        obtain ⟨q0, q1, q2, q3, q4⟩ := q
        have FIN := Lib.hid (findV_at a b j h7 HI.out hx)
        have RX := Lib.hid rx
        clear rx hx
        go_wp2_with fail
        refine (copy_any w1 _ x _ _ _ _ RX.out).mono ?_
        rintro x2 w2 ⟨E, e1, E', e2, rfl, rd, m1, m2, hb2⟩
        have hz1 : w.heap.size + 1 + 1 < w1.heap.size := Nat.lt_of_lt_of_le hzz H1.out.size
        obtain ⟨s0, s1, s2, s3, s4, p0, p1, p2, p3, p4, hblk2⟩ := (Cell.mk r0 r1 r2 r3 r4 f0 f1 f2 f3 f4 HK.out).below hb2 hz1
        have HR := Lib.hid (ret_box hblk2 (.int .i64 (copyV 12 x).k) (.int .i64 (copyV 12 x).n) (.string (copyV 12 x).s) (.slice E (copyV 12 x).l.length e1) (.slice E' (copyV 12 x).m.length e2))
        have RD := Lib.hid rd
        have B2 := Lib.hid (bnext B1.out hb2)
        have S1 := Lib.hid (show w.heap.size ≤ w1.heap.size from B1.out.size)
        clear rd m1 m2 hb2 hblk2 q0 q1 q2 q3 q4 r0 r1 r2 r3 r4 f0 f1 f2 f3 f4 a0 a1 a2 a3 a4
        generalize copyV 12 x = t at *
        go_wp2
        obtain ⟨F, hF, ⟨r0, r1, r2, r3, r4, _⟩, hk, hs, hbel⟩ := HR.out
        rw [← hF]
        clear hF
        exact bodyPost_ret (v := .tuple #[vl t E e1 E' e2, .bool true]) (by simp [results, Try.results24, go_sem, r0, r1, r2, r3, r4]) rfl (by rw [FIN.out]; exact ⟨E, e1, E', e2, rfl, by rw [hs]; exact Rd.imp (hk _ _ hz1) S1.out (Nat.le_refl _) (Nat.le_refl _) RD.out, hbel _ _ (by omega) B2.out⟩)
      · have FIN := Lib.hid (findV_out a b j h7 HI.out (by omega))
        have HR := Lib.hid (ret_box HK.out (.int .i64 0) (.int .i64 0) (.string ⟨#[]⟩) (.slice none 0 0) (.slice none 0 0))
        go_wp2
        obtain ⟨F, hF, ⟨r0, r1, r2, r3, r4, _⟩, hk, hs, hbel⟩ := HR.out
        rw [← hF]
        clear hF
        exact bodyPost_ret (v := .tuple #[vl zeroV none 0 none 0, .bool false]) (by simp [results, Try.results24, go_sem, r0, r1, r2, r3, r4]; exact ⟨rfl, rfl, rfl, rfl, rfl⟩) rfl (by rw [FIN.out]; exact ⟨none, 0, none, 0, rfl, rd_zero _ _ _ _, hbel _ _ (by omega) B1.out⟩)
  · have FIN := Lib.hid (findV_no a b h7)
    go_enter Try.func24, Try.ntmps24
    go_wp2
    exact bodyPost_ret (v := .tuple #[vl zeroV none 0 none 0, .bool false]) (by simp [results, Try.results24, go_sem]; exact ⟨rfl, rfl, rfl, rfl, rfl⟩) rfl (by rw [FIN.out]; exact ⟨none, 0, none, 0, rfl, rd_zero _ _ _ _, below_new3 _ _ _ _⟩)
end Go.Proofs.Ytdolejafihgpmaa
