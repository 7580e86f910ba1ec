/- pred.Negate, pred.Join; the law's one, number. -/
import Derived.Test.YtiiccefnfepccaaPG
namespace Go.Proofs.Ytiiccefnfepccaa
set_option maxRecDepth 100000
open Go.RowKit Go.Sort

/-- Nothing. -/
def zeroP : P := .mk 0 [] []
def ngP (t : P) : P := if okP 12 t = true then negP 12 t else zeroP
def joinP (k : Int) (l : List P) : P := if okP 12 (.mk k [] l) = true then .mk k [] l else zeroP

theorem zero_in (w F : World) (d : Nat) (h : Below w.heap.size w F) : NewP w (d + 1) zeroP (.returned (pl zeroP none 0 none 0)) F :=
  ⟨none, 0, none, 0, rfl, ⟨⟨by show (-9223372036854775808 : Int) ≤ 0; omega, by show (0 : Int) ≤ 9223372036854775807; omega⟩, ⟨0, rw_nil _ _ _ _⟩, pw_nil _ _ _ _⟩, fun h => absurd h (by simp [zeroP, P.v]), fun h => absurd h (by simp [zeroP, P.p]), h⟩

set_option maxHeartbeats 1600000 in
theorem negate_any (w : World) (d : Nat) (x : Pt) (hx : x.In w d) : Calls Try.prog 16 #[x.val] w (NewP w 26 (ngP x.t)) := by
  have HX := Lib.hid hx
  clear hx
  unfold Pt.val
  go_enter Try.func16, Try.ntmps16
  go_upto_region 1 with fail
  generalize hY : World.alloc (World.alloc _ _) _ = Y
  obtain ⟨k1, k2, hz, hbY⟩ := boxesR _ _ _ _ _ _ hY
  have K1 := Lib.hid k1
  obtain ⟨a0, a1, a2, _⟩ := k1
  have K2 := Lib.hid k2
  have HB := Lib.hid hbY
  have hzz : w.heap.size + 1 < Y.heap.size := by rw [hz]; omega
  clear hz hY k2 hbY
  go_wp2_with fail
  refine (pcheck_any Y d x (HX.out.next HB.out)).mono ?_
  rintro e w1 ⟨rfl, hb1⟩
  have B1 := Lib.hid (bnext HB.out hb1)
  have K3 := Lib.hid (K1.out.next hb1)
  have K4 := Lib.hid (K2.out.next hb1)
  have hz1 : w.heap.size + 1 < w1.heap.size := Nat.lt_of_lt_of_le hzz hb1.size
  clear hb1 a0 a1 a2
  cases hq : okP 12 x.t
  · have FIN := Lib.hid (show ngP x.t = zeroP by unfold ngP; rw [hq]; rfl)
    obtain ⟨s0, s1, s2, p0, p1, p2, hblk⟩ := K4.out
    have HR := Lib.hid (ret_boxP hblk (.int .i64 0) (.slice none 0 0) (.slice none 0 0))
    clear hblk
    go_wp2
    obtain ⟨F, hF, ⟨r0, r1, r2, _⟩, hk, hs, hbel⟩ := HR.out
    rw [← hF]
    clear hF
    rw [FIN.out]
    exact bodyPost_ret (v := pl zeroP none 0 none 0) (by simp [results, Try.results16, go_sem, r0, r1, r2]; exact ⟨rfl, rfl, rfl⟩) rfl (zero_in w F 25 (hbel _ _ (by omega) B1.out))
  · have FIN := Lib.hid (show ngP x.t = negP 12 x.t by unfold ngP; rw [if_pos hq])
    obtain ⟨a0, a1, a2, _⟩ := K3.out
    go_wp2_with fail
    refine (neg_any 12 w1 d x hq (by omega) (HX.out.next B1.out)).mono ?_
    rintro e w2 ⟨D, e1, D', e2, rfl, rd, m1, m2, hb2⟩
    obtain ⟨s0, s1, s2, p0, p1, p2, hblk⟩ := K4.out.below hb2 hz1
    have HR := Lib.hid (ret_boxP hblk (.int .i64 (negP 12 x.t).k) (.slice D (negP 12 x.t).v.length e1) (.slice D' (negP 12 x.t).p.length e2))
    have RD := Lib.hid rd
    have M1 := Lib.hid m1
    have M2 := Lib.hid m2
    have B2 := Lib.hid hb2
    clear rd m1 m2 hb2 hblk a0 a1 a2 hq
    generalize negP 12 x.t = t at *
    go_wp2
    obtain ⟨F, hF, ⟨r0, r1, r2, _⟩, hk, hs, hbel⟩ := HR.out
    rw [← hF]
    clear hF
    rw [FIN.out]
    exact bodyPost_ret (v := pl t D e1 D' e2) (by simp [results, Try.results16, go_sem, r0, r1, r2]) rfl (NewP.box B1.out (by omega) hz1 RD.out M1.out M2.out B2.out hk hs hbel)

/-- The boxes of the result and of a predicate. -/
theorem boxesJ (w : World) (x : Pt) (v0 v1 v2 : Value) (W : World) (hW : (w.alloc (.cells #[v0, v1, v2] 25)).alloc (.cells #[.int .i64 x.t.k, .slice x.A x.t.v.length x.c, .slice x.A' x.t.p.length x.c'] 25) = W) :
    CellP W w.heap.size v0 v1 v2 ∧ BP W (w.heap.size + 1) x ∧ W.heap.size = w.heap.size + 1 + 1 ∧ Below w.heap.size w W := by
  subst hW
  have b := below_new (w.alloc (.cells #[v0, v1, v2] 25)) (.cells #[.int .i64 x.t.k, .slice x.A x.t.v.length x.c, .slice x.A' x.t.p.length x.c'] 25)
  have c := BP.new (w.alloc (.cells #[v0, v1, v2] 25)) x
  rw [size_alloc] at c
  exact ⟨(CellP.new w v0 v1 v2).next b, c, by simp, below_new2 _ _ _⟩
/-- The boxes of a value and of the result. -/
theorem boxesO (w : World) (y : At) (v0 v1 v2 : Value) (W : World) (hW : (w.alloc (.cells #[.int .i64 y.t.k, .int .i64 y.t.n, .string y.t.s, .slice y.A y.t.l.length y.c, .slice y.A' y.t.m.length y.c'] 27)).alloc (.cells #[v0, v1, v2] 25) = W) :
    Bx W w.heap.size y ∧ CellP W (w.heap.size + 1) v0 v1 v2 ∧ W.heap.size = w.heap.size + 1 + 1 ∧ Below w.heap.size w W := by
  subst hW
  have b := below_new (w.alloc (.cells #[.int .i64 y.t.k, .int .i64 y.t.n, .string y.t.s, .slice y.A y.t.l.length y.c, .slice y.A' y.t.m.length y.c'] 27)) (.cells #[v0, v1, v2] 25)
  have c := CellP.new (w.alloc (.cells #[.int .i64 y.t.k, .int .i64 y.t.n, .string y.t.s, .slice y.A y.t.l.length y.c, .slice y.A' y.t.m.length y.c'] 27)) v0 v1 v2
  rw [size_alloc] at c
  exact ⟨(Bx.new w y).next b, c, by simp, below_new2 _ _ _⟩
set_option maxHeartbeats 1600000 in
theorem join_any (w : World) (d : Nat) (k : Int) (hk : -9223372036854775808 ≤ k ∧ k ≤ 9223372036854775807) (A : Option Addr) (c : Nat) (l : List P) (hl : Pw w 0 w.heap.size d A c l) : Calls Try.prog 25 #[.int .i64 k, .slice A l.length c] w (NewP w 13 (joinP k l)) := by
  have HL := Lib.hid hl
  have HK := Lib.hid hk
  clear hl hk
  go_enter Try.func25, Try.ntmps25
  go_upto_region 2 with fail
  generalize hY : World.alloc (World.alloc _ _) _ = Y
  obtain ⟨k2, k1, hz, hbY⟩ := boxesJ w ⟨.mk k [] l, none, 0, A, c⟩ _ _ _ _ hY
  have K1 := Lib.hid k1
  obtain ⟨a0, a1, a2, _⟩ := k1
  have K2 := Lib.hid k2
  have HB := Lib.hid hbY
  have hzz : w.heap.size < Y.heap.size := by rw [hz]; omega
  have HX : ∀ W, Below w.heap.size w W → Pt.In ⟨.mk k [] l, none, 0, A, c⟩ W (d + 1) := fun W hW => ⟨⟨HK.out.1, HK.out.2⟩, ⟨0, rw_nil _ _ _ _⟩, HL.out.next hW⟩
  clear hz hY k2 hbY
  go_wp2_with fail
  refine (pcheck_any Y (d + 1) ⟨.mk k [] l, none, 0, A, c⟩ (HX _ HB.out)).mono ?_
  rintro e w1 ⟨rfl, hb1⟩
  have B1 := Lib.hid (bnext HB.out hb1)
  have K3 := Lib.hid (K1.out.next hb1)
  have K4 := Lib.hid (K2.out.next hb1)
  have hz1 : w.heap.size < w1.heap.size := Nat.lt_of_lt_of_le hzz hb1.size
  clear hb1 a0 a1 a2
  cases hq : okP 12 (.mk k [] l)
  · have FIN := Lib.hid (show joinP k l = zeroP by unfold joinP; rw [hq]; rfl)
    obtain ⟨s0, s1, s2, p0, p1, p2, hblk⟩ := K4.out
    have HR := Lib.hid (ret_boxP hblk (.int .i64 0) (.slice none 0 0) (.slice none 0 0))
    clear hblk
    go_wp2
    obtain ⟨F, hF, ⟨r0, r1, r2, _⟩, hk, hs, hbel⟩ := HR.out
    rw [← hF]
    clear hF
    rw [FIN.out]
    exact bodyPost_ret (v := pl zeroP none 0 none 0) (by simp [results, Try.results25, go_sem, r0, r1, r2]; exact ⟨rfl, rfl, rfl⟩) rfl (zero_in w F 12 (hbel _ _ (by omega) B1.out))
  · have FIN := Lib.hid (show joinP k l = copyP 12 (.mk k [] l) by unfold joinP; rw [if_pos hq, copyP_ok 12 12 _ hq (by omega)])
    obtain ⟨a0, a1, a2, _⟩ := K3.out
    go_wp2_with fail
    refine (copyP_any w1 (d + 1) ⟨.mk k [] l, none, 0, A, c⟩ (HX _ B1.out)).mono ?_
    rintro e w2 ⟨D, e1, D', e2, rfl, rd, m1, m2, hb2⟩
    obtain ⟨s0, s1, s2, p0, p1, p2, hblk⟩ := K4.out.below hb2 hz1
    have HR := Lib.hid (ret_boxP hblk (.int .i64 (copyP 12 (.mk k [] l)).k) (.slice D (copyP 12 (.mk k [] l)).v.length e1) (.slice D' (copyP 12 (.mk k [] l)).p.length e2))
    have RD := Lib.hid rd
    have M1 := Lib.hid m1
    have M2 := Lib.hid m2
    have B2 := Lib.hid hb2
    clear rd m1 m2 hb2 hblk a0 a1 a2 hq
    generalize copyP 12 (.mk k [] l) = t at *
    go_wp2
    obtain ⟨F, hF, ⟨r0, r1, r2, _⟩, hk, hs, hbel⟩ := HR.out
    rw [← hF]
    clear hF
    rw [FIN.out]
    exact bodyPost_ret (v := pl t D e1 D' e2) (by simp [results, Try.results25, go_sem, r0, r1, r2]) rfl (NewP.box B1.out (by omega) hz1 RD.out M1.out M2.out B2.out hk hs hbel)

/-- A predicate of one value. -/
def OnePost (w : World) (d : Nat) (t : P) (e : Ending) (w' : World) : Prop := ∃ q : Pt, e = .returned q.val ∧ q.t = t ∧ q.In w' d ∧ Below w.heap.size w w'
theorem NewP.one {w w' : World} {d : Nat} {t : P} {e : Ending} (h : NewP w d t e w') : OnePost w d t e w' := by
  obtain ⟨A, c, A', c', h1, h2, _, _, h5⟩ := h
  exact ⟨⟨t, A, c, A', c'⟩, h1, rfl, h2.more (Nat.zero_le _) (Nat.le_refl _) (Nat.le_refl _), h5⟩
set_option maxHeartbeats 1600000 in
theorem one_any (w : World) (e : Nat) (k : Int) (hk : -9223372036854775808 ≤ k ∧ k ≤ 9223372036854775807) (y : At) (hy : y.In w e) : Calls Try.prog 21 #[.int .i64 k, y.v] w (OnePost w 1 (.mk k [y.t] [])) := by
  have HY := Lib.hid hy
  clear hy
  unfold At.v
  go_enter Try.func21, Try.ntmps21
  go_upto_region 1 with fail
  generalize hY : World.alloc (World.alloc _ _) _ = Y
  obtain ⟨k1, k2, hz, hbY⟩ := boxesO w y _ _ _ _ hY
  obtain ⟨a0, a1, a2, a3, a4, _⟩ := k1
  have K2 := Lib.hid k2
  have HB := Lib.hid hbY
  have hzz : w.heap.size + 1 < Y.heap.size := by rw [hz]; omega
  obtain ⟨s0, s1, s2, p0, p1, p2, hblk⟩ := K2.out
  have HR := Lib.hid (ret_boxP hblk (.int .i64 k) (.slice (some ⟨Y.heap.size, 0, none⟩) 1 1) (.slice none 0 0))
  clear hz hY k2 hbY hblk
  go_wp2
  obtain ⟨F, hF, ⟨r0, r1, r2, _⟩, hkk, hs, hbel⟩ := HR.out
  rw [← hF]
  clear hF
  have bF : Below w.heap.size w F := hbel _ _ (by omega) HB.out
  have hn := below_new F (.cells #[.int .i64 y.t.k, .int .i64 y.t.n, .string y.t.s, .slice y.A y.t.l.length y.c, .slice y.A' y.t.m.length y.c'] 27)
  have rl := row_lay F e [y] (by simp; exact HY.out.next bF) (by simp)
  have hgF : w.heap.size + 1 < F.heap.size := by omega
  replace r0 := cell_below hn r0 hgF
  replace r1 := cell_below hn r1 hgF
  replace r2 := cell_below hn r2 hgF
  rw [← hs] at r1
  refine bodyPost_ret (v := pl (.mk k [y.t] []) (some ⟨F.heap.size, 0, none⟩) 1 none 0) (by simp [results, Try.results21, go_sem, r0, r1, r2]; exact ⟨rfl, rfl, rfl⟩) rfl ⟨⟨.mk k [y.t] [], some ⟨F.heap.size, 0, none⟩, 1, none, 0⟩, rfl, rfl, ⟨⟨hk.1, hk.2⟩, ⟨e, rl⟩, pw_nil _ _ _ _⟩, bnext bF hn⟩
/-- A number, as a value. -/
def numT (n : Int) : V := .mk 2 n ⟨#[]⟩ [] []
def numA (n : Int) : At := ⟨numT n, none, 0, none, 0⟩
theorem num_in (w : World) (n : Int) (hn : -9223372036854775808 ≤ n ∧ n ≤ 9223372036854775807) : (numA n).In w 1 :=
  ⟨⟨by show (-9223372036854775808 : Int) ≤ 2; omega, by show (2 : Int) ≤ 9223372036854775807; omega, hn.1, hn.2, by show (0 : Nat) ≤ _; omega⟩, rw_nil _ _ _ _, rw_nil _ _ _ _⟩
set_option maxHeartbeats 800000 in
theorem number_any (w : World) (n : Int) : Calls Try.prog 26 #[.int .i64 n] w fun e w' => e = .returned (numA n).v ∧ Below w.heap.size w w' := by
  go_enter Try.func26, Try.ntmps26
  go_upto_region 1 with fail
  generalize hY : World.alloc w _ = Y
  have c := Cell.new w (.int .i64 0) (.int .i64 0) (.string ⟨#[]⟩) (.slice none 0 0) (.slice none 0 0)
  rw [hY] at c
  have HB := Lib.hid (show Below w.heap.size w Y by rw [← hY]; exact below_new _ _)
  obtain ⟨s0, s1, s2, s3, s4, p0, p1, p2, p3, p4, hblk⟩ := c
  have HR := Lib.hid (ret_box hblk (.int .i64 2) (.int .i64 n) (.string ⟨#[]⟩) (.slice none 0 0) (.slice none 0 0))
  clear hY hblk
  go_wp2
  obtain ⟨F, hF, ⟨r0, r1, r2, r3, r4, _⟩, hk, hs, hbel⟩ := HR.out
  rw [← hF]
  clear hF
  exact bodyPost_ret (v := (numA n).v) (by simp [results, Try.results26, go_sem, r0, r1, r2, r3, r4]; (repeat' apply And.intro) <;> rfl) rfl ⟨rfl, hbel _ _ (Nat.le_refl _) HB.out⟩
end Go.Proofs.Ytiiccefnfepccaa
