/- Contract of slices.insertionSortCmpFunc over a row of pairs. -/
import Derived.Test.YtdolejafihgpmaaM
import Derived.BigRegion
namespace Go.Proofs.Ytdolejafihgpmaa
open Go.RowKit Go.Sort

/-- The pairs of a row, as they read. -/
structure Held (w wr : World) (g B d n : Nat) (ps : Array Pr) : Prop where
  sz : ps.size = n
  row : RowP wr g ps
  near : Near g w wr
  els : ∀ j, j < n → PrIn w 0 B d (ps[j]!)
theorem Held.below {w wr wx : World} {g B d n : Nat} {ps : Array Pr} (h : Held w wr g B d n ps) (hb : Below wr.heap.size wr wx) (hg : g < w.heap.size) : Held w wx g B d n ps :=
  ⟨h.sz, h.row.below hb (Nat.lt_of_lt_of_le hg h.near.size), h.near.trans (Near.of_below hb), h.els⟩
theorem Held.prIn {w wr : World} {g B d n : Nat} {ps : Array Pr} (h : Held w wr g B d n ps) (hB : B ≤ g) (hg : g < w.heap.size) (j : Nat) (hj : j < n) : PrIn wr 0 wr.heap.size d (ps[j]!) := by
  have hk : Kept 0 B w wr := fun i _ hi => h.near.block i (by omega) (by omega)
  have hs := h.near.size
  have := h.els j hj
  exact ⟨Rd.imp hk (Nat.le_refl _) (by omega) (Nat.le_refl _) this.1, Rd.imp hk (Nat.le_refl _) (by omega) (Nat.le_refl _) this.2⟩
theorem Held.swap {w wr : World} {g B d n : Nat} {ps : Array Pr} (h : Held w wr g B d n ps) (i j : Nat) (hi : i < n) (hj : j < n) : Held w ((wr.drew.setCells g (i * 10) (ps[j]!).cs).setCells g (j * 10) (ps[i]!).cs) g B d n (swp ps i j) := by
  have hs := h.sz
  refine ⟨by rw [size_swp]; exact hs, h.row.drew.swap i j (by omega) (by omega), ((h.near.drew).trans (Near.setCells _ _ _ _)).trans (Near.setCells _ _ _ _), fun k hk => ?_⟩
  rw [swp_get ps (by omega) (by omega)]
  split
  · exact h.els _ hi
  · split
    · exact h.els _ hj
    · exact h.els _ hk
theorem below_drewN (B : Nat) (w : World) (n : Nat) : Below B w (w.drewN n) := ⟨rfl, rfl, rfl, Nat.le_refl _, fun _ _ => rfl⟩
/-- A pair written into a row. -/
def put10 (w : World) (g o : Nat) (p : Pr) : World := ((((((((((w.setCell ⟨g, o, none⟩ (.int .i64 p.x.k)).setCell ⟨g, o + 1, none⟩ (.int .i64 p.x.n)).setCell ⟨g, o + 2, none⟩ (.string p.x.s)).setCell ⟨g, o + 3, none⟩ (.slice p.a1 p.x.l.length p.n1)).setCell ⟨g, o + 4, none⟩ (.slice p.a2 p.x.m.length p.n2)).setCell ⟨g, o + 5, none⟩ (.int .i64 p.y.k)).setCell ⟨g, o + 6, none⟩ (.int .i64 p.y.n)).setCell ⟨g, o + 7, none⟩ (.string p.y.s)).setCell ⟨g, o + 8, none⟩ (.slice p.a3 p.y.l.length p.n3)).setCell ⟨g, o + 9, none⟩ (.slice p.a4 p.y.m.length p.n4))
theorem put10_eq (w : World) (g o : Nat) (p : Pr) : put10 w g o p = w.setCells g o p.cs := rfl
theorem setCells_drew (w : World) (g o : Nat) (vs : List Value) : (w.setCells g o vs).drew = w.drew.setCells g o vs := by
  induction vs generalizing w o with
  | nil => rfl
  | cons v r ih => exact ih (w.setCell ⟨g, o, none⟩ v) (o + 1)
theorem Held.swap10 {w wr : World} {g B d n : Nat} {ps : Array Pr} (h : Held w wr g B d n ps) (i j : Nat) (hi : i < n) (hj : j < n) {p q : Pr} (hp : ps[i]! = p) (hq : ps[j]! = q) : Held w (put10 (put10 wr g (i * 10) q) g (j * 10) p).drew g B d n (swp ps i j) := by
  have := h.swap i j hi hj
  rw [hp, hq, ← setCells_drew, ← setCells_drew, ← put10_eq, ← put10_eq] at this
  exact this
/-- The ten cells of a pair. -/
structure Ten (w : World) (g o : Nat) (p : Pr) : Prop where
  c0 : w.cell? ⟨g, o, none⟩ = some (.int .i64 p.x.k)
  c1 : w.cell? ⟨g, o + 1, none⟩ = some (.int .i64 p.x.n)
  c2 : w.cell? ⟨g, o + 2, none⟩ = some (.string p.x.s)
  c3 : w.cell? ⟨g, o + 3, none⟩ = some (.slice p.a1 p.x.l.length p.n1)
  c4 : w.cell? ⟨g, o + 4, none⟩ = some (.slice p.a2 p.x.m.length p.n2)
  c5 : w.cell? ⟨g, o + 5, none⟩ = some (.int .i64 p.y.k)
  c6 : w.cell? ⟨g, o + 6, none⟩ = some (.int .i64 p.y.n)
  c7 : w.cell? ⟨g, o + 7, none⟩ = some (.string p.y.s)
  c8 : w.cell? ⟨g, o + 8, none⟩ = some (.slice p.a3 p.y.l.length p.n3)
  c9 : w.cell? ⟨g, o + 9, none⟩ = some (.slice p.a4 p.y.m.length p.n4)
  f0 : w.frozen? ⟨g, o, none⟩ = false
  f1 : w.frozen? ⟨g, o + 1, none⟩ = false
  f2 : w.frozen? ⟨g, o + 2, none⟩ = false
  f3 : w.frozen? ⟨g, o + 3, none⟩ = false
  f4 : w.frozen? ⟨g, o + 4, none⟩ = false
  f5 : w.frozen? ⟨g, o + 5, none⟩ = false
  f6 : w.frozen? ⟨g, o + 6, none⟩ = false
  f7 : w.frozen? ⟨g, o + 7, none⟩ = false
  f8 : w.frozen? ⟨g, o + 8, none⟩ = false
  f9 : w.frozen? ⟨g, o + 9, none⟩ = false
theorem Held.ten {w wr : World} {g B d n : Nat} {ps : Array Pr} (h : Held w wr g B d n ps) (i : Nat) (hi : i < n) {p : Pr} (hp : ps[i]! = p) : Ten wr g (i * 10) p := by
  have hc := fun c (hc : c < 10) => HoldsK.cell h.row (i := i) (c := c) (by rw [h.sz]; exact hi) hc
  rw [hp] at hc
  simp only [Nat.zero_add] at hc
  exact ⟨(hc 0 (by omega)).1, (hc 1 (by omega)).1, (hc 2 (by omega)).1, (hc 3 (by omega)).1, (hc 4 (by omega)).1, (hc 5 (by omega)).1, (hc 6 (by omega)).1, (hc 7 (by omega)).1, (hc 8 (by omega)).1, (hc 9 (by omega)).1, (hc 0 (by omega)).2, (hc 1 (by omega)).2, (hc 2 (by omega)).2, (hc 3 (by omega)).2, (hc 4 (by omega)).2, (hc 5 (by omega)).2, (hc 6 (by omega)).2, (hc 7 (by omega)).2, (hc 8 (by omega)).2, (hc 9 (by omega)).2⟩
theorem Held.cmp {w wr : World} {g B d n : Nat} {ps : Array Pr} (h : Held w wr g B d n ps) (hB : B ≤ g) (hg : g < w.heap.size) (i j : Nat) (hi : i < n) (hj : j < n) {p q : Pr} (hp : ps[i]! = p) (hq : ps[j]! = q) (dd : Nat) (os : Array Obj) :
    Calls Try.prog 60 #[.agg #[.int .i64 p.x.k, .int .i64 p.x.n, .string p.x.s, .slice p.a1 p.x.l.length p.n1, .slice p.a2 p.x.m.length p.n2, .int .i64 p.y.k, .int .i64 p.y.n, .string p.y.s, .slice p.a3 p.y.l.length p.n3, .slice p.a4 p.y.m.length p.n4], .agg #[.int .i64 q.x.k, .int .i64 q.x.n, .string q.x.s, .slice q.a1 q.x.l.length q.n1, .slice q.a2 q.x.m.length q.n2, .int .i64 q.y.k, .int .i64 q.y.n, .string q.y.s, .slice q.a3 q.y.l.length q.n3, .slice q.a4 q.y.m.length q.n4]] (grow (redrawn wr dd) os) fun e w'' => e = .returned (.int .i64 (cmpP p q)) ∧ ∃ p : Regrown, w'' = grow (redrawn wr p.d) p.os := by
  have := Calls.regrown_of (closure_pair _ d _ _ ((h.below (below_regrown wr dd os) hg).prIn hB hg i hi) ((h.below (below_regrown wr dd os) hg).prIn hB hg j hj))
  rw [hp, hq] at this
  exact this

set_option maxHeartbeats 4000000 in
set_option maxRecDepth 100000 in
theorem insertion_any (w : World) (g B d n cap : Nat) (ps : Array Pr) (h : Held w w g B d n ps) (hB : B ≤ g) (hg : g < w.heap.size) (a b : Nat) (hab : a ≤ b) (hb : b ≤ n) (hn : n ≤ 100000) :
    Calls Try.prog 64 #[.slice (some ⟨g, 0, none⟩) n cap, .int .i64 a, .int .i64 b, .func (.func 60) #[] #[]] w fun e w' => e = .returned (.tuple #[]) ∧ Held w w' g B d n (Sort.insertionSort (ltOf cmpP) ps a b) := by
  have H := Lib.hid h
  clear h
  go_enter Try.func64, Try.ntmps64
  go_wp2
  go_loopw [8] (fun vi wr => ∃ (i : Nat) (dk : Array Pr), vi = .int .i64 i ∧ a < i ∧ i ≤ b + 1 ∧ Hid (Held w wr g B d n dk) ∧ Hid (insOuter (ltOf cmpP) a b i dk = insOuter (ltOf cmpP) a b (a + 1) ps)) (fun vi _ => b + 1 - (intOf vi).toNat)
  case atStart => exact ⟨a + 1, ps, by go_num, by omega, by omega, H, Lib.hid rfl⟩
  case round =>
    obtain ⟨i, dk, rfl, hai, hib, hH, HO⟩ := hrel
    by_cases hlt : i < b
    · have hltz : (i : Int) < (b : Int) := by omega
      go_wp2
      go_loopw [9] (fun vj wx => ∃ (j : Nat) (dj : Array Pr), vj = .int .i64 j ∧ a ≤ j ∧ j ≤ i ∧ Hid (Held w wx g B d n dj) ∧ Hid (insInner (ltOf cmpP) a j dj = insInner (ltOf cmpP) a i dk)) (fun vj _ => (intOf vj).toNat)
      case atStart => exact ⟨i, dk, rfl, by omega, Nat.le_refl _, hH, Lib.hid rfl⟩
      case round =>
        obtain ⟨j, dj, rfl, haj, hji, hJ, HI⟩ := hrel
        have OUT := Lib.hid (fun (hs : j ≤ a ∨ ltOf cmpP dj[j]! dj[j - 1]! = false) => show insOuter (ltOf cmpP) a b (i + 1) dj = insOuter (ltOf cmpP) a b (a + 1) ps by
          rw [← HO.out, insOuter_go _ _ _ _ _ hlt, ← HI.out, insInner_stop _ _ _ _ hs])
        by_cases hja : a < j
        · obtain ⟨jp, rfl⟩ : ∃ jp, j = jp + 1 := ⟨j - 1, by omega⟩
          have hwp : IntKind.i64.wrap (jp : Int) = (jp : Int) := IntWalk.i64_in _ (by omega)
          have jz : (jp : Int) + 1 < (n : Int) := by omega
          have jz1 : (jp : Int) < (n : Int) := by omega
          have hjaz' : (a : Int) < (jp : Int) + 1 := by omega
          have p0 : (0 : Int) ≤ (jp : Int) + 1 := by omega
          have e0 : ((jp : Int) + 1).toNat = jp + 1 := by omega
          generalize hxj : dj[jp + 1]! = xj
          generalize hxp : dj[jp]! = xp
          have HX := Lib.hid hxj
          have HY := Lib.hid hxp
          have cQ := Lib.hid (hJ.out.cmp hB hg (jp + 1) jp (by omega) (by omega) hxj hxp)
          clear hxj hxp
          obtain ⟨q0, q1, q2, q3, q4, q5, q6, q7, q8, q9, zq0, zq1, zq2, zq3, zq4, zq5, zq6, zq7, zq8, zq9⟩ := hJ.out.ten (jp + 1) (by omega) HX.out
          obtain ⟨p0, p1, p2, p3, p4, p5, p6, p7, p8, p9, zp0, zp1, zp2, zp3, zp4, zp5, zp6, zp7, zp8, zp9⟩ := hJ.out.ten jp (by omega) HY.out
          replace q0 := cell_regrown q0
          replace p0 := cell_regrown p0
          replace q1 := cell_regrown q1
          replace p1 := cell_regrown p1
          replace q2 := cell_regrown q2
          replace p2 := cell_regrown p2
          replace q3 := cell_regrown q3
          replace p3 := cell_regrown p3
          replace q4 := cell_regrown q4
          replace p4 := cell_regrown p4
          replace q5 := cell_regrown q5
          replace p5 := cell_regrown p5
          replace q6 := cell_regrown q6
          replace p6 := cell_regrown p6
          replace q7 := cell_regrown q7
          replace p7 := cell_regrown p7
          replace q8 := cell_regrown q8
          replace p8 := cell_regrown p8
          replace q9 := cell_regrown q9
          replace p9 := cell_regrown p9
          clear zq0 zp0 zq1 zp1 zq2 zp2 zq3 zp3 zq4 zp4 zq5 zp5 zq6 zp6 zq7 zp7 zq8 zp8 zq9 zp9
          generalize hr : cmpP xj xp = r at cQ
          have HR := Lib.hid hr
          clear hr
          go_wp2_with fail
          refine wp_region_quiet_below (by kernel_rfl) (by kernel_rfl) ?_
          repeat (first | go_big_quiet_step (exact cQ.out _ _) | quiet_step (exact cQ.out _ _))
          refine wpQuiet_nil ?_
          intro _ hw'
          obtain ⟨⟨dq, osq⟩, hw''⟩ := hw'
          subst hw''
          have HQ := Lib.hid (hJ.out.below (below_regrown wr dq osq) hg)
          generalize grow (redrawn wr dq) osq = wq at HQ
          clear q0 p0 q1 p1 q2 p2 q3 p3 q4 p4 q5 p5 q6 p6 q7 p7 q8 p8 q9 p9
          by_cases hlv : r < 0
          · go_wp2_with fail
            obtain ⟨q0, q1, q2, q3, q4, q5, q6, q7, q8, q9, zq0, zq1, zq2, zq3, zq4, zq5, zq6, zq7, zq8, zq9⟩ := HQ.out.ten (jp + 1) (by omega) HX.out
            obtain ⟨p0, p1, p2, p3, p4, p5, p6, p7, p8, p9, zp0, zp1, zp2, zp3, zp4, zp5, zp6, zp7, zp8, zp9⟩ := HQ.out.ten jp (by omega) HY.out
            have SW := HQ.out.swap10 (jp + 1) jp (by omega) (by omega) HX.out HY.out
            unfold put10 at SW
            have SWH := Lib.hid SW
            clear SW
            go_region
            go_wp2
            go_roundw
            case rel =>
              refine ⟨jp, swp dj (jp + 1) jp, by go_num, by omega, by omega, SWH, Lib.hid ?_⟩
              have := insInner_go (ltOf cmpP) a (jp + 1) dj hja (by simp only [Nat.add_sub_cancel]; unfold ltOf; rw [HX.out, HY.out, HR.out]; exact decide_eq_true hlv)
              simp only [Nat.add_sub_cancel] at this
              rw [← HI.out, this]
            case measure => simp [intOf]
          · go_wp2
            go_roundw
            case rel => exact ⟨i + 1, dj, by go_num, by omega, by omega, HQ, Lib.hid (OUT.out (Or.inr (by simp only [Nat.add_sub_cancel]; unfold ltOf; rw [HX.out, HY.out, HR.out]; exact decide_eq_false (by omega))))⟩
            case measure => simp [intOf]; omega
        · have hjaz' : ¬ (a : Int) < (j : Int) := by omega
          have hjaz : decide ((a : Int) < (j : Int)) = false := decide_eq_false (by omega)
          go_wp2_with fail
          go_quiet (fail)
          go_wp2
          go_roundw
          case rel => exact ⟨i + 1, dj, by go_num, by omega, by omega, Lib.hid (hJ.out.below (below_drewN _ _ _) hg), Lib.hid (OUT.out (Or.inl (by omega)))⟩
          case measure => simp [intOf]; omega
    · have hltz : ¬ (i : Int) < (b : Int) := by omega
      have FIN := Lib.hid (show insOuter (ltOf cmpP) a b i dk = dk from insOuter_stop _ _ _ _ _ hlt)
      go_wp2
      go_end0
      exact ⟨rfl, by unfold Sort.insertionSort; rw [← HO.out, FIN.out]; exact hH.out⟩
end Go.Proofs.Ytdolejafihgpmaa
