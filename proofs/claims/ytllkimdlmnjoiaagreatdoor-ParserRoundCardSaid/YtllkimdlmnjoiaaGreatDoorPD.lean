/- Carried over from an earlier seat. -/
import Derived.Test.YtllkimdlmnjoiaaGreatDoorPB
namespace Go.Proofs.YtllkimdlmnjoiaaGreatDoor
set_option maxRecDepth 100000
set_option maxRecDepth 100000
set_option maxRecDepth 100000
set_option maxRecDepth 100000
open Go.RowKit Go.Sort

set_option maxHeartbeats 800000 in
/-- Is it no value? -/
theorem noValue_any (w : World) : PredsV 150 #[] w (fun t => !okV 12 t) := by
  intro W d x _ hx
  have b0 := below_new W (.cells #[.int .i64 x.t.k, .int .i64 x.t.n, .string x.t.s, .slice x.A x.t.l.length x.c, .slice x.A' x.t.m.length x.c'] 77)
  have CK := Lib.hid (check_at _ d x (hx.next b0))
  have B0 := Lib.hid b0
  clear hx b0
  show Calls Tryz.prog 150 #[x.v] W fun e w' => e = .returned (.bool (!okV 12 x.t)) ∧ Below W.heap.size W w'
  generalize okV 12 x.t = b at *
  unfold At.v at *
  go_enter Tryz.func150, Tryz.ntmps150
  go_wp2_with fail
  refine CK.out.mono ?_
  rintro e w1 ⟨rfl, hb⟩
  have HB := Lib.hid (bnext B0.out hb)
  clear hb CK
  cases b
  · go_wp2
    go_ret
    exact ⟨rfl, HB.out⟩
  · go_wp2
    go_ret
    exact ⟨rfl, HB.out⟩

/-- May it be, r levels above the first one that is too deep? -/
def okP : Nat → P → Bool
  | 0, _ => false
  | r + 1, t => fitsP t && t.v.all (okV 12) && t.p.all (okP r)
def IsPred (r : Nat) : Prop :=
  ∀ (w : World) (d : Nat) (x : Pt) (lev : Int), lev = 13 - r → r ≤ 12 → x.In w d →
    Calls Tryz.prog 127 #[x.val, .int .i64 lev] w fun e w' => e = .returned (.bool (okP r x.t)) ∧ Below w.heap.size w w'

/-- A predicate's box and a number's. -/
theorem boxesP (w : World) (x : Pt) (u : Value) (W : World) (hW : (w.alloc (.cells #[.int .i64 x.t.k, .slice x.A x.t.v.length x.c, .slice x.A' x.t.p.length x.c'] 80)).alloc (.cells #[u] 3) = W) :
    BP W w.heap.size x ∧ W.cell? ⟨w.heap.size + 1, 0, none⟩ = some u ∧ W.heap.size = w.heap.size + 1 + 1 ∧ Below w.heap.size w W := by
  subst hW
  refine ⟨(BP.new w x).next (below_new _ _), ?_, by simp, below_new2 _ _ _⟩
  rw [World.cell?_alloc_at _ _ _ _ (by simp)]; rfl

set_option maxHeartbeats 1600000 in
theorem isPred_zero : IsPred 0 := by
  intro w d x lev hlev _ _
  have hl : 12 < lev := by omega
  clear hlev
  unfold Pt.val
  go_enter Tryz.func127, Tryz.ntmps127
  go_wp2
  go_ret
  exact ⟨by rfl, below_new2 _ _ _⟩

set_option maxHeartbeats 1600000 in
theorem closure_okP (r : Nat) (ih : IsPred r) (hr : r ≤ 11) (g : Nat) (w : World) (lev : Int) (hlev : lev = 12 - r) (hg : g < w.heap.size) (hc : w.cell? ⟨g, 0, none⟩ = some (.int .i64 lev)) : PredsP 151 #[.pointer (some ⟨g, 0, none⟩)] w (fun _ => True) (fun x => !okP r x) := by
  intro W d x _ hb hx
  have hl0 : 0 ≤ lev := by omega
  have hl1 : lev ≤ 12 := by omega
  have b0 := below_new W (.cells #[.int .i64 x.t.k, .slice x.A x.t.v.length x.c, .slice x.A' x.t.p.length x.c'] 80)
  have HX := Lib.hid (hx.next b0)
  have l1 := cell_below b0 (cell_below hb hc hg) (Nat.lt_of_lt_of_le hg hb.size)
  have IH := Lib.hid (ih _ d x (lev + 1) (by omega) (by omega) HX.out)
  have B0 := Lib.hid b0
  clear ih hlev hx hc hb b0
  show Calls Tryz.prog 151 #[x.val, .pointer (some ⟨g, 0, none⟩)] W _
  unfold Pt.val at *
  go_enter Tryz.func151, Tryz.ntmps151
  go_wp2_with fail
  refine IH.out.mono ?_
  rintro e w1 ⟨rfl, hb1⟩
  have HB := Lib.hid (bnext B0.out hb1)
  clear hb1
  go_wp2
  go_ret
  exact ⟨by rfl, HB.out⟩

theorem any_notT {α : Type} (l : List α) (p : α → Bool) : l.any (fun x => !p x) = !l.all p := by rw [List.any_eq_not_all_not]; simp
theorem okP_0 (r : Nat) (t : P) (h : fitsP t = false) : okP (r + 1) t = false := by simp [okP, h]
theorem okP_1 (r : Nat) (t : P) (h : t.v.any (fun x => !okV 12 x) = true) : okP (r + 1) t = false := by
  rw [any_notT] at h
  have : t.v.all (okV 12) = false := by simpa using h
  simp [okP, this]
theorem okP_2 (r : Nat) (t : P) (h0 : fitsP t = true) (h1 : t.v.any (fun x => !okV 12 x) = false) : okP (r + 1) t = !t.p.any (fun x => !okP r x) := by
  rw [any_notT] at h1 ⊢
  have a : t.v.all (okV 12) = true := by simpa using h1
  simp [okP, a, h0]

set_option maxHeartbeats 3200000 in
theorem isPred_succ (r : Nat) (ih : IsPred r) : IsPred (r + 1) := by
  intro w d x lev hlev hr hx
  have hl : lev ≤ 12 := by omega
  have HL := Lib.hid (show lev = 12 - r by omega)
  obtain ⟨d', rfl⟩ := hx.pos
  have RV := Lib.hid hx.2.1
  have RP := Lib.hid hx.2.2
  have IH := Lib.hid ih
  clear hlev hx ih
  unfold Pt.val
  go_enter Tryz.func127, Tryz.ntmps127
  go_wp2_with fail
  generalize hW : World.alloc (World.alloc _ _) _ = W
  obtain ⟨k1, l0, hz, hb⟩ := boxesP _ _ _ _ hW
  have K1 := Lib.hid k1
  have L0 := Lib.hid l0
  have HB := Lib.hid hb
  have hzz : w.heap.size + 1 < W.heap.size := by rw [hz]; omega
  clear hz hb hW k1 l0
  refine (pfits_any W x).mono ?_
  rintro e w1 ⟨rfl, hb1⟩
  have K2 := Lib.hid (K1.out.next hb1)
  obtain ⟨a0, a1, a2, _⟩ := K2.out
  have l1 := cell_below hb1 L0.out (by simp; omega)
  have B1 := Lib.hid (bnext HB.out hb1)
  have hz1 : w.heap.size + 1 < w1.heap.size := Nat.lt_of_lt_of_le hzz hb1.size
  clear hb1
  cases hf : fitsP x.t
  · have FIN := Lib.hid (okP_0 r x.t hf)
    go_wp2
    go_ret
    exact ⟨by rw [FIN.out]; rfl, B1.out⟩
  · obtain ⟨n, rv⟩ := RV.out
    have CV := Lib.hid (containsVs 150 enters39 #[] _ w1 (noValue_any w1) n _ _ _ (rv.next B1.out))
    clear rv RV
    go_wp2_with fail
    refine CV.out.mono ?_
    rintro e w2 ⟨rfl, hb2⟩
    have K3 := Lib.hid (K2.out.next hb2)
    obtain ⟨e0, e1, e2, _⟩ := K3.out
    have l2 := cell_below hb2 l1 (by simp; omega)
    have B2 := Lib.hid (bnext B1.out hb2)
    have hz2 : w.heap.size + 1 < w2.heap.size := Nat.lt_of_lt_of_le hz1 hb2.size
    clear hb2 a0 a1 a2 CV l1
    cases h1 : x.t.v.any (fun x => !okV 12 x)
    · have CL2 := Lib.hid (closure_okP r IH.out (by omega) (w.heap.size + 1) w2 lev HL.out hz2 l2)
      have CP := Lib.hid (containsPs 151 enters41 #[.pointer (some ⟨w.heap.size + 1, 0, none⟩)] _ _ w2 CL2.out d' x.A' x.c' x.t.p (fun _ _ => trivial) (RP.out.next B2.out))
      have FIN := Lib.hid (okP_2 r x.t hf h1)
      clear CL2 h1
      go_wp2_with fail
      refine CP.out.mono ?_
      rintro e w3 ⟨rfl, hb3⟩
      have B3 := Lib.hid (bnext B2.out hb3)
      clear hb3 CP
      go_wp2
      go_ret
      exact ⟨by rw [FIN.out]; rfl, B3.out⟩
    · have FIN := Lib.hid (okP_1 r x.t h1)
      clear h1
      go_wp2_with fail
      go_ret
      exact ⟨by rw [FIN.out]; rfl, B2.out⟩

theorem isPred_any : ∀ r, IsPred r
  | 0 => isPred_zero
  | r + 1 => isPred_succ r (isPred_any r)

set_option maxHeartbeats 800000 in
theorem pcheck_any (w : World) (d : Nat) (x : Pt) (hx : x.In w d) :
    Calls Tryz.prog 104 #[x.val] w fun e w' => e = .returned (.int .i64 (errI (okP 12 x.t))) ∧ Below w.heap.size w w' := by
  have b0 := below_new w (.cells #[.int .i64 x.t.k, .slice x.A x.t.v.length x.c, .slice x.A' x.t.p.length x.c'] 80)
  have CK := Lib.hid (isPred_any 12 _ d x 1 (by omega) (by omega) (hx.next b0))
  have B0 := Lib.hid b0
  clear hx b0
  generalize okP 12 x.t = b at *
  unfold Pt.val at *
  go_enter Tryz.func104, Tryz.ntmps104
  go_wp2_with fail
  refine CK.out.mono ?_
  rintro e w1 ⟨rfl, hb1⟩
  have HB := Lib.hid (bnext B0.out hb1)
  clear hb1
  cases b
  · go_wp2
    go_ret
    exact ⟨by rfl, HB.out⟩
  · go_wp2
    go_ret
    exact ⟨by rfl, HB.out⟩
end Go.Proofs.YtllkimdlmnjoiaaGreatDoor




/- Carried over from an earlier seat. -/
namespace Go.Proofs.YtllkimdlmnjoiaaGreatDoor
set_option maxRecDepth 100000
set_option maxRecDepth 100000
set_option maxRecDepth 100000
set_option maxRecDepth 100000
open Go.RowKit Go.Sort

theorem of_regrown {w : World} {f : Nat} {args : Array Value} {v : Value} (h : ∀ X, Below w.heap.size w X → Calls Tryz.prog f args X fun x w' => x = .returned v ∧ Below X.heap.size X w') (d : Nat) (os : Array Obj) :
    Calls Tryz.prog f args (grow (redrawn w d) os) fun x w'' => x = .returned v ∧ ∃ p : Regrown, w'' = grow (redrawn w p.d) p.os :=
  Calls.regrown_of (h _ (below_regrown w d os))

end Go.Proofs.YtllkimdlmnjoiaaGreatDoor




