/- Carried over from an earlier seat. -/
import Derived.Test.YtllkimdlmnjoiaaGreatDoorVG
import Derived.Shelf.SlSortCmp.KitK
import Derived.BigRegion
import Derived.Deep.AppendLies
import Derived.Deep.RegionHeld3
import Derived.Test.YtllkimdlmnjoiaaGreatDoorVJ
import Derived.Test.YtllkimdlmnjoiaaGreatDoorVRc
import Derived.Test.YtllkimdlmnjoiaaGreatDoorVPh
import Derived.Deep.DeepCutAuto
import Derived.Deep.Cut
import Derived.IntWalk
namespace Go.Proofs.YtllkimdlmnjoiaaGreatDoor
set_option maxRecDepth 100000
set_option maxRecDepth 100000
set_option maxRecDepth 100000
set_option maxRecDepth 100000
set_option maxRecDepth 100000
open Go.RowKit Go.Sort

end Go.Proofs.YtllkimdlmnjoiaaGreatDoor

namespace Go.Proofs.YtllkimdlmnjoiaaGreatDoor
set_option maxRecDepth 100000
set_option maxRecDepth 100000
set_option maxRecDepth 100000
set_option maxRecDepth 100000
set_option maxRecDepth 100000
open Go.RowKit Go.Sort

theorem below_drewN (B : Nat) (w : World) (n : Nat) : Below B w (w.drewN n) := ⟨rfl, rfl, rfl, Nat.le_refl _, fun _ _ => rfl⟩
end Go.Proofs.YtllkimdlmnjoiaaGreatDoor

namespace Go.Proofs.YtllkimdlmnjoiaaGreatDoor
set_option maxRecDepth 100000
set_option maxRecDepth 100000
set_option maxRecDepth 100000
set_option maxRecDepth 100000
set_option maxRecDepth 100000
open Go.RowKit Go.Sort

end Go.Proofs.YtllkimdlmnjoiaaGreatDoor

namespace Go.Proofs.YtllkimdlmnjoiaaGreatDoor
set_option maxRecDepth 100000
set_option maxRecDepth 100000
set_option maxRecDepth 100000
set_option maxRecDepth 100000
open Go.RowKit

section
variable {P : Program} {ops : Array Oper} {Q : Exit → Act → World → Prop} {md : Region.Mode} {S : World → Prop} {N : List Nat}

end
end Go.Proofs.YtllkimdlmnjoiaaGreatDoor





/- Carried over from an earlier seat. -/
namespace Go.Proofs.YtllkimdlmnjoiaaGreatDoor
set_option maxRecDepth 100000
set_option maxRecDepth 100000
set_option maxRecDepth 100000
set_option maxRecDepth 100000
set_option maxRecDepth 100000
open Go.RowKit Go.Sort
attribute [local go_sem ↓] Go.wp_at_zero Go.wp_at_succ

/-- Steps of a chain of worlds. -/
theorem Blk.next {a b : World} {g n : Nat} (hb : Below a.heap.size a b) (h : Blk a g n) : Blk b g n := h.below hb h.lt
theorem Cell.next {a b : World} {g : Nat} {v0 v1 v2 v3 v4 : Value} (hb : Below a.heap.size a b) (h : Cell a g v0 v1 v2 v3 v4) : Cell b g v0 v1 v2 v3 v4 := h.below hb h.blk.lt
end Go.Proofs.YtllkimdlmnjoiaaGreatDoor






/- Carried over from an earlier seat. -/
namespace Go.Proofs.YtllkimdlmnjoiaaGreatDoor
set_option maxRecDepth 100000
set_option maxRecDepth 100000
set_option maxRecDepth 100000
set_option maxRecDepth 100000
set_option maxRecDepth 100000
open Go.RowKit
attribute [local go_sem ↓] Go.wp_at_zero Go.wp_at_succ

/-- A value with where its rows lie. -/
structure At where
  t : V
  A : Option Addr
  c : Nat
  A' : Option Addr
  c' : Nat
def At.cs (x : At) : List Value := [.int .i64 x.t.k, .int .i64 x.t.n, .string x.t.s, .slice x.A x.t.l.length x.c, .slice x.A' x.t.m.length x.c']
def At.In (x : At) (w : World) (d : Nat) : Prop := Rd w 0 w.heap.size d x.t x.A x.c x.A' x.c'
theorem At.In.next {x : At} {a b : World} {d : Nat} (h : x.In a d) (hb : Below a.heap.size a b) : x.In b d := Rd.next h hb
def flatA (l : List At) : List Value := l.flatMap At.cs
theorem flatA_at : ∀ (l : List At) (j : Nat) (x : At), l[j]? = some x → ∀ c, c < 5 → (flatA l)[j * 5 + c]? = x.cs[c]?
  | [], _, _, h => by simp at h
  | t :: l, 0, u, h => fun c hc => by
    simp at h
    subst h
    unfold flatA
    rw [List.flatMap_cons, List.getElem?_append_left (by simp [At.cs]; omega)]
    simp
  | t :: l, j + 1, u, h => fun c hc => by
    have ih := flatA_at l j u (by simpa using h) c hc
    unfold flatA at *
    rw [List.flatMap_cons, List.getElem?_append_right (by simp [At.cs]; omega), ← ih]
    congr 1
    simp [At.cs]; omega
theorem row_lay (w : World) (d : Nat) (l : List At) (hF : ∀ x ∈ l, x.In w d) (hl : l.length ≤ 1000) : Rw (w.alloc (.cells (flatA l).toArray 77)) 0 (w.alloc (.cells (flatA l).toArray 77)).heap.size d (some ⟨w.heap.size, 0, none⟩) l.length (l.map (·.t)) := by
  refine ⟨by simp, by unfold maxLen; omega, by simp; omega, (fun e => by cases e), fun h0 => ⟨w.heap.size, 0, rfl, Nat.zero_le _, by simp, fun j t hj => ?_⟩⟩
  rw [List.getElem?_map] at hj
  obtain ⟨x, hx, rfl⟩ := Option.map_eq_some_iff.1 hj
  refine ⟨x.A, x.c, x.A', x.c', ?_, (hF x (List.mem_of_getElem? hx)).next (below_new _ _)⟩
  have hc := flatA_at l j x hx
  have hw : ∀ o, (w.alloc (.cells (flatA l).toArray 77)).cell? ⟨w.heap.size, o, none⟩ = (flatA l)[o]? := fun o => by rw [World.cell?_alloc_at _ _ _ _ rfl]; simp
  constructor
  all_goals rw [hw]
  · rw [show 0 + j * 5 = j * 5 + 0 by omega, hc 0 (by omega)]; rfl
  · rw [show 0 + j * 5 + 1 = j * 5 + 1 by omega, hc 1 (by omega)]; rfl
  · rw [show 0 + j * 5 + 2 = j * 5 + 2 by omega, hc 2 (by omega)]; rfl
  · rw [show 0 + j * 5 + 3 = j * 5 + 3 by omega, hc 3 (by omega)]; rfl
  · rw [show 0 + j * 5 + 4 = j * 5 + 4 by omega, hc 4 (by omega)]; rfl

/-- A parameter's box. -/
def Bx (w : World) (g : Nat) (x : At) : Prop := Cell w g (.int .i64 x.t.k) (.int .i64 x.t.n) (.string x.t.s) (.slice x.A x.t.l.length x.c) (.slice x.A' x.t.m.length x.c')
theorem Bx.next {a b : World} {g : Nat} {x : At} (h : Bx a g x) (hb : Below a.heap.size a b) : Bx b g x := Cell.next hb h
theorem Bx.new (w : World) (x : At) : Bx (w.alloc (.cells #[.int .i64 x.t.k, .int .i64 x.t.n, .string x.t.s, .slice x.A x.t.l.length x.c, .slice x.A' x.t.m.length x.c'] 77)) w.heap.size x := Cell.new w _ _ _ _ _
abbrev At.v (x : At) : Value := .agg #[.int .i64 x.t.k, .int .i64 x.t.n, .string x.t.s, .slice x.A x.t.l.length x.c, .slice x.A' x.t.m.length x.c']

end Go.Proofs.YtllkimdlmnjoiaaGreatDoor






/- Carried over from an earlier seat. -/
namespace Go.Proofs.YtllkimdlmnjoiaaGreatDoor
set_option maxRecDepth 100000
set_option maxRecDepth 100000
set_option maxRecDepth 100000
set_option maxRecDepth 100000
set_option maxRecDepth 100000
open Go.RowKit

theorem cmpF_copy (s : Nat) (a : V) : cmpF (copyV s a) a = 0 := by
  have e : cmpF (copyV s a) a = cmpF a a := by cases s <;> rfl
  rw [e]; exact ord_cmpF.refl a
theorem rowC_map {f : V → V → Int} {g : V → V} (h : ∀ x, f (g x) x = 0) : ∀ l, rowC f (l.map g) l = 0
  | [] => rfl
  | x :: l => by
    rw [List.map_cons, rowC, h x, orI, if_pos rfl]; exact rowC_map h l
/-- A copy that is deep enough is the same. -/
theorem cmp_copy : ∀ r s a, r ≤ s → cmpV r (copyV s a) a = 0
  | 0, s, a, _ => cmpF_copy s a
  | r + 1, 0, _, h => absurd h (by omega)
  | r + 1, s + 1, a, h => by
    have ih := fun x => cmp_copy r s x (by omega)
    show orI (cmpF (copyV (s + 1) a) a) (orI (rowC (cmpV r) (a.l.map (copyV s)) a.l) (rowC (cmpV r) (a.m.map (copyV s)) a.m)) = 0
    rw [cmpF_copy, rowC_map ih, rowC_map ih]; rfl
theorem map_same {g : V → V} {l : List V} (h : ∀ x ∈ l, g x = x) : l.map g = l := by
  rw [List.map_congr_left h, List.map_id']
/-- What may be, after the copy, was not cut by it. -/
theorem ok_copy_same : ∀ r s a, okV r (copyV s a) = true → r ≤ s → copyV s a = a
  | 0, _, _, h, _ => by simp [okV] at h
  | r + 1, 0, _, _, h => absurd h (by omega)
  | r + 1, s + 1, a, h, hs => by
    simp only [okV, Bool.and_eq_true] at h
    obtain ⟨⟨⟨_, h1⟩, h2⟩, _⟩ := h
    have e1 : a.l.map (copyV s) = a.l := map_same fun x hx => ok_copy_same r s x (List.all_eq_true.1 h1 _ (List.mem_map_of_mem hx)) (by omega)
    have e2 : a.m.map (copyV s) = a.m := map_same fun x hx => ok_copy_same r s x (List.all_eq_true.1 h2 _ (List.mem_map_of_mem hx)) (by omega)
    show V.mk a.k a.n a.s (a.l.map (copyV s)) (a.m.map (copyV s)) = a
    rw [e1, e2]; exact a.eta.symm
theorem ok_same_copy : ∀ r s a, okV r a = true → r ≤ s → copyV s a = a
  | 0, _, _, h, _ => by simp [okV] at h
  | r + 1, 0, _, _, h => absurd h (by omega)
  | r + 1, s + 1, a, h, hs => by
    simp only [okV, Bool.and_eq_true] at h
    obtain ⟨⟨⟨_, h1⟩, h2⟩, _⟩ := h
    have e1 : a.l.map (copyV s) = a.l := map_same fun x hx => ok_same_copy r s x (List.all_eq_true.1 h1 _ hx) (by omega)
    have e2 : a.m.map (copyV s) = a.m := map_same fun x hx => ok_same_copy r s x (List.all_eq_true.1 h2 _ hx) (by omega)
    show V.mk a.k a.n a.s (a.l.map (copyV s)) (a.m.map (copyV s)) = a
    rw [e1, e2]; exact a.eta.symm
theorem ok_copy (r s : Nat) (a : V) (h : r ≤ s) : okV r (copyV s a) = okV r a := by
  cases e : okV r a with
  | true => rw [ok_same_copy r s a e h]; exact e
  | false =>
    cases e2 : okV r (copyV s a) with
    | false => rfl
    | true => rw [ok_copy_same r s a e2 h, e] at e2; cases e2
end Go.Proofs.YtllkimdlmnjoiaaGreatDoor






/- Carried over from an earlier seat. -/
namespace Go.Proofs.YtllkimdlmnjoiaaGreatDoor
set_option maxRecDepth 100000
set_option maxRecDepth 100000
set_option maxRecDepth 100000
set_option maxRecDepth 100000
set_option maxRecDepth 100000
open Go.RowKit
attribute [local go_sem ↓] Go.wp_at_zero Go.wp_at_succ

/-- Two values in their boxes. -/
structure B2 (w0 w : World) (d g1 g2 : Nat) (x y : At) : Prop where
  b1 : Bx w g1 x
  b2 : Bx w g2 y
  i1 : x.In w d
  i2 : y.In w d
  bel : Below w0.heap.size w0 w
theorem B2.next {w0 a b : World} {d g1 g2 : Nat} {x y : At} (h : B2 w0 a d g1 g2 x y) (hb : Below a.heap.size a b) : B2 w0 b d g1 g2 x y :=
  ⟨h.b1.next hb, h.b2.next hb, h.i1.next hb, h.i2.next hb, bnext h.bel hb⟩
theorem B2.new (w : World) (d : Nat) (x y : At) (hx : x.In w d) (hy : y.In w d) (W : World) (hW : (w.alloc (.cells #[.int .i64 x.t.k, .int .i64 x.t.n, .string x.t.s, .slice x.A x.t.l.length x.c, .slice x.A' x.t.m.length x.c'] 77)).alloc (.cells #[.int .i64 y.t.k, .int .i64 y.t.n, .string y.t.s, .slice y.A y.t.l.length y.c, .slice y.A' y.t.m.length y.c'] 77) = W) :
    B2 w W d w.heap.size (w.heap.size + 1) x y := by
  subst hW
  have h2 := Bx.new (w.alloc (.cells #[.int .i64 x.t.k, .int .i64 x.t.n, .string x.t.s, .slice x.A x.t.l.length x.c, .slice x.A' x.t.m.length x.c'] 77)) y
  rw [size_alloc] at h2
  exact ⟨(Bx.new w x).next (below_new _ _), h2, hx.next (below_new2 _ _ _), hy.next (below_new2 _ _ _), below_new2 _ _ _⟩
theorem refCmp_at (w : World) (d : Nat) (x y : At) (hx : x.In w d) (hy : y.In w d) : Calls Tryz.prog 131 #[x.v, y.v] w fun e w' => e = .returned (.int .i64 (cmpV 12 x.t y.t)) ∧ Below w.heap.size w w' :=
  refCmp_any w d d x.t y.t _ _ _ _ _ _ _ _ hx hy

end Go.Proofs.YtllkimdlmnjoiaaGreatDoor

namespace Go.Proofs.YtllkimdlmnjoiaaGreatDoor
set_option maxRecDepth 100000
set_option maxRecDepth 100000
set_option maxRecDepth 100000
set_option maxRecDepth 100000
set_option maxRecDepth 100000
open Go.RowKit
attribute [local go_sem ↓] Go.wp_at_zero Go.wp_at_succ

theorem At.In.up {x : At} {w : World} {n m : Nat} (h : x.In w n) (hm : n ≤ m) : x.In w m := Rd.more h (Nat.le_refl _) (Nat.le_refl _) hm
theorem check_at (w : World) (d : Nat) (x : At) (hx : x.In w d) : Calls Tryz.prog 102 #[x.v] w fun e w' => e = .returned (.int .i64 (errI (okV 12 x.t))) ∧ Below w.heap.size w w' := check_any w d x.t _ _ _ _ hx
end Go.Proofs.YtllkimdlmnjoiaaGreatDoor






