/- Carried over from an earlier seat. -/
import Derived.Test.YtiiopbcihieblaaGreatDoorVUa
import Derived.Test.YtiiopbcihieblaaGreatDoorVG
import Derived.Test.YtiiopbcihieblaaGreatDoorVPh
import Derived.Test.YtiiopbcihieblaaGreatDoorVM
namespace Go.Proofs.YtiiopbcihieblaaGreatDoor
set_option maxRecDepth 100000
set_option maxRecDepth 100000
set_option maxRecDepth 100000
set_option maxRecDepth 100000
open Go.RowKit
attribute [local go_sem ↓] Go.wp_at_zero Go.wp_at_succ

/-- A value with where its rows lie. -/
structure At where
  t : V
  A : Option Addr
  c : Nat
  A' : Option Addr
  c' : Nat
def At.cs (x : At) : List Value := [.int .i64 x.t.k, .int .i64 x.t.n, .string x.t.s, .slice x.A x.t.l.length x.c, .slice x.A' x.t.m.length x.c']
def At.In (x : At) (w : World) (d : Nat) : Prop := Rd w 0 w.heap.size d x.t x.A x.c x.A' x.c'
theorem At.In.next {x : At} {a b : World} {d : Nat} (h : x.In a d) (hb : Below a.heap.size a b) : x.In b d := Rd.next h hb
def flatA (l : List At) : List Value := l.flatMap At.cs
theorem flatA_at : ∀ (l : List At) (j : Nat) (x : At), l[j]? = some x → ∀ c, c < 5 → (flatA l)[j * 5 + c]? = x.cs[c]?
  | [], _, _, h => by simp at h
  | t :: l, 0, u, h => fun c hc => by
    simp at h
    subst h
    unfold flatA
    rw [List.flatMap_cons, List.getElem?_append_left (by simp [At.cs]; omega)]
    simp
  | t :: l, j + 1, u, h => fun c hc => by
    have ih := flatA_at l j u (by simpa using h) c hc
    unfold flatA at *
    rw [List.flatMap_cons, List.getElem?_append_right (by simp [At.cs]; omega), ← ih]
    congr 1
    simp [At.cs]; omega
theorem row_lay (w : World) (d : Nat) (l : List At) (hF : ∀ x ∈ l, x.In w d) (hl : l.length ≤ 1000) : Rw (w.alloc (.cells (flatA l).toArray 39)) 0 (w.alloc (.cells (flatA l).toArray 39)).heap.size d (some ⟨w.heap.size, 0, none⟩) l.length (l.map (·.t)) := by
  refine ⟨by simp, by unfold maxLen; omega, by simp; omega, (fun e => by cases e), fun h0 => ⟨w.heap.size, 0, rfl, Nat.zero_le _, by simp, fun j t hj => ?_⟩⟩
  rw [List.getElem?_map] at hj
  obtain ⟨x, hx, rfl⟩ := Option.map_eq_some_iff.1 hj
  refine ⟨x.A, x.c, x.A', x.c', ?_, (hF x (List.mem_of_getElem? hx)).next (below_new _ _)⟩
  have hc := flatA_at l j x hx
  have hw : ∀ o, (w.alloc (.cells (flatA l).toArray 39)).cell? ⟨w.heap.size, o, none⟩ = (flatA l)[o]? := fun o => by rw [World.cell?_alloc_at _ _ _ _ rfl]; simp
  constructor
  all_goals rw [hw]
  · rw [show 0 + j * 5 = j * 5 + 0 by omega, hc 0 (by omega)]; rfl
  · rw [show 0 + j * 5 + 1 = j * 5 + 1 by omega, hc 1 (by omega)]; rfl
  · rw [show 0 + j * 5 + 2 = j * 5 + 2 by omega, hc 2 (by omega)]; rfl
  · rw [show 0 + j * 5 + 3 = j * 5 + 3 by omega, hc 3 (by omega)]; rfl
  · rw [show 0 + j * 5 + 4 = j * 5 + 4 by omega, hc 4 (by omega)]; rfl

/-- A parameter's box. -/
def Bx (w : World) (g : Nat) (x : At) : Prop := Cell w g (.int .i64 x.t.k) (.int .i64 x.t.n) (.string x.t.s) (.slice x.A x.t.l.length x.c) (.slice x.A' x.t.m.length x.c')
theorem Bx.next {a b : World} {g : Nat} {x : At} (h : Bx a g x) (hb : Below a.heap.size a b) : Bx b g x := Cell.next hb h
theorem Bx.new (w : World) (x : At) : Bx (w.alloc (.cells #[.int .i64 x.t.k, .int .i64 x.t.n, .string x.t.s, .slice x.A x.t.l.length x.c, .slice x.A' x.t.m.length x.c'] 39)) w.heap.size x := Cell.new w _ _ _ _ _
abbrev At.v (x : At) : Value := .agg #[.int .i64 x.t.k, .int .i64 x.t.n, .string x.t.s, .slice x.A x.t.l.length x.c, .slice x.A' x.t.m.length x.c']

end Go.Proofs.YtiiopbcihieblaaGreatDoor




