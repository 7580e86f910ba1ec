/- Carried over from an earlier seat. -/
import Derived.Test.YtllkimdlmnjoiaaGreatDoorVVb
import Derived.Deep.RegionWith
import Derived.Deep.DrawnRows
import Derived.Deep.DeepCutAuto
import Derived.Test.YtllkimdlmnjoiaaGreatDoorPD
import Derived.IntWalk
import Derived.Test.YtllkimdlmnjoiaaGreatDoorTH
import Derived.Test.YtllkimdlmnjoiaaGreatDoorZV
import Derived.Test.YtllkimdlmnjoiaaGreatDoorUC
namespace Go.Proofs.YtllkimdlmnjoiaaGreatDoor
set_option maxRecDepth 100000
set_option maxRecDepth 100000
set_option maxRecDepth 100000
set_option maxRecDepth 100000
set_option maxRecDepth 100000
open Go.RowKit
attribute [local go_sem ↓] Go.wp_at_zero Go.wp_at_succ

end Go.Proofs.YtllkimdlmnjoiaaGreatDoor






/- Carried over from an earlier seat. -/
namespace Go.Proofs.YtllkimdlmnjoiaaGreatDoor
set_option maxRecDepth 100000
set_option maxRecDepth 100000
set_option maxRecDepth 100000
set_option maxRecDepth 100000
open Go.RowKit Go.Sort

/-- A block of values that is known whole. -/
def BlkP (w : World) (g n : Nat) : Prop := ∃ cs : Array Value, w.heap[g]? = some (.cells cs 80 (0, 0)) ∧ cs.size = n * 3
/-- A row whose memory is its owner's. -/
def MineP (w : World) (A : Option Addr) (n : Nat) : Prop := 0 < n → ∃ g, A = some ⟨g, 0, none⟩ ∧ BlkP w g n
/-- Three cells written, one behind the other. -/
abbrev put3 (w : World) (g o : Nat) (v0 v1 v2 : Value) : World :=
  ((w.setCell ⟨g, o, none⟩ v0).setCell ⟨g, o + 1, none⟩ v1).setCell ⟨g, o + 2, none⟩ v2
/-- What a maker hands on: rows, and a predicate, in new memory. -/
def NewVs (w : World) (l : List V) (e : Ending) (w' : World) : Prop :=
  ∃ A c n, e = .returned (.slice A l.length c) ∧ Rw w' w.heap.size w'.heap.size n A c l ∧ Mine w' A l.length ∧ Below w.heap.size w w'
def NewPs (w : World) (d : Nat) (l : List P) (e : Ending) (w' : World) : Prop :=
  ∃ A c, e = .returned (.slice A l.length c) ∧ Pw w' w.heap.size w'.heap.size d A c l ∧ MineP w' A l.length ∧ Below w.heap.size w w'
def NewP (w : World) (d : Nat) (t : P) (e : Ending) (w' : World) : Prop :=
  ∃ A c A' c', e = .returned (pl t A c A' c') ∧ Pd w' w.heap.size w'.heap.size d t A c A' c' ∧ Mine w' A t.v.length ∧ MineP w' A' t.p.length ∧ Below w.heap.size w w'

/-- A row of n predicates that are nothing. -/
def zrowP (n : Nat) : Array Value := madeCells #[.int .i64 0, .slice none 0 0, .slice none 0 0] (n * 3)
/-- So far as a row is filled. -/
structure FillP (w : World) (g n d : Nat) (done : List P) : Prop where
  blk : BlkP w g n
  el : ∀ j t, done[j]? = some t → ∃ A1 c1 A2 c2, cells3 w g (j * 3) t A1 c1 A2 c2 ∧ Pd w (g + 1) w.heap.size d t A1 c1 A2 c2
/-- A function value that makes f of a predicate of which S holds. -/
def MakesP (F : Nat) (caps : Array Value) (w : World) (S : P → Prop) (f : P → P) (D : Nat) : Prop :=
  ∀ (W : World) (d : Nat) (x : Pt), S x.t → Below w.heap.size w W → x.In W d → Calls Tryz.prog F (#[x.val] ++ caps) W (NewP W D (f x.t))

end Go.Proofs.YtllkimdlmnjoiaaGreatDoor




/- Carried over from an earlier seat. -/
namespace Go.Proofs.YtllkimdlmnjoiaaGreatDoor
set_option maxRecDepth 100000
set_option maxRecDepth 100000
set_option maxRecDepth 100000
set_option maxRecDepth 100000
open Go.RowKit Go.Sort

/-- The copy of a predicate, r levels above the last one. -/
def copyP : Nat → P → P
  | 0, t => .mk t.k [] []
  | r + 1, t => .mk t.k (t.v.map (copyV 12)) (t.p.map (copyP r))

/-- A box of one predicate that is the call's own. -/
structure CellP (w : World) (g : Nat) (v0 v1 v2 : Value) : Prop where
  c0 : w.cell? ⟨g, 0, none⟩ = some v0
  c1 : w.cell? ⟨g, 1, none⟩ = some v1
  c2 : w.cell? ⟨g, 2, none⟩ = some v2
  f0 : w.frozen? ⟨g, 0, none⟩ = false
  f1 : w.frozen? ⟨g, 1, none⟩ = false
  f2 : w.frozen? ⟨g, 2, none⟩ = false
  blk : BlkP w g 1
end Go.Proofs.YtllkimdlmnjoiaaGreatDoor




/- Carried over from an earlier seat. -/
namespace Go.Proofs.YtllkimdlmnjoiaaGreatDoor
set_option maxRecDepth 100000
set_option maxRecDepth 100000
set_option maxRecDepth 100000
open Go.RowKit Go.Sort

noncomputable def sameA (f : List C → List C → Bool) (x y : Ag) : Bool := x.k == y.k && (x.s.toList == y.s.toList && (cmpV 12 x.v y.v == 0 && (sameP x.p y.p && f x.c y.c)))
noncomputable def sameCl (f : List C → List C → Bool) (x y : C) : Bool := x.n.toList == y.n.toList && eqL (sameA f) x.a y.a
/-- The same, so many chains down. -/
noncomputable def sameC : Nat → List C → List C → Bool
  | 0, _, _ => true
  | r + 1, l, m => eqL (sameCl (sameC r)) l m
/-- A predicate that is compared as it should be. -/
def SPred (Q : P → Prop) : Prop := ∀ (w : World) (d : Nat) (x y : Pt), Q y.t → x.In w d → y.In w d → Calls Tryz.prog 123 #[x.val, y.val] w fun e w' => e = .returned (.bool (sameP x.t y.t)) ∧ Below w.heap.size w w'
/-- All predicates in these calls, so far down, are such. -/
def AllQ (Q : P → Prop) : Nat → List C → Prop
  | 0, _ => True
  | r + 1, l => ∀ x ∈ l, ∀ g ∈ x.a, Q g.p ∧ AllQ Q r g.c
def allF : Nat → List C → Bool
  | 0, _ => true
  | r + 1, l => l.all fun x => x.a.all fun g => g.p.p.isEmpty && allF r g.c
section
variable (P : Program) (w : World) (a : Addr) (m : Mode)
@[local go_sem]
theorem run_store_func (f : Fn) (rs cs : Array Value) : (store a (.func f rs cs) m).run P w = stored P w a (.func f rs cs) m := run_store P w a _ m rfl
end
end Go.Proofs.YtllkimdlmnjoiaaGreatDoor



/- Carried over from an earlier seat. -/
namespace Go.Proofs.YtllkimdlmnjoiaaGreatDoor
set_option maxRecDepth 100000
set_option maxRecDepth 100000
set_option maxRecDepth 100000
open Go.RowKit Go.Sort

/-- A block of so many cells. -/
def GBlk (T : TypeId) (w : World) (g m : Nat) : Prop := ∃ cs : Array Value, w.heap[g]? = some (.cells cs T (0, 0)) ∧ cs.size = m
section
variable {T : TypeId}
/-- These cells written, one behind the other. -/
def putL (g o : Nat) : World → Nat → List Value → World
  | w, _, [] => w
  | w, i, v :: vs => putL g o (w.setCell ⟨g, o + i, none⟩ v) (i + 1) vs
/-- So far as a row is filled, in a block of its own. -/
structure GFill {X τ : Type} (tr : X → τ) (cs : X → List Value) (n : Nat) (T : TypeId) (R : World → Nat → Nat → X → Prop) (w : World) (g N : Nat) (done : List τ) : Prop where
  blk : GBlk T w g (N * n)
  el : ∀ j t, done[j]? = some t → ∃ x, tr x = t ∧ Cs w g (j * n) (cs x) ∧ R w (g + 1) w.heap.size x
/-- What stays while the memory that it speaks of stays. -/
def Mono {X : Type} (R : World → Nat → Nat → X → Prop) : Prop := ∀ (w w' : World) (lo B lo' B' : Nat) (x : X), Kept lo B w w' → lo' ≤ lo → B ≤ B' → R w lo B x → R w' lo' B' x
variable {X τ : Type} {tr : X → τ} {cs : X → List Value} {n : Nat} {R : World → Nat → Nat → X → Prop}
/-- What a maker of rows hands on: a row in new memory, without room. -/
def GNew {X τ : Type} (tr : X → τ) (cs : X → List Value) (n : Nat) (T : TypeId) (R : World → Nat → Nat → X → Prop) (w : World) (l : List τ) (e : Ending) (w' : World) : Prop :=
  ∃ A, e = .returned (.slice A l.length l.length) ∧ Below w.heap.size w w' ∧ (l.length = 0 → A = none) ∧ (0 < l.length → ∃ g, A = some ⟨g, 0, none⟩ ∧ w.heap.size ≤ g ∧ GFill tr cs n T R w' g l.length l)
end

def RA (D : Nat) (w : World) (lo B : Nat) (y : Gt) : Prop := GOk w lo B (Ch w lo B D) y
/-- A call whose row has no room. -/
def RC (D : Nat) (w : World) (lo B : Nat) (y : Ct) : Prop := COk w lo B (Ch w lo B D) y ∧ y.c = y.l.length
abbrev NewAs (w : World) (D : Nat) (l : List Ag) (e : Ending) (w' : World) : Prop := GNew Gt.t Gt.cs 11 82 (RA D) w l e w'
abbrev NewCs (w : World) (D : Nat) (l : List C) (e : Ending) (w' : World) : Prop := GNew Ct.t Ct.cs 2 74 (RC D) w l e w'
def NewG (w : World) (D : Nat) (t : Ag) (e : Ending) (w' : World) : Prop := ∃ y : Gt, y.t = t ∧ e = .returned y.val ∧ RA D w' w.heap.size w'.heap.size y ∧ Below w.heap.size w w'
def NewK (w : World) (D : Nat) (t : C) (e : Ending) (w' : World) : Prop := ∃ y : Ct, y.t = t ∧ e = .returned y.val ∧ RC D w' w.heap.size w'.heap.size y ∧ Below w.heap.size w w'
/-- A call, located, as it is handed on. -/
def Ct.InT (x : Ct) (w : World) (d : Nat) : Prop := x.n.size ≤ 140737488355328 ∧ Aw w d x.A x.c x.l
/-- A function value that makes f of an argument, of a call. -/
def MakesA (F : Nat) (caps : Array Value) (w : World) (d : Nat) (f : Ag → Ag) (D : Nat) : Prop :=
  ∀ (W : World) (x : Gt), Below w.heap.size w W → x.In W d → Calls Tryz.prog F (#[x.val] ++ caps) W (NewG W D (f x.t))
def MakesC (F : Nat) (caps : Array Value) (w : World) (d : Nat) (f : C → C) (D : Nat) : Prop :=
  ∀ (W : World) (x : Ct), Below w.heap.size w W → x.InT W d → Calls Tryz.prog F (#[x.val] ++ caps) W (NewK W D (f x.t))
def zrow44 (n : Nat) : Array Value := madeCells #[.int .i64 0, .int .i64 0, .int .i64 0, .string ⟨#[]⟩, .slice none 0 0, .slice none 0 0, .int .i64 0, .slice none 0 0, .slice none 0 0, .slice none 0 0, .string ⟨#[]⟩] (n * 11)
def zrow36 (n : Nat) : Array Value := madeCells #[.string ⟨#[]⟩, .slice none 0 0] (n * 2)
/-- The copy of an argument, of a call, so many chains down. -/
def copyA (f : List C → List C) (g : Ag) : Ag := ⟨g.k, copyV 12 g.v, copyP 12 g.p, f g.c, g.s⟩
def copyCl (f : List C → List C) (x : C) : C := .mk x.n (x.a.map (copyA f))
def copyC : Nat → List C → List C
  | 0, _ => []
  | r + 1, l => l.map (copyCl (copyC r))
def IsNV (lo : Nat) (t : V) : Value → World → Prop := fun v w => ∃ y : At, v = .agg #[.int .i64 y.t.k, .int .i64 y.t.n, .string y.t.s, .slice y.A y.t.l.length y.c, .slice y.A' y.t.m.length y.c'] ∧ y.t = t ∧ Rd w lo w.heap.size 13 y.t y.A y.c y.A' y.c'
def IsNP (lo : Nat) (t : P) : Value → World → Prop := fun v w => ∃ y : Pt, v = .agg #[.int .i64 y.t.k, .slice y.A y.t.v.length y.c, .slice y.A' y.t.p.length y.c'] ∧ y.t = t ∧ Pd w lo w.heap.size 13 y.t y.A y.c y.A' y.c'
def IsNC (lo D : Nat) (l : List C) : Value → World → Prop := fun v w => ∃ A, v = .slice A l.length l.length ∧ Ch w lo w.heap.size D A l.length l
def IsNA (lo D : Nat) (l : List Ag) : Value → World → Prop := fun v w => ∃ A, v = .slice A l.length l.length ∧ GRowA w lo w.heap.size (RA D w lo w.heap.size) A l.length l
def IsNG (lo D : Nat) (t : Ag) : Value → World → Prop := fun v w => ∃ y : Gt, v = .agg #[.int .i64 y.k, .int .i64 y.x.t.k, .int .i64 y.x.t.n, .string y.x.t.s, .slice y.x.A y.x.t.l.length y.x.c, .slice y.x.A' y.x.t.m.length y.x.c', .int .i64 y.q.t.k, .slice y.q.A y.q.t.v.length y.q.c, .slice y.q.A' y.q.t.p.length y.q.c', .slice y.A y.l.length y.c, .string y.s] ∧ y.t = t ∧ RA D w lo w.heap.size y
def IsNK (lo D : Nat) (t : C) : Value → World → Prop := fun v w => ∃ y : Ct, v = .agg #[.string y.n, .slice y.A y.l.length y.c] ∧ y.t = t ∧ RC D w lo w.heap.size y
def caD : Nat → Tmp := fun j => [4, 5, 6, 7, 8, 9, 10, 11, 12, 13, 14, 15, 16, 17, 18, 19, 0].getD j 0
def caE : Nat → List Nat := fun j => [[], [0], [], [2], [3], [], [5], [6], [], [8], [], [10], [9, 11], [], [13], [1, 4, 7, 12, 14], []].getD j []
def ccD : Nat → Tmp := fun j => [4, 5, 6, 7, 8, 9, 10, 0].getD j 0
def ccE : Nat → List Nat := fun j => [[], [0], [], [2], [], [3, 4], [1, 5], []].getD j []

section
variable (P : Program) (w : World) (a : Addr) (m : Mode)
@[local go_sem]
theorem run_store_funcL (f : Fn) (rs cs : Array Value) : (store a (.func f rs cs) m).run P w = stored P w a (.func f rs cs) m := run_store P w a _ m rfl
end
end Go.Proofs.YtllkimdlmnjoiaaGreatDoor



/- Carried over from an earlier seat. -/
namespace Go.Proofs.YtllkimdlmnjoiaaGreatDoor
set_option maxRecDepth 100000
set_option maxRecDepth 100000
set_option maxRecDepth 100000
open Go.RowKit Go.Sort

def v0 : V := .mk 0 0 ⟨#[]⟩ [] []
def tx (s : ByteArray) : V := .mk 3 0 s [] []
def p0 : P := .mk 0 [] []
def at0 (t : V) : At := ⟨t, none, 0, none, 0⟩
def pt0 : Pt := ⟨p0, none, 0, none, 0⟩
/-- An argument without rows. -/
def gA (k : Int) (t : V) (s : ByteArray) : Gt := ⟨k, at0 t, pt0, [], none, 0, s⟩
theorem at0_in (w : World) (t : V) (hl : t.l = []) (hm : t.m = []) (hf : Fld t) : Rd w 0 w.heap.size 1 t none 0 none 0 :=
  ⟨hf, by rw [hl]; exact rw_nil _ _ _ _, by rw [hm]; exact rw_nil _ _ _ _⟩
theorem pt0_in (w : World) : Pd w 0 w.heap.size 1 p0 none 0 none 0 := ⟨⟨by decide, by decide⟩, ⟨0, rw_nil _ _ _ _⟩, pw_nil _ _ _ _⟩
theorem v0_fld : Fld v0 := ⟨by decide, by decide, by decide, by decide, by decide⟩
def kGt : Ag := ⟨2, v0, .mk 5 [.mk 2 30 ⟨#[]⟩ [] []] [], [], ⟨#[]⟩⟩
def kIn : List C := [.mk ⟨#[111, 117, 116]⟩ [(gA 1 (tx ⟨#[105, 116, 39, 115]⟩) ⟨#[]⟩).t]]
def kL : List C := [.mk ⟨#[86]⟩ [], .mk ⟨#[104, 97, 115]⟩ [(gA 1 (tx ⟨#[97, 103, 101]⟩) ⟨#[]⟩).t, kGt], .mk ⟨#[119, 104, 101, 114, 101]⟩ [⟨3, v0, p0, kIn, ⟨#[]⟩⟩], .mk ⟨#[111, 114, 100, 101, 114]⟩ [(gA 4 v0 ⟨#[97, 115, 99]⟩).t]]
def kS : ByteArray := ⟨#[103, 46, 86, 40, 41, 46, 104, 97, 115, 40, 39, 97, 103, 101, 39, 44, 32, 103, 116, 40, 51, 48, 41, 41, 46, 119, 104, 101, 114, 101, 40, 95, 95, 46, 111, 117, 116, 40, 39, 105, 116, 92, 39, 115, 39, 41, 41, 46, 111, 114, 100, 101, 114, 40, 97, 115, 99, 41]⟩
end Go.Proofs.YtllkimdlmnjoiaaGreatDoor



