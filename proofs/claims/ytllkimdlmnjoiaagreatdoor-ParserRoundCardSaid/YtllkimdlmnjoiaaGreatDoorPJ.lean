/- Carried over from an earlier seat. -/
import Derived.Test.YtllkimdlmnjoiaaGreatDoorPD
import Derived.Test.YtllkimdlmnjoiaaGreatDoorVRr
import Derived.IntWalk
namespace Go.Proofs.YtllkimdlmnjoiaaGreatDoor
set_option maxRecDepth 100000
set_option maxRecDepth 100000
set_option maxRecDepth 100000
set_option maxRecDepth 100000
open Go.RowKit Go.Sort

theorem same_refl (t : V) : (cmpV 12 t t == 0) = true := by rw [(ord_cmpV 12).refl]; rfl
theorem refSame_regrown {w : World} {da db : Nat} {a b : V} {A : Option Addr} {c : Nat} {A' : Option Addr} {c' : Nat} {D : Option Addr} {e : Nat} {D' : Option Addr} {e' : Nat}
    (ra : Rd w 0 w.heap.size da a A c A' c') (rb : Rd w 0 w.heap.size db b D e D' e') (d : Nat) (os : Array Obj) :
    Calls Tryz.prog 45 #[vl a A c A' c', vl b D e D' e'] (grow (redrawn w d) os) fun x w'' => x = .returned (.bool (cmpV 12 a b == 0)) ∧ ∃ p : Regrown, w'' = grow (redrawn w p.d) p.os :=
  Calls.regrown_of (refSame_any _ da db a b _ _ _ _ _ _ _ _ (ra.next (below_regrown w d os)) (rb.next (below_regrown w d os)))

/-- Two of the same. -/
def SamePOk (d : Nat) : Prop := ∀ (w : World) (d' : Nat) (x y : Pt), x.t = y.t → x.In w d → y.In w d' → Calls Tryz.prog 46 #[x.val, y.val] w fun e w' => e = .returned (.bool true) ∧ Below w.heap.size w w'

theorem boxesPP (w : World) (x y : Pt) (W : World) (hW : (w.alloc (.cells #[.int .i64 x.t.k, .slice x.A x.t.v.length x.c, .slice x.A' x.t.p.length x.c'] 80)).alloc (.cells #[.int .i64 y.t.k, .slice y.A y.t.v.length y.c, .slice y.A' y.t.p.length y.c'] 80) = W) :
    BP W w.heap.size x ∧ BP W (w.heap.size + 1) y ∧ W.heap.size = w.heap.size + 1 + 1 ∧ Below w.heap.size w W := by
  subst hW
  have b := below_new (w.alloc (.cells #[.int .i64 x.t.k, .slice x.A x.t.v.length x.c, .slice x.A' x.t.p.length x.c'] 80)) (.cells #[.int .i64 y.t.k, .slice y.A y.t.v.length y.c, .slice y.A' y.t.p.length y.c'] 80)
  have c := BP.new (w.alloc (.cells #[.int .i64 x.t.k, .slice x.A x.t.v.length x.c, .slice x.A' x.t.p.length x.c'] 80)) y
  rw [size_alloc] at c
  exact ⟨(BP.new w x).next b, c, by simp, below_new2 _ _ _⟩

end Go.Proofs.YtllkimdlmnjoiaaGreatDoor




/- Carried over from an earlier seat. -/
namespace Go.Proofs.YtllkimdlmnjoiaaGreatDoor
set_option maxRecDepth 100000
set_option maxRecDepth 100000
set_option maxRecDepth 100000
set_option maxRecDepth 100000
open Go.RowKit Go.Sort

/-- What Count answers of any value: never so much that it is lost. -/
def AllPost (w : World) (most : Int) (e : Ending) (w' : World) : Prop := ∃ c : Int, e = .returned (.int .i64 c) ∧ 1 ≤ c ∧ c ≤ most * 7036874417770 ∧ Below w.heap.size w w'
def AllOk (d : Nat) : Prop := ∀ (w : World) (x : At) (most : Int), 1 ≤ most → most ≤ 400 → x.In w d →
  Calls Tryz.prog 32 #[x.v, .int .i64 most] w (AllPost w most)

/-- What the document's Count answers of any predicate. -/
def CntPost (w : World) (most : Int) (e : Ending) (w' : World) : Prop := ∃ c : Int, e = .returned (.int .i64 c) ∧ 1 ≤ c ∧ c ≤ 1 + most * 7036874417770 ∧ Below w.heap.size w w'
def CntPOk (d : Nat) : Prop := ∀ (w : World) (x : Pt) (most : Int), 1 ≤ most → most ≤ 400 → x.In w d → Calls Tryz.prog 33 #[x.val, .int .i64 most] w (CntPost w most)
end Go.Proofs.YtllkimdlmnjoiaaGreatDoor




