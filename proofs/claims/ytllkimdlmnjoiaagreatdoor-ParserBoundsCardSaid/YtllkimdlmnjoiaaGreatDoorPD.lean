/- Carried over from an earlier seat. -/
import Derived.Test.YtllkimdlmnjoiaaGreatDoorPC
namespace Go.Proofs.YtllkimdlmnjoiaaGreatDoor
set_option maxRecDepth 100000
set_option maxRecDepth 100000
set_option maxRecDepth 100000
set_option maxRecDepth 100000
open Go.RowKit Go.Sort

theorem of_regrown {w : World} {f : Nat} {args : Array Value} {v : Value} (h : ∀ X, Below w.heap.size w X → Calls Tryz.prog f args X fun x w' => x = .returned v ∧ Below X.heap.size X w') (d : Nat) (os : Array Obj) :
    Calls Tryz.prog f args (grow (redrawn w d) os) fun x w'' => x = .returned v ∧ ∃ p : Regrown, w'' = grow (redrawn w p.d) p.os :=
  Calls.regrown_of (h _ (below_regrown w d os))

end Go.Proofs.YtllkimdlmnjoiaaGreatDoor




