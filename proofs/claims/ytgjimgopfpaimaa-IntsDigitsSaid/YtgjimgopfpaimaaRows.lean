/-
  No cell of these rows narrows 'for every input' (looked for: loops, veiled, ifaces, maps, wideKeys, modest, calm, conditions, laid).
  DERIVED. THE GIVEN ROWS OF THIS SEAT. 7 by the template 'for every input the law returns true; each argument reads behind the call as it read before'; 0 by the template 'total and deterministic' (their statements: YtgjimgopfpaimaaTotals.lean).
  GIVEN WITH THE SEED: the statements are not yours to turn. If you find one false, say at which input.
  Laid BY PROGRAM, IN A SANDBOX (cutbox-rows.mjs): the forced cells as the released guide's own fill.sh prints them over the translation 49e0331391d2ef96… (all of the seat's roots in one cut). By AI agents, Wed Nov 11 2026. No macro, syntax, notation, axiom, sorry.
-/
import Derived.Test.YtgjimgopfpaimaaChecked
import GoSem.Claim
import GoSem.ClaimJoined
import GoSem.ClaimMapViews
import Derived.JoinedTies
import Derived.KernelRfl
namespace Go.Proofs.Ytgjimgopfpaimaa
/- THE CELL 'sum', in the pinned program and in every row, IS THE sha256 OF THE DUMP (.gsa) THAT YtgjimgopfpaimaaProg.lean LOADS. Nothing in Lean hashes anything: it is a label: what it is worth is what the hold of that sum in a sandbox is worth. -/
noncomputable def Try.pinned : Pinned := { name := "ytgjimgopfpaimaa", sum := "49e0331391d2ef96a0ba9a6d054eba5bc1447d9dd3ea8de690b501c3818a2c2c", checked := Try.checked }
namespace Rows
def none {H : Type} : Left H := { results := [], args := [] }

/-- 'wayfarerlaw01.IntsAdds': WHATEVER THE INPUT: true; the input reads as it did. -/
def intsAddsSpec : ChangeSpec := { name := "intsAdds", fn := fun _ => fun
  | [d] => { results := [.lit (.bool true)], args := [d] }
  | _ => none }
def intsAddsRow : OpenClaim := { program := "ytgjimgopfpaimaa", sum := "49e0331391d2ef96a0ba9a6d054eba5bc1447d9dd3ea8de690b501c3818a2c2c", func := "wayfarer/wayfarerlaw01.IntsAdds", spec := "intsAdds", inPlace := ["math/bits.Add64"], apart := false }
def IntsAddsSaid : Prop := intsAddsRow.holds Try.pinned (OpenSpec.ofChange intsAddsSpec)

/-- ITS FALSE NEIGHBOUR: 'it returns false'. Refute it at one input. -/
def intsAddsWrong : ChangeSpec := { name := "intsAdds", fn := fun _ => fun
  | [d] => { results := [.lit (.bool false)], args := [d] }
  | _ => none }
def IntsAddsWrongFalsely : Prop := intsAddsRow.holds Try.pinned (OpenSpec.ofChange intsAddsWrong)

/-- 'wayfarerlaw01.IntsMuls': WHATEVER THE INPUT: true; the input reads as it did. -/
def intsMulsSpec : ChangeSpec := { name := "intsMuls", fn := fun _ => fun
  | [d1, d2, d3] => { results := [.lit (.bool true)], args := [d1, d2, d3] }
  | _ => none }
def intsMulsRow : OpenClaim := { program := "ytgjimgopfpaimaa", sum := "49e0331391d2ef96a0ba9a6d054eba5bc1447d9dd3ea8de690b501c3818a2c2c", func := "wayfarer/wayfarerlaw01.IntsMuls", spec := "intsMuls", inPlace := ["math/bits.Add64"], apart := false }
def IntsMulsSaid : Prop := intsMulsRow.holds Try.pinned (OpenSpec.ofChange intsMulsSpec)

/-- ITS FALSE NEIGHBOUR: 'it returns false'. Refute it at one input. -/
def intsMulsWrong : ChangeSpec := { name := "intsMuls", fn := fun _ => fun
  | [d1, d2, d3] => { results := [.lit (.bool false)], args := [d1, d2, d3] }
  | _ => none }
def IntsMulsWrongFalsely : Prop := intsMulsRow.holds Try.pinned (OpenSpec.ofChange intsMulsWrong)

/-- 'wayfarerlaw01.IntsDigits': WHATEVER THE INPUT: true; the input reads as it did. -/
def intsDigitsSpec : ChangeSpec := { name := "intsDigits", fn := fun _ => fun
  | [d1, d2] => { results := [.lit (.bool true)], args := [d1, d2] }
  | _ => none }
def intsDigitsRow : OpenClaim := { program := "ytgjimgopfpaimaa", sum := "49e0331391d2ef96a0ba9a6d054eba5bc1447d9dd3ea8de690b501c3818a2c2c", func := "wayfarer/wayfarerlaw01.IntsDigits", spec := "intsDigits", inPlace := ["math/bits.Add64"], apart := false }
def IntsDigitsSaid : Prop := intsDigitsRow.holds Try.pinned (OpenSpec.ofChange intsDigitsSpec)

/-- ITS FALSE NEIGHBOUR: 'it returns false'. Refute it at one input. -/
def intsDigitsWrong : ChangeSpec := { name := "intsDigits", fn := fun _ => fun
  | [d1, d2] => { results := [.lit (.bool false)], args := [d1, d2] }
  | _ => none }
def IntsDigitsWrongFalsely : Prop := intsDigitsRow.holds Try.pinned (OpenSpec.ofChange intsDigitsWrong)

/-- 'wayfarerlaw01.IntsEnds': WHATEVER THE INPUT: true; the input reads as it did. -/
def intsEndsSpec : ChangeSpec := { name := "intsEnds", fn := fun _ => fun
  | [d] => { results := [.lit (.bool true)], args := [d] }
  | _ => none }
def intsEndsRow : OpenClaim := { program := "ytgjimgopfpaimaa", sum := "49e0331391d2ef96a0ba9a6d054eba5bc1447d9dd3ea8de690b501c3818a2c2c", func := "wayfarer/wayfarerlaw01.IntsEnds", spec := "intsEnds", inPlace := ["math/bits.Add64"], apart := false }
def IntsEndsSaid : Prop := intsEndsRow.holds Try.pinned (OpenSpec.ofChange intsEndsSpec)

/-- ITS FALSE NEIGHBOUR: 'it returns false'. Refute it at one input. -/
def intsEndsWrong : ChangeSpec := { name := "intsEnds", fn := fun _ => fun
  | [d] => { results := [.lit (.bool false)], args := [d] }
  | _ => none }
def IntsEndsWrongFalsely : Prop := intsEndsRow.holds Try.pinned (OpenSpec.ofChange intsEndsWrong)

/-- 'wayfarerlaw01.IntsOrder': WHATEVER THE INPUT: true; the input reads as it did. -/
def intsOrderSpec : ChangeSpec := { name := "intsOrder", fn := fun _ => fun
  | [d1, d2] => { results := [.lit (.bool true)], args := [d1, d2] }
  | _ => none }
def intsOrderRow : OpenClaim := { program := "ytgjimgopfpaimaa", sum := "49e0331391d2ef96a0ba9a6d054eba5bc1447d9dd3ea8de690b501c3818a2c2c", func := "wayfarer/wayfarerlaw01.IntsOrder", spec := "intsOrder", inPlace := ["math/bits.Add64"], apart := false }
def IntsOrderSaid : Prop := intsOrderRow.holds Try.pinned (OpenSpec.ofChange intsOrderSpec)

/-- ITS FALSE NEIGHBOUR: 'it returns false'. Refute it at one input. -/
def intsOrderWrong : ChangeSpec := { name := "intsOrder", fn := fun _ => fun
  | [d1, d2] => { results := [.lit (.bool false)], args := [d1, d2] }
  | _ => none }
def IntsOrderWrongFalsely : Prop := intsOrderRow.holds Try.pinned (OpenSpec.ofChange intsOrderWrong)

/-- 'wayfarerlaw01.IntsSteps': WHATEVER THE INPUT: true; the input reads as it did. -/
def intsStepsSpec : ChangeSpec := { name := "intsSteps", fn := fun _ => fun
  | [d1, d2] => { results := [.lit (.bool true)], args := [d1, d2] }
  | _ => none }
def intsStepsRow : OpenClaim := { program := "ytgjimgopfpaimaa", sum := "49e0331391d2ef96a0ba9a6d054eba5bc1447d9dd3ea8de690b501c3818a2c2c", func := "wayfarer/wayfarerlaw01.IntsSteps", spec := "intsSteps", inPlace := ["math/bits.Add64"], apart := false }
def IntsStepsSaid : Prop := intsStepsRow.holds Try.pinned (OpenSpec.ofChange intsStepsSpec)

/-- ITS FALSE NEIGHBOUR: 'it returns false'. Refute it at one input. -/
def intsStepsWrong : ChangeSpec := { name := "intsSteps", fn := fun _ => fun
  | [d1, d2] => { results := [.lit (.bool false)], args := [d1, d2] }
  | _ => none }
def IntsStepsWrongFalsely : Prop := intsStepsRow.holds Try.pinned (OpenSpec.ofChange intsStepsWrong)

/-- 'wayfarerlaw01.IntsRing': WHATEVER THE INPUT: true; the input reads as it did. -/
def intsRingSpec : ChangeSpec := { name := "intsRing", fn := fun _ => fun
  | [d1, d2, d3] => { results := [.lit (.bool true)], args := [d1, d2, d3] }
  | _ => none }
def intsRingRow : OpenClaim := { program := "ytgjimgopfpaimaa", sum := "49e0331391d2ef96a0ba9a6d054eba5bc1447d9dd3ea8de690b501c3818a2c2c", func := "wayfarer/wayfarerlaw01.IntsRing", spec := "intsRing", inPlace := ["math/bits.Add64"], apart := false }
def IntsRingSaid : Prop := intsRingRow.holds Try.pinned (OpenSpec.ofChange intsRingSpec)

/-- ITS FALSE NEIGHBOUR: 'it returns false'. Refute it at one input. -/
def intsRingWrong : ChangeSpec := { name := "intsRing", fn := fun _ => fun
  | [d1, d2, d3] => { results := [.lit (.bool false)], args := [d1, d2, d3] }
  | _ => none }
def IntsRingWrongFalsely : Prop := intsRingRow.holds Try.pinned (OpenSpec.ofChange intsRingWrong)

/- THE SECOND FORM. 'bulk': how many values and letters a reading holds, each counted each time it is reached (what is shared counts as often as it is met; a slice's spare places count too). A statement '..UptoSaid' is the law's where the arguments, and the package variables that the reading takes, are together of bulk at most 1048576: NARROWER than '..Said'. Prove '..Said' where nothing that the law and all that it calls make is longer than what came in: it says more and counts as full. Else prove '..UptoSaid'. A law counts once. -/
mutual
def uptoBulk {H : Type} : DataW H → Nat
  | .lit (.string bytes) => bytes.length + 1
  | .lit _ => 1
  | .nil => 1
  | .ptr d => uptoBulk d + 1
  | .slice elems spare => uptoBulkAll elems + uptoBulkAll spare + 1
  | .agg parts => uptoBulkAll parts + 1
  | .iface _ d => uptoBulk d + 1
  | .map entries => uptoBulkEntries entries + 1
  | .held _ => 1
def uptoBulkAll {H : Type} : List (DataW H) → Nat
  | [] => 0
  | d :: r => uptoBulk d + uptoBulkAll r
def uptoBulkEntries {H : Type} : List (Lit × DataW H) → Nat
  | [] => 0
  | x :: r => uptoBulkEntry x + uptoBulkEntries r
def uptoBulkEntry {H : Type} : Lit × DataW H → Nat
  | (.string bytes, d) => bytes.length + uptoBulk d + 1
  | (_, d) => uptoBulk d + 1
 end
def uptoSmall : (H : Type) → List (DataW H) → Bool := fun _ ds => decide (uptoBulkAll ds ≤ 1048576)
def OpenSpec.upto (s : _root_.Go.ChangeSpec) : _root_.Go.OpenSpec := { _root_.Go.OpenSpec.ofChange s with cond := some uptoSmall }

/-- 'wayfarerlaw01.IntsAdds', WHERE WHAT IT READS IS OF BULK AT MOST 1048576: true; the input reads as it did. -/
def intsAddsUptoRow : OpenClaim := { program := "ytgjimgopfpaimaa", sum := "49e0331391d2ef96a0ba9a6d054eba5bc1447d9dd3ea8de690b501c3818a2c2c", func := "wayfarer/wayfarerlaw01.IntsAdds", spec := "intsAdds", inPlace := ["math/bits.Add64"], apart := false, narrowed := true }
def IntsAddsUptoSaid : Prop := intsAddsUptoRow.holds Try.pinned (OpenSpec.upto intsAddsSpec)

/-- 'wayfarerlaw01.IntsMuls', WHERE WHAT IT READS IS OF BULK AT MOST 1048576: true; the input reads as it did. -/
def intsMulsUptoRow : OpenClaim := { program := "ytgjimgopfpaimaa", sum := "49e0331391d2ef96a0ba9a6d054eba5bc1447d9dd3ea8de690b501c3818a2c2c", func := "wayfarer/wayfarerlaw01.IntsMuls", spec := "intsMuls", inPlace := ["math/bits.Add64"], apart := false, narrowed := true }
def IntsMulsUptoSaid : Prop := intsMulsUptoRow.holds Try.pinned (OpenSpec.upto intsMulsSpec)

/-- 'wayfarerlaw01.IntsDigits', WHERE WHAT IT READS IS OF BULK AT MOST 1048576: true; the input reads as it did. -/
def intsDigitsUptoRow : OpenClaim := { program := "ytgjimgopfpaimaa", sum := "49e0331391d2ef96a0ba9a6d054eba5bc1447d9dd3ea8de690b501c3818a2c2c", func := "wayfarer/wayfarerlaw01.IntsDigits", spec := "intsDigits", inPlace := ["math/bits.Add64"], apart := false, narrowed := true }
def IntsDigitsUptoSaid : Prop := intsDigitsUptoRow.holds Try.pinned (OpenSpec.upto intsDigitsSpec)

/-- 'wayfarerlaw01.IntsEnds', WHERE WHAT IT READS IS OF BULK AT MOST 1048576: true; the input reads as it did. -/
def intsEndsUptoRow : OpenClaim := { program := "ytgjimgopfpaimaa", sum := "49e0331391d2ef96a0ba9a6d054eba5bc1447d9dd3ea8de690b501c3818a2c2c", func := "wayfarer/wayfarerlaw01.IntsEnds", spec := "intsEnds", inPlace := ["math/bits.Add64"], apart := false, narrowed := true }
def IntsEndsUptoSaid : Prop := intsEndsUptoRow.holds Try.pinned (OpenSpec.upto intsEndsSpec)

/-- 'wayfarerlaw01.IntsOrder', WHERE WHAT IT READS IS OF BULK AT MOST 1048576: true; the input reads as it did. -/
def intsOrderUptoRow : OpenClaim := { program := "ytgjimgopfpaimaa", sum := "49e0331391d2ef96a0ba9a6d054eba5bc1447d9dd3ea8de690b501c3818a2c2c", func := "wayfarer/wayfarerlaw01.IntsOrder", spec := "intsOrder", inPlace := ["math/bits.Add64"], apart := false, narrowed := true }
def IntsOrderUptoSaid : Prop := intsOrderUptoRow.holds Try.pinned (OpenSpec.upto intsOrderSpec)

/-- 'wayfarerlaw01.IntsSteps', WHERE WHAT IT READS IS OF BULK AT MOST 1048576: true; the input reads as it did. -/
def intsStepsUptoRow : OpenClaim := { program := "ytgjimgopfpaimaa", sum := "49e0331391d2ef96a0ba9a6d054eba5bc1447d9dd3ea8de690b501c3818a2c2c", func := "wayfarer/wayfarerlaw01.IntsSteps", spec := "intsSteps", inPlace := ["math/bits.Add64"], apart := false, narrowed := true }
def IntsStepsUptoSaid : Prop := intsStepsUptoRow.holds Try.pinned (OpenSpec.upto intsStepsSpec)

/-- 'wayfarerlaw01.IntsRing', WHERE WHAT IT READS IS OF BULK AT MOST 1048576: true; the input reads as it did. -/
def intsRingUptoRow : OpenClaim := { program := "ytgjimgopfpaimaa", sum := "49e0331391d2ef96a0ba9a6d054eba5bc1447d9dd3ea8de690b501c3818a2c2c", func := "wayfarer/wayfarerlaw01.IntsRing", spec := "intsRing", inPlace := ["math/bits.Add64"], apart := false, narrowed := true }
def IntsRingUptoSaid : Prop := intsRingUptoRow.holds Try.pinned (OpenSpec.upto intsRingSpec)

end Rows
end Go.Proofs.Ytgjimgopfpaimaa
