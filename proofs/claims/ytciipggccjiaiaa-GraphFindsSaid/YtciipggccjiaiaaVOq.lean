/- From a law's arguments to plain trees. -/
import Derived.Test.YtciipggccjiaiaaVOp
import Derived.Test.YtciipggccjiaiaaVVa
namespace Go.Proofs.Ytciipggccjiaiaa
open Go.RowKit Go.ChangeShapes Go.WideShapes Go.ChangeAt Go.Deep
set_option maxRecDepth 100000
section
variable {H : Type} {enc : TypeId × Value → H} {W : World} {base : Nat} {spare : Nat → Bool} {held : Bool}
theorem sized_cons {t : TypeId} {ts : List TypeId} {d : DataW H} {ds : List (DataW H)} (h : (DataW.weightsEach Try.prog (t :: ts) (d :: ds)).all (· ≤ reachBytes) = true) : Sized d t ∧ (DataW.weightsEach Try.prog ts ds).all (· ≤ reachBytes) = true := by
  rw [DataW.weightsEach, List.all_append, Bool.and_eq_true] at h
  refine ⟨fun n hn => ?_, h.2⟩
  have := List.all_eq_true.1 h.1 n hn
  exact of_decide_eq_true this
theorem open_value {b0 : Nat} {v : Value} {d : DataW H} {ps : List MemPlace} (hv : Value.okWide Try.prog W .any b0 37 v) (h : DataW.Trod enc Try.prog W base spare held 37 v d ps) (hs : Sized d 37) : ∃ (x : At) (n : Nat), v = x.v ∧ x.In W n := by
  obtain ⟨cs, rfl, _⟩ := okWide_struct Try.underlying37 hv
  obtain ⟨n, hf⟩ := h
  obtain ⟨t, A, c, A', c', e, hr⟩ := value_opens n _ _ hf hs
  refine ⟨⟨t, A, c, A', c'⟩, n, ?_, hr⟩
  have e1 : cs.toList = FiveCells t A c A' c' := e
  have e2 : cs = (FiveCells t A c A' c').toArray := by rw [← e1]
  rw [e2]; rfl
theorem open_row {b0 : Nat} {v : Value} {d : DataW H} {ps : List MemPlace} (hv : Value.okWide Try.prog W .any b0 35 v) (h : DataW.Trod enc Try.prog W base spare held 35 v d ps) (hs : Sized d 35) : ∃ A c l n, v = .slice A (List.length (α := V) l) c ∧ Rw W 0 W.heap.size n A c l := by
  obtain ⟨a, len, cap, rfl⟩ := okWide_slice Try.underlying35 hv
  obtain ⟨n, hf⟩ := h
  cases n with
  | zero => simp [DataW.trod] at hf
  | succ n =>
    have hf' : DataW.trod enc Try.prog W base spare held (n + 1) 35 [.slice a len cap] = some (d, ps) := hf
    obtain ⟨A, c, l, e, hr⟩ := row_opens (value_opens n) hf' hs
    exact ⟨A, c, l, n, e, hr⟩
end
theorem At.In.more {x : At} {w : World} {n m : Nat} (h : x.In w n) (hm : n ≤ m) : x.In w m := Rd.more h (Nat.le_refl _) (Nat.le_refl _) hm
end Go.Proofs.Ytciipggccjiaiaa
