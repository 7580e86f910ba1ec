/- Labels and numbers that came in. -/
import Derived.Test.YtebkkjfeikpfgaaBNO
import Derived.Test.YtebkkjfeikpfgaaSG
namespace Go.Proofs.Ytebkkjfeikpfgaa
open Go.RowKit Go.ChangeShapes Go.WideShapes Go.ChangeAt Go.Deep
set_option maxRecDepth 100000

section
variable {H : Type} {enc : TypeId × Value → H} {W : World} {base : Nat} {spare : Nat → Bool} {held : Bool}
theorem cells9p : Try.prog.cellsOf 9 = 1 := by kernel_rfl
theorem bytes9p : Try.prog.bytesOf 9 = 16 := by kernel_rfl
theorem cells3p : Try.prog.cellsOf 3 = 1 := by kernel_rfl
theorem bytes3p : Try.prog.bytesOf 3 = 8 := by kernel_rfl
theorem open_labels {b0 : Nat} {v : Value} {d : DataW H} {ps : List MemPlace} (hv : Value.okWide Try.prog W .any b0 25 v) (h : DataW.Trod enc Try.prog W base spare held 25 v d ps) (hs : Sized d 25) : ∃ A c l, v = .slice A (List.length (α := ByteArray) l) c ∧ LRow W A c l := by
  obtain ⟨a, len, cap, rfl⟩ := okWide_slice Try.underlying25 hv
  obtain ⟨n, hf⟩ := h
  cases n with
  | zero => simp [DataW.trod] at hf
  | succ n =>
    have hf' : DataW.trod enc Try.prog W base spare held (n + 1) 25 [.slice a len cap] = some (d, ps) := hf
    obtain ⟨A, c, l, e, h1, h2, h3, h4, h5, h6⟩ := rows_open Try.underlying25 cells9p bytes9p (by omega) (by omega) (fun cs (s : ByteArray) => cs = [.string s] ∧ s.size ≤ maxLen) (fun cs a e => by rw [e.1]; rfl) (fun cs x hx _ => by
      obtain ⟨s, e0, _, hz⟩ := DataW.trod_string Try.underlying9 hx
      exact ⟨s, e0, hz⟩) hf' hs
    refine ⟨A, c, l, e, ⟨h1, by omega, fun s hs => ?_, fun h0 => ?_⟩⟩
    · obtain ⟨cs, _, hz⟩ := h6 s hs
      exact hz
    · obtain ⟨b, off, e, hb, hc⟩ := h5 h0
      refine ⟨b, off, e, hb, fun j s hj => ?_⟩
      obtain ⟨cs, ⟨rfl, _⟩, hcs⟩ := hc j s hj
      have := hcs 0 _ rfl
      rwa [Nat.mul_one] at this
theorem open_nums {b0 : Nat} {v : Value} {d : DataW H} {ps : List MemPlace} (hv : Value.okWide Try.prog W .any b0 34 v) (h : DataW.Trod enc Try.prog W base spare held 34 v d ps) (hs : Sized d 34) : ∃ A c l, v = .slice A (List.length (α := Int) l) c ∧ IRow W A c l := by
  obtain ⟨a, len, cap, rfl⟩ := okWide_slice Try.underlying34 hv
  obtain ⟨n, hf⟩ := h
  cases n with
  | zero => simp [DataW.trod] at hf
  | succ n =>
    have hf' : DataW.trod enc Try.prog W base spare held (n + 1) 34 [.slice a len cap] = some (d, ps) := hf
    obtain ⟨A, c, l, e, h1, h2, h3, h4, h5, h6⟩ := rows_open Try.underlying34 cells3p bytes3p (by omega) (by omega) (fun cs (s : Int) => cs = [.int .i64 s]) (fun cs a e => by rw [e]; rfl) (fun cs x hx _ => by
      obtain ⟨s, e0, _, _⟩ := DataW.trod_int Try.underlying3 hx
      exact ⟨s, e0⟩) hf' hs
    refine ⟨A, c, l, e, ⟨h1, by omega, fun h0 => ?_⟩⟩
    obtain ⟨b, off, e, hb, hc⟩ := h5 h0
    refine ⟨b, off, e, hb, fun j s hj => ?_⟩
    obtain ⟨cs, rfl, hcs⟩ := hc j s hj
    have := hcs 0 _ rfl
    rwa [Nat.mul_one] at this
end
end Go.Proofs.Ytebkkjfeikpfgaa
