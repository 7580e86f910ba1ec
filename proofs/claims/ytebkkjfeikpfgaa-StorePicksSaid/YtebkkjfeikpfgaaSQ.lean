/- A graph that came in: its rows, and that a nil row has no room. -/
import Derived.Test.YtebkkjfeikpfgaaSP
import Derived.Test.YtebkkjfeikpfgaaBPe
namespace Go.Proofs.Ytebkkjfeikpfgaa
open Go.RowKit Go.ChangeShapes Go.WideShapes Go.ChangeAt Go.Deep
set_option maxRecDepth 100000

section
variable {H : Type} {enc : TypeId × Value → H} {W : World} {base : Nat} {spare : Nat → Bool} {held : Bool}
theorem things_openN {n : Nat} {v : Value} {x : DataW H × List MemPlace} (h : DataW.trod enc Try.prog W base spare held (n + 1) 22 [v] = some x) (hs : Sized x.1 22) : ∃ A c l, v = .slice A (List.length (α := TA) l) c ∧ TRow W n A c l ∧ (∀ t ∈ l, TFld t) ∧ (∀ t ∈ l, Sm t) ∧ (A = none → c = 0) := by
  obtain ⟨A, c, l, e, h1, h2, h3, h4, h5, h6⟩ := rows_open Try.underlying22 cells34 bytes34 (by omega) (by omega) (fun cs (t : TA) => cs = t.cs ∧ PRow W 0 n t.A t.c t.l ∧ TFld t ∧ Sm t) (fun cs a e => by rw [e.1]; rfl) (thing_opensS n) h hs
  refine ⟨A, c, l, e, ⟨h1, by omega, fun h0 => ?_, fun t ht => ?_⟩, fun t ht => ?_, fun t ht => ?_, h4⟩
  · obtain ⟨b, off, e, hb, hc⟩ := h5 h0
    refine ⟨b, off, e, hb, fun j t hj => ?_⟩
    obtain ⟨cs, ⟨rfl, _⟩, hcs⟩ := hc j t hj
    exact ⟨hcs 0 _ rfl, hcs 1 _ rfl, hcs 2 _ rfl, hcs 3 _ rfl, hcs 4 _ rfl⟩
  · obtain ⟨cs, _, hi, _⟩ := h6 t ht
    exact hi
  · obtain ⟨cs, _, _, hi, _⟩ := h6 t ht
    exact hi
  · obtain ⟨cs, _, _, _, hi⟩ := h6 t ht
    exact hi
theorem open_graphN {b0 : Nat} {v : Value} {d : DataW H} {ps : List MemPlace} (hv : Value.okWide Try.prog W .any b0 24 v) (h : DataW.Trod enc Try.prog W base spare held 24 v d ps) (hs : Sized d 24) : ∃ (g : GA) (n : Nat), v = g.v ∧ g.In W n ∧ g.Sm ∧ (g.AV = none → g.cV = 0) ∧ (g.AE = none → g.cE = 0) := by
  obtain ⟨cs, rfl, _⟩ := okWide_struct Try.underlying24 hv
  obtain ⟨n, hf⟩ := h
  obtain ⟨ys, m, hn, hx, hcl, hyl, hff⟩ := DataW.trod_struct Try.underlying24 hf
  rw [cells24g] at hcl
  have hcl' : cs.toList.length = 2 := hcl
  obtain ⟨cs, rfl⟩ : ∃ l : List Value, cs = l.toArray := ⟨cs.toList, by simp⟩
  match cs, hcl' with
  | [v0, v1], _ =>
    have f0 := hff 0 _ rfl
    have f1 := hff 1 _ rfl
    match ys, hyl with
    | [y0, y1], _ =>
      have g0 : DataW.trod enc Try.prog W base spare held m 22 [v0] = some y0 := f0
      have g1 : DataW.trod enc Try.prog W base spare held m 22 [v1] = some y1 := f1
      have hd : d = DataW.agg [y0.1, y1.1] := congrArg Prod.fst hx
      subst hd
      have hw : ∀ q ∈ (DataW.agg [y0.1, y1.1] : DataW H).weights Try.prog 24, q ≤ 140737488351232 := hs
      simp only [DataW.weights, Try.underlying24] at hw
      have hw' : ∀ q ∈ DataW.weightsEach Try.prog [22, 22] [y0.1, y1.1], q ≤ 140737488351232 := hw
      simp only [DataW.weightsEach, List.mem_append] at hw'
      cases m with
      | zero => simp [DataW.trod] at g0
      | succ m =>
        obtain ⟨A, c, l, e0, r0, t0, y0', z0'⟩ := things_openN g0 (fun z hz => hw' z (by simp [hz]))
        obtain ⟨A', c', l', e1, r1, t1, y1', z1'⟩ := things_openN g1 (fun z hz => hw' z (by simp [hz]))
        exact ⟨⟨A, c, l, A', c', l'⟩, m, by rw [e0, e1], ⟨r0, r1, t0, t1⟩, ⟨y0', y1'⟩, z0', z1'⟩
end
end Go.Proofs.Ytebkkjfeikpfgaa
