/- Carried over from an earlier seat. -/
import Derived.Test.YtllkimdlmnjoiaaGreatDoorVG
import Derived.Test.YtllkimdlmnjoiaaGreatDoorVVb
import Derived.ProofKit
import Derived.OpenShut
import Derived.SizedLaws
import Derived.ChangeSame
import Derived.Deep.Slices
namespace Go.Proofs.YtllkimdlmnjoiaaGreatDoor
set_option maxRecDepth 100000
set_option maxRecDepth 100000
set_option maxRecDepth 100000
set_option maxRecDepth 100000
set_option maxRecDepth 100000
open Go.RowKit Go.ChangeShapes Go.WideShapes Go.ChangeAt Go.Deep

section
variable {H : Type} {enc : TypeId × Value → H} {W : World} {base : Nat} {spare : Nat → Bool} {held : Bool}
/-- No slice and no text of it is too great for a machine. -/
def Sized (d : DataW H) (t : TypeId) : Prop := ∀ n ∈ d.weights Tryz.prog t, n ≤ 140737488351232
theorem bytes24 : Tryz.prog.bytesOf 77 = 80 := by kernel_rfl
theorem cells24 : Tryz.prog.cellsOf 77 = 5 := by kernel_rfl
theorem weightsAll_mem {e : TypeId} : ∀ {l : List (DataW H)} {d : DataW H}, d ∈ l → ∀ n ∈ d.weights Tryz.prog e, n ∈ DataW.weightsAll Tryz.prog e l
  | d' :: r, d, hd, n, hn => by
    simp only [DataW.weightsAll, List.mem_append]
    rcases List.mem_cons.1 hd with rfl | h
    · exact Or.inl hn
    · exact Or.inr (weightsAll_mem h n hn)
def FiveCells (t : V) (A : Option Addr) (c : Nat) (A' : Option Addr) (c' : Nat) : List Value := [.int .i64 t.k, .int .i64 t.n, .string t.s, .slice A t.l.length c, .slice A' t.m.length c']
def Opens (W : World) (base : Nat) (spare : Nat → Bool) (held : Bool) (enc : TypeId × Value → H) (n : Nat) : Prop :=
  ∀ (cs : List Value) (x : DataW H × List MemPlace), DataW.trod enc Tryz.prog W base spare held n 77 cs = some x → Sized x.1 77 → ∃ t A c A' c', cs = FiveCells t A c A' c' ∧ Rd W 0 W.heap.size n t A c A' c'

theorem add_none (b off j : Nat) : (⟨b, off, none⟩ : Addr).add j = ⟨b, off + j, none⟩ := by unfold Addr.add; split <;> simp_all
theorem row_opens {n : Nat} (ih : Opens W base spare held enc n) {v : Value} {x : DataW H × List MemPlace} (h : DataW.trod enc Tryz.prog W base spare held (n + 1) 75 [v] = some x) (hs : Sized x.1 75) :
    ∃ A c l, v = .slice A l.length c ∧ Rw W 0 W.heap.size n A c l := by
  rcases DataW.trod_slice Tryz.underlying75 h with ⟨hv, _⟩ | ⟨a, len, cap, elems, rest, n', hn, hv, hx, hb, hl, hm, hlen, hel, _, _⟩
  · injection hv with hv
    exact ⟨none, 0, [], hv, rw_nil _ _ _ _⟩
  · obtain rfl : n' = n := by omega
    injection hv with hv
    subst hx
    have hw : ∀ m ∈ (DataW.slice (elems.map (·.1)) (rest.map (·.1)) : DataW H).weights Tryz.prog 75, m ≤ 140737488351232 := hs
    simp only [DataW.weights, Tryz.underlying75, List.mem_cons, List.mem_append] at hw
    have h80 := hw _ (.inl rfl)
    rw [bytes24] at h80
    simp only [List.length_map] at h80
    have hone : ∀ i, i < len → ∃ cs' t A c A' c', W.cells? base (a.add (i * 5)) 5 = some cs' ∧ cs' = FiveCells t A c A' c' ∧ Rd W 0 W.heap.size n' t A c A' c' := fun i hi => by
      have hb := hel i hi
      rw [cells24, List.getElem?_eq_getElem (by omega)] at hb
      obtain ⟨cs', h1, h2⟩ := Option.bind_eq_some_iff.1 hb
      obtain ⟨t, A, c, A', c', e, hr⟩ := ih cs' _ h2 (fun m hm => hw m (.inr (.inl (weightsAll_mem (List.mem_map_of_mem (List.getElem_mem _)) m hm))))
      exact ⟨cs', t, A, c, A', c', h1, e, hr⟩
    have hspot : 0 < len → a.spot = none ∧ a.block < W.heap.size := fun h0 => by
      obtain ⟨cs', t, A, c, A', c', h1, e, _⟩ := hone 0 h0
      have h3 := (World.cells?_some h1).2.2 0 (by omega)
      rw [e] at h3
      have h3' : W.cell? ((a.add (0 * 5)).add 0) = some (.int .i64 t.k) := h3
      have e0 : (a.add (0 * 5)).add 0 = a := by unfold Addr.add; simp
      rw [e0] at h3'
      exact ⟨World.cell?_spot h3', World.block_lt_of_cell? W _ h3'⟩
    have hall : ∀ k, k ≤ len → ∃ l : List V, l.length = k ∧ ∀ j t, l[j]? = some t → ∃ A1 c1 A2 c2, cells5 W a.block (a.off + j * 5) t A1 c1 A2 c2 ∧ Rd W 0 W.heap.size n' t A1 c1 A2 c2 := fun k => by
      induction k with
      | zero => exact fun _ => ⟨[], rfl, fun j t h => by simp at h⟩
      | succ k ihk =>
        intro hk
        obtain ⟨l, h1, h2⟩ := ihk (by omega)
        obtain ⟨cs', t, A, c, A', c', h3, e, hr⟩ := hone k (by omega)
        refine ⟨l ++ [t], by simp [h1], fun j u hj => ?_⟩
        rcases Nat.lt_or_ge j l.length with hlt | hge
        · rw [List.getElem?_append_left hlt] at hj
          exact h2 j u hj
        · have := (List.getElem?_eq_some_iff.1 hj).1
          simp at this
          obtain rfl : j = l.length := by omega
          simp at hj
          subst hj
          have hc := (World.cells?_some h3).2.2
          obtain ⟨b, off, spot⟩ := a
          obtain rfl : spot = none := (hspot (by omega)).1
          rw [add_none] at hc
          simp only [add_none] at hc
          subst e
          rw [← h1] at hc
          exact ⟨A, c, A', c', ⟨hc 0 (by decide), hc 1 (by decide), hc 2 (by decide), hc 3 (by decide), hc 4 (by decide)⟩, hr⟩
    obtain ⟨l, h1, h2⟩ := hall len (Nat.le_refl _)
    refine ⟨some a, cap, l, by rw [h1]; exact hv, ⟨by omega, hm, by omega, (fun e => by cases e), fun h0 => ?_⟩⟩
    obtain ⟨hsp, hbl⟩ := hspot (by omega)
    obtain ⟨b, off, spot⟩ := a
    obtain rfl : spot = none := hsp
    exact ⟨b, off, rfl, Nat.zero_le _, hbl, h2⟩
theorem value_opens : ∀ n, Opens W base spare held enc n := by
  intro n
  induction n using Nat.strongRecOn with
  | ind n ih =>
    intro cs x h hs
    obtain ⟨ys, m, hn, hx, hcl, hyl, hf⟩ := DataW.trod_struct Tryz.underlying77 h
    rw [cells24] at hcl
    match cs, hcl with
    | [v0, v1, v2, v3, v4], _ =>
      have f0 := hf 0 _ rfl
      have f1 := hf 1 _ rfl
      have f2 := hf 2 _ rfl
      have f3 := hf 3 _ rfl
      have f4 := hf 4 _ rfl
      match ys, hyl with
      | [y0, y1, y2, y3, y4], _ =>
        have g0 : DataW.trod enc Tryz.prog W base spare held m 3 [v0] = some y0 := f0
        have g1 : DataW.trod enc Tryz.prog W base spare held m 3 [v1] = some y1 := f1
        have g2 : DataW.trod enc Tryz.prog W base spare held m 9 [v2] = some y2 := f2
        have g3 : DataW.trod enc Tryz.prog W base spare held m 75 [v3] = some y3 := f3
        have g4 : DataW.trod enc Tryz.prog W base spare held m 75 [v4] = some y4 := f4
        subst hx
        have hw : ∀ q ∈ (DataW.agg [y0.1, y1.1, y2.1, y3.1, y4.1] : DataW H).weights Tryz.prog 77, q ≤ 140737488351232 := hs
        simp only [DataW.weights, Tryz.underlying77] at hw
        have hw' : ∀ q ∈ DataW.weightsEach Tryz.prog [3, 3, 9, 75, 75] [y0.1, y1.1, y2.1, y3.1, y4.1], q ≤ 140737488351232 := hw
        simp only [DataW.weightsEach, List.mem_append] at hw'
        obtain ⟨k, e0, _, k0⟩ := DataW.trod_int Tryz.underlying3 g0
        obtain ⟨q, e1, _, k1⟩ := DataW.trod_int Tryz.underlying3 g1
        obtain ⟨s, e2, x2, k2⟩ := DataW.trod_string Tryz.underlying9 g2
        injection e0 with e0
        injection e1 with e1
        injection e2 with e2
        cases m with
        | zero => simp [DataW.trod] at g0
        | succ m =>
          obtain ⟨A, c, l, e3, r3⟩ := row_opens (ih m (by omega)) g3 (fun z hz => hw' z (by simp [hz]))
          obtain ⟨A', c', l', e4, r4⟩ := row_opens (ih m (by omega)) g4 (fun z hz => hw' z (by simp [hz]))
          subst hn
          have hsz : s.size ≤ 140737488355328 := by
            have := hw' s.data.toList.length (.inr (.inr (.inl (by rw [x2]; simp only [DataW.weights, List.mem_singleton]))))
            have e : s.data.toList.length = s.size := Array.length_toList
            omega
          have b0 := bounds_i64 k0
          have b1 := bounds_i64 k1
          refine ⟨.mk k q s l l', A, c, A', c', by rw [e0, e1, e2, e3, e4]; rfl, ⟨⟨b0.1, b0.2, b1.1, b1.2, hsz⟩, r3.more (Nat.le_refl _) (Nat.le_refl _) (by omega), r4.more (Nat.le_refl _) (Nat.le_refl _) (by omega)⟩⟩
end
end Go.Proofs.YtllkimdlmnjoiaaGreatDoor
namespace Go.Proofs.YtllkimdlmnjoiaaGreatDoor
set_option maxRecDepth 100000
set_option maxRecDepth 100000
set_option maxRecDepth 100000
set_option maxRecDepth 100000
set_option maxRecDepth 100000
open Go.RowKit Go.ChangeShapes Go.WideShapes Go.ChangeAt Go.Deep
section
variable {H : Type} {enc : TypeId × Value → H} {W : World} {base : Nat} {spare : Nat → Bool} {held : Bool}
end
end Go.Proofs.YtllkimdlmnjoiaaGreatDoor





