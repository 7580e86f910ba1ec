/- Bytes that came in. -/
import Derived.Test.YthjbmlgjlndihaaChecked
import Derived.Test.YthjbmlgjlndihaaLG
import Derived.ProofKit
import Derived.OpenShut
import Derived.SizedLaws
import Derived.ChangeSame
import Derived.Deep.Slices
namespace Go.Proofs.Ythjbmlgjlndihaa
set_option maxRecDepth 100000
set_option maxRecDepth 100000
open Go.RowKit Go.ChangeShapes Go.WideShapes Go.ChangeAt Go.Deep
set_option maxRecDepth 100000

section
variable {H : Type} {enc : TypeId × Value → H} {W : World} {base : Nat} {spare : Nat → Bool} {held : Bool}
/-- No slice and no text of it is too great for a machine. -/
def Sized (d : DataW H) (t : TypeId) : Prop := ∀ n ∈ d.weights Try.prog t, n ≤ 140737488351232
theorem weightsAll_mem {e : TypeId} : ∀ {l : List (DataW H)} {d : DataW H}, d ∈ l → ∀ n ∈ d.weights Try.prog e, n ∈ DataW.weightsAll Try.prog e l
  | d' :: r, d, hd, n, hn => by
    simp only [DataW.weightsAll, List.mem_append]
    rcases List.mem_cons.1 hd with rfl | h
    · exact Or.inl hn
    · exact Or.inr (weightsAll_mem h n hn)
end
end Go.Proofs.Ythjbmlgjlndihaa
namespace Go.Proofs.Ythjbmlgjlndihaa
set_option maxRecDepth 100000
set_option maxRecDepth 100000
open Go.RowKit Go.ChangeShapes Go.WideShapes Go.ChangeAt Go.Deep
set_option maxRecDepth 100000
section
variable {H : Type} {enc : TypeId × Value → H} {W : World} {base : Nat} {spare : Nat → Bool} {held : Bool}
theorem sized_cons {t : TypeId} {ts : List TypeId} {d : DataW H} {ds : List (DataW H)} (h : (DataW.weightsEach Try.prog (t :: ts) (d :: ds)).all (· ≤ reachBytes) = true) : Sized d t ∧ (DataW.weightsEach Try.prog ts ds).all (· ≤ reachBytes) = true := by
  rw [DataW.weightsEach, List.all_append, Bool.and_eq_true] at h
  refine ⟨fun n hn => ?_, h.2⟩
  have := List.all_eq_true.1 h.1 n hn
  exact of_decide_eq_true this
end
end Go.Proofs.Ythjbmlgjlndihaa


namespace Go.Proofs.Ythjbmlgjlndihaa
set_option maxRecDepth 100000
set_option maxRecDepth 100000
open Go.RowKit Go.ChangeShapes Go.WideShapes Go.ChangeAt Go.Deep
set_option maxRecDepth 100000

section
variable {H : Type} {enc : TypeId × Value → H} {W : World} {base : Nat} {spare : Nat → Bool} {held : Bool}
/-- A row that came in, whatever its elements are. -/
theorem rows_open {t e : TypeId} {size bytes : Nat} (ht : Try.prog.underlying t = some (.slice e)) (hcell : Try.prog.cellsOf e = size) (hby : Try.prog.bytesOf e = bytes) (hs0 : 0 < size) (_hb0 : 0 < bytes) {α : Type} {n : Nat} (E : List Value → α → Prop) (hE : ∀ cs a, E cs a → cs.length = size)
    (ih : ∀ (cs : List Value) (x : DataW H × List MemPlace), DataW.trod enc Try.prog W base spare held n e cs = some x → Sized x.1 e → ∃ a, E cs a)
    {v : Value} {x : DataW H × List MemPlace} (h : DataW.trod enc Try.prog W base spare held (n + 1) t [v] = some x) (hs : Sized x.1 t) :
    ∃ (A : Option Addr) (c : Nat) (l : List α), v = .slice A l.length c ∧ l.length ≤ c ∧ c ≤ maxLen ∧ l.length * bytes ≤ 140737488351232 ∧ (A = none → c = 0) ∧ (0 < l.length → ∃ b off, A = some ⟨b, off, none⟩ ∧ b < W.heap.size ∧ ∀ (j : Nat) (a : α), l[j]? = some a → ∃ cs, E cs a ∧ ∀ m u, cs[m]? = some u → W.cell? ⟨b, off + j * size + m, none⟩ = some u) ∧ ∀ a ∈ l, ∃ cs, E cs a := by
  rcases DataW.trod_slice ht h with ⟨hv, _⟩ | ⟨a, len, cap, elems, rest, n', hn, hv, hx, hb, hl, hm, hlen, hel, _, _⟩
  · injection hv with hv
    exact ⟨none, 0, [], hv, Nat.le_refl _, by unfold maxLen; omega, by simp, fun _ => rfl, fun h => absurd h (by simp), fun a ha => by cases ha⟩
  · obtain rfl : n' = n := by omega
    injection hv with hv
    subst hx
    have hw : ∀ m ∈ (DataW.slice (elems.map (·.1)) (rest.map (·.1)) : DataW H).weights Try.prog t, m ≤ 140737488351232 := hs
    simp only [DataW.weights, ht, List.mem_cons, List.mem_append] at hw
    have h80 := hw _ (.inl rfl)
    rw [hby] at h80
    simp only [List.length_map] at h80
    have hone : ∀ i, i < len → ∃ cs' a', W.cells? base (a.add (i * size)) size = some cs' ∧ E cs' a' := fun i hi => by
      have hb := hel i hi
      rw [hcell, List.getElem?_eq_getElem (by omega)] at hb
      obtain ⟨cs', h1, h2⟩ := Option.bind_eq_some_iff.1 hb
      obtain ⟨a', e⟩ := ih cs' _ h2 (fun m hm => hw m (.inr (.inl (weightsAll_mem (List.mem_map_of_mem (List.getElem_mem _)) m hm))))
      exact ⟨cs', a', h1, e⟩
    have hspot : 0 < len → a.spot = none ∧ a.block < W.heap.size := fun h0 => by
      obtain ⟨cs', a', h1, e⟩ := hone 0 h0
      have hl' := hE _ _ e
      have h3 := (World.cells?_some h1).2.2 0 (by omega)
      rw [List.getElem?_eq_getElem (by omega)] at h3
      have e0 : (a.add (0 * size)).add 0 = a := by unfold Addr.add; simp
      rw [e0] at h3
      exact ⟨World.cell?_spot h3, World.block_lt_of_cell? W _ h3⟩
    have hall : ∀ k, k ≤ len → ∃ l : List α, l.length = k ∧ ∀ j a', l[j]? = some a' → ∃ cs, W.cells? base (a.add (j * size)) size = some cs ∧ E cs a' := fun k => by
      induction k with
      | zero => exact fun _ => ⟨[], rfl, fun j t h => by simp at h⟩
      | succ k ihk =>
        intro hk
        obtain ⟨l, h1, h2⟩ := ihk (by omega)
        obtain ⟨cs', a', h3, e⟩ := hone k (by omega)
        refine ⟨l ++ [a'], by simp [h1], fun j u hj => ?_⟩
        rcases Nat.lt_or_ge j l.length with hlt | hge
        · rw [List.getElem?_append_left hlt] at hj
          exact h2 j u hj
        · have := (List.getElem?_eq_some_iff.1 hj).1
          simp at this
          obtain rfl : j = l.length := by omega
          simp at hj
          subst hj
          rw [h1]
          exact ⟨cs', h3, e⟩
    obtain ⟨l, h1, h2⟩ := hall len (Nat.le_refl _)
    refine ⟨some a, cap, l, by rw [h1]; exact hv, by omega, hm, by rw [h1]; exact Nat.le_trans (Nat.mul_le_mul_right bytes (by omega)) h80, (fun e => by cases e), fun h0 => ?_, fun a' ha => ?_⟩
    · obtain ⟨hsp, hbl⟩ := hspot (by omega)
      obtain ⟨b, off, spot⟩ := a
      obtain rfl : spot = none := hsp
      refine ⟨b, off, rfl, hbl, fun j a' hj => ?_⟩
      obtain ⟨cs, h3, e⟩ := h2 j a' hj
      refine ⟨cs, e, fun m u hu => ?_⟩
      have hlt := (List.getElem?_eq_some_iff.1 hu).1
      have hc := (World.cells?_some h3).2.2 m (by have := hE _ _ e; omega)
      rw [add_none, add_none, hu] at hc
      exact hc
    · obtain ⟨j, hj⟩ := List.mem_iff_getElem?.1 ha
      obtain ⟨cs, _, e⟩ := h2 j a' hj
      exact ⟨cs, e⟩
theorem cells5p : Try.prog.cellsOf 5 = 1 := by kernel_rfl
theorem bytes5p : Try.prog.bytesOf 5 = 1 := by kernel_rfl
/-- Bytes that came in. -/
theorem open_bytes {b0 : Nat} {v : Value} {d : DataW H} {ps : List MemPlace} (hv : Value.okWide Try.prog W .any b0 22 v) (h : DataW.Trod enc Try.prog W base spare held 22 v d ps) (hs : Sized d 22) : ∃ A c l, v = .slice A (List.length (α := UInt8) l) c ∧ BRow W A c l := by
  obtain ⟨a, len, cap, rfl⟩ := okWide_slice Try.underlying22 hv
  obtain ⟨n, hf⟩ := h
  cases n with
  | zero => simp [DataW.trod] at hf
  | succ n =>
    have hf' : DataW.trod enc Try.prog W base spare held (n + 1) 22 [.slice a len cap] = some (d, ps) := hf
    obtain ⟨A, c, l, e, h1, h2, h3, h4, h5, h6⟩ := rows_open Try.underlying22 cells5p bytes5p (by omega) (by omega) (fun cs (s : UInt8) => cs = [u8v s]) (fun cs a e => by rw [e]; rfl) (fun cs x hx _ => by
      obtain ⟨s, e0, _, hw⟩ := DataW.trod_int Try.underlying5 hx
      have hb := bounds_u8 hw
      refine ⟨UInt8.ofNat s.toNat, ?_⟩
      rw [e0]
      unfold u8v
      rw [show ((UInt8.ofNat s.toNat).toNat : Int) = s by simp; omega]) hf' hs
    refine ⟨A, c, l, e, ⟨h1, h2, h4, fun h0 => ?_⟩⟩
    obtain ⟨b, off, e, hb, hc⟩ := h5 h0
    refine ⟨b, off, e, hb, fun j s hj => ?_⟩
    obtain ⟨cs, rfl, hcs⟩ := hc j s hj
    have := hcs 0 _ rfl
    rwa [Nat.mul_one] at this
end
end Go.Proofs.Ythjbmlgjlndihaa
