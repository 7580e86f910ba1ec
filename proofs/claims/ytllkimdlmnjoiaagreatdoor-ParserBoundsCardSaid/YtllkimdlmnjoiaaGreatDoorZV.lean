/- Carried over from an earlier seat. -/
import Derived.Test.YtllkimdlmnjoiaaGreatDoorVPh
import Derived.Test.YtllkimdlmnjoiaaGreatDoorPK
import Derived.Shelf.SlSortCmp.KitK
import Derived.BigRegion
import Derived.Deep.AppendLies
import Derived.Deep.RegionHeld3
namespace Go.Proofs.YtllkimdlmnjoiaaGreatDoor
set_option maxRecDepth 100000
set_option maxRecDepth 100000
set_option maxRecDepth 100000
set_option maxRecDepth 100000
set_option maxRecDepth 100000
open Go.RowKit Go.Sort

end Go.Proofs.YtllkimdlmnjoiaaGreatDoor

namespace Go.Proofs.YtllkimdlmnjoiaaGreatDoor
set_option maxRecDepth 100000
set_option maxRecDepth 100000
set_option maxRecDepth 100000
set_option maxRecDepth 100000
set_option maxRecDepth 100000
open Go.RowKit Go.Sort

end Go.Proofs.YtllkimdlmnjoiaaGreatDoor

namespace Go.Proofs.YtllkimdlmnjoiaaGreatDoor
set_option maxRecDepth 100000
set_option maxRecDepth 100000
set_option maxRecDepth 100000
set_option maxRecDepth 100000
set_option maxRecDepth 100000
open Go.RowKit Go.Sort

end Go.Proofs.YtllkimdlmnjoiaaGreatDoor

namespace Go.Proofs.YtllkimdlmnjoiaaGreatDoor
set_option maxRecDepth 100000
set_option maxRecDepth 100000
set_option maxRecDepth 100000
set_option maxRecDepth 100000
open Go.RowKit

section
variable {P : Program} {ops : Array Oper} {Q : Exit → Act → World → Prop} {md : Region.Mode} {S : World → Prop} {N : List Nat}

/-- None of these has come up. -/
def bare (N : List Nat) (listed : Array Bool) : Bool := N.all fun n => !listed.getD n true
/-- In whatever order the rest comes up; and as long as none of N has, S holds behind each. -/
def anyN (P : Program) (md : Region.Mode) (ops : Array Oper) (Q : Exit → Act → World → Prop) (S : World → Prop) (N : List Nat) : Nat → Array Bool → Act → World → Prop
  | 0, listed, a, w => Region.ready md ops listed = [] ∧ Q .normal a w
  | f + 1, listed, a, w => (Region.ready md ops listed = [] → Q .normal a w) ∧
      ∀ i ∈ Region.ready md ops listed, wpOp P ops Q i (fun a' w' => (bare N (listed.setIfInBounds i true) = true → S w') ∧ anyN P md ops Q S N f (listed.setIfInBounds i true) a' w') a w
theorem anyN_any : ∀ (f : Nat) (listed : Array Bool) (a : Act) (w : World), anyN P md ops Q S N f listed a w → wpAny P md ops Q f listed a w
  | 0, _, _, _, h => h
  | f + 1, _, _, _, h => ⟨h.1, fun i hi => wpOp_mono (fun _ _ k => anyN_any f _ _ _ k.2) (h.2 i hi)⟩

end
end Go.Proofs.YtllkimdlmnjoiaaGreatDoor


namespace Go.Proofs.YtllkimdlmnjoiaaGreatDoor
set_option maxRecDepth 100000
set_option maxRecDepth 100000
set_option maxRecDepth 100000
set_option maxRecDepth 100000
set_option maxRecDepth 100000
open Go.RowKit Go.Sort

end Go.Proofs.YtllkimdlmnjoiaaGreatDoor

namespace Go.Proofs.YtllkimdlmnjoiaaGreatDoor
set_option maxRecDepth 100000
set_option maxRecDepth 100000
set_option maxRecDepth 100000
set_option maxRecDepth 100000
set_option maxRecDepth 100000
open Go.RowKit Go.Sort

end Go.Proofs.YtllkimdlmnjoiaaGreatDoor

namespace Go.Proofs.YtllkimdlmnjoiaaGreatDoor
set_option maxRecDepth 100000
set_option maxRecDepth 100000
set_option maxRecDepth 100000
set_option maxRecDepth 100000
set_option maxRecDepth 100000
open Go.RowKit Go.Sort

end Go.Proofs.YtllkimdlmnjoiaaGreatDoor

namespace Go.Proofs.YtllkimdlmnjoiaaGreatDoor
set_option maxRecDepth 100000
set_option maxRecDepth 100000
set_option maxRecDepth 100000
set_option maxRecDepth 100000
open Go.RowKit

section
variable {P : Program} {ops : Array Oper} {Q : Exit → Act → World → Prop} {md : Region.Mode} {S : World → Prop} {N : List Nat}

theorem bare_of {U : List Nat} {listed : Array Bool} (h : ∀ u ∈ U, listed.getD u true = false) : bare U listed = true := by
  unfold bare
  rw [List.all_eq_true]
  intro u hu
  simp [h u hu]
theorem bare_get {U : List Nat} {listed : Array Bool} (h : bare U listed = true) (u : Nat) (hu : u ∈ U) : listed.getD u true = false := by
  unfold bare at h
  rw [List.all_eq_true] at h
  have := h u hu
  revert this
  cases listed.getD u true <;> simp
/-- Each of U waits for i, or for another one of U. -/
def waits (md : Region.Mode) (ops : Array Oper) (i : Nat) (U : List Nat) : Bool :=
  U.all fun u => match ops[u]? with
    | none => true
    | some o => o.after.any fun e => Region.binds md e && (e.on == i || U.contains e.on)
theorem not_ready {i j : Nat} {U : List Nat} {listed : Array Bool} (hw : waits md ops i U = true) (hi : listed.getD i true = false) (hU : ∀ u ∈ U, listed.getD u true = false) (hj : j ∈ Region.ready md ops listed) : j ∉ U := fun hjU => by
  obtain ⟨_, oj, hoj, hall⟩ := mem_ready.1 hj
  unfold waits at hw
  rw [List.all_eq_true] at hw
  have h1 := hw j hjU
  rw [hoj] at h1
  obtain ⟨e, he, hb⟩ := Array.any_eq_true'.1 h1
  rw [Bool.and_eq_true, Bool.or_eq_true, beq_iff_eq] at hb
  have h2 := hall e he hb.1
  have h3 : listed.getD e.on true = false := by
    rcases hb.2 with h | h
    · rw [h]; exact hi
    · exact hU _ (by simpa using h)
  rcases Nat.lt_or_ge e.on listed.size with h' | h'
  · simp [h'] at h2 h3
    rw [h2] at h3
    cases h3
  · simp [Array.getElem?_eq_none h'] at h2

theorem anyN_first {i : Nat} {oi : Oper} {v : Value} {U : List Nat} (hi : ops[i]? = some oi) (hsel : ∀ (j : Nat) (o : Oper) cs b, ops[j]? = some o → o.op ≠ .select cs b)
    (hQ : ∀ c a w, Q (.panic c) (a.put oi.dst v) w → Q (.panic c) a w) (hw : waits md ops i U = true) (hN : ∀ n ∈ N, n ∈ U) (hiN : i ∉ U) :
    ∀ (f : Nat) (listed : Array Bool) (a : Act) (w : World),
      (∀ j oj, ops[j]? = some oj → j ≠ i → listed.getD j true = false → (∀ e ∈ oj.after, Region.binds md e = true → e.on ≠ i) → oi.apart ops oj = true) →
      (∀ u ∈ U, listed.getD u true = false) → i ∈ Region.ready md ops listed → YieldsIf P ops S oi v a → S w →
      anyN P md ops Q S N f (listed.setIfInBounds i true) (a.put oi.dst v) w → anyN P md ops Q S N (f + 1) listed a w := by
  intro f
  induction f with
  | zero =>
    intro listed a w _ _ hr hy hS H
    refine ⟨fun h => (by rw [h] at hr; cases hr), fun j hj => ?_⟩
    by_cases hji : j = i
    · subst hji; exact hy.wpOp hi hS ⟨fun _ => hS, H⟩
    · have h1 := ready_mono hj hji
      rw [H.1] at h1
      cases h1
  | succ f ih =>
    intro listed a w hfree hU hr hy hS H
    refine ⟨fun h => (by rw [h] at hr; cases hr), fun j hj => ?_⟩
    by_cases hji : j = i
    · subst hji; exact hy.wpOp hi hS ⟨fun _ => hS, H⟩
    · have hi0 := (mem_ready.1 hr).1
      have hjU : j ∉ U := not_ready hw hi0 hU hj
      have h1 := H.2 j (ready_mono hj hji)
      obtain ⟨hjun, oj, hoj, hall⟩ := mem_ready.1 hj
      have hno : ∀ e ∈ oj.after, Region.binds md e = true → e.on ≠ i := fun e he hb heq => by
        have q := hall e he hb
        rw [heq] at q
        rcases Nat.lt_or_ge i listed.size with h' | h'
        · simp [h'] at hi0 q
          rw [hi0] at q
          cases q
        · simp [Array.getElem?_eq_none h'] at q
      have h2 := wpOp_putIf hoj (hfree j oj hoj hji hjun hno) (fun cs b => hsel i oi cs b hi) (fun cs b => hsel j oj cs b hoj) hQ hy h1
      have hU' : ∀ u ∈ U, (listed.setIfInBounds j true).getD u true = false := fun u hu => by
        rw [getD_set_ne (i := j) (j := u) true (fun e => hjU (by rw [e]; exact hu))]
        exact hU u hu
      have hB : bare N ((listed.setIfInBounds i true).setIfInBounds j true) = true := bare_of fun n hn => by
        have hnU := hN n hn
        rw [getD_set_ne (i := j) (j := n) true (fun e => hjU (by rw [e]; exact hnU)), getD_set_ne (i := i) (j := n) true (fun e => hiN (by rw [e]; exact hnU))]
        exact hU n hnU
      refine wpOp_mono (fun a' w' h3 => ⟨fun _ => h3.2.1 hB, ih (listed.setIfInBounds j true) a' w' (fun k ok hk hki hun hn => ?_) hU' (ready_mono hr (Ne.symm hji)) h3.1 (h3.2.1 hB) ?_⟩) h2
      · refine hfree k ok hk hki ?_ hn
        by_cases hjk : j = k
        · subst hjk; exact hjun
        · rw [getD_set_ne true hjk] at hun; exact hun
      · rw [Array.setIfInBounds_comm _ _ hji]
        exact h3.2.2

/-- Number i is taken first. -/
theorem anyN_take {i : Nat} {oi : Oper} {v : Value} {f : Nat} {listed : Array Bool} {a : Act} {w : World} (U : List Nat) (hi : ops[i]? = some oi)
    (hs : Region.noSelect ops = true) (hf : Region.free md ops listed i = true) (hr : (Region.ready md ops listed).contains i = true)
    (hU : (waits md ops i U && (N.all fun n => U.contains n) && !U.contains i && bare U listed) = true)
    (hQ : ∀ c a w, Q (.panic c) (a.put oi.dst v) w → Q (.panic c) a w) (hw : Region.wanted oi (yielded ops a.tmps) = true) (hy : ∀ w, S w → (execOp a.eval oi).run P w = .ok (.value v) w) (hS : S w)
    (h : anyN P md ops Q S N f (listed.setIfInBounds i true) (a.put oi.dst v) w) : anyN P md ops Q S N (f + 1) listed a w := by
  simp only [Bool.and_eq_true, Bool.not_eq_true'] at hU
  obtain ⟨⟨⟨h1, h2⟩, h3⟩, h4⟩ := hU
  refine anyN_first hi (Region.noSelect_spec hs) hQ h1 (fun n hn => ?_) (fun hm => ?_) f listed a w (Region.free_spec hi hf) (bare_get h4) (by simpa using hr) (.inl ⟨hw, hy⟩) hS h
  · rw [List.all_eq_true] at h2
    simpa using h2 n hn
  · rw [List.contains_iff_mem.2 hm] at h3
    cases h3
/-- One alone may come up. -/
theorem anyN_one {i : Nat} {o : Oper} {f : Nat} {listed : Array Bool} {a : Act} {w : World} (hr : Region.ready md ops listed = [i]) (ho : ops[i]? = some o)
    (h : ∀ K' : Act → World → Prop, Shut (∀ a w, (bare N (listed.setIfInBounds i true) = true → S w) → anyN P md ops Q S N f (listed.setIfInBounds i true) a w → K' a w) → if Region.wanted o (yielded ops a.tmps) = true then Oper.wp P o a w K' Q else K' (a.put o.dst undef) w) :
    anyN P md ops Q S N (f + 1) listed a w :=
  ⟨fun h0 => (by rw [hr] at h0; cases h0), fun j hj => by
    rw [hr] at hj
    obtain rfl : j = i := by simpa using hj
    exact wpOp_step ho (fun K' hK => h K' (fun a w hS hW => hK a w ⟨hS, hW⟩))⟩
/-- All have come up. -/
theorem anyN_done {listed : Array Bool} {a : Act} {w : World} (hr : Region.ready md ops listed = []) (h : Q .normal a w) : ∀ f, anyN P md ops Q S N f listed a w
  | 0 => ⟨hr, h⟩
  | _ + 1 => ⟨fun _ => h, by rw [hr]; simp⟩
end
end Go.Proofs.YtllkimdlmnjoiaaGreatDoor





