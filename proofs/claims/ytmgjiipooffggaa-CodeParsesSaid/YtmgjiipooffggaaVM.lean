/- Carried over from the seat of layer 2. -/
import Derived.Test.YtmgjiipooffggaaVG
import Derived.Shelf.SlSortCmp.KitK
import Derived.BigRegion
import Derived.Deep.AppendLies
import Derived.Deep.RegionHeld3
namespace Go.Proofs.Ytmgjiipooffggaa
set_option maxRecDepth 100000
open Go.RowKit Go.Sort

/-- A pair, with where its rows lie. -/
structure Pr where
  x : V
  a1 : Option Addr
  n1 : Nat
  a2 : Option Addr
  n2 : Nat
  y : V
  a3 : Option Addr
  n3 : Nat
  a4 : Option Addr
  n4 : Nat
instance : Inhabited Pr := ⟨⟨.mk 0 0 ⟨#[]⟩ [] [], none, 0, none, 0, .mk 0 0 ⟨#[]⟩ [] [], none, 0, none, 0⟩⟩
def Pr.cs (p : Pr) : List Value :=
  [.int .i64 p.x.k, .int .i64 p.x.n, .string p.x.s, .slice p.a1 p.x.l.length p.n1, .slice p.a2 p.x.m.length p.n2, .int .i64 p.y.k, .int .i64 p.y.n, .string p.y.s, .slice p.a3 p.y.l.length p.n3, .slice p.a4 p.y.m.length p.n4]
end Go.Proofs.Ytmgjiipooffggaa

/- Carried over from the seat of layer 2. -/
namespace Go.Proofs.Ytmgjiipooffggaa
set_option maxRecDepth 100000
open Go.RowKit Go.Sort

theorem below_drewN (B : Nat) (w : World) (n : Nat) : Below B w (w.drewN n) := ⟨rfl, rfl, rfl, Nat.le_refl _, fun _ _ => rfl⟩
end Go.Proofs.Ytmgjiipooffggaa

/- Carried over from the seat of layer 2. -/
namespace Go.Proofs.Ytmgjiipooffggaa
set_option maxRecDepth 100000
open Go.RowKit Go.Sort

def Pr.kc (p : Pr) : List Value := [.int .i64 p.x.k, .int .i64 p.x.n, .string p.x.s, .slice p.a1 p.x.l.length p.n1, .slice p.a2 p.x.m.length p.n2]
/-- A row of values of the call's own that grows. -/
def VG (w : World) (base : Nat) (v : Value) (f : Pr → List Value) (acc : List Pr) : Prop :=
  (v = .slice none 0 0 ∧ acc = []) ∨ ∃ g cap, v = .slice (some ⟨g, 0, none⟩) acc.length cap ∧ base ≤ g ∧ acc.length ≤ cap ∧ cap ≤ maxLen ∧ Blk w g cap ∧ ∀ (i : Nat) (p : Pr), acc[i]? = some p → ∀ c, c < 5 → w.cell? ⟨g, i * 5 + c, none⟩ = some ((f p)[c]!)
theorem VG.keep {w w' : World} {base : Nat} {v : Value} {f : Pr → List Value} {acc : List Pr} (h : VG w base v f acc) (hk : ∀ g, v.ownBlock = some g → base ≤ g → g < w.heap.size → w'.heap[g]? = w.heap[g]?) : VG w' base v f acc := by
  rcases h with h | ⟨g, cap, rfl, h1, h2, h3, h4, h5⟩
  · exact .inl h
  · have e := hk g rfl h1 h4.lt
    exact .inr ⟨g, cap, rfl, h1, h2, h3, h4.kept e, fun i p hi c hc => (World.cell?_of_block (w := w) (a := ⟨g, _, none⟩) e).trans (h5 i p hi c hc)⟩
theorem VG.below {w w' : World} {base : Nat} {v : Value} {f : Pr → List Value} {acc : List Pr} (h : VG w base v f acc) (hb : Below w.heap.size w w') : VG w' base v f acc := h.keep fun g _ _ hg => hb.block g hg
theorem VG.lt {w : World} {base : Nat} {v : Value} {f : Pr → List Value} {acc : List Pr} (h : VG w base v f acc) : ∀ g, v.ownBlock = some g → base ≤ g ∧ g < w.heap.size := by
  rcases h with ⟨rfl, _⟩ | ⟨g, cap, rfl, h1, h2, h3, h4, h5⟩
  · intro g h; cases h
  · intro g' h
    injection h with h
    subst h
    exact ⟨h1, h4.lt⟩
theorem VG.owns {w : World} {base : Nat} {v : Value} {f : Pr → List Value} {acc : List Pr} (h : VG w base v f acc) :
    ∃ xs, w.ownsRow base 24 5 v acc.length xs ∧ xs.length = acc.length * 5 ∧ ∀ i p, acc[i]? = some p → ∀ c, c < 5 → xs[i * 5 + c]? = some ((f p)[c]!) := by
  rcases h with ⟨rfl, rfl⟩ | ⟨g, cap, rfl, h1, h2, h3, h4, h5⟩
  · exact ⟨[], World.ownsRow_nil _ _ _ _, rfl, fun i p h => by simp at h⟩
  · obtain ⟨cs, hb, hs⟩ := h4
    refine ⟨cs.toList.take (acc.length * 5), ⟨by simp; omega, .inr ⟨g, cap, cs, rfl, h1, hb, h2, h3, hs, rfl⟩⟩, by simp; omega, fun i p hi c hc => ?_⟩
    have hip := (List.getElem?_eq_some_iff.1 hi).1
    have := h5 i p hi c hc
    rw [cell_of_row w g _ cs 24 (0, 0) hb] at this
    rw [List.getElem?_take, if_pos (by omega)]
    simpa using this
theorem vg_of_owns {w : World} {base g cap : Nat} {f : Pr → List Value} {acc : List Pr} {p : Pr} {xs : List Value} (h : w.ownsRow base 24 5 (.slice (some ⟨g, 0, none⟩) (acc.length + 1) cap) (acc.length + 1) (xs ++ f p)) (hl : xs.length = acc.length * 5) (hf : (f p).length = 5)
    (hx : ∀ i p, acc[i]? = some p → ∀ c, c < 5 → xs[i * 5 + c]? = some ((f p)[c]!)) : VG w base (.slice (some ⟨g, 0, none⟩) (acc.length + 1) cap) f (acc ++ [p]) := by
  have hcells := World.ownsRow.cells (g := g) h rfl
  rcases h.2 with ⟨e, _⟩ | ⟨g', cap', cur, e, hb, hg, hnc, hcm, hcs, _⟩
  · cases e
  · injection e with e1 _ e3
    injection e1 with e1
    injection e1 with e1
    subst e1; subst e3
    have ad : ∀ j, (⟨g, 0, none⟩ : Addr).add j = ⟨g, j, none⟩ := fun j => by unfold Addr.add; split <;> simp_all
    refine .inr ⟨g, cap, by simp, hb, by simp; omega, hcm, ⟨cur, hg, hcs⟩, fun i q hi c hc => ?_⟩
    rw [← ad]
    apply hcells
    rcases Nat.lt_or_ge i acc.length with hlt | hge
    · rw [List.getElem?_append_left hlt] at hi
      rw [List.getElem?_append_left (by omega)]
      exact hx i q hi c hc
    · have hq := (List.getElem?_eq_some_iff.1 hi).1
      simp at hq
      obtain rfl : i = acc.length := by omega
      simp at hi
      subst hi
      rw [List.getElem?_append_right (by omega), hl, show acc.length * 5 + c - acc.length * 5 = c by omega]
      rw [List.getElem?_eq_getElem (by omega), getElem!_pos (f p) c (by omega)]
/-- The last pair gets another value. -/
theorem VG.put {w : World} {base g cap : Nat} {f : Pr → List Value} {acc : List Pr} {q p : Pr} (h : VG w base (.slice (some ⟨g, 0, none⟩) (acc ++ [q]).length cap) f (acc ++ [q])) {v0 v1 v2 v3 v4 : Value} (hf : f p = [v0, v1, v2, v3, v4]) :
    VG (put5 w g (acc.length * 5) v0 v1 v2 v3 v4) base (.slice (some ⟨g, 0, none⟩) (acc ++ [q]).length cap) f (acc ++ [p]) := by
  rcases h with ⟨e, _⟩ | ⟨g', cap', e, h1, h2, h3, h4, h5⟩
  · cases e
  · injection e with e1 _ e3
    injection e1 with e1
    injection e1 with e1
    subst e1; subst e3
    have hle : acc.length + 1 ≤ cap := by simpa using h2
    refine .inr ⟨g, cap, by simp, h1, by simpa using h2, h3, put5_blk h4 _ _ _ _ _ _, fun i r hi c hc => ?_⟩
    rcases Nat.lt_or_ge i acc.length with hlt | hge
    · rw [List.getElem?_append_left hlt] at hi
      rw [put5_off h4 _ _ (.inl (by omega))]
      exact h5 i r (by rw [List.getElem?_append_left hlt]; exact hi) c hc
    · have hq := (List.getElem?_eq_some_iff.1 hi).1
      simp at hq
      obtain rfl : i = acc.length := by omega
      simp at hi
      subst hi
      obtain ⟨a0, a1, a2, a3, a4⟩ := put5_at h4 (acc.length * 5) (by omega) v0 v1 v2 v3 v4
      rw [hf]
      match c, hc with
      | 0, _ => exact a0
      | 1, _ => exact a1
      | 2, _ => exact a2
      | 3, _ => exact a3
      | 4, _ => exact a4

theorem kc_len (p : Pr) : p.kc.length = 5 := rfl
theorem kc_one (p : Pr) : ∀ v ∈ p.kc, v.oneCell' = true := by
  intro v hv
  simp only [Pr.kc, List.mem_cons, List.not_mem_nil, or_false] at hv
  rcases hv with rfl | rfl | rfl | rfl | rfl <;> rfl
end Go.Proofs.Ytmgjiipooffggaa

/- A region that draws its order, holds loads, and writes the loaded cells only when all loads have come up: a condition on the world is held until the first of the operations N has come up, and a load may be taken first. Plain law of the model, no code of ours. -/
namespace Go.Proofs.Ytmgjiipooffggaa
open Go.RowKit

section
variable {P : Program} {ops : Array Oper} {Q : Exit → Act → World → Prop} {md : Region.Mode} {S : World → Prop} {N : List Nat}

/-- None of these has come up. -/
def bare (N : List Nat) (listed : Array Bool) : Bool := N.all fun n => !listed.getD n true
theorem bare_of {U : List Nat} {listed : Array Bool} (h : ∀ u ∈ U, listed.getD u true = false) : bare U listed = true := by
  unfold bare
  rw [List.all_eq_true]
  intro u hu
  simp [h u hu]
theorem bare_get {U : List Nat} {listed : Array Bool} (h : bare U listed = true) (u : Nat) (hu : u ∈ U) : listed.getD u true = false := by
  unfold bare at h
  rw [List.all_eq_true] at h
  have := h u hu
  revert this
  cases listed.getD u true <;> simp
/-- Each of U waits for i, or for another one of U. -/
def waits (md : Region.Mode) (ops : Array Oper) (i : Nat) (U : List Nat) : Bool :=
  U.all fun u => match ops[u]? with
    | none => true
    | some o => o.after.any fun e => Region.binds md e && (e.on == i || U.contains e.on)
theorem not_ready {i j : Nat} {U : List Nat} {listed : Array Bool} (hw : waits md ops i U = true) (hi : listed.getD i true = false) (hU : ∀ u ∈ U, listed.getD u true = false) (hj : j ∈ Region.ready md ops listed) : j ∉ U := fun hjU => by
  obtain ⟨_, oj, hoj, hall⟩ := mem_ready.1 hj
  unfold waits at hw
  rw [List.all_eq_true] at hw
  have h1 := hw j hjU
  rw [hoj] at h1
  obtain ⟨e, he, hb⟩ := Array.any_eq_true'.1 h1
  rw [Bool.and_eq_true, Bool.or_eq_true, beq_iff_eq] at hb
  have h2 := hall e he hb.1
  have h3 : listed.getD e.on true = false := by
    rcases hb.2 with h | h
    · rw [h]; exact hi
    · exact hU _ (by simpa using h)
  rcases Nat.lt_or_ge e.on listed.size with h' | h'
  · simp [h'] at h2 h3
    rw [h2] at h3
    cases h3
  · simp [Array.getElem?_eq_none h'] at h2

/-- In whatever order the rest comes up; and as long as none of N has, S holds behind each. -/
def anyN (P : Program) (md : Region.Mode) (ops : Array Oper) (Q : Exit → Act → World → Prop) (S : World → Prop) (N : List Nat) : Nat → Array Bool → Act → World → Prop
  | 0, listed, a, w => Region.ready md ops listed = [] ∧ Q .normal a w
  | f + 1, listed, a, w => (Region.ready md ops listed = [] → Q .normal a w) ∧
      ∀ i ∈ Region.ready md ops listed, wpOp P ops Q i (fun a' w' => (bare N (listed.setIfInBounds i true) = true → S w') ∧ anyN P md ops Q S N f (listed.setIfInBounds i true) a' w') a w
theorem anyN_any : ∀ (f : Nat) (listed : Array Bool) (a : Act) (w : World), anyN P md ops Q S N f listed a w → wpAny P md ops Q f listed a w
  | 0, _, _, _, h => h
  | f + 1, _, _, _, h => ⟨h.1, fun i hi => wpOp_mono (fun _ _ k => anyN_any f _ _ _ k.2) (h.2 i hi)⟩

theorem anyN_first {i : Nat} {oi : Oper} {v : Value} {U : List Nat} (hi : ops[i]? = some oi) (hsel : ∀ (j : Nat) (o : Oper) cs b, ops[j]? = some o → o.op ≠ .select cs b)
    (hQ : ∀ c a w, Q (.panic c) (a.put oi.dst v) w → Q (.panic c) a w) (hw : waits md ops i U = true) (hN : ∀ n ∈ N, n ∈ U) (hiN : i ∉ U) :
    ∀ (f : Nat) (listed : Array Bool) (a : Act) (w : World),
      (∀ j oj, ops[j]? = some oj → j ≠ i → listed.getD j true = false → (∀ e ∈ oj.after, Region.binds md e = true → e.on ≠ i) → oi.apart ops oj = true) →
      (∀ u ∈ U, listed.getD u true = false) → i ∈ Region.ready md ops listed → YieldsIf P ops S oi v a → S w →
      anyN P md ops Q S N f (listed.setIfInBounds i true) (a.put oi.dst v) w → anyN P md ops Q S N (f + 1) listed a w := by
  intro f
  induction f with
  | zero =>
    intro listed a w _ _ hr hy hS H
    refine ⟨fun h => (by rw [h] at hr; cases hr), fun j hj => ?_⟩
    by_cases hji : j = i
    · subst hji; exact hy.wpOp hi hS ⟨fun _ => hS, H⟩
    · have h1 := ready_mono hj hji
      rw [H.1] at h1
      cases h1
  | succ f ih =>
    intro listed a w hfree hU hr hy hS H
    refine ⟨fun h => (by rw [h] at hr; cases hr), fun j hj => ?_⟩
    by_cases hji : j = i
    · subst hji; exact hy.wpOp hi hS ⟨fun _ => hS, H⟩
    · have hi0 := (mem_ready.1 hr).1
      have hjU : j ∉ U := not_ready hw hi0 hU hj
      have h1 := H.2 j (ready_mono hj hji)
      obtain ⟨hjun, oj, hoj, hall⟩ := mem_ready.1 hj
      have hno : ∀ e ∈ oj.after, Region.binds md e = true → e.on ≠ i := fun e he hb heq => by
        have q := hall e he hb
        rw [heq] at q
        rcases Nat.lt_or_ge i listed.size with h' | h'
        · simp [h'] at hi0 q
          rw [hi0] at q
          cases q
        · simp [Array.getElem?_eq_none h'] at q
      have h2 := wpOp_putIf hoj (hfree j oj hoj hji hjun hno) (fun cs b => hsel i oi cs b hi) (fun cs b => hsel j oj cs b hoj) hQ hy h1
      have hU' : ∀ u ∈ U, (listed.setIfInBounds j true).getD u true = false := fun u hu => by
        rw [getD_set_ne (i := j) (j := u) true (fun e => hjU (by rw [e]; exact hu))]
        exact hU u hu
      have hB : bare N ((listed.setIfInBounds i true).setIfInBounds j true) = true := bare_of fun n hn => by
        have hnU := hN n hn
        rw [getD_set_ne (i := j) (j := n) true (fun e => hjU (by rw [e]; exact hnU)), getD_set_ne (i := i) (j := n) true (fun e => hiN (by rw [e]; exact hnU))]
        exact hU n hnU
      refine wpOp_mono (fun a' w' h3 => ⟨fun _ => h3.2.1 hB, ih (listed.setIfInBounds j true) a' w' (fun k ok hk hki hun hn => ?_) hU' (ready_mono hr (Ne.symm hji)) h3.1 (h3.2.1 hB) ?_⟩) h2
      · refine hfree k ok hk hki ?_ hn
        by_cases hjk : j = k
        · subst hjk; exact hjun
        · rw [getD_set_ne true hjk] at hun; exact hun
      · rw [Array.setIfInBounds_comm _ _ hji]
        exact h3.2.2

/-- Number i is taken first. -/
theorem anyN_take {i : Nat} {oi : Oper} {v : Value} {f : Nat} {listed : Array Bool} {a : Act} {w : World} (U : List Nat) (hi : ops[i]? = some oi)
    (hs : Region.noSelect ops = true) (hf : Region.free md ops listed i = true) (hr : (Region.ready md ops listed).contains i = true)
    (hU : (waits md ops i U && (N.all fun n => U.contains n) && !U.contains i && bare U listed) = true)
    (hQ : ∀ c a w, Q (.panic c) (a.put oi.dst v) w → Q (.panic c) a w) (hw : Region.wanted oi (yielded ops a.tmps) = true) (hy : ∀ w, S w → (execOp a.eval oi).run P w = .ok (.value v) w) (hS : S w)
    (h : anyN P md ops Q S N f (listed.setIfInBounds i true) (a.put oi.dst v) w) : anyN P md ops Q S N (f + 1) listed a w := by
  simp only [Bool.and_eq_true, Bool.not_eq_true'] at hU
  obtain ⟨⟨⟨h1, h2⟩, h3⟩, h4⟩ := hU
  refine anyN_first hi (Region.noSelect_spec hs) hQ h1 (fun n hn => ?_) (fun hm => ?_) f listed a w (Region.free_spec hi hf) (bare_get h4) (by simpa using hr) (.inl ⟨hw, hy⟩) hS h
  · rw [List.all_eq_true] at h2
    simpa using h2 n hn
  · rw [List.contains_iff_mem.2 hm] at h3
    cases h3
/-- One alone may come up. -/
theorem anyN_one {i : Nat} {o : Oper} {f : Nat} {listed : Array Bool} {a : Act} {w : World} (hr : Region.ready md ops listed = [i]) (ho : ops[i]? = some o)
    (h : ∀ K' : Act → World → Prop, Shut (∀ a w, (bare N (listed.setIfInBounds i true) = true → S w) → anyN P md ops Q S N f (listed.setIfInBounds i true) a w → K' a w) → if Region.wanted o (yielded ops a.tmps) = true then Oper.wp P o a w K' Q else K' (a.put o.dst undef) w) :
    anyN P md ops Q S N (f + 1) listed a w :=
  ⟨fun h0 => (by rw [hr] at h0; cases h0), fun j hj => by
    rw [hr] at hj
    obtain rfl : j = i := by simpa using hj
    exact wpOp_step ho (fun K' hK => h K' (fun a w hS hW => hK a w ⟨hS, hW⟩))⟩
/-- Two may come up. -/
theorem anyN_two {i i' : Nat} {o o' : Oper} {f : Nat} {listed : Array Bool} {a : Act} {w : World} (hr : Region.ready md ops listed = [i, i']) (ho : ops[i]? = some o) (ho' : ops[i']? = some o')
    (h : ∀ K' : Act → World → Prop, Shut (∀ a w, (bare N (listed.setIfInBounds i true) = true → S w) → anyN P md ops Q S N f (listed.setIfInBounds i true) a w → K' a w) → if Region.wanted o (yielded ops a.tmps) = true then Oper.wp P o a w K' Q else K' (a.put o.dst undef) w)
    (h' : ∀ K' : Act → World → Prop, Shut (∀ a w, (bare N (listed.setIfInBounds i' true) = true → S w) → anyN P md ops Q S N f (listed.setIfInBounds i' true) a w → K' a w) → if Region.wanted o' (yielded ops a.tmps) = true then Oper.wp P o' a w K' Q else K' (a.put o'.dst undef) w) :
    anyN P md ops Q S N (f + 1) listed a w :=
  ⟨fun h0 => (by rw [hr] at h0; cases h0), fun j hj => by
    rw [hr] at hj
    simp only [List.mem_cons, List.not_mem_nil, or_false] at hj
    rcases hj with rfl | rfl
    · exact wpOp_step ho (fun K' hK => h K' (fun a w hS hW => hK a w ⟨hS, hW⟩))
    · exact wpOp_step ho' (fun K' hK => h' K' (fun a w hS hW => hK a w ⟨hS, hW⟩))⟩
/-- All have come up. -/
theorem anyN_done {listed : Array Bool} {a : Act} {w : World} (hr : Region.ready md ops listed = []) (h : Q .normal a w) : ∀ f, anyN P md ops Q S N f listed a w
  | 0 => ⟨hr, h⟩
  | _ + 1 => ⟨fun _ => h, by rw [hr]; simp⟩
/-- The beginning. -/
theorem region_anyN (S : World → Prop) (N : List Nat) {id : Nat} {a : Act} {w : World} (hm : P.follows .mixedOrders = true) (hS : S w.drew)
    (h : S w.drew → anyN P .any ops Q S N ops.size (Array.replicate ops.size false) a w.drew) : (Code.region id ops true).wp P Q a w :=
  wp_region_any hm (anyN_any _ _ _ _ (h hS))
end
end Go.Proofs.Ytmgjiipooffggaa
