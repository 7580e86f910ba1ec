/- Carried over from an earlier seat. -/
import Derived.Test.YtllkimdlmnjoiaaGreatDoorChecked
import Derived.Deep.RegionHeld3
import Derived.Below
import Derived.KernelRfl
namespace Go.Proofs.YtllkimdlmnjoiaaGreatDoor
set_option maxRecDepth 100000
set_option maxRecDepth 100000
set_option maxRecDepth 100000
set_option maxRecDepth 100000
set_option maxRecDepth 100000
open Go.RowKit

/-- Values into temporaries. -/
def putAll (dst : Nat → Tmp) : List Nat → (Nat → Value) → Act → Act
  | [], _, a => a
  | j :: r, v, a => (putAll dst r v a).put (some (dst j)) (v j)
section
variable {dst : Nat → Tmp} {v u : Nat → Value} {a : Act}
theorem put_tmps (a : Act) (d : Tmp) (x : Value) : (a.put (some d) x).tmps = a.tmps.setIfInBounds d x := rfl
theorem putAll_size : ∀ l, (putAll dst l v a).tmps.size = a.tmps.size
  | [] => rfl
  | _ :: r => by
    rw [putAll, put_tmps, Array.size_setIfInBounds]; exact putAll_size r
theorem putAll_filter (q : Nat → Bool) (t : Tmp) : ∀ l, (∀ j ∈ l, q j = false → dst j ≠ t) → (putAll dst l v a).tmps[t]? = (putAll dst (l.filter q) v a).tmps[t]?
  | [], _ => rfl
  | j :: r, h => by
    have ih := putAll_filter q t r (fun k hk => h k (List.mem_cons_of_mem _ hk))
    cases hq : q j with
    | true =>
      rw [List.filter_cons_of_pos hq, putAll, putAll, put_tmps, put_tmps]
      by_cases e : dst j = t
      · subst e
        rw [Array.getElem?_setIfInBounds_self, Array.getElem?_setIfInBounds_self, putAll_size, putAll_size]
      · rw [Array.getElem?_setIfInBounds_ne e, Array.getElem?_setIfInBounds_ne e, ih]
    | false =>
      rw [List.filter_cons_of_neg (by simp [hq]), putAll, put_tmps, Array.getElem?_setIfInBounds_ne (h j (by simp) hq), ih]
theorem putAll_congr : ∀ l, (∀ j ∈ l, v j = u j) → putAll dst l v a = putAll dst l u a
  | [], _ => rfl
  | j :: r, h => by
    rw [putAll, putAll, putAll_congr r (fun k hk => h k (List.mem_cons_of_mem _ hk)), h j (by simp)]
theorem putAll_mid (i : Nat) (l2 : List Nat) : ∀ l1, (∀ j ∈ l1, dst j ≠ dst i) → putAll dst (l1 ++ i :: l2) v a = (putAll dst (l1 ++ l2) v a).put (some (dst i)) (v i)
  | [], _ => rfl
  | j :: r, h => by
    rw [List.cons_append, List.cons_append, putAll, putAll, putAll_mid i l2 r (fun k hk => h k (List.mem_cons_of_mem _ hk))]
    exact Act.put_comm _ _ _ (fun d h1 h2 => h j (by simp) (by
      injection h1 with h1
      injection h2 with h2
      rw [h1, h2]))
theorem put_inj {d : Tmp} {x y : Value} (hd : d < a.tmps.size) (h : a.put (some d) x = a.put (some d) y) : x = y := by
  have h1 : (a.put (some d) x).tmps[d]? = (a.put (some d) y).tmps[d]? := by rw [h]
  rw [put_tmps, put_tmps, Array.getElem?_setIfInBounds_self, Array.getElem?_setIfInBounds_self, if_pos hd, if_pos hd] at h1
  injection h1
end

section
variable {P : Program} {ops : Array Oper} {md : Region.Mode} {Q : Exit → Act → World → Prop}

/-- Which operations have come up, as the model holds it. -/
def mark (n : Nat) (p : Nat → Bool) : Array Bool := ((List.range n).map p).toArray
theorem mark_get (n : Nat) (p : Nat → Bool) (k : Nat) : (mark n p)[k]? = if k < n then some (p k) else none := by
  unfold mark
  rw [List.getElem?_toArray, List.getElem?_map]
  split
  · rename_i h; rw [List.getElem?_range h]; rfl
  · rename_i h; rw [List.getElem?_eq_none (by simpa using h)]; rfl
theorem mark_none (n : Nat) : Array.replicate n false = mark n (fun _ => false) := by
  apply Array.ext_getElem?
  intro k
  rw [mark_get, Array.getElem?_replicate]
theorem mark_set (n : Nat) (p : Nat → Bool) (i : Nat) : (mark n p).setIfInBounds i true = mark n (fun k => k == i || p k) := by
  apply Array.ext_getElem?
  intro k
  rw [mark_get, Array.getElem?_setIfInBounds]
  by_cases e : i = k
  · subst e
    have hs : (mark n p).size = n := by unfold mark; simp
    rw [if_pos rfl, hs]
    simp
  · rw [if_neg e, mark_get]
    have : (k == i) = false := by simpa using fun h => e h.symm
    rw [this, Bool.false_or]
theorem mark_ready {n : Nat} {p : Nat → Bool} (hn : ops.size = n) {i : Nat} : i ∈ Region.ready md ops (mark n p) ↔ p i = false ∧ ∃ o, ops[i]? = some o ∧ ∀ e ∈ o.after, Region.binds md e = true → e.on < n ∧ p e.on = true := by
  rw [mem_ready]
  have hg : ∀ k d, (mark n p).getD k d = if k < n then p k else d := fun k d => by
    rw [Array.getD_eq_getD_getElem?, mark_get]
    split <;> rfl
  constructor
  · rintro ⟨h0, o, ho, hall⟩
    have hi : i < n := by rw [← hn]; exact (Array.getElem?_eq_some_iff.1 ho).1
    rw [hg, if_pos hi] at h0
    refine ⟨h0, o, ho, fun e he hb => ?_⟩
    have h1 := hall e he hb
    rw [hg] at h1
    split at h1
    · rename_i h; exact ⟨h, h1⟩
    · cases h1
  · rintro ⟨h0, o, ho, hall⟩
    have hi : i < n := by rw [← hn]; exact (Array.getElem?_eq_some_iff.1 ho).1
    refine ⟨by rw [hg, if_pos hi]; exact h0, o, ho, fun e he hb => ?_⟩
    obtain ⟨h1, h2⟩ := hall e he hb
    rw [hg, if_pos h1]; exact h2

/-- What one operation owes: in any world, what it looks at given, it yields what is said of it, and leaves all that was there. -/
def Owes (P : Program) (ops : Array Oper) (dst : Nat → Tmp) (a0 : Act) (J : World → Prop) (R : Nat → Value → World → Prop) (D : List Nat) (i : Nat) : Prop :=
  ∀ (v : Nat → Value) (w : World), J w → (∀ j ∈ D, R j (v j) w) → ∀ K' : Act → World → Prop, Shut (∀ x w', Below w.heap.size w w' → R i x w' → K' ((putAll dst D v a0).put (some (dst i)) x) w') →
    ∃ o, ops[i]? = some o ∧ if Region.wanted o (yielded ops (putAll dst D v a0).tmps) = true then Oper.wp P o (putAll dst D v a0) w K' (fun _ _ _ => False) else K' ((putAll dst D v a0).put (some (dst i)) undef) w
def looksB (ops : Array Oper) (o : Oper) (t : Tmp) : Bool := (o.looksAt ops).contains t
def topoB (md : Region.Mode) (ops : Array Oper) : List Nat → List Nat → Bool
  | _, [] => true
  | seen, i :: r => (match ops[i]? with
    | none => false
    | some o => o.after.all fun e => !Region.binds md e || seen.contains e.on) && topoB md ops (i :: seen) r
def stepB (md : Region.Mode) (ops : Array Oper) (S : List Nat) : List Nat :=
  S ++ S.flatMap fun i => match ops[i]? with
    | none => []
    | some o => (o.after.toList.filter (fun e => Region.binds md e)).map (·.on)
def reachB (md : Region.Mode) (ops : Array Oper) : Nat → List Nat → List Nat
  | 0, S => S
  | k + 1, S => reachB md ops k (stepB md ops S).eraseDups
/-- The region's form, as far as the law asks for it. -/
def formB (md : Region.Mode) (ops : Array Oper) (dst : Nat → Tmp) (size : Nat) (M L : List Nat) (D : Nat → List Nat) (k : Nat) : Bool :=
  Region.noSelect ops && topoB md ops [] M && decide M.Nodup && decide (M.Pairwise (fun i j => dst i ≠ dst j)) &&
  (M.all fun i => match ops[i]? with
    | none => false
    | some o => o.dst == some (dst i) && decide (dst i < size) && (D i == M.filter (fun j => looksB ops o (dst j))) && (D i).all (fun j => o.after.any fun e => Region.binds md e && e.on == j)) &&
  ((List.range ops.size).all fun i => M.contains i || match ops[i]? with
    | none => false
    | some o => (o.after.any fun e => Region.binds md e && !M.contains e.on) || (M.all fun m => L.contains m || (reachB md ops k ((o.after.toList.filter (fun e => Region.binds md e)).map (·.on))).contains m))

theorem wp_transfer {o : Oper} {a aD : Act} {w : World} {d : Tmp} {R : Value → World → Prop} {K : Act → World → Prop} (he : execOp a.eval o = execOp aD.eval o) (hd : o.dst = some d) (hs : d < aD.tmps.size)
    (h : Oper.wp P o aD w (fun a' w' => ∃ x, a' = aD.put (some d) x ∧ Below w.heap.size w w' ∧ R x w') (fun _ _ _ => False))
    (hK : ∀ x w', Below w.heap.size w w' → R x w' → K (a.put (some d) x) w') : Oper.wp P o a w K Q := by
  unfold Oper.wp at *
  rw [he]
  generalize (execOp aD.eval o).run P w = r at *
  have one : ∀ y w', (∃ x, aD.put (some d) y = aD.put (some d) x ∧ Below w.heap.size w w' ∧ R x w') → K (a.put (some d) y) w' := fun y w' ⟨x, e, hb, hr⟩ => by
    rw [put_inj hs e]; exact hK x w' hb hr
  cases r with
  | ok n w' =>
    cases n <;> simp only [Oper.upon, hd] at h ⊢
    case value y => exact one y w' h
    case skip => exact one undef w' h
    case defer df =>
      obtain ⟨x, e, _⟩ := h
      have h1 := congrArg (fun z : Act => z.defers.length) e
      simp [Act.put] at h1
    case enter f args =>
      refine Calls.mono h fun e w'' hh => ?_
      cases e with
      | returned y => exact one y w'' hh
      | panicked c => exact hh.elim
      | outgrown => obtain ⟨_, _, hf⟩ := hh; exact hf.elim
    case row row args => exact Rows.mono h fun y w'' hh => one y w'' hh
  | halt x w' =>
    cases x <;> simp only [Oper.upon] at h

theorem filter_mid {M : List Nat} {p : Nat → Bool} {i : Nat} (hnd : M.Nodup) (hi : i ∈ M) (hp : p i = false) :
    ∃ l1 l2, M.filter p = l1 ++ l2 ∧ M.filter (fun k => k == i || p k) = l1 ++ i :: l2 ∧ (∀ j ∈ l1, j ∈ M ∧ j ≠ i) ∧ (M.filter (fun m => !p m)).length = (M.filter (fun m => !(m == i || p m))).length + 1 := by
  obtain ⟨A, B, rfl⟩ := List.append_of_mem hi
  have hd := List.nodup_append.1 hnd
  have hB := List.nodup_cons.1 hd.2.1
  have hA : ∀ j ∈ A, j ≠ i := fun j hj e => hd.2.2 j hj i (by simp) e
  have hB' : ∀ j ∈ B, j ≠ i := fun j hj e => hB.1 (e ▸ hj)
  have fA : A.filter (fun k => k == i || p k) = A.filter p := List.filter_congr fun j hj => by
    have : (j == i) = false := by simpa using hA j hj
    rw [this, Bool.false_or]
  have fB : B.filter (fun k => k == i || p k) = B.filter p := List.filter_congr fun j hj => by
    have : (j == i) = false := by simpa using hB' j hj
    rw [this, Bool.false_or]
  have gA : A.filter (fun k => !(k == i || p k)) = A.filter (fun k => !p k) := List.filter_congr fun j hj => by
    have : (j == i) = false := by simpa using hA j hj
    rw [this, Bool.false_or]
  have gB : B.filter (fun k => !(k == i || p k)) = B.filter (fun k => !p k) := List.filter_congr fun j hj => by
    have : (j == i) = false := by simpa using hB' j hj
    rw [this, Bool.false_or]
  refine ⟨A.filter p, B.filter p, ?_, ?_, fun j hj => ?_, ?_⟩
  · rw [List.filter_append, List.filter_cons_of_neg (by simp [hp])]
  · rw [List.filter_append, List.filter_cons_of_pos (by simp), fA, fB]
  · have := (List.mem_filter.1 hj).1
    exact ⟨by simp [this], hA j this⟩
  · rw [List.filter_append, List.filter_append, List.filter_cons_of_pos (by simp [hp]), List.filter_cons_of_neg (by simp), gA, gB]
    simp; omega

theorem reach_marked {p : Nat → Bool} (dc : ∀ i o, p i = true → ops[i]? = some o → ∀ e ∈ o.after, Region.binds md e = true → p e.on = true) : ∀ k S, (∀ j ∈ S, p j = true) → ∀ j ∈ reachB md ops k S, p j = true
  | 0, _, h => h
  | k + 1, S, h => by
    refine reach_marked dc k _ (fun j hj => ?_)
    rw [List.mem_eraseDups] at hj
    unfold stepB at hj
    rcases List.mem_append.1 hj with hj | hj
    · exact h j hj
    · obtain ⟨i, hi, hj⟩ := List.mem_flatMap.1 hj
      cases ho : ops[i]? with
      | none => rw [ho] at hj; simp at hj
      | some o =>
        rw [ho] at hj
        obtain ⟨e, he, rfl⟩ := List.mem_map.1 hj
        have := List.mem_filter.1 he
        exact dc i o (h i hi) ho e (by simpa using this.1) this.2
theorem topo_next {p : Nat → Bool} {n : Nat} (hn : ops.size = n) : ∀ (M seen : List Nat), topoB md ops seen M = true → (∀ j ∈ seen, j < n ∧ p j = true) → (∀ m ∈ M, p m = true) ∨ ∃ i ∈ M, i ∈ Region.ready md ops (mark n p)
  | [], _, _, _ => .inl (by simp)
  | i :: r, seen, h, hs => by
    rw [topoB, Bool.and_eq_true] at h
    obtain ⟨h1, h2⟩ := h
    cases ho : ops[i]? with
    | none => rw [ho] at h1; cases h1
    | some o =>
      rw [ho] at h1
      have hi : i < n := by rw [← hn]; exact (Array.getElem?_eq_some_iff.1 ho).1
      cases hp : p i with
      | true =>
        rcases topo_next hn r (i :: seen) h2 (fun j hj => by
          rcases List.mem_cons.1 hj with rfl | hj
          · exact ⟨hi, hp⟩
          · exact hs j hj) with h | ⟨j, hj, hr⟩
        · left
          intro m hm
          rcases List.mem_cons.1 hm with rfl | hm
          · exact hp
          · exact h m hm
        · exact .inr ⟨j, List.mem_cons_of_mem _ hj, hr⟩
      | false =>
        right
        refine ⟨i, by simp, (mark_ready hn).2 ⟨hp, o, ho, fun e he hb => ?_⟩⟩
        have := Array.all_eq_true_iff_forall_mem.1 h1 e he
        rw [hb, Bool.not_true, Bool.false_or] at this
        exact hs _ (by simpa using this)

theorem phase_go {dst : Nat → Tmp} {a0 : Act} {J : World → Prop} {R : Nat → Value → World → Prop} {D : Nat → List Nat} {M L : List Nat} {kk f n : Nat} (hn : ops.size = n)
    (hform : formB md ops dst a0.tmps.size M L D kk = true) (hJ : ∀ w w', J w → Below w.heap.size w w' → J w') (hR : ∀ i x w w', R i x w → Below w.heap.size w w' → R i x w')
    (hops : ∀ i ∈ M, Owes P ops dst a0 J R (D i) i)
    (hend : ∀ (p : Nat → Bool) (v : Nat → Value) (w : World), (∀ j, p j = true → j ∈ M) → (∀ m ∈ M, m ∉ L → p m = true) → J w → (∀ j ∈ M, p j = true → R j (v j) w) → wpAny P md ops Q (f + (M.filter (fun m => !p m)).length) (mark n p) (putAll dst (M.filter p) v a0) w) :
    ∀ (c : Nat) (p : Nat → Bool) (v : Nat → Value) (w : World), (M.filter (fun m => !p m)).length = c → (∀ j, p j = true → j ∈ M) → (∀ i o, p i = true → ops[i]? = some o → ∀ e ∈ o.after, Region.binds md e = true → p e.on = true) → J w → (∀ j ∈ M, p j = true → R j (v j) w) →
      wpAny P md ops Q (f + c) (mark n p) (putAll dst (M.filter p) v a0) w := by
  have hF := hform
  simp only [formB, Bool.and_eq_true, decide_eq_true_eq] at hF
  obtain ⟨⟨⟨⟨⟨hsel, htopo⟩, hnd⟩, hdd⟩, hall⟩, hrest⟩ := hF
  intro c
  induction c with
  | zero =>
    intro p v w hc hp dc hj hr
    have h0 : ∀ m ∈ M, p m = true := fun m hm => by
      cases e : p m with
      | true => rfl
      | false =>
        have : m ∈ M.filter (fun m => !p m) := List.mem_filter.2 ⟨hm, by simp [e]⟩
        rw [List.eq_nil_of_length_eq_zero hc] at this
        cases this
    have := hend p v w hp (fun m hm _ => h0 m hm) hj hr
    rw [hc] at this
    exact this
  | succ c ih =>
    intro p v w hc hp dc hj hr
    by_cases hdone : ∀ m ∈ M, m ∉ L → p m = true
    · have := hend p v w hp hdone hj hr
      rw [hc] at this
      exact this
    · refine ⟨fun h0 => ?_, fun i hi => ?_⟩
      · rcases topo_next (p := p) hn M [] htopo (by simp) with h | ⟨i, _, hr⟩
        · exact absurd (fun m hm _ => h m hm) hdone
        · rw [h0] at hr; cases hr
      · obtain ⟨hpi, o, ho, hdep⟩ := (mark_ready hn).1 hi
        have hin : i < n := by rw [← hn]; exact (Array.getElem?_eq_some_iff.1 ho).1
        have hiM : i ∈ M := by
          have h1 := List.all_eq_true.1 hrest i (by rw [hn]; exact List.mem_range.2 hin)
          rw [ho, Bool.or_eq_true] at h1
          rcases h1 with h1 | h1
          · simpa using h1
          · rw [Bool.or_eq_true] at h1
            exfalso
            rcases h1 with h1 | h1
            · obtain ⟨e, he, hb⟩ := Array.any_eq_true'.1 h1
              rw [Bool.and_eq_true] at hb
              have := hp _ (hdep e he hb.1).2
              simp [this] at hb
            · refine hdone (fun m hm hmL => ?_)
              have h2 := List.all_eq_true.1 h1 m hm
              rw [Bool.or_eq_true] at h2
              rcases h2 with h2 | h2
              · exact absurd (by simpa using h2) hmL
              · refine reach_marked dc kk _ (fun j hj => ?_) m (by simpa using h2)
                obtain ⟨e, he, rfl⟩ := List.mem_map.1 hj
                have := List.mem_filter.1 he
                exact (hdep e (by simpa using this.1) this.2).2
        have h1 := List.all_eq_true.1 hall i hiM
        rw [ho] at h1
        simp only [Bool.and_eq_true, decide_eq_true_eq, beq_iff_eq] at h1
        obtain ⟨⟨⟨hdst, hsz⟩, hD⟩, hDe⟩ := h1
        have hDp : ∀ j ∈ D i, j ∈ M ∧ p j = true := fun j hjD => by
          refine ⟨by rw [hD] at hjD; exact (List.mem_filter.1 hjD).1, ?_⟩
          have := List.all_eq_true.1 hDe j hjD
          obtain ⟨e, he, hb⟩ := Array.any_eq_true'.1 this
          rw [Bool.and_eq_true, beq_iff_eq] at hb
          rw [← hb.2]
          exact (hdep e he hb.1).2
        have hfil : (M.filter p).filter (fun j => looksB ops o (dst j)) = D i := by
          rw [List.filter_filter, hD]
          refine List.filter_congr fun j hjM => ?_
          cases hl : looksB ops o (dst j) with
          | false => simp
          | true =>
            have : j ∈ D i := by rw [hD]; exact List.mem_filter.2 ⟨hjM, hl⟩
            simp [(hDp j this).2]
        have hagree : ∀ t ∈ o.looksAt ops, (putAll dst (M.filter p) v a0).tmps[t]? = (putAll dst (D i) v a0).tmps[t]? := fun t ht => by
          rw [← hfil]
          refine putAll_filter _ t _ (fun j _ hq e => ?_)
          unfold looksB at hq
          rw [e, List.contains_iff_mem.2 ht] at hq
          cases hq
        have hex : execOp (putAll dst (M.filter p) v a0).eval o = execOp (putAll dst (D i) v a0).eval o := execOp_congr o (fun cs b => Region.noSelect_spec hsel i o cs b ho) fun x hx => by
          cases x with
          | tmp t =>
            have ht : t ∈ o.looksAt ops := List.mem_append_left _ (List.mem_filterMap.2 ⟨.tmp t, by simpa using hx, rfl⟩)
            simp only [Act.eval]
            rw [Array.getD_eq_getD_getElem?, Array.getD_eq_getD_getElem?, hagree t ht]
          | _ => rfl
        have hwant : Region.wanted o (yielded ops (putAll dst (M.filter p) v a0).tmps) = Region.wanted o (yielded ops (putAll dst (D i) v a0).tmps) := by
          unfold Region.wanted
          cases hg : o.guard with
          | none => rfl
          | some gw =>
            obtain ⟨g, want⟩ := gw
            have hy : yielded ops (putAll dst (M.filter p) v a0).tmps g = yielded ops (putAll dst (D i) v a0).tmps g := by
              unfold yielded
              cases ht : (ops[g]?).bind (·.dst) with
              | none => rfl
              | some t =>
                have htl : t ∈ o.looksAt ops := List.mem_append_right _ (by simp [hg, ht])
                simp only [Option.bind_some]
                rw [hagree t htl]
            simp only [hy]
        have hsD : dst i < (putAll dst (D i) v a0).tmps.size := by rw [putAll_size]; exact hsz
        obtain ⟨o', ho', hrun⟩ := hops i hiM v w hj (fun j hjD => hr j (hDp j hjD).1 (hDp j hjD).2) (fun a' w' => ∃ x, a' = (putAll dst (D i) v a0).put (some (dst i)) x ∧ Below w.heap.size w w' ∧ R i x w') (fun x w' hb hr => ⟨x, rfl, hb, hr⟩)
        rw [ho] at ho'
        injection ho' with ho'
        subst ho'
        obtain ⟨l1, l2, e1, e2, hl1, hlen⟩ := filter_mid hnd hiM hpi
        have hK : ∀ x w', Below w.heap.size w w' → R i x w' → wpAny P md ops Q (f + c) ((mark n p).setIfInBounds i true) ((putAll dst (M.filter p) v a0).put (some (dst i)) x) w' := fun x w' hb hx => by
          have hv : ∀ j, j ≠ i → (fun j => if j = i then x else v j) j = v j := fun j hj => if_neg hj
          have ea : (putAll dst (M.filter p) v a0).put (some (dst i)) x = putAll dst (M.filter (fun k => k == i || p k)) (fun j => if j = i then x else v j) a0 := by
            rw [e2, putAll_mid i l2 l1 (fun j hj e => by
              obtain ⟨hjM, hji⟩ := hl1 j hj
              obtain ⟨A, B, rfl⟩ := List.append_of_mem hjM
              rcases List.mem_append.1 hiM with h | h
              · exact (List.pairwise_append.1 hdd).2.2 i h j (by simp) e.symm
              · rcases List.mem_cons.1 h with h | h
                · exact hji h.symm
                · exact (List.pairwise_cons.1 (List.pairwise_append.1 hdd).2.1).1 i h e)]
            rw [e1]
            have hi12 : ∀ j ∈ l1 ++ l2, j ≠ i := fun j hj e => by
              rw [← e1] at hj
              have := (List.mem_filter.1 hj).2
              rw [e, hpi] at this
              cases this
            rw [putAll_congr (v := v) (u := fun j => if j = i then x else v j) (l1 ++ l2) (fun j hj => (hv j (hi12 j hj)).symm), if_pos rfl]
          rw [mark_set, ea]
          refine ih _ _ w' ?_ (fun j hj' => ?_) (fun j oj hj' hoj e he hb' => ?_) (hJ _ _ hj hb) (fun j hjM hj' => ?_)
          · omega
          · rw [Bool.or_eq_true, beq_iff_eq] at hj'
            rcases hj' with rfl | h
            · exact hiM
            · exact hp j h
          · rw [Bool.or_eq_true, beq_iff_eq] at hj' ⊢
            right
            rcases hj' with rfl | h
            · rw [ho] at hoj
              injection hoj with hoj
              subst hoj
              exact (hdep e he hb').2
            · exact dc j oj h hoj e he hb'
          · by_cases e : j = i
            · subst e
              rw [if_pos rfl]; exact hx
            · rw [if_neg e]
              have hpj : p j = true := by
                rw [Bool.or_eq_true, beq_iff_eq] at hj'
                exact hj'.resolve_left e
              exact hR _ _ _ _ (hr j hjM hpj) hb
        show wpOp P ops Q i _ _ w
        unfold wpOp
        rw [ho]
        show if _ then _ else _
        rw [hwant]
        split
        · rename_i hw
          rw [if_pos hw] at hrun
          exact .inl (wp_transfer hex hdst hsD hrun hK)
        · rename_i hw
          rw [if_neg hw] at hrun
          obtain ⟨x, e, hb, hx⟩ := hrun
          rw [hdst, put_inj hsD e]
          exact hK x w hb hx

theorem Owes.mk {dst : Nat → Tmp} {a0 : Act} {J : World → Prop} {R : Nat → Value → World → Prop} {D : List Nat} {i : Nat} {o : Oper} (ho : ops[i]? = some o)
    (h : ∀ (v : Nat → Value) (w : World), J w → (∀ j ∈ D, R j (v j) w) → ∀ K' : Act → World → Prop, Shut (∀ x w', Below w.heap.size w w' → R i x w' → K' ((putAll dst D v a0).put (some (dst i)) x) w') →
      if Region.wanted o (yielded ops (putAll dst D v a0).tmps) = true then Oper.wp P o (putAll dst D v a0) w K' (fun _ _ _ => False) else K' ((putAll dst D v a0).put (some (dst i)) undef) w) : Owes P ops dst a0 J R D i :=
  fun v w hj hD K' hK => ⟨o, ho, h v w hj hD K' hK⟩

/-- **The beginning**: the operations M by themselves; then, all but those of L being through, the rest. -/
theorem region_phase {id : Nat} {a0 : Act} {w : World} (M L : List Nat) (dst : Nat → Tmp) (D : Nat → List Nat) (kk : Nat) (J : World → Prop) (R : Nat → Value → World → Prop) (sz : Nat) (hsz : a0.tmps.size = sz) (hm : P.follows .mixedOrders = true)
    (hform : formB .any ops dst sz M L D kk = true) (hJ : ∀ w w', J w → Below w.heap.size w w' → J w') (hR : ∀ i x w w', R i x w → Below w.heap.size w w' → R i x w') (h0 : J w.drew)
    (hlen : ops.size = (ops.size - M.length) + M.length)
    (hops : ∀ i ∈ M, Owes P ops dst a0 J R (D i) i)
    (hend : ∀ (p : Nat → Bool) (v : Nat → Value) (w : World), (∀ j, p j = true → j ∈ M) → (∀ m ∈ M, m ∉ L → p m = true) → J w → (∀ j ∈ M, p j = true → R j (v j) w) → wpAny P .any ops Q (ops.size - M.length + (M.filter (fun m => !p m)).length) (mark ops.size p) (putAll dst (M.filter p) v a0) w) : (Code.region id ops true).wp P Q a0 w := by
  refine wp_region_any hm ?_
  subst hsz
  have := phase_go (f := ops.size - M.length) rfl hform hJ hR hops hend M.length (fun _ => false) (fun _ => undef) w.drew (by rw [List.filter_eq_self.2 (by simp)]) (by simp) (by simp) h0 (by simp)
  rw [← hlen, ← mark_none] at this
  have e : M.filter (fun _ => false) = [] := by simp
  rw [e] at this
  exact this
/-- What is said of each operation, in a list. -/
def saidOf (l : List (Value → World → Prop)) (i : Nat) : Value → World → Prop := l.getD i (fun _ _ => True)
def Stays (r : Value → World → Prop) : Prop := ∀ x w w', r x w → Below w.heap.size w w' → r x w'
theorem stays_said : ∀ (l : List (Value → World → Prop)), (∀ r ∈ l, Stays r) → ∀ i x w w', saidOf l i x w → Below w.heap.size w w' → saidOf l i x w'
  | [], _, _, _, _, _, _, _ => trivial
  | r :: l, h, 0, x, w, w', h1, hb => h r (by simp) x w w' h1 hb
  | r :: l, h, i + 1, x, w, w', h1, hb => stays_said l (fun r hr => h r (List.mem_cons_of_mem _ hr)) i x w w' h1 hb
theorem stays_nil : ∀ r ∈ ([] : List (Value → World → Prop)), Stays r := by simp
theorem stays_cons {r : Value → World → Prop} {l : List (Value → World → Prop)} (h : Stays r) (hl : ∀ r ∈ l, Stays r) : ∀ r' ∈ r :: l, Stays r' := fun r' hr => by
  rcases List.mem_cons.1 hr with rfl | hr
  · exact h
  · exact hl r' hr
/-- It yields just this. -/
def Is (c : Value) : Value → World → Prop := fun x _ => x = c
theorem Is.stays (c : Value) : Stays (Is c) := fun _ _ _ h _ => h
theorem owes_nil {dst : Nat → Tmp} {a0 : Act} {J : World → Prop} {R : Nat → Value → World → Prop} {D : Nat → List Nat} : ∀ i ∈ ([] : List Nat), Owes P ops dst a0 J R (D i) i := by simp
theorem owes_cons {dst : Nat → Tmp} {a0 : Act} {J : World → Prop} {R : Nat → Value → World → Prop} {D : Nat → List Nat} {i : Nat} {r : List Nat} (h : Owes P ops dst a0 J R (D i) i) (hr : ∀ i ∈ r, Owes P ops dst a0 J R (D i) i) : ∀ j ∈ i :: r, Owes P ops dst a0 J R (D j) j := fun j hj => by
  rcases List.mem_cons.1 hj with rfl | hj
  · exact h
  · exact hr j hj
/-- All of them: nothing is left. -/
theorem marks_all {M : List Nat} {p : Nat → Bool} (h1 : ∀ j, p j = true → j ∈ M) (h2 : ∀ m ∈ M, p m = true) : p = fun k => M.contains k := by
  funext k
  cases e : p k with
  | true => exact (List.contains_iff_mem.2 (h1 k e)).symm
  | false =>
    cases h : M.contains k with
    | false => rfl
    | true => rw [h2 k (List.contains_iff_mem.1 h)] at e; cases e
/-- All operations by themselves. -/
theorem region_phase_all {id : Nat} {a0 : Act} {w : World} (M : List Nat) (dst : Nat → Tmp) (D : Nat → List Nat) (J : World → Prop) (R : Nat → Value → World → Prop) (sz : Nat) (hsz : a0.tmps.size = sz) (hm : P.follows .mixedOrders = true)
    (hform : formB .any ops dst sz M [] D 0 = true) (hready : Region.ready .any ops (mark ops.size fun k => M.contains k) = []) (hJ : ∀ w w', J w → Below w.heap.size w w' → J w') (hR : ∀ i x w w', R i x w → Below w.heap.size w w' → R i x w') (h0 : J w.drew)
    (hlen : ops.size = (ops.size - M.length) + M.length)
    (hops : ∀ i ∈ M, Owes P ops dst a0 J R (D i) i)
    (hend : ∀ (v : Nat → Value) (w : World), J w → (∀ j ∈ M, R j (v j) w) → Q .normal (putAll dst M v a0) w) : (Code.region id ops true).wp P Q a0 w :=
  region_phase M [] dst D 0 J R sz hsz hm hform hJ hR h0 hlen hops fun p v w h1 h2 hj hr => by
    obtain rfl := marks_all h1 (fun m hm => h2 m hm (by simp))
    refine wpAny_done hready ?_ _
    rw [List.filter_eq_self.2 (fun m hm => List.contains_iff_mem.2 hm)]
    exact hend v w hj (fun j hj => hr j hj (List.contains_iff_mem.2 hj))
end
end Go.Proofs.YtllkimdlmnjoiaaGreatDoor






