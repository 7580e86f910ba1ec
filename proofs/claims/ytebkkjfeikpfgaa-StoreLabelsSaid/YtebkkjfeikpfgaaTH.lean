/- Labels, plain: what has one of them; each label once. -/
import Derived.Test.YtebkkjfeikpfgaaSO
namespace Go.Proofs.Ytebkkjfeikpfgaa
open Go.RowKit Go.Sort
set_option maxRecDepth 100000
attribute [local go_sem ↓] Go.wp_at_zero Go.wp_at_succ

def hasL (ls : List ByteArray) (b : ByteArray) : Bool := ls.any fun s => s.toList == b.toList
theorem fit_has (ls : List ByteArray) (b : ByteArray) : fitL ls b = hasL ls b := by
  unfold fitL hasL
  simp only [ByteArray.toList_eq]
theorem has_next {ls : List ByteArray} {k : Nat} {s : ByteArray} (h : ls[k]? = some s) (b : ByteArray) : hasL (ls.take (k + 1)) b = (hasL (ls.take k) b || s.toList == b.toList) := by
  unfold hasL
  rw [List.take_add_one, h, List.any_append]
  simp
theorem filter_at {α : Type} (p : α → Bool) : ∀ (l : List α) (k : Nat) (x : α), l[k]? = some x → p x = true → (l.filter p)[((l.take k).filter p).length]? = some x
  | [], _, _, h, _ => by simp at h
  | y :: r, 0, x, h, hp => by
    simp at h
    subst h
    simp [hp]
  | y :: r, k + 1, x, h, hp => by
    have ih := filter_at p r k x (by simpa using h) hp
    rw [List.take_succ_cons, List.filter_cons, List.filter_cons]
    cases p y <;> simpa using ih
theorem filter_step {α : Type} (p : α → Bool) {l : List α} {k : Nat} {x : α} (h : l[k]? = some x) : ((l.take (k + 1)).filter p).length = ((l.take k).filter p).length + (if p x = true then 1 else 0) := by
  rw [List.take_add_one, h, List.filter_append, List.length_append]
  cases e : p x <;> simp [e]
theorem filter_parts {α : Type} (p q : α → Bool) (hd : ∀ x, p x = true → q x = true → False) : ∀ l : List α, (l.filter fun x => p x || q x).length = (l.filter p).length + (l.filter q).length
  | [] => rfl
  | y :: r => by
    have ih := filter_parts p q hd r
    rw [List.filter_cons, List.filter_cons, List.filter_cons]
    cases h1 : p y <;> cases h2 : q y
    · simpa using ih
    · simp; omega
    · simp; omega
    · exact absurd h2 (fun e => hd y h1 e)
theorem lab_step {base : List SP} {ls : List ByteArray} {k : Nat} {s0 : ByteArray} (h : ls[k]? = some s0) :
    (base.filter fun s => hasL (ls.take (k + 1)) s.l).length = (base.filter fun s => hasL (ls.take k) s.l).length + (if hasL (ls.take k) s0 = true then 0 else (base.filter fun s => s0.toList == s.l.toList).length) := by
  have e : (fun s : SP => hasL (ls.take (k + 1)) s.l) = fun s => hasL (ls.take k) s.l || s0.toList == s.l.toList := funext fun s => has_next h s.l
  rw [e]
  cases h0 : hasL (ls.take k) s0
  · rw [if_neg (by simp)]
    refine filter_parts _ _ (fun s h1 h2 => ?_) base
    have h3 := beq_iff_eq.1 h2
    unfold hasL at h0 h1
    rw [← h3] at h1
    rw [h0] at h1
    cases h1
  · rw [if_pos rfl]
    congr 2
    funext s
    cases h2 : s0.toList == s.l.toList
    · simp
    · have h3 := beq_iff_eq.1 h2
      unfold hasL at h0 ⊢
      rw [← h3, h0]; rfl
theorem mem_spk {es : List TV} {v way : Int} {s : SP} (h : s ∈ spk es v way) : ∃ t ∈ es, t.id = s.e ∧ t.label = s.l := by
  unfold spk at h
  split at h
  · obtain ⟨t, ht, rfl⟩ := List.mem_map.1 h
    exact ⟨t, (List.mem_filter.1 ht).1, rfl, rfl⟩
  · split at h
    · obtain ⟨t, ht, rfl⟩ := List.mem_map.1 h
      exact ⟨t, (List.mem_filter.1 ht).1, rfl, rfl⟩
    · cases h
theorem mem_base {es : List TV} {v way : Int} {s : SP} (h : s ∈ baseS (spk es) v way) : ∃ t ∈ es, t.id = s.e ∧ t.label = s.l := by
  unfold baseS at h
  split at h
  · rcases List.mem_append.1 h with h | h
    · exact mem_spk h
    · exact mem_spk h
  · exact mem_spk h
theorem ris_one {es : List TA} (hr : Ris es) {t u : TA} (ht : t ∈ es) (hu : u ∈ es) (h : t.id = u.id) : t = u := by
  obtain ⟨i, hi⟩ := List.getElem?_of_mem ht
  obtain ⟨j, hj⟩ := List.getElem?_of_mem hu
  rcases Nat.lt_trichotomy i j with h1 | h1 | h1
  · have := hr i j t u h1 hi hj; omega
  · subst h1
    rw [hi] at hj
    injection hj
  · have := hr j i u t h1 hj hi; omega
theorem at_spoke {es : List TA} (hr : Ris es) {v way : Int} {s : SP} (h : s ∈ baseS (spk (es.map TA.tv')) v way) : ∃ q : TV, atV es s.e = (q, true) ∧ q.label = s.l := by
  obtain ⟨t, ht, e1, e2⟩ := mem_base h
  obtain ⟨u, hu, rfl⟩ := List.mem_map.1 ht
  have hx : (es.find? (idB s.e)).isSome := List.find?_isSome.2 ⟨u, hu, by unfold idB; exact beq_iff_eq.2 e1⟩
  obtain ⟨y, hy⟩ := Option.isSome_iff_exists.1 hx
  have hi := List.find?_some hy
  have hm := List.mem_of_find?_eq_some hy
  have : y = u := ris_one hr hm hu (by unfold idB at hi; rw [beq_iff_eq.1 hi]; exact e1.symm)
  subst this
  exact ⟨y.ctv, by unfold atV; rw [hy], e2⟩
end Go.Proofs.Ytebkkjfeikpfgaa
