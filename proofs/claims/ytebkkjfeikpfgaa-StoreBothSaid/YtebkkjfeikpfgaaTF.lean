/- Sums over the ends of edges: each edge is around two vertices. -/
import Derived.Test.YtebkkjfeikpfgaaSO
namespace Go.Proofs.Ytebkkjfeikpfgaa
open Go.RowKit Go.Sort
set_option maxRecDepth 100000
attribute [local go_sem ↓] Go.wp_at_zero Go.wp_at_succ

def cntI (l : List Int) (x : Int) : Nat := (l.filter (· == x)).length
theorem cnt_cons (y : Int) (r : List Int) (x : Int) : cntI (y :: r) x = (if y == x then 1 else 0) + cntI r x := by
  unfold cntI
  rw [List.filter_cons]
  cases h : y == x <;> simp <;> omega
theorem cnt_no {l : List Int} {x : Int} (h : x ∉ l) : cntI l x = 0 := by
  unfold cntI
  rw [List.length_eq_zero_iff, List.filter_eq_nil_iff]
  intro y hy e
  exact h (by rwa [← beq_iff_eq.1 e])
theorem cnt_one : ∀ {l : List Int} {x : Int}, l.Nodup → x ∈ l → cntI l x = 1
  | [], _, _, h => by cases h
  | y :: r, x, hn, h => by
    rw [List.nodup_cons] at hn
    rw [cnt_cons]
    by_cases e : y = x
    · subst e
      rw [cnt_no hn.1]; simp
    · rw [if_neg (by simpa using e), cnt_one hn.2 (by
        rcases List.mem_cons.1 h with h | h
        · exact absurd h.symm e
        · exact h)]
theorem cnt_le (l : List Int) (x : Int) : cntI l x ≤ l.length := List.length_filter_le _ _
theorem cnt_next {l : List Int} {k : Nat} {y : Int} (h : l[k]? = some y) (x : Int) : cntI (l.take (k + 1)) x = cntI (l.take k) x + (if y == x then 1 else 0) := by
  unfold cntI
  rw [List.take_add_one, h, List.filter_append, List.length_append]
  cases e : y == x <;> simp [e]
theorem ids_nodup : ∀ (l : List TV), risG idLtV l = true → (l.map TV.id).Nodup
  | [], _ => List.nodup_nil
  | x :: r, h => by
    rw [List.map_cons, List.nodup_cons]
    refine ⟨fun hm => ?_, ids_nodup r (risG_tail h)⟩
    obtain ⟨t, ht, e⟩ := List.mem_map.1 hm
    have := risG_head r x h t ht
    omega
def sumN (f : Int → Nat) : List Int → Nat
  | [] => 0
  | x :: r => f x + sumN f r
theorem sumN_add (f h : Int → Nat) : ∀ l : List Int, sumN (fun v => f v + h v) l = sumN f l + sumN h l
  | [] => rfl
  | x :: r => by
    show f x + h x + sumN (fun v => f v + h v) r = f x + sumN f r + (h x + sumN h r)
    rw [sumN_add f h r]; omega
theorem sumN_app (f : Int → Nat) : ∀ a b : List Int, sumN f (a ++ b) = sumN f a + sumN f b
  | [], b => by simp [sumN]
  | x :: r, b => by
    show f x + sumN f (r ++ b) = f x + sumN f r + sumN f b
    rw [sumN_app f r b]; omega
theorem sumN_ind (o : Int) : ∀ l : List Int, sumN (fun v => if o == v then 1 else 0) l = cntI l o
  | [] => rfl
  | x :: r => by
    show (if o == x then 1 else 0) + sumN (fun v => if o == v then 1 else 0) r = _
    rw [sumN_ind o r, cnt_cons]
    have : (o == x) = (x == o) := by rw [Bool.eq_iff_iff, beq_iff_eq, beq_iff_eq]; exact eq_comm
    rw [this]
theorem sumN_zero : ∀ l : List Int, sumN (fun _ => 0) l = 0
  | [] => rfl
  | x :: r => by
    show 0 + sumN (fun _ => 0) r = 0
    rw [sumN_zero r]
theorem sumN_ends (ids : List Int) (p : TV → Int) : ∀ E : List TV, (∀ t ∈ E, cntI ids (p t) = 1) → sumN (fun v => (E.filter fun t => p t == v).length) ids = E.length
  | [], _ => sumN_zero ids
  | t :: E, h => by
    have e : (fun v => ((t :: E).filter fun t => p t == v).length) = fun v => (if p t == v then 1 else 0) + (E.filter fun t => p t == v).length := by
      funext v
      rw [List.filter_cons]
      cases p t == v <;> simp <;> omega
    rw [e, sumN_add, sumN_ind, h t List.mem_cons_self, sumN_ends ids p E (fun u hu => h u (List.mem_cons_of_mem _ hu))]
    simp; omega
/-- How much is around a vertex. -/
def deg (E : List TV) (v : Int) : Nat := (E.filter fun t => t.o == v).length + (E.filter fun t => t.i == v).length
theorem deg_e (E : List TV) (v : Int) : ((spk E v 1 ++ spk E v 2).map fun s => s.e).length = deg E v := by
  unfold spk deg; simp
theorem deg_o (E : List TV) (v : Int) : ((spk E v 1 ++ spk E v 2).map fun s => s.o).length = deg E v := by
  unfold spk deg; simp
theorem any_mem {V : List TV} {x : Int} (h : V.any (idBV x) = true) : x ∈ V.map TV.id := by
  obtain ⟨t, ht, e⟩ := List.any_eq_true.1 h
  unfold idBV at e
  exact List.mem_map.2 ⟨t, ht, beq_iff_eq.1 e⟩
theorem deg_all {V E : List TV} (h : okGV V E = true) : sumN (deg E) (V.map TV.id) = 2 * E.length := by
  obtain ⟨h1, _, _, h4⟩ := okGV_parts h
  have hn := ids_nodup V (okTVs_parts h1).2.2
  have hl : ∀ t ∈ E, V.any (idBV t.o) = true ∧ V.any (idBV t.i) = true := fun t ht => by
    have := List.any_eq_false.1 h4 t ht
    unfold looseV at this
    cases e1 : V.any (idBV t.o) <;> cases e2 : V.any (idBV t.i) <;> simp [e1, e2] at this ⊢
  have e : deg E = fun v => (E.filter fun t => t.o == v).length + (E.filter fun t => t.i == v).length := rfl
  rw [e, sumN_add, sumN_ends _ TV.o E (fun t ht => cnt_one hn (any_mem (hl t ht).1)), sumN_ends _ TV.i E (fun t ht => cnt_one hn (any_mem (hl t ht).2))]
  omega
theorem once_o {E : List TV} (h : risG idLtV E = true) {t : TV} (ht : t ∈ E) : cntI ((spk E t.o 1).map fun s => s.e) t.id = 1 := by
  have e : ((spk E t.o 1).map fun s => s.e) = (E.filter fun u => u.o == t.o).map TV.id := by
    unfold spk; rw [if_pos rfl, List.map_map]; rfl
  rw [e]
  exact cnt_one ((ids_nodup E h).sublist (List.Sublist.map _ List.filter_sublist)) (List.mem_map.2 ⟨t, List.mem_filter.2 ⟨ht, beq_self_eq_true _⟩, rfl⟩)
theorem once_i {E : List TV} (h : risG idLtV E = true) {t : TV} (ht : t ∈ E) : cntI ((spk E t.i 2).map fun s => s.e) t.id = 1 := by
  have e : ((spk E t.i 2).map fun s => s.e) = (E.filter fun u => u.i == t.i).map TV.id := by
    unfold spk; rw [if_neg (by decide), if_pos rfl, List.map_map]; rfl
  rw [e]
  exact cnt_one ((ids_nodup E h).sublist (List.Sublist.map _ List.filter_sublist)) (List.mem_map.2 ⟨t, List.mem_filter.2 ⟨ht, beq_self_eq_true _⟩, rfl⟩)
end Go.Proofs.Ytebkkjfeikpfgaa
