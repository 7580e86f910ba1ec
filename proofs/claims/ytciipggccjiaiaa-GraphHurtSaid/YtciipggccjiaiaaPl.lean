/- Plain facts on graphs that are hurt. -/
import Derived.Test.YtciipggccjiaiaaPk
namespace Go.Proofs.Ytciipggccjiaiaa
open Go.RowKit Go.Sort
set_option maxRecDepth 100000

theorem ris_app1 {α : Type} {f : α → α → Bool} {x : α} : ∀ {l : List α}, risG f l = true → (∀ y, l.getLast? = some y → f y x = true) → risG f (l ++ [x]) = true
  | [], _, _ => rfl
  | [a], _, h => by simp [risG, h a rfl]
  | a :: b :: l, h, hl => by
    simp only [risG, Bool.and_eq_true] at h
    have := ris_app1 (l := b :: l) h.2 (fun y hy => hl y (by simpa using hy))
    simp only [List.cons_append, risG, Bool.and_eq_true] at this ⊢
    exact ⟨h.1, this⟩
theorem ris_init {α : Type} {f : α → α → Bool} {m : List α} : ∀ {l : List α}, risG f (l ++ m) = true → risG f l = true
  | [], _ => rfl
  | [a], _ => rfl
  | a :: b :: l, h => by
    simp only [List.cons_append, risG, Bool.and_eq_true] at h ⊢
    exact ⟨h.1, ris_init (l := b :: l) h.2⟩
theorem ris_end {α : Type} {f : α → α → Bool} {x y : α} : ∀ {l : List α}, risG f (l ++ [x]) = true → l.getLast? = some y → f y x = true
  | [], _, h => by cases h
  | [a], h, hl => by
    simp at hl
    subst hl
    simpa [risG] using h
  | a :: b :: l, h, hl => by
    simp only [List.cons_append, risG, Bool.and_eq_true] at h
    exact ris_end (l := b :: l) h.2 (by simpa using hl)
theorem idLtV_trans (a b c : TV) (h1 : idLtV a b = true) (h2 : idLtV b c = true) : idLtV a c = true := by
  unfold idLtV at h1 h2 ⊢
  simp at h1 h2 ⊢
  omega
theorem ris_le {y : TV} : ∀ {l : List TV}, risG idLtV l = true → l.getLast? = some y → ∀ t ∈ l, t.id ≤ y.id
  | [], _, h, _, _ => by cases h
  | [a], _, hl, t, ht => by
    simp at hl ht
    subst hl ht
    exact Int.le_refl _
  | a :: b :: l, h, hl, t, ht => by
    have hb := ris_le (l := b :: l) (ris_all idLtV_trans h).1 (by simpa using hl)
    rcases List.mem_cons.1 ht with rfl | ht
    · have h1 := (ris_all idLtV_trans h).2 b (by simp)
      have h2 := hb b (by simp)
      unfold idLtV at h1
      simp at h1
      omega
    · exact hb t ht
theorem okTVs_parts {most : Nat} {ts : List TV} (h : okTVs most ts = true) : ts.length ≤ most ∧ ts.all okTV = true ∧ risG idLtV ts = true := by
  unfold okTVs at h
  simp only [Bool.and_eq_true, decide_eq_true_eq] at h
  exact ⟨h.1, h.2.1, h.2.2⟩
theorem okTVs_mk {most : Nat} {ts : List TV} (h1 : ts.length ≤ most) (h2 : ts.all okTV = true) (h3 : risG idLtV ts = true) : okTVs most ts = true := by
  unfold okTVs
  simp only [Bool.and_eq_true, decide_eq_true_eq]
  exact ⟨h1, h2, h3⟩
theorem okGV_parts {V E : List TV} (h : okGV V E = true) : okTVs 500 V = true ∧ V.any endTV = false ∧ okTVs 2000 E = true ∧ E.any (looseV V) = false := by
  unfold okGV at h
  simpa using h
theorem okGV_mk {V E : List TV} (h1 : okTVs 500 V = true) (h2 : V.any endTV = false) (h3 : okTVs 2000 E = true) (h4 : E.any (looseV V) = false) : okGV V E = true := by
  unfold okGV; rw [h1, h2, h3, h4]; rfl
theorem okGV_no1 {V E : List TV} (h : okTVs 500 V = false) : okGV V E = false := by unfold okGV; rw [h]; rfl
theorem okGV_no4 {V E : List TV} (h : E.any (looseV V) = true) : okGV V E = false := by unfold okGV; rw [h]; simp
theorem hurtA {V E : List TV} {x : TV} (h : okGV V E = true) (hx : V[0]? = some x) : okGV (V ++ [x]) E = false := by
  obtain ⟨h1, _⟩ := okGV_parts h
  obtain ⟨_, _, hr⟩ := okTVs_parts h1
  refine okGV_no1 ?_
  cases e : okTVs 500 (V ++ [x]) with
  | false => rfl
  | true =>
    have hr2 := (okTVs_parts e).2.2
    have hne : V ≠ [] := fun e => by rw [e] at hx; cases hx
    have hl : V.getLast? = some (V.getLast hne) := List.getLast?_eq_some_getLast hne
    have a1 := ris_end hr2 hl
    have a2 := ris_le hr hl x (List.mem_of_getElem? hx)
    unfold idLtV at a1
    simp at a1
    omega
theorem hurtB {V E : List TV} {y z : TV} (h : okGV V E = true) (hy : V.getLast? = some y) (hz : z.o = y.id + 1) : okGV V (E ++ [z]) = false := by
  obtain ⟨h1, _⟩ := okGV_parts h
  obtain ⟨_, _, hr⟩ := okTVs_parts h1
  refine okGV_no4 ?_
  rw [List.any_append]
  have hn : V.any (idBV z.o) = false := by
    cases e : V.any (idBV z.o) with
    | false => rfl
    | true =>
      obtain ⟨t, ht, hi⟩ := List.any_eq_true.1 e
      have := ris_le hr hy t ht
      unfold idBV at hi
      simp at hi
      omega
  simp [looseV, hn]
theorem any_more {V : List TV} {z : TV} {id : Int} (h : V.any (idBV id) = true) : (V ++ [z]).any (idBV id) = true := by rw [List.any_append, h]; rfl
theorem loose_more {V E : List TV} {z : TV} (h : E.any (looseV V) = false) : E.any (looseV (V ++ [z])) = false := by
  cases e : E.any (looseV (V ++ [z])) with
  | false => rfl
  | true =>
    obtain ⟨t, ht, hi⟩ := List.any_eq_true.1 e
    have h1 : looseV V t = false := by
      cases e2 : looseV V t with
      | false => rfl
      | true => rw [List.any_eq_true.2 ⟨t, ht, e2⟩] at h; cases h
    unfold looseV at h1 hi
    simp only [Bool.or_eq_false_iff, Bool.not_eq_false'] at h1
    rw [any_more h1.1, any_more h1.2] at hi
    cases hi
theorem hurtC {V E : List TV} {y z : TV} (h : okGV V E = true) (hlen : V.length ≤ 400) (hy : V.getLast? = some y) (hz : y.id < z.id) (h0 : 0 ≤ z.id) (ho : z.o = 0) (hi : z.i = 0) (hl : z.l = []) : okGV (V ++ [z]) E = nameB z.label := by
  obtain ⟨h1, h2, h3, h4⟩ := okGV_parts h
  obtain ⟨_, ha, hr⟩ := okTVs_parts h1
  have hzz : okTV z = nameB z.label := by
    unfold okTV okPsK
    rw [hl, decide_eq_true h0]
    simp [risG]
  cases e : nameB z.label with
  | true =>
    rw [e] at hzz
    refine okGV_mk (okTVs_mk (by simp; omega) (by rw [List.all_append, ha]; simp [hzz]) (ris_app1 hr fun y' hy' => ?_)) (by rw [List.any_append, h2]; simp [endTV, ho, hi]) h3 (loose_more h4)
    rw [hy] at hy'
    injection hy' with hy'
    subst hy'
    unfold idLtV
    exact decide_eq_true hz
  | false =>
    rw [e] at hzz
    refine okGV_no1 ?_
    unfold okTVs
    rw [List.all_append]
    simp [hzz]
theorem any_take_false {α : Type} {p : α → Bool} {l : List α} (k : Nat) (h : l.any p = false) : (l.take k).any p = false := by
  cases e : (l.take k).any p with
  | false => rfl
  | true =>
    obtain ⟨t, ht, hp⟩ := List.any_eq_true.1 e
    rw [List.any_eq_true.2 ⟨t, List.mem_of_mem_take ht, hp⟩] at h; cases h
theorem hurtD {V E : List TV} (h : okGV V E = true) (k : Nat) : okGV V (E.take k) = true := by
  obtain ⟨h1, h2, h3, h4⟩ := okGV_parts h
  obtain ⟨hl, ha, hr⟩ := okTVs_parts h3
  refine okGV_mk h1 h2 (okTVs_mk (by rw [List.length_take]; omega) (List.all_eq_true.2 fun t ht => List.all_eq_true.1 ha t (List.mem_of_mem_take ht)) ?_) (any_take_false k h4)
  rw [← List.take_append_drop k E] at hr
  exact ris_init hr
theorem hurtE {V E : List TV} {z : TV} (h : okGV V E = true) (hlen : E.length ≤ 1900) (hz : okTV z = true) (hl : ∀ y, E.getLast? = some y → y.id < z.id) (ho : V.any (idBV z.o) = true) (hi : V.any (idBV z.i) = true) : okGV V (E ++ [z]) = true := by
  obtain ⟨h1, h2, h3, h4⟩ := okGV_parts h
  obtain ⟨_, ha, hr⟩ := okTVs_parts h3
  refine okGV_mk h1 h2 (okTVs_mk (by simp; omega) (by rw [List.all_append, ha]; simp [hz]) (ris_app1 hr fun y hy => by unfold idLtV; exact decide_eq_true (hl y hy))) ?_
  rw [List.any_append, h4]
  simp [looseV, ho, hi]
theorem errG_tv {vs es : List TA} {b : Bool} (h : okGV (vs.map TA.tv') (es.map TA.tv') = b) : errG vs es = if b = true then 0 else 50 := by
  unfold errG
  rw [okG_tv, h]
theorem last_at {α : Type} {l : List α} {y : α} (h : l[l.length - 1]? = some y) : l.getLast? = some y := by rw [List.getLast?_eq_getElem?]; exact h
/-- A copy of a graph that may be. -/
theorem copy_ok {g q : GA} (h : okG g.vs g.es = true) (h1 : q.vs.map TA.tv' = g.vs.map TA.ctv) (h2 : q.es.map TA.tv' = g.es.map TA.ctv) : q.vs.map TA.tv' = g.vs.map TA.tv' ∧ q.es.map TA.tv' = g.es.map TA.tv' := by
  rw [okG_tv] at h
  obtain ⟨k1, _, k3, _⟩ := okGV_parts h
  exact ⟨by rw [h1, ctvs_ok (okTVs_parts k1).2.1], by rw [h2, ctvs_ok (okTVs_parts k3).2.1]⟩
end Go.Proofs.Ytciipggccjiaiaa
