/- Stable order of pairs by their keys: plain facts on lists; what insertion sort does. -/
import Derived.Test.YtdolejafihgpmaaM
namespace Go.Proofs.Ytdolejafihgpmaa
open Go.Sort

def cls (z : V) (p : Pr) : Bool := cmpV 12 p.x z == 0
/-- Of each key the same pairs, in the same order. -/
def FEq (l l' : List Pr) : Prop := ∀ z, l'.filter (cls z) = l.filter (cls z)
def Srt (l : List Pr) : Prop := l.Pairwise (fun p q => cmpP p q ≤ 0)

theorem FEq.refl (l : List Pr) : FEq l l := fun _ => rfl
theorem FEq.trans {a b c : List Pr} (h : FEq a b) (k : FEq b c) : FEq a c := fun z => (k z).trans (h z)
theorem FEq.symm {a b : List Pr} (h : FEq a b) : FEq b a := fun z => (h z).symm
theorem FEq.append {a a' b b' : List Pr} (h : FEq a a') (k : FEq b b') : FEq (a ++ b) (a' ++ b') := fun z => by
  rw [List.filter_append, List.filter_append, h z, k z]
theorem cls_self (p : Pr) : cls p.x p = true := by simp [cls, (ord_cmpV 12).refl]
theorem cls_two {z : V} {p q : Pr} (hp : cls z p = true) (hq : cls z q = true) : cmpP p q = 0 := by
  have h1 : cmpV 12 p.x z = 0 := by simpa [cls] using hp
  have h2 : cmpV 12 q.x z = 0 := by simpa [cls] using hq
  have h3 := (ord_cmpV 12).anti q.x z
  unfold cmpP
  rw [(ord_cmpV 12).same_left p.x z q.x h1]
  omega
theorem FEq.mem {l l' : List Pr} (h : FEq l l') (p : Pr) : p ∈ l' ↔ p ∈ l := by
  have := h p.x
  constructor
  · intro hp
    have : p ∈ l'.filter (cls p.x) := List.mem_filter.2 ⟨hp, cls_self p⟩
    rw [h p.x] at this
    exact (List.mem_filter.1 this).1
  · intro hp
    have : p ∈ l.filter (cls p.x) := List.mem_filter.2 ⟨hp, cls_self p⟩
    rw [← h p.x] at this
    exact (List.mem_filter.1 this).1
theorem FEq.comm {X Y : List Pr} (h : ∀ x ∈ X, ∀ y ∈ Y, cmpP y x < 0) : FEq (X ++ Y) (Y ++ X) := fun z => by
  rw [List.filter_append, List.filter_append]
  rcases hx : X.filter (cls z) with _ | ⟨x, r⟩
  · simp
  · rcases hy : Y.filter (cls z) with _ | ⟨y, r'⟩
    · simp
    · have mx : x ∈ X.filter (cls z) := by rw [hx]; simp
      have my : y ∈ Y.filter (cls z) := by rw [hy]; simp
      have := h x (List.mem_filter.1 mx).1 y (List.mem_filter.1 my).1
      have e := cls_two (List.mem_filter.1 my).2 (List.mem_filter.1 mx).2
      omega
theorem FEq.cancel {P M M' S : List Pr} (h : FEq (P ++ M ++ S) (P ++ M' ++ S)) : FEq M M' := fun z => by
  have := h z
  simp only [List.filter_append] at this
  exact List.append_cancel_left (List.append_cancel_right this)
theorem cmpP_refl (p : Pr) : cmpP p p = 0 := (ord_cmpV 12).refl p.x
/-- There is one such order. -/
theorem srt_unique : ∀ (a b : List Pr), Srt a → Srt b → FEq a b → a = b
  | [], [], _, _, _ => rfl
  | [], y :: b, _, _, h => absurd ((h.mem y).1 (by simp)) (by simp)
  | x :: a, [], _, _, h => absurd ((h.mem x).2 (by simp)) (by simp)
  | x :: a, y :: b, ha, hb, h => by
    have ha' := List.pairwise_cons.1 ha
    have hb' := List.pairwise_cons.1 hb
    have h1 : cmpP x y ≤ 0 := by
      rcases List.mem_cons.1 ((h.mem y).1 (by simp)) with rfl | hy
      · rw [cmpP_refl]; omega
      · exact ha'.1 y hy
    have h2 : cmpP y x ≤ 0 := by
      rcases List.mem_cons.1 ((h.mem x).2 (by simp)) with rfl | hx
      · rw [cmpP_refl]; omega
      · exact hb'.1 x hx
    have h3 : cmpP x y = 0 := by have := (ord_cmpV 12).anti x.x y.x; unfold cmpP at *; omega
    have hy : cls y.x x = true := by unfold cmpP at h3; simp [cls, h3]
    have e := h y.x
    rw [List.filter_cons_of_pos (cls_self y), List.filter_cons_of_pos hy] at e
    injection e with e1 _
    subst e1
    rw [srt_unique a b ha'.2 hb'.2 (fun z => by
      have := h z
      by_cases hz : cls z y = true
      · rw [List.filter_cons_of_pos hz, List.filter_cons_of_pos hz] at this
        injection this
      · rw [List.filter_cons_of_neg hz, List.filter_cons_of_neg hz] at this
        exact this)]

theorem getB (d : Array Pr) (i : Nat) (h : i < d.size) : d.toList[i]? = some d[i]! := by
  simp [h]
theorem swp_adj (d : Array Pr) (j : Nat) (hj : j + 1 < d.size) : ∃ P S, d.toList = P ++ [d[j]!, d[j + 1]!] ++ S ∧ (swp d (j + 1) j).toList = P ++ [d[j + 1]!, d[j]!] ++ S := by
  refine ⟨d.toList.take j, d.toList.drop (j + 2), ?_, ?_⟩
  · apply List.ext_getElem?
    intro i
    rcases Nat.lt_or_ge i j with h | h
    · simp [List.getElem?_append, h, Nat.min_eq_left (show j ≤ d.size by omega)]
    · rcases Nat.lt_or_ge i (j + 2) with h2 | h2
      · obtain rfl | rfl : i = j ∨ i = j + 1 := by omega
        · simp [Nat.min_eq_left (show i ≤ d.size by omega), show i < d.size by omega]
        · simp [Nat.min_eq_left (show j ≤ d.size by omega), hj]
      · obtain ⟨k, rfl⟩ : ∃ k, i = j + 2 + k := ⟨i - (j + 2), by omega⟩
        simp [List.getElem?_append, Nat.min_eq_left (show j ≤ d.size by omega), show ¬ j + 2 + k < j by omega, show j + 2 + k - j = k + 2 by omega]
  · apply List.ext_getElem?
    intro i
    have hs : (swp d (j + 1) j).size = d.size := size_swp d _ _
    rcases Nat.lt_or_ge i d.size with hi | hi
    · rw [getB _ _ (by omega), swp_get d hj (by omega)]
      rcases Nat.lt_or_ge i j with h | h
      · rw [if_neg (by omega), if_neg (by omega)]
        simp [List.getElem?_append, h, Nat.min_eq_left (show j ≤ d.size by omega), hi]
      · rcases Nat.lt_or_ge i (j + 2) with h2 | h2
        · obtain rfl | rfl : i = j ∨ i = j + 1 := by omega
          · rw [if_pos rfl]
            simp [Nat.min_eq_left (show i ≤ d.size by omega)]
          · rw [if_neg (by omega), if_pos rfl]
            simp [Nat.min_eq_left (show j ≤ d.size by omega)]
        · rw [if_neg (by omega), if_neg (by omega)]
          obtain ⟨k, rfl⟩ : ∃ k, i = j + 2 + k := ⟨i - (j + 2), by omega⟩
          simp [List.getElem?_append, Nat.min_eq_left (show j ≤ d.size by omega), show ¬ j + 2 + k < j by omega, show j + 2 + k - j = k + 2 by omega, hi]
    · rw [List.getElem?_eq_none (by simpa [hs] using hi), List.getElem?_eq_none (by simp; omega)]
theorem feq_adj (d : Array Pr) (j : Nat) (hj : j + 1 < d.size) (h : cmpP d[j + 1]! d[j]! < 0) : FEq d.toList (swp d (j + 1) j).toList := by
  obtain ⟨P, S, e1, e2⟩ := swp_adj d j hj
  rw [e1, e2]
  refine FEq.append (FEq.append (FEq.refl _) ?_) (FEq.refl _)
  exact FEq.comm (X := [d[j]!]) (Y := [d[j + 1]!]) (fun x hx y hy => by simp at hx hy; subst hx; subst hy; exact h)
theorem feq_inner (a : Nat) : ∀ (j : Nat) (d : Array Pr), j < d.size → FEq d.toList (insInner (ltOf cmpP) a j d).toList
  | 0, d, _ => FEq.refl _
  | j + 1, d, hj => by
    unfold insInner
    split
    · rename_i h
      have h2 : cmpP d[j + 1]! d[j]! < 0 := of_decide_eq_true (Bool.and_eq_true_iff.1 h).2
      exact (feq_adj d j hj h2).trans (feq_inner a j _ (by rw [size_swp]; omega))
    · exact FEq.refl _
theorem size_inner (a : Nat) : ∀ (j : Nat) (d : Array Pr), (insInner (ltOf cmpP) a j d).size = d.size
  | 0, d => rfl
  | j + 1, d => by
    unfold insInner
    split
    · rw [size_inner a j, size_swp]
    · rfl
theorem feq_outer (a b : Nat) (k i : Nat) (hk : b - i ≤ k) (d : Array Pr) (hb : b ≤ d.size) : FEq d.toList (insOuter (ltOf cmpP) a b i d).toList := by
  induction k generalizing i d with
  | zero => rw [insOuter_stop _ _ _ _ _ (by omega)]; exact FEq.refl _
  | succ k ih =>
    by_cases h : i < b
    · rw [insOuter_go _ _ _ _ _ h]
      exact (feq_inner a i d (by omega)).trans (ih (i + 1) (by omega) _ (by rw [size_inner]; exact hb))
    · rw [insOuter_stop _ _ _ _ _ h]; exact FEq.refl _
theorem swo_cmpP : SWO (ltOf cmpP) where
  irrefl x := decide_eq_false (by rw [cmpP_refl]; omega)
  trans x y z h1 h2 := by
    have h1 : cmpV 12 x.x y.x < 0 := of_decide_eq_true h1
    have h2 : cmpV 12 y.x z.x < 0 := of_decide_eq_true h2
    refine decide_eq_true (show cmpV 12 x.x z.x < 0 from ?_)
    have := (ord_cmpV 12).trans x.x y.x z.x (by omega) (by omega)
    have s := (ord_cmpV 12).strict x.x y.x z.x (by omega) (by omega)
    omega
  ntrans x y z h1 h2 := by
    have h1 : ¬ cmpV 12 x.x y.x < 0 := of_decide_eq_false h1
    have h2 : ¬ cmpV 12 y.x z.x < 0 := of_decide_eq_false h2
    refine decide_eq_false (show ¬ cmpV 12 x.x z.x < 0 from ?_)
    have a1 := (ord_cmpV 12).anti x.x y.x
    have a2 := (ord_cmpV 12).anti y.x z.x
    have a3 := (ord_cmpV 12).anti x.x z.x
    have := (ord_cmpV 12).trans z.x y.x x.x (by omega) (by omega)
    omega
/-- A stretch of a row is put into its order, the rest stays. -/
def SortsTo (a b : Nat) (d d' : Array Pr) : Prop :=
  d'.size = d.size ∧ ∃ P M S M', d.toList = P ++ M ++ S ∧ d'.toList = P ++ M' ++ S ∧ P.length = a ∧ M.length = b - a ∧ M'.length = b - a ∧ Srt M' ∧ FEq M M'
theorem seg_of (d : Array Pr) (a b : Nat) (hab : a ≤ b) : d.toList = d.toList.take a ++ (d.toList.take b).drop a ++ d.toList.drop b := by
  have h1 : d.toList.take a = (d.toList.take b).take a := by rw [List.take_take, Nat.min_eq_left hab]
  rw [h1, List.take_append_drop, List.take_append_drop]
theorem insertion_sorts (d : Array Pr) (a b : Nat) (hab : a ≤ b) (hb : b ≤ d.size) : SortsTo a b d (Sort.insertionSort (ltOf cmpP) d a b) := by
  obtain ⟨⟨hs, hout, _⟩, hsort⟩ := insertionSort_holds (lt := ltOf cmpP) swo_cmpP d a b hab hb
  have hf := feq_outer a b (b - (a + 1)) (a + 1) (Nat.le_refl _) d hb
  change FEq d.toList (Sort.insertionSort (ltOf cmpP) d a b).toList at hf
  generalize Sort.insertionSort (ltOf cmpP) d a b = d' at *
  have e1 := seg_of d a b hab
  have e2 := seg_of d' a b hab
  have hp : d'.toList.take a = d.toList.take a := by
    apply List.ext_getElem?
    intro i
    rcases Nat.lt_or_ge i a with h | h
    · rw [List.getElem?_take, List.getElem?_take, if_pos h, if_pos h, getB _ _ (by omega), getB _ _ (by omega), hout i (.inl h)]
    · rw [List.getElem?_take, List.getElem?_take, if_neg (by omega), if_neg (by omega)]
  have hq : d'.toList.drop b = d.toList.drop b := by
    apply List.ext_getElem?
    intro i
    rw [List.getElem?_drop, List.getElem?_drop]
    rcases Nat.lt_or_ge (b + i) d.size with h | h
    · rw [getB _ _ (by omega), getB _ _ (by omega), hout (b + i) (.inr (by omega))]
    · rw [List.getElem?_eq_none (by simpa [hs] using h), List.getElem?_eq_none (by simpa using h)]
  rw [hp, hq] at e2
  refine ⟨hs, _, _, _, _, e1, e2, by simp; omega, by simp; omega, by simp; omega, ?_, ?_⟩
  · unfold Srt
    rw [List.pairwise_iff_getElem]
    intro i j hi hj hij
    simp only [List.length_drop, List.length_take, Array.length_toList] at hi hj
    have := hsort (a + i) (a + j) (by omega) (by omega) (by omega)
    have this : ¬ cmpV 12 (d'[a + j]!).x (d'[a + i]!).x < 0 := of_decide_eq_false this
    have an := (ord_cmpV 12).anti (d'[a + i]!).x (d'[a + j]!).x
    have g1 : ((d'.toList.take b).drop a)[i]'(by simp; omega) = d'[a + i]! := by
      simp [List.getElem_drop, List.getElem_take]; rw [getElem!_pos d' (a + i) (by omega)]
    have g2 : ((d'.toList.take b).drop a)[j]'(by simp; omega) = d'[a + j]! := by
      simp [List.getElem_drop, List.getElem_take]; rw [getElem!_pos d' (a + j) (by omega)]
    rw [g1, g2]
    unfold cmpP
    omega
  · apply FEq.cancel (P := d.toList.take a) (S := d.toList.drop b)
    rw [← e1, ← e2]
    exact hf
end Go.Proofs.Ytdolejafihgpmaa
