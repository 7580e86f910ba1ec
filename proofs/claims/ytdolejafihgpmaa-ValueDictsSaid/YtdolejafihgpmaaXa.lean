/- Rotation, binary search, the symmetric merge, and rows in blocks: plain facts on arrays in one order. -/
import Derived.Test.YtdolejafihgpmaaA
import Derived.Sort.Lot0
import Derived.Sort.LotA
import Derived.Test.YtdolejafihgpmaaP
import Derived.Laws.IdiomCopy
namespace Go.Proofs.Ytdolejafihgpmaa
open Go.Sort
variable {α : Type} [Inhabited α]

theorem idx (d : Array α) {u v : Nat} (h : u = v) : d[u]! = d[v]! := by rw [h]
/-- The first k of two stretches have changed places. -/
def swpR (ps : Array α) (a b : Nat) : Nat → Array α
  | 0 => ps
  | k + 1 => swp (swpR ps a b k) (a + k) (b + k)
theorem swpR_size (ps : Array α) (a b : Nat) : ∀ k, (swpR ps a b k).size = ps.size
  | 0 => rfl
  | k + 1 => by rw [swpR, size_swp]; exact swpR_size ps a b k
/-- What stands where, behind it. -/
theorem swpR_get (ps : Array α) (a b : Nat) : ∀ k, a + k ≤ b → b + k ≤ ps.size → ∀ j, (swpR ps a b k)[j]! = if a ≤ j ∧ j < a + k then ps[b + (j - a)]! else if b ≤ j ∧ j < b + k then ps[a + (j - b)]! else ps[j]!
  | 0, _, _, j => by rw [swpR, if_neg (by omega), if_neg (by omega)]
  | k + 1, h1, h2, j => by
    have ih := swpR_get ps a b k (by omega) (by omega)
    have hs := swpR_size ps a b k
    rw [swpR, swp_get _ (by omega) (by omega)]
    by_cases e2 : j = b + k
    · subst e2
      rw [if_pos rfl, ih, if_neg (by omega), if_neg (by omega), if_neg (by omega), if_pos (by omega)]
      exact idx ps (by omega)
    · by_cases e1 : j = a + k
      · subst e1
        rw [if_neg e2, if_pos rfl, ih, if_neg (by omega), if_neg (by omega), if_pos (by omega)]
        exact idx ps (by omega)
      · rw [if_neg e2, if_neg e1, ih]
        repeat' split
        all_goals first | rfl | (exfalso; omega)

/-- Two stretches side by side have changed places as wholes. -/
structure Rot (d : Array α) (a m b : Nat) (d' : Array α) : Prop where
  sz : d'.size = d.size
  lo : ∀ x, a ≤ x → x < a + (b - m) → d'[x]! = d[x + (m - a)]!
  hi : ∀ x, a + (b - m) ≤ x → x < b → d'[x]! = d[x - (b - m)]!
  out : ∀ x, x < a ∨ b ≤ x → d'[x]! = d[x]!

theorem rot_even (d : Array α) (i m : Nat) (hi : i ≤ m) (hm : m + i ≤ d.size) : Rot d (m - i) m (m + i) (swpR d (m - i) m i) := by
  have G := swpR_get d (m - i) m i (by omega) (by omega)
  refine ⟨swpR_size _ _ _ _, fun x h1 h2 => ?_, fun x h1 h2 => ?_, fun x h => ?_⟩
  · rw [G, if_pos (by omega)]; exact idx d (by omega)
  · rw [G, if_neg (by omega), if_pos (by omega)]; exact idx d (by omega)
  · rw [G, if_neg (by omega), if_neg (by omega)]
theorem rot_more {d d' : Array α} {i j m : Nat} (hji : j < i) (hi : i ≤ m) (hm : m + j ≤ d.size) (h : Rot (swpR d (m - i) m j) (m - (i - j)) m (m + j) d') : Rot d (m - i) m (m + j) d' := by
  have G := swpR_get d (m - i) m j (by omega) (by omega)
  refine ⟨h.sz.trans (swpR_size _ _ _ _), fun x h1 h2 => ?_, fun x h1 h2 => ?_, fun x hx => ?_⟩
  · rw [h.out x (.inl (by omega)), G, if_pos (by omega)]; exact idx d (by omega)
  · by_cases hx : x < m - (i - j) + (m + j - m)
    · rw [h.lo x (by omega) hx, G, if_neg (by omega), if_pos (by omega)]; exact idx d (by omega)
    · rw [h.hi x (by omega) (by omega), G, if_neg (by omega), if_neg (by omega)]
  · rw [h.out x (by omega), G, if_neg (by omega), if_neg (by omega)]
theorem rot_less {d d' : Array α} {i j m : Nat} (hij : i < j) (hi : i ≤ m) (hm : m + j ≤ d.size) (h : Rot (swpR d (m - i) (m + j - i) i) (m - i) m (m + (j - i)) d') : Rot d (m - i) m (m + j) d' := by
  have G := swpR_get d (m - i) (m + j - i) i (by omega) (by omega)
  refine ⟨h.sz.trans (swpR_size _ _ _ _), fun x h1 h2 => ?_, fun x h1 h2 => ?_, fun x hx => ?_⟩
  · by_cases hx : x < m - i + (m + (j - i) - m)
    · rw [h.lo x (by omega) hx, G, if_neg (by omega), if_neg (by omega)]
    · rw [h.hi x (by omega) (by omega), G, if_pos (by omega)]; exact idx d (by omega)
  · rw [h.out x (by omega), G, if_neg (by omega), if_pos (by omega)]; exact idx d (by omega)
  · rw [h.out x (by omega), G, if_neg (by omega), if_neg (by omega)]
theorem rot_none (d : Array α) (a m b : Nat) (h : a = m ∨ m = b) (ham : a ≤ m) (hmb : m ≤ b) : Rot d a m b d :=
  ⟨rfl, fun x h1 h2 => idx d (by omega), fun x h1 h2 => idx d (by omega), fun _ _ => rfl⟩
/-- The first of a stretch, moved on by one place more. -/
theorem rot_on {d d' : Array α} {a k : Nat} (h : Rot d a (a + 1) (k + 1) d') (hk : a ≤ k) (hs : k + 1 < d.size) : Rot d a (a + 1) (k + 2) (swp d' k (k + 1)) := by
  have hz := h.sz
  have G := swp_get d' (i := k) (j := k + 1) (by omega) (by omega)
  refine ⟨by rw [size_swp]; exact hz, fun x h1 h2 => ?_, fun x h1 h2 => ?_, fun x hx => ?_⟩
  · rw [G, if_neg (by omega)]
    by_cases e : x = k
    · subst e
      rw [if_pos rfl, h.out _ (by omega)]; exact idx d (by omega)
    · rw [if_neg e, h.lo x h1 (by omega)]
  · obtain rfl : x = k + 1 := by omega
    rw [G, if_pos rfl, h.hi k (by omega) (by omega)]; exact idx d (by omega)
  · rw [G, if_neg (by omega), if_neg (by omega), h.out x (by omega)]
/-- The last of a stretch, moved back by one place more. -/
theorem rot_back {d d' : Array α} {k m : Nat} (h : Rot d (k + 1) m (m + 1) d') (hk : k + 1 ≤ m) (hs : m < d.size) : Rot d k m (m + 1) (swp d' (k + 1) k) := by
  have hz := h.sz
  have G := swp_get d' (i := k + 1) (j := k) (by omega) (by omega)
  refine ⟨by rw [size_swp]; exact hz, fun x h1 h2 => ?_, fun x h1 h2 => ?_, fun x hx => ?_⟩
  · obtain rfl : x = k := by omega
    rw [G, if_pos rfl, h.lo _ (by omega) (by omega)]; exact idx d (by omega)
  · by_cases e : x = k + 1
    · subst e
      rw [G, if_neg (by omega), if_pos rfl, h.out _ (by omega)]; exact idx d (by omega)
    · rw [G, if_neg (by omega), if_neg e, h.hi x (by omega) (by omega)]
  · rw [G, if_neg (by omega), if_neg (by omega), h.out x (by omega)]

def seg (d : Array α) (a b : Nat) : List α := (d.toList.take b).drop a
omit [Inhabited α] in
theorem seg_all (d : Array α) : seg d 0 d.size = d.toList := by
  unfold seg
  rw [List.drop_zero, List.take_of_length_le (by simp)]
theorem seg_some (d : Array α) (a b i : Nat) (hb : b ≤ d.size) (hi : i < b - a) : (seg d a b)[i]? = some d[a + i]! := by
  unfold seg
  rw [List.getElem?_drop, List.getElem?_take, if_pos (by omega)]
  simp [show a + i < d.size by omega]
omit [Inhabited α] in
theorem seg_len (d : Array α) (a b : Nat) (hb : b ≤ d.size) : (seg d a b).length = b - a := by
  unfold seg; simp; omega
theorem seg_eq (d d' : Array α) (a b a' b' : Nat) (hb : b ≤ d.size) (hb' : b' ≤ d'.size) (hl : b - a = b' - a') (h : ∀ i, i < b - a → d[a + i]! = d'[a' + i]!) : seg d a b = seg d' a' b' := by
  apply List.ext_getElem?
  intro i
  by_cases hi : i < b - a
  · rw [seg_some _ _ _ _ hb hi, seg_some _ _ _ _ hb' (by omega), h i hi]
  · rw [List.getElem?_eq_none (by rw [seg_len _ _ _ hb]; omega), List.getElem?_eq_none (by rw [seg_len _ _ _ hb']; omega)]
theorem seg_cat (d : Array α) (a b c : Nat) (hab : a ≤ b) (hbc : b ≤ c) (hc : c ≤ d.size) : seg d a b ++ seg d b c = seg d a c := by
  apply List.ext_getElem?
  intro i
  have l1 := seg_len d a b (by omega)
  by_cases hi : i < b - a
  · rw [List.getElem?_append_left (by omega), seg_some _ _ _ _ (by omega) hi, seg_some _ _ _ _ hc (by omega)]
  · rw [List.getElem?_append_right (by omega)]
    by_cases hi2 : i < c - a
    · rw [seg_some _ _ _ _ hc (by omega), seg_some _ _ _ _ hc hi2]
      exact congrArg some (idx d (by omega))
    · rw [List.getElem?_eq_none (by rw [seg_len _ _ _ hc]; omega), List.getElem?_eq_none (by rw [seg_len _ _ _ hc]; omega)]
theorem mem_seg (d : Array α) (a b : Nat) (hb : b ≤ d.size) (x : α) (h : x ∈ seg d a b) : ∃ i, a ≤ i ∧ i < b ∧ x = d[i]! := by
  obtain ⟨i, hi⟩ := List.mem_iff_getElem?.1 h
  have hl := (List.getElem?_eq_some_iff.1 hi).1
  rw [seg_len _ _ _ hb] at hl
  rw [seg_some _ _ _ _ hb hl] at hi
  exact ⟨a + i, by omega, by omega, (Option.some.inj hi).symm⟩

/-- Of each the same ones, in the same order. -/
def GEq (f : α → α → Int) (l l' : List α) : Prop := ∀ z, l'.filter (fun p => f p z == 0) = l.filter (fun p => f p z == 0)
omit [Inhabited α] in
theorem GEq.refl (f : α → α → Int) (l : List α) : GEq f l l := fun _ => rfl
omit [Inhabited α] in
theorem GEq.trans {f : α → α → Int} {a b c : List α} (h : GEq f a b) (k : GEq f b c) : GEq f a c := fun z => (k z).trans (h z)
omit [Inhabited α] in
theorem GEq.append {f : α → α → Int} {a a' b b' : List α} (h : GEq f a a') (k : GEq f b b') : GEq f (a ++ b) (a' ++ b') := fun z => by
  rw [List.filter_append, List.filter_append, h z, k z]
omit [Inhabited α] in
theorem GEq.comm {f : α → α → Int} (hf : Ord f) {X Y : List α} (h : ∀ x ∈ X, ∀ y ∈ Y, f y x < 0) : GEq f (X ++ Y) (Y ++ X) := fun z => by
  rw [List.filter_append, List.filter_append]
  rcases hx : X.filter (fun p => f p z == 0) with _ | ⟨x, r⟩
  · simp
  · rcases hy : Y.filter (fun p => f p z == 0) with _ | ⟨y, r'⟩
    · simp
    · have mx : x ∈ X.filter (fun p => f p z == 0) := by rw [hx]; simp
      have my : y ∈ Y.filter (fun p => f p z == 0) := by rw [hy]; simp
      have := h x (List.mem_filter.1 mx).1 y (List.mem_filter.1 my).1
      have e1 : f x z = 0 := by simpa using (List.mem_filter.1 mx).2
      have e2 : f y z = 0 := by simpa using (List.mem_filter.1 my).2
      have e3 := hf.anti x z
      have e4 := hf.same_left y z x e2
      omega
theorem Rot.geq {f : α → α → Int} (hf : Ord f) {d d' : Array α} {a m b : Nat} (h : Rot d a m b d') (ham : a ≤ m) (hmb : m ≤ b) (hb : b ≤ d.size)
    (hlt : ∀ x y, a ≤ x → x < m → m ≤ y → y < b → f d[y]! d[x]! < 0) : GEq f d.toList d'.toList := by
  have hz := h.sz
  rw [← seg_all d, ← seg_all d', hz, ← seg_cat d 0 a d.size (by omega) (by omega) (by omega), ← seg_cat d a b d.size (by omega) (by omega) (by omega), ← seg_cat d a m b ham hmb hb,
    ← seg_cat d' 0 a d.size (by omega) (by omega) (by omega), ← seg_cat d' a b d.size (by omega) (by omega) (by omega), ← seg_cat d' a (a + (b - m)) b (by omega) (by omega) (by omega)]
  rw [seg_eq d' d 0 a 0 a (by omega) (by omega) rfl (fun i hi => h.out _ (by omega)),
    seg_eq d' d b d.size b d.size (by omega) (by omega) rfl (fun i hi => h.out _ (by omega)),
    seg_eq d' d a (a + (b - m)) m b (by omega) (by omega) (by omega) (fun i hi => by rw [h.lo _ (by omega) (by omega)]; exact idx d (by omega)),
    seg_eq d' d (a + (b - m)) b a m (by omega) (by omega) (by omega) (fun i hi => by rw [h.hi _ (by omega) (by omega)]; exact idx d (by omega))]
  refine GEq.append (GEq.refl _ _) (GEq.append (GEq.comm hf fun x hx y hy => ?_) (GEq.refl _ _))
  obtain ⟨i, i1, i2, rfl⟩ := mem_seg d a m (by omega) x hx
  obtain ⟨j, j1, j2, rfl⟩ := mem_seg d m b (by omega) y hy
  exact hlt i j i1 i2 j1 j2

/-- Binary search: below i all are, from j on none is. -/
structure Srch (P : Nat → Prop) (a b i j : Nat) : Prop where
  ai : a ≤ i
  ij : i ≤ j
  jb : j ≤ b
  lo : ∀ x, a ≤ x → x < i → P x
  hi : ∀ x, j ≤ x → x < b → ¬ P x
theorem Srch.start (P : Nat → Prop) (a b : Nat) (h : a ≤ b) : Srch P a b a b := ⟨Nat.le_refl _, h, Nat.le_refl _, fun x h1 h2 => by omega, fun x h1 h2 => by omega⟩
theorem Srch.up {P : Nat → Prop} {a b i j h : Nat} (s : Srch P a b i j) (hij : i ≤ h) (hj : h < j) (mono : ∀ x y, a ≤ x → x ≤ y → y < b → P y → P x) (hp : P h) : Srch P a b (h + 1) j :=
  have := s.ai
  have := s.jb
  ⟨by omega, by omega, s.jb, fun x h1 h2 => mono x h h1 (by omega) (by omega) hp, s.hi⟩
theorem Srch.down {P : Nat → Prop} {a b i j h : Nat} (s : Srch P a b i j) (hij : i ≤ h) (hj : h < j) (mono : ∀ x y, a ≤ x → x ≤ y → y < b → P y → P x) (hp : ¬ P h) : Srch P a b i h :=
  have := s.ai
  have := s.jb
  ⟨s.ai, by omega, by omega, s.lo, fun x h1 h2 hx => hp (mono h x (by omega) h1 h2 hx)⟩

def SrtOn (f : α → α → Int) (d : Array α) (a b : Nat) : Prop := ∀ i j, a ≤ i → i < j → j < b → f d[i]! d[j]! ≤ 0
theorem SrtOn.le {f : α → α → Int} (hf : Ord f) {d : Array α} {a b : Nat} (h : SrtOn f d a b) (i j : Nat) (ai : a ≤ i) (ij : i ≤ j) (jb : j < b) : f d[i]! d[j]! ≤ 0 := by
  rcases Nat.eq_or_lt_of_le ij with rfl | hlt
  · rw [hf.refl]; exact Int.le_refl _
  · exact h i j ai hlt jb
omit [Inhabited α] in
theorem Ord.le_lt {f : α → α → Int} (hf : Ord f) {x y z : α} (h : f x y ≤ 0) (k : f y z < 0) : f x z < 0 := by
  have := hf.trans x y z h (by omega)
  rcases Int.lt_or_eq_of_le this with h1 | h1
  · exact h1
  · have := hf.strict x y z h (by omega) h1; omega
omit [Inhabited α] in
theorem Ord.lt_le {f : α → α → Int} (hf : Ord f) {x y z : α} (h : f x y < 0) (k : f y z ≤ 0) : f x z < 0 := by
  have := hf.trans x y z (by omega) k
  rcases Int.lt_or_eq_of_le this with h1 | h1
  · exact h1
  · have := hf.strict x y z (by omega) k h1; omega
omit [Inhabited α] in
theorem Ord.not_lt {f : α → α → Int} (hf : Ord f) {x y : α} (h : ¬ f x y < 0) : f y x ≤ 0 := by have := hf.anti x y; omega

/-- A stretch of a row, put into its order. -/
structure Mgd (f : α → α → Int) (a b : Nat) (d d' : Array α) : Prop where
  sz : d'.size = d.size
  out : ∀ x, x < a ∨ b ≤ x → d'[x]! = d[x]!
  srt : SrtOn f d' a b
  src : ∀ x, a ≤ x → x < b → ∃ k, a ≤ k ∧ k < b ∧ d'[x]! = d[k]!
  geq : GEq f d.toList d'.toList
theorem Mgd.refl (f : α → α → Int) (a b : Nat) (d : Array α) (h : SrtOn f d a b) : Mgd f a b d d := ⟨rfl, fun _ _ => rfl, h, fun x h1 h2 => ⟨x, h1, h2, rfl⟩, GEq.refl _ _⟩

/-- What a rotation leaves of two sorted stretches. -/
structure Cut (f : α → α → Int) (d : Array α) (a b s mid e : Nat) (d1 : Array α) : Prop where
  sz : d1.size = d.size
  out : ∀ x, x < a ∨ b ≤ x → d1[x]! = d[x]!
  src : ∀ x, a ≤ x → x < b → ∃ k, a ≤ k ∧ k < b ∧ d1[x]! = d[k]!
  geq : GEq f d.toList d1.toList
  cross : ∀ i j, a ≤ i → i < mid → mid ≤ j → j < b → f d1[i]! d1[j]! ≤ 0
  s1 : SrtOn f d1 a s
  s2 : SrtOn f d1 s mid
  s3 : SrtOn f d1 mid e
  s4 : SrtOn f d1 e b
theorem cut_of {f : α → α → Int} (hf : Ord f) {d d1 : Array α} {a m b s e mid : Nat} (hb : b ≤ d.size) (has : a ≤ s) (hsm : s ≤ m) (hme : m ≤ e) (heb : e ≤ b) (hmid : mid + m = s + e)
    (S1 : SrtOn f d a m) (S2 : SrtOn f d m b) (hlt : ∀ x y, s ≤ x → x < m → m ≤ y → y < e → f d[y]! d[x]! < 0) (hge : ∀ x y, a ≤ x → x < s → e ≤ y → y < b → f d[x]! d[y]! ≤ 0) (h : Rot d s m e d1) : Cut f d a b s mid e d1 := by
  have P1 : ∀ x, x < s → d1[x]! = d[x]! := fun x hx => h.out x (.inl hx)
  have P2 : ∀ x, s ≤ x → x < mid → d1[x]! = d[x + (m - s)]! := fun x h1 h2 => h.lo x h1 (by omega)
  have P3 : ∀ x, mid ≤ x → x < e → d1[x]! = d[x - (e - m)]! := fun x h1 h2 => h.hi x (by omega) h2
  have P4 : ∀ x, e ≤ x → d1[x]! = d[x]! := fun x hx => h.out x (.inr hx)
  refine ⟨h.sz, fun x hx => h.out x (by omega), fun x h1 h2 => ?_, h.geq hf hsm hme (by omega) hlt, fun i j i1 i2 j1 j2 => ?_, fun i j i1 i2 i3 => ?_, fun i j i1 i2 i3 => ?_, fun i j i1 i2 i3 => ?_, fun i j i1 i2 i3 => ?_⟩
  · by_cases c1 : x < s
    · exact ⟨x, h1, h2, P1 x c1⟩
    · by_cases c2 : x < mid
      · exact ⟨_, by omega, by omega, P2 x (by omega) c2⟩
      · by_cases c3 : x < e
        · exact ⟨_, by omega, by omega, P3 x (by omega) c3⟩
        · exact ⟨x, h1, h2, P4 x (by omega)⟩
  · by_cases c1 : i < s
    · rw [P1 i c1]
      by_cases c3 : j < e
      · rw [P3 j j1 c3]; exact S1 _ _ (by omega) (by omega) (by omega)
      · rw [P4 j (by omega)]; exact hge _ _ i1 c1 (by omega) j2
    · rw [P2 i (by omega) i2]
      by_cases c3 : j < e
      · rw [P3 j j1 c3]; have := hlt (j - (e - m)) (i + (m - s)) (by omega) (by omega) (by omega) (by omega); omega
      · rw [P4 j (by omega)]; exact S2 _ _ (by omega) (by omega) (by omega)
  · rw [P1 i (by omega), P1 j (by omega)]; exact S1 _ _ (by omega) (by omega) (by omega)
  · rw [P2 i (by omega) (by omega), P2 j (by omega) (by omega)]; exact S2 _ _ (by omega) (by omega) (by omega)
  · rw [P3 i (by omega) (by omega), P3 j (by omega) (by omega)]; exact S1 _ _ (by omega) (by omega) (by omega)
  · rw [P4 i (by omega), P4 j (by omega)]; exact S2 _ _ (by omega) (by omega) (by omega)
theorem Cut.join {f : α → α → Int} {d d1 d2 d3 : Array α} {a b s mid e : Nat} (c : Cut f d a b s mid e d1) (ham : a ≤ mid) (hmb : mid ≤ b) (h2 : Mgd f a mid d1 d2) (h3 : Mgd f mid b d2 d3) : Mgd f a b d d3 := by
  refine ⟨h3.sz.trans (h2.sz.trans c.sz), fun x hx => ?_, fun i j i1 i2 i3 => ?_, fun x x1 x2 => ?_, (c.geq.trans h2.geq).trans h3.geq⟩
  · rw [h3.out x (by omega), h2.out x (by omega), c.out x hx]
  · by_cases c1 : j < mid
    · rw [h3.out i (by omega), h3.out j (by omega)]; exact h2.srt i j i1 i2 c1
    · by_cases c2 : i < mid
      · obtain ⟨k, k1, k2, ek⟩ := h2.src i i1 c2
        obtain ⟨l, l1, l2, el⟩ := h3.src j (by omega) i3
        rw [h3.out i (by omega), ek, el, h2.out l (by omega)]
        exact c.cross k l k1 k2 l1 l2
      · exact h3.srt i j (by omega) i2 i3
  · by_cases c2 : x < mid
    · obtain ⟨k, k1, k2, ek⟩ := h2.src x x1 c2
      obtain ⟨l, l1, l2, el⟩ := c.src k k1 (by omega)
      exact ⟨l, l1, l2, by rw [h3.out x (by omega), ek, el]⟩
    · obtain ⟨k, k1, k2, ek⟩ := h3.src x (by omega) x2
      obtain ⟨l, l1, l2, el⟩ := c.src k (by omega) k2
      exact ⟨l, l1, l2, by rw [ek, h2.out k (by omega), el]⟩
/-- Both halves stand by themselves already. -/
theorem Cut.whole {f : α → α → Int} {d d1 : Array α} {a b s mid e : Nat} (c : Cut f d a b s mid e d1) (ham : a ≤ mid) (hmb : mid ≤ b) (h2 : SrtOn f d1 a mid) (h3 : SrtOn f d1 mid b) : Mgd f a b d d1 :=
  c.join ham hmb (Mgd.refl _ _ _ _ h2) (Mgd.refl _ _ _ _ h3)

/-- One that is laid into those behind it. -/
theorem mgd_first {f : α → α → Int} (hf : Ord f) {d d1 : Array α} {a b i : Nat} (hb : b ≤ d.size) (S2 : SrtOn f d (a + 1) b) (h : Srch (fun x => f d[x]! d[a]! < 0) (a + 1) b i i) (hr : Rot d a (a + 1) i d1) : Mgd f a b d d1 := by
  have h1 := h.ai
  have h2 := h.jb
  have c := cut_of hf (mid := i - 1) hb (Nat.le_refl a) (by omega) h1 h2 (by omega) (fun x y _ _ _ => by omega) S2 (fun x y x1 x2 y1 y2 => (show x = a by omega) ▸ h.lo y y1 y2) (fun x y _ _ _ => by omega) hr
  refine c.whole (by omega) (by omega) c.s2 (fun x y x1 x2 y1 => ?_)
  by_cases e : x < i
  · obtain rfl : x = i - 1 := by omega
    rw [hr.hi (i - 1) (by omega) (by omega), hr.out y (by omega), idx d (show i - 1 - (i - (a + 1)) = a by omega)]
    exact hf.not_lt (h.hi y (by omega) y1)
  · exact c.s4 x y (by omega) x2 y1
/-- One that is laid into those ahead of it. -/
theorem mgd_last {f : α → α → Int} (hf : Ord f) {d d1 : Array α} {a m i : Nat} (hb : m + 1 ≤ d.size) (S1 : SrtOn f d a m) (h : Srch (fun x => ¬ f d[m]! d[x]! < 0) a m i i) (hr : Rot d i m (m + 1) d1) : Mgd f a (m + 1) d d1 := by
  have h1 := h.ai
  have h2 := h.jb
  have c := cut_of hf (mid := i + 1) hb h1 h2 (Nat.le_succ m) (Nat.le_refl _) (by omega) S1 (fun x y _ _ _ => by omega) (fun x y x1 x2 y1 y2 => (show y = m by omega) ▸ Decidable.not_not.1 (h.hi x x1 x2)) (fun x y _ _ _ => by omega) hr
  refine c.whole (by omega) (by omega) (fun x y x1 x2 y1 => ?_) c.s3
  by_cases e : y < i
  · exact c.s1 x y x1 x2 e
  · obtain rfl : y = i := by omega
    rw [hr.out x (by omega), hr.lo y (by omega) (by omega), idx d (show y + (m - y) = m by omega)]
    exact hf.not_lt (h.lo x x1 (by omega))

/-- The search from both sides. -/
theorem both_mono {f : α → α → Int} (hf : Ord f) {d : Array α} {a m b p s r : Nat} (S1 : SrtOn f d a m) (S2 : SrtOn f d m b) (hs : a ≤ s) (hr : r ≤ m) (hp1 : ∀ c, s ≤ c → c < r → m ≤ p - c ∧ p - c < b) :
    ∀ x y, s ≤ x → x ≤ y → y < r → ¬ f d[p - y]! d[y]! < 0 → ¬ f d[p - x]! d[x]! < 0 := fun x y x1 x2 y1 hy hx => by
  have k1 := hp1 x x1 (by omega)
  have k2 := hp1 y (by omega) y1
  have l1 := S2.le hf (p - y) (p - x) k2.1 (by omega) k1.2
  have l2 := S1.le hf x y (by omega) x2 (by omega)
  exact hy (hf.le_lt l1 (hf.lt_le hx l2))
/-- What it leads to. -/
theorem cut_both {f : α → α → Int} (hf : Ord f) {d d1 : Array α} {a m b mid s0 r0 s : Nat} (hb : b ≤ d.size) (ham : a < m) (hmb : m < b) (hmid : mid = (a + b) / 2) (S1 : SrtOn f d a m) (S2 : SrtOn f d m b)
    (hc : m > mid ∧ s0 = mid + m - b ∧ r0 = mid ∨ m ≤ mid ∧ s0 = a ∧ r0 = m) (h : Srch (fun c => ¬ f d[mid + m - 1 - c]! d[c]! < 0) s0 r0 s s) (hr : Rot d s m (mid + m - s) d1) : Cut f d a b s mid (mid + m - s) d1 := by
  have h1 := h.ai
  have h2 := h.jb
  refine cut_of hf hb (by omega) (by omega) (by omega) (by omega) (by omega) S1 S2 (fun x y x1 x2 y1 y2 => ?_) (fun x y x1 x2 y1 y2 => ?_) hr
  · have := Decidable.not_not.1 (h.hi s (Nat.le_refl _) (by omega))
    have l1 := S2.le hf y (mid + m - 1 - s) y1 (by omega) (by omega)
    have l2 := S1.le hf s x (by omega) x1 x2
    exact hf.lt_le (hf.le_lt l1 this) l2
  · have := hf.not_lt (h.lo (s - 1) (by omega) (by omega))
    have l1 := S1.le hf x (s - 1) x1 (by omega) (by omega)
    have l2 := S2.le hf (mid + m - 1 - (s - 1)) y (by omega) (by omega) y2
    exact hf.trans _ _ _ l1 (hf.trans _ _ _ this l2)
end Go.Proofs.Ytdolejafihgpmaa
/- Contract of slices.swapRangeCmpFunc over a row of pairs: two stretches change places, pair by pair. -/
namespace Go.Proofs.Ytdolejafihgpmaa
open Go.RowKit Go.Sort

theorem drew_cell (w : World) (p : Addr) : w.drew.cell? p = w.cell? p := rfl
theorem drew_frozen (w : World) (p : Addr) : w.drew.frozen? p = w.frozen? p := rfl
/-- What stands apart from a pair that was written. -/
theorem put10_off (w : World) (g o j : Nat) (p : Pr) (h : j < o ∨ o + 10 ≤ j) : (put10 w g o p).drew.cell? ⟨g, j, none⟩ = w.cell? ⟨g, j, none⟩ := by
  rw [drew_cell, put10_eq]
  exact World.cell?_setCells_out g _ _ _ _ (fun _ _ => by rw [Pr.len]; omega)
theorem put10_frozen (w : World) (g o j : Nat) (p : Pr) : (put10 w g o p).drew.frozen? ⟨g, j, none⟩ = w.frozen? ⟨g, j, none⟩ := by
  rw [drew_frozen, put10_eq, World.frozen?_setCells]
set_option maxHeartbeats 4000000 in
set_option maxRecDepth 100000 in
theorem swapRange_any (w : World) (g B d n cap : Nat) (ps : Array Pr) (h : Held w w g B d n ps) (a b k : Nat) (hab : a + k ≤ b) (hb : b + k ≤ n) (hn : n ≤ 100000) :
    Calls Try.prog 67 #[.slice (some ⟨g, 0, none⟩) n cap, .int .i64 a, .int .i64 b, .int .i64 k, .func (.func 60) #[] #[]] w fun e w' => e = .returned (.tuple #[]) ∧ Held w w' g B d n (swpR ps a b k) := by
  have H := Lib.hid h
  clear h
  have haz : (a : Int) + (k : Int) ≤ (b : Int) := by omega
  have hbz : (b : Int) + (k : Int) ≤ (n : Int) := by omega
  go_enter Try.func67, Try.ntmps67
  go_wp2
  go_loopw [10] (fun vi wr => ∃ i : Nat, i ≤ k ∧ vi = .int .i64 i ∧ Hid (Held w wr g B d n (swpR ps a b i))) (fun vi _ => k - (intOf vi).toNat)
  case atStart => exact ⟨0, by omega, rfl, H⟩
  case round =>
    obtain ⟨i, hi, rfl, hH⟩ := hrel
    by_cases hlt : i < k
    · have hltz : (i : Int) < (k : Int) := by omega
      have j1 : IntKind.i64.wrap ((a : Int) + (i : Int)) = (a : Int) + (i : Int) := IntWalk.i64_in _ (by omega)
      have j2 : IntKind.i64.wrap ((b : Int) + (i : Int)) = (b : Int) + (i : Int) := IntWalk.i64_in _ (by omega)
      have a0 : (0 : Int) ≤ (a : Int) + (i : Int) := by omega
      have b0 : (0 : Int) ≤ (b : Int) + (i : Int) := by omega
      have a1 : (a : Int) + (i : Int) < (n : Int) := by omega
      have b1 : (b : Int) + (i : Int) < (n : Int) := by omega
      have a2 : ((a : Int) + (i : Int)).toNat = a + i := by omega
      have b2 : ((b : Int) + (i : Int)).toNat = b + i := by omega
      generalize hx : (swpR ps a b i)[a + i]! = x
      generalize hy : (swpR ps a b i)[b + i]! = y
      have HX := Lib.hid hx
      have HY := Lib.hid hy
      clear hx hy
      obtain ⟨q0, q1, q2, q3, q4, q5, q6, q7, q8, q9, zq0, zq1, zq2, zq3, zq4, zq5, zq6, zq7, zq8, zq9⟩ := hH.out.ten (a + i) (by omega) HX.out
      obtain ⟨p0, p1, p2, p3, p4, p5, p6, p7, p8, p9, zp0, zp1, zp2, zp3, zp4, zp5, zp6, zp7, zp8, zp9⟩ := hH.out.ten (b + i) (by omega) HY.out
      have SW := hH.out.swap10 (a + i) (b + i) (by omega) (by omega) HX.out HY.out
      change Held _ _ _ _ _ _ (swpR ps a b (i + 1)) at SW
      unfold put10 at SW
      have SWH := Lib.hid SW
      clear SW
      have X0 := (put10_off wr g ((a + i) * 10) ((b + i) * 10) y (by omega)).trans p0
      have Z0 := (put10_frozen wr g ((a + i) * 10) ((b + i) * 10) y).trans zp0
      have X1 := (put10_off wr g ((a + i) * 10) ((b + i) * 10 + 1) y (by omega)).trans p1
      have Z1 := (put10_frozen wr g ((a + i) * 10) ((b + i) * 10 + 1) y).trans zp1
      have X2 := (put10_off wr g ((a + i) * 10) ((b + i) * 10 + 2) y (by omega)).trans p2
      have Z2 := (put10_frozen wr g ((a + i) * 10) ((b + i) * 10 + 2) y).trans zp2
      have X3 := (put10_off wr g ((a + i) * 10) ((b + i) * 10 + 3) y (by omega)).trans p3
      have Z3 := (put10_frozen wr g ((a + i) * 10) ((b + i) * 10 + 3) y).trans zp3
      have X4 := (put10_off wr g ((a + i) * 10) ((b + i) * 10 + 4) y (by omega)).trans p4
      have Z4 := (put10_frozen wr g ((a + i) * 10) ((b + i) * 10 + 4) y).trans zp4
      have X5 := (put10_off wr g ((a + i) * 10) ((b + i) * 10 + 5) y (by omega)).trans p5
      have Z5 := (put10_frozen wr g ((a + i) * 10) ((b + i) * 10 + 5) y).trans zp5
      have X6 := (put10_off wr g ((a + i) * 10) ((b + i) * 10 + 6) y (by omega)).trans p6
      have Z6 := (put10_frozen wr g ((a + i) * 10) ((b + i) * 10 + 6) y).trans zp6
      have X7 := (put10_off wr g ((a + i) * 10) ((b + i) * 10 + 7) y (by omega)).trans p7
      have Z7 := (put10_frozen wr g ((a + i) * 10) ((b + i) * 10 + 7) y).trans zp7
      have X8 := (put10_off wr g ((a + i) * 10) ((b + i) * 10 + 8) y (by omega)).trans p8
      have Z8 := (put10_frozen wr g ((a + i) * 10) ((b + i) * 10 + 8) y).trans zp8
      have X9 := (put10_off wr g ((a + i) * 10) ((b + i) * 10 + 9) y (by omega)).trans p9
      have Z9 := (put10_frozen wr g ((a + i) * 10) ((b + i) * 10 + 9) y).trans zp9
      unfold put10 at X0 Z0 X1 Z1 X2 Z2 X3 Z3 X4 Z4 X5 Z5 X6 Z6 X7 Z7 X8 Z8 X9 Z9
      go_wp2_with fail
      go_region
      all_goals
        go_wp2
        go_roundw
        case rel => exact ⟨i + 1, by omega, by go_num, SWH⟩
        case measure => simp [intOf]; omega
    · obtain rfl : i = k := by omega
      go_wp2
      go_end0
      exact ⟨rfl, hH.out⟩
end Go.Proofs.Ytdolejafihgpmaa
/- Contract of slices.rotateCmpFunc over a row of pairs: two stretches side by side change places as wholes. -/
namespace Go.Proofs.Ytdolejafihgpmaa
open Go.RowKit Go.Sort

theorem Held.kept {w wr : World} {g B d n : Nat} {ps : Array Pr} (h : Held w wr g B d n ps) (hB : B ≤ g) (hg : g < w.heap.size) : Kept 0 B w wr := fun i _ hi => h.near.block i (by omega) (by omega)
theorem Held.re {w wr : World} {g B d n : Nat} {ps : Array Pr} (h : Held w wr g B d n ps) (hB : B ≤ g) (hg : g < w.heap.size) : Held wr wr g B d n ps :=
  ⟨h.sz, h.row, Near.refl _ _, fun j hj => ⟨Rd.imp (h.kept hB hg) (Nat.le_refl _) (Nat.le_refl _) (Nat.le_refl _) (h.els j hj).1, Rd.imp (h.kept hB hg) (Nat.le_refl _) (Nat.le_refl _) (Nat.le_refl _) (h.els j hj).2⟩⟩
theorem Held.on {w wr wx : World} {g B d n : Nat} {ps qs : Array Pr} (h : Held w wr g B d n ps) (hB : B ≤ g) (hg : g < w.heap.size) (k : Held wr wx g B d n qs) : Held w wx g B d n qs := by
  have hk : Kept 0 B wr w := fun i a b => (h.kept hB hg i a b).symm
  exact ⟨k.sz, k.row, h.near.trans k.near, fun j hj => ⟨Rd.imp hk (Nat.le_refl _) (Nat.le_refl _) (Nat.le_refl _) (k.els j hj).1, Rd.imp hk (Nat.le_refl _) (Nat.le_refl _) (Nat.le_refl _) (k.els j hj).2⟩⟩
theorem Held.gz {w wr : World} {g B d n : Nat} {ps : Array Pr} (h : Held w wr g B d n ps) (hg : g < w.heap.size) : g < wr.heap.size := Nat.lt_of_lt_of_le hg h.near.size

theorem swapRange_at (w : World) (g B d n cap : Nat) (ps : Array Pr) (h : Held w w g B d n ps) (a b k : Nat) (x y z : Int) (hx : x = (a : Int)) (hy : y = (b : Int)) (hz : z = (k : Int)) (hab : a + k ≤ b) (hb : b + k ≤ n) (hn : n ≤ 100000) :
    Calls Try.prog 67 #[.slice (some ⟨g, 0, none⟩) n cap, .int .i64 x, .int .i64 y, .int .i64 z, .func (.func 60) #[] #[]] w fun e w' => e = .returned (.tuple #[]) ∧ Held w w' g B d n (swpR ps a b k) := by
  subst hx hy hz
  exact swapRange_any w g B d n cap ps h a b k hab hb hn

def RotPost (w : World) (g B d n : Nat) (ps : Array Pr) (a m b : Nat) (e : Ending) (w' : World) : Prop := e = .returned (.tuple #[]) ∧ ∃ ps', Held w w' g B d n ps' ∧ Rot ps a m b ps'
set_option maxHeartbeats 4000000 in
set_option maxRecDepth 100000 in
theorem rotate_any (w : World) (g B d n cap : Nat) (ps : Array Pr) (h : Held w w g B d n ps) (hB : B ≤ g) (hg : g < w.heap.size) (a m b : Nat) (ham : a < m) (hmb : m < b) (hb : b ≤ n) (hn : n ≤ 100000) :
    Calls Try.prog 66 #[.slice (some ⟨g, 0, none⟩) n cap, .int .i64 a, .int .i64 m, .int .i64 b, .func (.func 60) #[] #[]] w (RotPost w g B d n ps a m b) := by
  have H := Lib.hid h
  clear h
  go_enter Try.func66, Try.ntmps66
  go_wp2
  go_loopw [10, 11] (fun vi vj wr => ∃ (i j : Nat) (dk : Array Pr), vi = .int .i64 i ∧ vj = .int .i64 j ∧ 0 < i ∧ 0 < j ∧ i ≤ m ∧ m + j ≤ n ∧ Hid (Held w wr g B d n dk) ∧ Hid (∀ d', Rot dk (m - i) m (m + j) d' → Rot ps a m b d')) (fun vi vj _ => (intOf vi).toNat + (intOf vj).toNat)
  case atStart =>
    exact ⟨m - a, b - m, ps, by go_num, by go_num, by omega, by omega, by omega, by omega, H, Lib.hid fun d' hd => by
      rwa [show m - (m - a) = a by omega, show m + (b - m) = b by omega] at hd⟩
  case round =>
    obtain ⟨i, j, dk, rfl, rfl, hi0, hj0, him, hjn, hH, HR⟩ := hrel
    have SZ := Lib.hid hH.out.sz
    rcases Nat.lt_trichotomy i j with hlt | heq | hlt
    · have b1 : ((i : Int) != (j : Int)) = true := by simp; omega
      have b2 : ¬ (j : Int) < (i : Int) := by omega
      go_wp2_with fail
      refine (swapRange_at _ g B d n cap dk (hH.out.re hB hg) (m - i) (m + j - i) i _ _ _ (by omega) (by omega) rfl (by omega) (by omega) hn).mono ?_
      rintro e w1 ⟨rfl, hh⟩
      have HH := Lib.hid (hH.out.on hB hg hh)
      clear hh
      go_wp2
      go_roundw
      case rel =>
        exact ⟨i, j - i, _, rfl, by go_num, hi0, by omega, him, by omega, HH, Lib.hid fun d' hd => HR.out d' (rot_less hlt him (by rw [SZ.out]; omega) hd)⟩
      case measure => simp [intOf]; omega
    · subst heq
      have b1 : ((i : Int) != (i : Int)) = false := by simp
      go_wp2_with fail
      refine (swapRange_at _ g B d n cap dk (hH.out.re hB hg) (m - i) m i _ _ _ (by omega) (by omega) rfl (by omega) (by omega) hn).mono ?_
      rintro e w1 ⟨rfl, hh⟩
      have HH := Lib.hid (hH.out.on hB hg hh)
      clear hh
      go_wp2
      go_end0
      exact ⟨rfl, _, HH.out, HR.out _ (rot_even dk i m him (by rw [SZ.out]; omega))⟩
    · have b1 : ((i : Int) != (j : Int)) = true := by simp; omega
      have b2 : (j : Int) < (i : Int) := by omega
      go_wp2_with fail
      refine (swapRange_at _ g B d n cap dk (hH.out.re hB hg) (m - i) m j _ _ _ (by omega) (by omega) rfl (by omega) (by omega) hn).mono ?_
      rintro e w1 ⟨rfl, hh⟩
      have HH := Lib.hid (hH.out.on hB hg hh)
      clear hh
      go_wp2
      go_roundw
      case rel =>
        exact ⟨i - j, j, _, by go_num, rfl, by omega, hj0, by omega, hjn, HH, Lib.hid fun d' hd => HR.out d' (rot_more hlt him (by rw [SZ.out]; omega) hd)⟩
      case measure => simp [intOf]; omega
end Go.Proofs.Ytdolejafihgpmaa
