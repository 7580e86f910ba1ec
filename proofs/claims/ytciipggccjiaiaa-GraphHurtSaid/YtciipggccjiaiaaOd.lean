/- Carried over from the seat of layer 2. -/
import Derived.Test.YtciipggccjiaiaaVI
import Derived.Test.YtciipggccjiaiaaVJ
import Derived.Test.YtciipggccjiaiaaOc
namespace Go.Proofs.Ytciipggccjiaiaa
set_option maxRecDepth 100000
open Go.RowKit

theorem cmpF_copy (s : Nat) (a : V) : cmpF (copyV s a) a = 0 := by
  have e : cmpF (copyV s a) a = cmpF a a := by cases s <;> rfl
  rw [e]; exact ord_cmpF.refl a
theorem rowC_map {f : V → V → Int} {g : V → V} (h : ∀ x, f (g x) x = 0) : ∀ l, rowC f (l.map g) l = 0
  | [] => rfl
  | x :: l => by
    rw [List.map_cons, rowC, h x, orI, if_pos rfl]; exact rowC_map h l
/-- A copy that is deep enough is the same. -/
theorem cmp_copy : ∀ r s a, r ≤ s → cmpV r (copyV s a) a = 0
  | 0, s, a, _ => cmpF_copy s a
  | r + 1, 0, _, h => absurd h (by omega)
  | r + 1, s + 1, a, h => by
    have ih := fun x => cmp_copy r s x (by omega)
    show orI (cmpF (copyV (s + 1) a) a) (orI (rowC (cmpV r) (a.l.map (copyV s)) a.l) (rowC (cmpV r) (a.m.map (copyV s)) a.m)) = 0
    rw [cmpF_copy, rowC_map ih, rowC_map ih]; rfl
theorem cmp_copies (r s : Nat) (a b : V) (h : r ≤ s) : cmpV r (copyV s a) (copyV s b) = cmpV r a b := by
  rw [(ord_cmpV r).same_left _ _ _ (cmp_copy r s a h), (ord_cmpV r).same_right a (copyV s b) b (cmp_copy r s b h)]
end Go.Proofs.Ytciipggccjiaiaa

/- Plain: a copy's thing is the same, so are what is found in both, and both with another value. -/
namespace Go.Proofs.Ytciipggccjiaiaa
open Go.RowKit Go.Sort
set_option maxRecDepth 100000

theorem cmp_left (a b : V) : cmpV 12 (copyV 12 a) b = cmpV 12 a b := (ord_cmpV 12).same_left _ _ _ (cmp_copy 12 12 a (Nat.le_refl _))
theorem samP_refl (p : ByteArray × V) : samP p p = true := by
  unfold samP; rw [(ord_cmpV 12).refl]; simp
theorem samL_refl : ∀ l, samL l l = true
  | [] => rfl
  | p :: r => by simp [samL, samP_refl, samL_refl r]
theorem samT_refl (t : TV) : samT t t = true := by simp [samT, samL_refl]
/-- The copy of a thing. -/
def cP (p : ByteArray × V) : ByteArray × V := (p.1, copyV 12 p.2)
def cT (t : TV) : TV := ⟨t.id, t.label, t.o, t.i, t.l.map cP⟩
theorem samP_left (p q : ByteArray × V) : samP (cP p) q = samP p q := by simp [samP, cP, cmp_left]
theorem samL_left : ∀ l m, samL (l.map cP) m = samL l m
  | [], [] => rfl
  | [], _ :: _ => rfl
  | _ :: _, [] => rfl
  | p :: r, q :: s => by simp [samL, samP_left, samL_left r s]
theorem samT_left (a b : TV) : samT (cT a) b = samT a b := by simp [samT, cT, samL_left]
theorem ckv_eq (l : List PA) : l.map PA.ckv = (l.map PA.kv).map cP := by simp [PA.ckv, PA.kv, cP]
theorem ctv_eq (t : TA) : t.ctv = cT t.tv' := by simp [TA.ctv, TA.tv', cT, ckv_eq]
theorem samTs_left : ∀ l m, samTs (l.map cT) m = samTs l m
  | [], [] => rfl
  | [], _ :: _ => rfl
  | _ :: _, [] => rfl
  | p :: r, q :: s => by simp [samTs, samT_left, samTs_left r s]
theorem samTs_refl : ∀ l, samTs l l = true
  | [] => rfl
  | p :: r => by simp [samTs, samT_refl, samTs_refl r]
theorem ctvs_eq (l : List TA) : l.map TA.ctv = (l.map TA.tv').map cT := by simp [ctv_eq]
/-- A copy of a graph is the same. -/
theorem samG_copy {q g : GA} (h1 : q.vs.map TA.tv' = g.vs.map TA.ctv) (h2 : q.es.map TA.tv' = g.es.map TA.ctv) : samG q g = true := by
  simp only [samG, h1, h2, ctvs_eq, samTs_left, samTs_refl]; rfl
/-- Found in both. -/
theorem at_both (id : Int) : ∀ (a b : List TA), a.map TA.tv' = b.map TA.ctv → (b.find? (idB id) = none ∧ a.find? (idB id) = none) ∨ ∃ x y, b.find? (idB id) = some x ∧ a.find? (idB id) = some y ∧ y.tv' = x.ctv
  | [], [], _ => .inl ⟨rfl, rfl⟩
  | [], _ :: _, h => by cases h
  | _ :: _, [], h => by cases h
  | y :: r, x :: s, h => by
    rw [List.map_cons, List.map_cons] at h
    injection h with h1 h2
    have hid : idB id y = idB id x := by have := congrArg TV.id h1; simp [TA.tv', TA.ctv] at this; simp [idB, this]
    cases hx : idB id x with
    | true => exact .inr ⟨x, y, by simp [hx], by simp [hid, hx], h1⟩
    | false =>
      rw [List.find?_cons_of_neg (by simp [hx]), List.find?_cons_of_neg (by simp [hid, hx])]
      exact at_both id r s h2
theorem at_same {id : Int} {a b : List TA} (h : a.map TA.tv' = b.map TA.ctv) {q u : TA} {is : Bool} (hq : q.tv' = (atV a id).1) (hu : (is = true ∧ b.find? (idB id) = some u) ∨ (is = false ∧ b.find? (idB id) = none ∧ u.tv' = zeroTV)) : samT q.tv' u.tv' = true ∧ (atV a id).2 = is := by
  rcases at_both id a b h with ⟨e1, e2⟩ | ⟨x, y, e1, e2, e3⟩
  · rcases hu with ⟨_, h1⟩ | ⟨h0, _, h2⟩
    · rw [h1] at e1; cases e1
    · have e : atV a id = (zeroTV, false) := by unfold atV; rw [e2]
      rw [hq, e, h2]
      exact ⟨samT_refl _, h0.symm⟩
  · rcases hu with ⟨h0, h1⟩ | ⟨_, h1, _⟩
    · have e : atV a id = (y.ctv, true) := by unfold atV; rw [e2]
      rw [h1] at e1
      injection e1 with e1
      subst e1
      rw [hq, e]
      refine ⟨?_, h0.symm⟩
      show samT y.ctv u.tv' = true
      rw [ctv_eq, samT_left, e3, ctv_eq, samT_left, samT_refl]
    · rw [h1] at e1; cases e1
/-- The properties of two things that are the same. -/
def SamK (a b : List PA) : Prop := samL (a.map PA.kv) (b.map PA.kv) = true
theorem SamK.cons {p q : PA} {a b : List PA} (h : SamK (p :: a) (q :: b)) : p.key.toList = q.key.toList ∧ cmpV 12 p.x.t q.x.t = 0 ∧ SamK a b := by
  unfold SamK at h
  rw [List.map_cons, List.map_cons, samL, Bool.and_eq_true] at h
  obtain ⟨h1, h2⟩ := h
  simp [samP, PA.kv] at h1
  exact ⟨h1.1, h1.2, h2⟩
theorem SamK.mk {p q : PA} {a b : List PA} (h1 : p.key.toList = q.key.toList) (h2 : cmpV 12 p.x.t q.x.t = 0) (h : SamK a b) : SamK (p :: a) (q :: b) := by
  unfold SamK at h ⊢
  rw [List.map_cons, List.map_cons, samL, h, samP]
  simp [PA.kv, h1, h2]
theorem SamK.not1 {p : PA} {a : List PA} (h : SamK (p :: a) []) : False := by simp [SamK, samL] at h
theorem SamK.not2 {p : PA} {a : List PA} (h : SamK [] (p :: a)) : False := by simp [SamK, samL] at h
theorem SamK.nil : SamK [] [] := rfl
theorem SamK.find (key : ByteArray) : ∀ (a b : List PA), SamK a b → (a.find? (keyB key) = none ∧ b.find? (keyB key) = none) ∨ ∃ p q, a.find? (keyB key) = some p ∧ b.find? (keyB key) = some q ∧ cmpV 12 p.x.t q.x.t = 0
  | [], [], _ => .inl ⟨rfl, rfl⟩
  | [], _ :: _, h => absurd h.not2 (fun h => h)
  | _ :: _, [], h => absurd h.not1 (fun h => h)
  | p :: a, q :: b, h => by
    obtain ⟨h1, h2, h3⟩ := h.cons
    have hk : keyB key p = keyB key q := by unfold keyB; rw [h1]
    cases hx : keyB key q with
    | true => exact .inr ⟨p, q, by simp [hk, hx], by simp [hx], h2⟩
    | false =>
      rw [List.find?_cons_of_neg (by simp [hk, hx]), List.find?_cons_of_neg (by simp [hx])]
      exact SamK.find key a b h3
theorem SamK.idx (f : PA → Bool) (hf : ∀ p q : PA, p.key.toList = q.key.toList → f p = f q) : ∀ (a b : List PA) (k : Nat), SamK a b → idxG f a k = idxG f b k
  | [], [], _, _ => rfl
  | [], _ :: _, _, h => absurd h.not2 (fun h => h)
  | _ :: _, [], _, h => absurd h.not1 (fun h => h)
  | p :: a, q :: b, k, h => by
    obtain ⟨h1, _, h3⟩ := h.cons
    rw [idxG, idxG, hf p q h1, SamK.idx f hf a b (k + 1) h3]
theorem SamK.len : ∀ (a b : List PA), SamK a b → a.length = b.length
  | [], [], _ => rfl
  | [], _ :: _, h => absurd h.not2 (fun h => h)
  | _ :: _, [], h => absurd h.not1 (fun h => h)
  | _ :: a, _ :: b, h => by simp [SamK.len a b h.cons.2.2]
theorem SamK.take : ∀ (a b : List PA) (i : Nat), SamK a b → SamK (a.take i) (b.take i)
  | [], [], _, _ => by simp [SamK.nil]
  | [], _ :: _, _, h => absurd h.not2 (fun h => h)
  | _ :: _, [], _, h => absurd h.not1 (fun h => h)
  | _ :: _, _ :: _, 0, _ => SamK.nil
  | _ :: a, _ :: b, i + 1, h => by
    obtain ⟨h1, h2, h3⟩ := h.cons
    exact SamK.mk h1 h2 (SamK.take a b i h3)
theorem SamK.drop : ∀ (a b : List PA) (i : Nat), SamK a b → SamK (a.drop i) (b.drop i)
  | [], [], _, _ => by simp [SamK.nil]
  | [], _ :: _, _, h => absurd h.not2 (fun h => h)
  | _ :: _, [], _, h => absurd h.not1 (fun h => h)
  | _ :: _, _ :: _, 0, h => h
  | _ :: a, _ :: b, i + 1, h => SamK.drop a b i h.cons.2.2
theorem SamK.app : ∀ (a b c e : List PA), SamK a b → SamK c e → SamK (a ++ c) (b ++ e)
  | [], [], _, _, _, h => h
  | [], _ :: _, _, _, h, _ => absurd h.not2 (fun h => h)
  | _ :: _, [], _, _, h, _ => absurd h.not1 (fun h => h)
  | _ :: a, _ :: b, c, e, h, h' => by
    obtain ⟨h1, h2, h3⟩ := h.cons
    exact SamK.mk h1 h2 (SamK.app a b c e h3 h')
theorem SamK.with_ {a b : List PA} (h : SamK a b) (i i2 : Nat) (p : PA) : SamK (withLL i i2 a p) (withLL i i2 b p) :=
  SamK.app _ _ _ _ (SamK.take a b i h) (SamK.app [p] [p] _ _ (SamK.mk rfl ((ord_cmpV 12).refl _) SamK.nil) (SamK.drop a b i2 h))
theorem SamK.from_ {a b : List PA} (h : SamK a b) (key : ByteArray) (v : V) : fromOf key a = fromOf key b ∧ toOf key a = toOf key b ∧ withE key v a = withE key v b := by
  have e1 : idxG (keyB key) a 0 = idxG (keyB key) b 0 := SamK.idx (keyB key) (fun p q h => by unfold keyB; rw [h]) a b 0 h
  have e2 : idxG (gtB key) a 0 = idxG (gtB key) b 0 := SamK.idx (gtB key) (fun p q h => by unfold gtB; rw [h]) a b 0 h
  have e3 := SamK.len a b h
  have e4 : insAt key a = insAt key b := by unfold insAt; rw [e2, e3]
  refine ⟨?_, ?_, ?_⟩
  · unfold fromOf; rw [e1, e4]
  · unfold toOf; rw [e1, e4]
  · unfold withE; rw [e1, e3]
theorem SamK.of {t u : TA} (h : samT t.tv' u.tv' = true) : SamK t.l u.l ∧ t.id = u.id ∧ t.label.toList = u.label.toList ∧ t.o = u.o ∧ t.i = u.i := by
  simp [samT, TA.tv'] at h
  exact ⟨h.2, h.1.1.1.1, h.1.1.1.2, h.1.1.2, h.1.2⟩
/-- Both with another value. -/
theorem with_same {t u c e : TA} {key : ByteArray} {x : At} (h : samT t.tv' u.tv' = true)
    (hc : (withE key x.t t.l ≠ 0 ∧ c.tv' = zeroTV) ∨ (withE key x.t t.l = 0 ∧ c.tv' = ⟨t.id, t.label, t.o, t.i, (withLL (fromOf key t.l) (toOf key t.l) t.l ⟨key, x⟩).map PA.ckv⟩))
    (he : (withE key x.t u.l ≠ 0 ∧ e.tv' = zeroTV) ∨ (withE key x.t u.l = 0 ∧ e.tv' = ⟨u.id, u.label, u.o, u.i, (withLL (fromOf key u.l) (toOf key u.l) u.l ⟨key, x⟩).map PA.kv⟩)) :
    samT c.tv' e.tv' = true ∧ withE key x.t t.l = withE key x.t u.l := by
  obtain ⟨hk, h1, h2, h3, h4⟩ := SamK.of h
  obtain ⟨f1, f2, f3⟩ := hk.from_ key x.t
  refine ⟨?_, f3⟩
  rw [f3] at hc
  rcases hc with ⟨n, hc⟩ | ⟨n, hc⟩
  · rcases he with ⟨_, he⟩ | ⟨n', _⟩
    · rw [hc, he, samT_refl]
    · exact absurd n' n
  · rcases he with ⟨n', _⟩ | ⟨_, he⟩
    · exact absurd n n'
    · rw [hc, he, f1, f2]
      have hw := hk.with_ (fromOf key u.l) (toOf key u.l) ⟨key, x⟩
      unfold SamK at hw
      unfold samT
      rw [ckv_eq, samL_left, hw]
      simp [h1, h2, h3, h4]
end Go.Proofs.Ytciipggccjiaiaa
