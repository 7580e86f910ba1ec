/- What the laws share. -/
import Derived.Test.YtmgjiipooffggaaKX
import Derived.Test.YtmgjiipooffggaaVRc
import Derived.Test.YtmgjiipooffggaaVVp
namespace Go.Proofs.Ytmgjiipooffggaa
set_option maxRecDepth 100000
open Go.RowKit Go.Sort

theorem lots_one (w : World) (d : Nat) (x : At) (hx : x.In w d) : Calls Try.prog 10 #[.slice (some ⟨w.heap.size, 0, none⟩) 1 1] (w.alloc (.cells #[.int .i64 x.t.k, .int .i64 x.t.n, .string x.t.s, .slice x.A x.t.l.length x.c, .slice x.A' x.t.m.length x.c'] 24)) fun e w' => ∃ b : Bool, e = .returned (.bool b) ∧ Below w.heap.size w w' ∧ (b = false → okV 12 x.t = true → (txt 12 x.t).length ≤ 30000) := by
  have := lots_ok (w.alloc (.cells (flatA [x]).toArray 24)) d _ 1 _ (row_lay w d [x] (by intro q hq; have : q = x := (by simpa using hq); subst this; exact hx) (by simp))
  rw [List.length_map] at this
  refine Calls.mono this ?_
  rintro e w' ⟨b, he, hb, hc⟩
  refine ⟨b, he, bnext (below_new _ _) hb, fun h1 h2 => ?_⟩
  have h3 := hc h1 (by intro z hz; have : z = x.t := (by simpa using hz); subst this; exact h2)
  have h4 := txt_len 12 x.t h2 (ints_of_rd _ _ _ _ _ _ _ hx)
  simp [sumN] at h3
  omega
theorem lots_two (w : World) (d : Nat) (x y : At) (hx : x.In w d) (hy : y.In w d) : Calls Try.prog 10 #[.slice (some ⟨w.heap.size, 0, none⟩) 2 2] (w.alloc (.cells #[.int .i64 x.t.k, .int .i64 x.t.n, .string x.t.s, .slice x.A x.t.l.length x.c, .slice x.A' x.t.m.length x.c', .int .i64 y.t.k, .int .i64 y.t.n, .string y.t.s, .slice y.A y.t.l.length y.c, .slice y.A' y.t.m.length y.c'] 24)) fun e w' => ∃ b : Bool, e = .returned (.bool b) ∧ Below w.heap.size w w' ∧ (b = false → okV 12 x.t = true → okV 12 y.t = true → (txt 12 x.t).length + (txt 12 y.t).length ≤ 30000) := by
  have := lots_ok (w.alloc (.cells (flatA [x, y]).toArray 24)) d _ 2 _ (row_lay w d [x, y] (by intro q hq; have : q = x ∨ q = y := (by simpa using hq); rcases this with rfl | rfl; exact hx; exact hy) (by simp))
  rw [List.length_map] at this
  refine Calls.mono this ?_
  rintro e w' ⟨b, he, hb, hc⟩
  refine ⟨b, he, bnext (below_new _ _) hb, fun h1 h2 h2' => ?_⟩
  have h3 := hc h1 (by intro z hz; have : z = x.t ∨ z = y.t := (by simpa using hz); rcases this with rfl | rfl; exact h2; exact h2')
  have h4 := txt_len 12 x.t h2 (ints_of_rd _ _ _ _ _ _ _ hx)
  have h5 := txt_len 12 y.t h2' (ints_of_rd _ _ _ _ _ _ _ hy)
  simp [sumN] at h3
  omega
theorem same_at (w : World) (d d' : Nat) (x y : At) (hx : x.In w d) (hy : y.In w d') : Calls Try.prog 20 #[x.v, y.v] w fun e w' => e = .returned (.bool (cmpV 12 x.t y.t == 0)) ∧ Below w.heap.size w w' :=
  refSame_any w d d' x.t y.t _ _ _ _ _ _ _ _ hx hy

/-- Two values that may be and are not told apart are one. -/
theorem cmpI_zero {a b : Int} (h : cmpI a b = 0) : a = b := by
  unfold cmpI at h
  split at h
  · cases h
  · split at h
    · cases h
    · omega
theorem cmpS_zero {a b : ByteArray} (h : cmpS a b = 0) : a = b := by
  have := (same_iff _ _).1 h
  rw [ByteArray.toList_eq, ByteArray.toList_eq] at this
  apply ByteArray.ext
  exact Array.toList_inj.1 this
theorem orI_both {x y : Int} (h : orI x y = 0) : x = 0 ∧ y = 0 := by
  unfold orI at h
  split at h
  · rename_i h0; exact ⟨h0, h⟩
  · rename_i h0; exact absurd h h0
theorem rowC_zero {f : V → V → Int} : ∀ (l l' : List V), (∀ x ∈ l, ∀ y ∈ l', f x y = 0 → x = y) → rowC f l l' = 0 → l = l'
  | [], [], _, _ => rfl
  | [], _ :: _, _, h => by simp [rowC] at h
  | _ :: _, [], _, h => by simp [rowC] at h
  | x :: l, y :: l', hf, h => by
    have h' : orI (f x y) (rowC f l l') = 0 := h
    obtain ⟨h1, h2⟩ := orI_both h'
    rw [hf x (by simp) y (by simp) h1, rowC_zero l l' (fun a ha b hb => hf a (by simp [ha]) b (by simp [hb])) h2]
theorem cmp_zero : ∀ (r s : Nat) (a b : V), okV r a = true → okV r b = true → r ≤ s → cmpV s a b = 0 → a = b
  | 0, _, _, _, h, _, _, _ => by cases h
  | r + 1, 0, _, _, _, _, h, _ => by omega
  | r + 1, s + 1, a, b, ha, hb, hrs, h => by
    have h' : orI (cmpF a b) (orI (rowC (cmpV s) a.l b.l) (rowC (cmpV s) a.m b.m)) = 0 := h
    obtain ⟨h1, h2⟩ := orI_both h'
    obtain ⟨h3, h4⟩ := orI_both h2
    unfold cmpF at h1
    obtain ⟨k1, k2⟩ := orI_both h1
    obtain ⟨k3, k4⟩ := orI_both k2
    obtain ⟨_, hal, ham, _⟩ := (ok_parts r a).1 ha
    obtain ⟨_, hbl, hbm, _⟩ := (ok_parts r b).1 hb
    have e1 := rowC_zero _ _ (fun x hx y hy h => cmp_zero r s x y (hal x hx) (hbl y hy) (by omega) h) h3
    have e2 := rowC_zero _ _ (fun x hx y hy h => cmp_zero r s x y (ham x hx) (hbm y hy) (by omega) h) h4
    rw [a.eta, b.eta, cmpI_zero k1, cmpI_zero k3, cmpS_zero k4, e1, e2]

/-- Parse of a text that is longer than a value's, or a value's. -/
theorem prs_txt (t : V) (ho : okV 12 t = true) (hi : intsOk 12 t) : prs (txt 12 t) = some t := by
  have := rd_here 12 t [] ho hi (fun _ => by show numB 0 = false; decide)
  rw [List.append_nil] at this
  rw [prs_some this, ho]; rfl
theorem prs_sound {l : Bs} {t : V} (h : prs l = some t) : l = txt 12 t ∧ okV 12 t = true := by
  unfold prs at h
  cases hr : rd 12 l with
  | none => rw [hr] at h; cases h
  | some p =>
    obtain ⟨u, q⟩ := p
    rw [hr] at h
    simp only at h
    split at h
    · rename_i hc
      injection h with h
      subst h
      rw [Bool.and_eq_true, List.isEmpty_iff] at hc
      have := rd_sound 12 l u q hr
      rw [hc.1, List.append_nil] at this
      exact ⟨this, hc.2⟩
    · cases h
end Go.Proofs.Ytmgjiipooffggaa
