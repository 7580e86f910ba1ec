/- Carried over from an earlier seat. -/
import Derived.Test.YtebkkjfeikpfgaaBXB
import Derived.Test.YtebkkjfeikpfgaaBVOp
namespace Go.Proofs.Ytebkkjfeikpfgaa
set_option maxRecDepth 100000
open Go.RowKit Go.ChangeShapes Go.WideShapes Go.ChangeAt Go.Deep
set_option maxRecDepth 100000

section
variable {H : Type} {enc : TypeId × Value → H} {W : World} {base : Nat} {spare : Nat → Bool} {held : Bool}
/-- A row that came in, whatever its elements are. -/
theorem rows_open {t e : TypeId} {size bytes : Nat} (ht : Try.prog.underlying t = some (.slice e)) (hcell : Try.prog.cellsOf e = size) (hby : Try.prog.bytesOf e = bytes) (hs0 : 0 < size) (_hb0 : 0 < bytes) {α : Type} {n : Nat} (E : List Value → α → Prop) (hE : ∀ cs a, E cs a → cs.length = size)
    (ih : ∀ (cs : List Value) (x : DataW H × List MemPlace), DataW.trod enc Try.prog W base spare held n e cs = some x → Sized x.1 e → ∃ a, E cs a)
    {v : Value} {x : DataW H × List MemPlace} (h : DataW.trod enc Try.prog W base spare held (n + 1) t [v] = some x) (hs : Sized x.1 t) :
    ∃ (A : Option Addr) (c : Nat) (l : List α), v = .slice A l.length c ∧ l.length ≤ c ∧ c ≤ maxLen ∧ l.length * bytes ≤ 140737488351232 ∧ (A = none → c = 0) ∧ (0 < l.length → ∃ b off, A = some ⟨b, off, none⟩ ∧ b < W.heap.size ∧ ∀ (j : Nat) (a : α), l[j]? = some a → ∃ cs, E cs a ∧ ∀ m u, cs[m]? = some u → W.cell? ⟨b, off + j * size + m, none⟩ = some u) ∧ ∀ a ∈ l, ∃ cs, E cs a := by
  rcases DataW.trod_slice ht h with ⟨hv, _⟩ | ⟨a, len, cap, elems, rest, n', hn, hv, hx, hb, hl, hm, hlen, hel, _, _⟩
  · injection hv with hv
    exact ⟨none, 0, [], hv, Nat.le_refl _, by unfold maxLen; omega, by simp, fun _ => rfl, fun h => absurd h (by simp), fun a ha => by cases ha⟩
  · obtain rfl : n' = n := by omega
    injection hv with hv
    subst hx
    have hw : ∀ m ∈ (DataW.slice (elems.map (·.1)) (rest.map (·.1)) : DataW H).weights Try.prog t, m ≤ 140737488351232 := hs
    simp only [DataW.weights, ht, List.mem_cons, List.mem_append] at hw
    have h80 := hw _ (.inl rfl)
    rw [hby] at h80
    simp only [List.length_map] at h80
    have hone : ∀ i, i < len → ∃ cs' a', W.cells? base (a.add (i * size)) size = some cs' ∧ E cs' a' := fun i hi => by
      have hb := hel i hi
      rw [hcell, List.getElem?_eq_getElem (by omega)] at hb
      obtain ⟨cs', h1, h2⟩ := Option.bind_eq_some_iff.1 hb
      obtain ⟨a', e⟩ := ih cs' _ h2 (fun m hm => hw m (.inr (.inl (weightsAll_mem (List.mem_map_of_mem (List.getElem_mem _)) m hm))))
      exact ⟨cs', a', h1, e⟩
    have hspot : 0 < len → a.spot = none ∧ a.block < W.heap.size := fun h0 => by
      obtain ⟨cs', a', h1, e⟩ := hone 0 h0
      have hl' := hE _ _ e
      have h3 := (World.cells?_some h1).2.2 0 (by omega)
      rw [List.getElem?_eq_getElem (by omega)] at h3
      have e0 : (a.add (0 * size)).add 0 = a := by unfold Addr.add; simp
      rw [e0] at h3
      exact ⟨World.cell?_spot h3, World.block_lt_of_cell? W _ h3⟩
    have hall : ∀ k, k ≤ len → ∃ l : List α, l.length = k ∧ ∀ j a', l[j]? = some a' → ∃ cs, W.cells? base (a.add (j * size)) size = some cs ∧ E cs a' := fun k => by
      induction k with
      | zero => exact fun _ => ⟨[], rfl, fun j t h => by simp at h⟩
      | succ k ihk =>
        intro hk
        obtain ⟨l, h1, h2⟩ := ihk (by omega)
        obtain ⟨cs', a', h3, e⟩ := hone k (by omega)
        refine ⟨l ++ [a'], by simp [h1], fun j u hj => ?_⟩
        rcases Nat.lt_or_ge j l.length with hlt | hge
        · rw [List.getElem?_append_left hlt] at hj
          exact h2 j u hj
        · have := (List.getElem?_eq_some_iff.1 hj).1
          simp at this
          obtain rfl : j = l.length := by omega
          simp at hj
          subst hj
          rw [h1]
          exact ⟨cs', h3, e⟩
    obtain ⟨l, h1, h2⟩ := hall len (Nat.le_refl _)
    refine ⟨some a, cap, l, by rw [h1]; exact hv, by omega, hm, by rw [h1]; exact Nat.le_trans (Nat.mul_le_mul_right bytes (by omega)) h80, (fun e => by cases e), fun h0 => ?_, fun a' ha => ?_⟩
    · obtain ⟨hsp, hbl⟩ := hspot (by omega)
      obtain ⟨b, off, spot⟩ := a
      obtain rfl : spot = none := hsp
      refine ⟨b, off, rfl, hbl, fun j a' hj => ?_⟩
      obtain ⟨cs, h3, e⟩ := h2 j a' hj
      refine ⟨cs, e, fun m u hu => ?_⟩
      have hlt := (List.getElem?_eq_some_iff.1 hu).1
      have hc := (World.cells?_some h3).2.2 m (by have := hE _ _ e; omega)
      rw [add_none, add_none, hu] at hc
      exact hc
    · obtain ⟨j, hj⟩ := List.mem_iff_getElem?.1 ha
      obtain ⟨cs, _, e⟩ := h2 j a' hj
      exact ⟨cs, e⟩
theorem cells39 : Try.prog.cellsOf 84 = 6 := by kernel_rfl
theorem bytes39 : Try.prog.bytesOf 84 = 96 := by kernel_rfl
theorem cells34 : Try.prog.cellsOf 42 = 5 := by kernel_rfl
theorem bytes34 : Try.prog.bytesOf 42 = 64 := by kernel_rfl
theorem cells24g : Try.prog.cellsOf 24 = 2 := by kernel_rfl
theorem prop_opens (n : Nat) : ∀ (cs : List Value) (x : DataW H × List MemPlace), DataW.trod enc Try.prog W base spare held n 84 cs = some x → Sized x.1 84 → ∃ p : PA, cs = p.cs ∧ p.x.In W n := by
  intro cs x h hs
  obtain ⟨ys, m, hn, hx, hcl, hyl, hf⟩ := DataW.trod_struct Try.underlying84 h
  rw [cells39] at hcl
  match cs, hcl with
  | [v0, v1, v2, v3, v4, v5], _ =>
    have f0 := hf 0 _ rfl
    have f1 := hf 1 _ rfl
    match ys, hyl with
    | [y0, y1], _ =>
      have g0 : DataW.trod enc Try.prog W base spare held m 9 [v0] = some y0 := f0
      have g1 : DataW.trod enc Try.prog W base spare held m 82 [v1, v2, v3, v4, v5] = some y1 := f1
      subst hx
      have hw : ∀ q ∈ (DataW.agg [y0.1, y1.1] : DataW H).weights Try.prog 84, q ≤ 140737488351232 := hs
      simp only [DataW.weights, Try.underlying84] at hw
      have hw' : ∀ q ∈ DataW.weightsEach Try.prog [9, 82] [y0.1, y1.1], q ≤ 140737488351232 := hw
      simp only [DataW.weightsEach, List.mem_append] at hw'
      obtain ⟨s, e0, _, _⟩ := DataW.trod_string Try.underlying9 g0
      injection e0 with e0
      obtain ⟨t, A, c, A', c', e1, hr⟩ := value_opens m _ _ g1 (fun z hz => hw' z (by simp [hz]))
      refine ⟨⟨s, ⟨t, A, c, A', c'⟩⟩, ?_, Rd.more hr (Nat.le_refl _) (Nat.le_refl _) (by omega)⟩
      rw [e0, e1]; rfl
theorem props_open {n : Nat} {v : Value} {x : DataW H × List MemPlace} (h : DataW.trod enc Try.prog W base spare held (n + 1) 40 [v] = some x) (hs : Sized x.1 40) : ∃ A c l, v = .slice A (List.length (α := PA) l) c ∧ PRow W 0 n A c l := by
  obtain ⟨A, c, l, e, h1, h2, h3, h4, h5, h6⟩ := rows_open Try.underlying40 cells39 bytes39 (by omega) (by omega) (fun cs (p : PA) => cs = p.cs ∧ p.x.In W n) (fun cs a e => by rw [e.1]; rfl) (prop_opens n) h hs
  refine ⟨A, c, l, e, ⟨h1, h2, by omega, h4, fun h0 => ?_, fun p hp => ?_⟩⟩
  · obtain ⟨b, off, e, hb, hc⟩ := h5 h0
    refine ⟨b, off, e, Nat.zero_le _, hb, fun j p hj => ?_⟩
    obtain ⟨cs, ⟨rfl, _⟩, hcs⟩ := hc j p hj
    exact ⟨hcs 0 _ rfl, hcs 1 _ rfl, hcs 2 _ rfl, hcs 3 _ rfl, hcs 4 _ rfl, hcs 5 _ rfl⟩
  · obtain ⟨cs, _, hi⟩ := h6 p hp
    exact hi
def TFld (t : TA) : Prop := (Lit.int .i64 t.id).wf = true ∧ (Lit.int .i64 t.o).wf = true ∧ (Lit.int .i64 t.i).wf = true
def TA.cs (t : TA) : List Value := [.int .i64 t.id, .string t.label, .int .i64 t.o, .int .i64 t.i, .slice t.A t.l.length t.c]
theorem thing_opens (n : Nat) : ∀ (cs : List Value) (x : DataW H × List MemPlace), DataW.trod enc Try.prog W base spare held n 42 cs = some x → Sized x.1 42 → ∃ t : TA, cs = t.cs ∧ PRow W 0 n t.A t.c t.l ∧ TFld t := by
  intro cs x h hs
  obtain ⟨ys, m, hn, hx, hcl, hyl, hf⟩ := DataW.trod_struct Try.underlying42 h
  rw [cells34] at hcl
  match cs, hcl with
  | [v0, v1, v2, v3, v4], _ =>
    have f0 := hf 0 _ rfl
    have f1 := hf 1 _ rfl
    have f2 := hf 2 _ rfl
    have f3 := hf 3 _ rfl
    have f4 := hf 4 _ rfl
    match ys, hyl with
    | [y0, y1, y2, y3, y4], _ =>
      have g0 : DataW.trod enc Try.prog W base spare held m 3 [v0] = some y0 := f0
      have g1 : DataW.trod enc Try.prog W base spare held m 9 [v1] = some y1 := f1
      have g2 : DataW.trod enc Try.prog W base spare held m 3 [v2] = some y2 := f2
      have g3 : DataW.trod enc Try.prog W base spare held m 3 [v3] = some y3 := f3
      have g4 : DataW.trod enc Try.prog W base spare held m 40 [v4] = some y4 := f4
      subst hx
      have hw : ∀ q ∈ (DataW.agg [y0.1, y1.1, y2.1, y3.1, y4.1] : DataW H).weights Try.prog 42, q ≤ 140737488351232 := hs
      simp only [DataW.weights, Try.underlying42] at hw
      have hw' : ∀ q ∈ DataW.weightsEach Try.prog [3, 9, 3, 3, 40] [y0.1, y1.1, y2.1, y3.1, y4.1], q ≤ 140737488351232 := hw
      simp only [DataW.weightsEach, List.mem_append] at hw'
      obtain ⟨k, e0, _, k0⟩ := DataW.trod_int Try.underlying3 g0
      obtain ⟨s, e1, _, _⟩ := DataW.trod_string Try.underlying9 g1
      obtain ⟨o, e2, _, k2⟩ := DataW.trod_int Try.underlying3 g2
      obtain ⟨i, e3, _, k3⟩ := DataW.trod_int Try.underlying3 g3
      injection e0 with e0
      injection e1 with e1
      injection e2 with e2
      injection e3 with e3
      cases m with
      | zero => simp [DataW.trod] at g0
      | succ m =>
        obtain ⟨A, c, l, e4, r4⟩ := props_open g4 (fun z hz => hw' z (by simp [hz]))
        subst hn
        refine ⟨⟨k, s, o, i, A, c, l⟩, by rw [e0, e1, e2, e3, e4]; rfl, ⟨r4.le, r4.cap, r4.big, r4.nil, r4.at_, fun p hp => Rd.more (r4.vals p hp) (Nat.le_refl _) (Nat.le_refl _) (by omega)⟩, k0, k2, k3⟩
theorem things_open {n : Nat} {v : Value} {x : DataW H × List MemPlace} (h : DataW.trod enc Try.prog W base spare held (n + 1) 22 [v] = some x) (hs : Sized x.1 22) : ∃ A c l, v = .slice A (List.length (α := TA) l) c ∧ TRow W n A c l ∧ ∀ t ∈ l, TFld t := by
  obtain ⟨A, c, l, e, h1, h2, h3, h4, h5, h6⟩ := rows_open Try.underlying22 cells34 bytes34 (by omega) (by omega) (fun cs (t : TA) => cs = t.cs ∧ PRow W 0 n t.A t.c t.l ∧ TFld t) (fun cs a e => by rw [e.1]; rfl) (thing_opens n) h hs
  refine ⟨A, c, l, e, ⟨h1, by omega, fun h0 => ?_, fun t ht => ?_⟩, fun t ht => ?_⟩
  · obtain ⟨b, off, e, hb, hc⟩ := h5 h0
    refine ⟨b, off, e, hb, fun j t hj => ?_⟩
    obtain ⟨cs, ⟨rfl, _⟩, hcs⟩ := hc j t hj
    exact ⟨hcs 0 _ rfl, hcs 1 _ rfl, hcs 2 _ rfl, hcs 3 _ rfl, hcs 4 _ rfl⟩
  · obtain ⟨cs, _, hi, _⟩ := h6 t ht
    exact hi
  · obtain ⟨cs, _, _, hi⟩ := h6 t ht
    exact hi
/-- A graph, with where its things lie. -/
structure GA where
  AV : Option Addr
  cV : Nat
  vs : List TA
  AE : Option Addr
  cE : Nat
  es : List TA
abbrev GA.v (g : GA) : Value := .agg #[.slice g.AV g.vs.length g.cV, .slice g.AE g.es.length g.cE]
structure GA.In (g : GA) (w : World) (d : Nat) : Prop where
  v : TRow w d g.AV g.cV g.vs
  e : TRow w d g.AE g.cE g.es
  fv : ∀ t ∈ g.vs, TFld t
  fe : ∀ t ∈ g.es, TFld t
theorem open_graph {b0 : Nat} {v : Value} {d : DataW H} {ps : List MemPlace} (hv : Value.okWide Try.prog W .any b0 24 v) (h : DataW.Trod enc Try.prog W base spare held 24 v d ps) (hs : Sized d 24) : ∃ (g : GA) (n : Nat), v = g.v ∧ g.In W n := by
  obtain ⟨cs, rfl, _⟩ := okWide_struct Try.underlying24 hv
  obtain ⟨n, hf⟩ := h
  obtain ⟨ys, m, hn, hx, hcl, hyl, hff⟩ := DataW.trod_struct Try.underlying24 hf
  rw [cells24g] at hcl
  have hcl' : cs.toList.length = 2 := hcl
  obtain ⟨cs, rfl⟩ : ∃ l : List Value, cs = l.toArray := ⟨cs.toList, by simp⟩
  match cs, hcl' with
  | [v0, v1], _ =>
    have f0 := hff 0 _ rfl
    have f1 := hff 1 _ rfl
    match ys, hyl with
    | [y0, y1], _ =>
      have g0 : DataW.trod enc Try.prog W base spare held m 22 [v0] = some y0 := f0
      have g1 : DataW.trod enc Try.prog W base spare held m 22 [v1] = some y1 := f1
      have hd : d = DataW.agg [y0.1, y1.1] := congrArg Prod.fst hx
      subst hd
      have hw : ∀ q ∈ (DataW.agg [y0.1, y1.1] : DataW H).weights Try.prog 24, q ≤ 140737488351232 := hs
      simp only [DataW.weights, Try.underlying24] at hw
      have hw' : ∀ q ∈ DataW.weightsEach Try.prog [22, 22] [y0.1, y1.1], q ≤ 140737488351232 := hw
      simp only [DataW.weightsEach, List.mem_append] at hw'
      cases m with
      | zero => simp [DataW.trod] at g0
      | succ m =>
        obtain ⟨A, c, l, e0, r0, t0⟩ := things_open g0 (fun z hz => hw' z (by simp [hz]))
        obtain ⟨A', c', l', e1, r1, t1⟩ := things_open g1 (fun z hz => hw' z (by simp [hz]))
        exact ⟨⟨A, c, l, A', c', l'⟩, m, by rw [e0, e1], r0, r1, t0, t1⟩
end
end Go.Proofs.Ytebkkjfeikpfgaa

