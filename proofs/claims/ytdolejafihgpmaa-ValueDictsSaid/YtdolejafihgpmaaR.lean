/- Rows of keys and of values that grow: what value.mapOf makes. -/
import Derived.Test.YtdolejafihgpmaaQ
import Derived.Deep.AppendLies
namespace Go.Proofs.Ytdolejafihgpmaa
open Go.RowKit Go.Sort

def Pr.kc (p : Pr) : List Value := [.int .i64 p.x.k, .int .i64 p.x.n, .string p.x.s, .slice p.a1 p.x.l.length p.n1, .slice p.a2 p.x.m.length p.n2]
def Pr.vc (p : Pr) : List Value := [.int .i64 p.y.k, .int .i64 p.y.n, .string p.y.s, .slice p.a3 p.y.l.length p.n3, .slice p.a4 p.y.m.length p.n4]

/-- A row of values of the call's own that grows. -/
def VG (w : World) (base : Nat) (v : Value) (f : Pr → List Value) (acc : List Pr) : Prop :=
  (v = .slice none 0 0 ∧ acc = []) ∨ ∃ g cap, v = .slice (some ⟨g, 0, none⟩) acc.length cap ∧ base ≤ g ∧ acc.length ≤ cap ∧ cap ≤ maxLen ∧ Blk w g cap ∧ ∀ (i : Nat) (p : Pr), acc[i]? = some p → ∀ c, c < 5 → w.cell? ⟨g, i * 5 + c, none⟩ = some ((f p)[c]!)
theorem VG.nil (w : World) (base : Nat) (f : Pr → List Value) : VG w base (.slice none 0 0) f [] := .inl ⟨rfl, rfl⟩
theorem VG.keep {w w' : World} {base : Nat} {v : Value} {f : Pr → List Value} {acc : List Pr} (h : VG w base v f acc) (hk : ∀ g, v.ownBlock = some g → base ≤ g → g < w.heap.size → w'.heap[g]? = w.heap[g]?) : VG w' base v f acc := by
  rcases h with h | ⟨g, cap, rfl, h1, h2, h3, h4, h5⟩
  · exact .inl h
  · have e := hk g rfl h1 h4.lt
    exact .inr ⟨g, cap, rfl, h1, h2, h3, h4.kept e, fun i p hi c hc => (World.cell?_of_block (w := w) (a := ⟨g, _, none⟩) e).trans (h5 i p hi c hc)⟩
theorem VG.below {w w' : World} {base : Nat} {v : Value} {f : Pr → List Value} {acc : List Pr} (h : VG w base v f acc) (hb : Below w.heap.size w w') : VG w' base v f acc := h.keep fun g _ _ hg => hb.block g hg
theorem VG.lt {w : World} {base : Nat} {v : Value} {f : Pr → List Value} {acc : List Pr} (h : VG w base v f acc) : ∀ g, v.ownBlock = some g → base ≤ g ∧ g < w.heap.size := by
  rcases h with ⟨rfl, _⟩ | ⟨g, cap, rfl, h1, h2, h3, h4, h5⟩
  · intro g h; cases h
  · intro g' h
    injection h with h
    subst h
    exact ⟨h1, h4.lt⟩
theorem VG.owns {w : World} {base : Nat} {v : Value} {f : Pr → List Value} {acc : List Pr} (h : VG w base v f acc) :
    ∃ xs, w.ownsRow base 24 5 v acc.length xs ∧ xs.length = acc.length * 5 ∧ ∀ i p, acc[i]? = some p → ∀ c, c < 5 → xs[i * 5 + c]? = some ((f p)[c]!) := by
  rcases h with ⟨rfl, rfl⟩ | ⟨g, cap, rfl, h1, h2, h3, h4, h5⟩
  · exact ⟨[], World.ownsRow_nil _ _ _ _, rfl, fun i p h => by simp at h⟩
  · obtain ⟨cs, hb, hs⟩ := h4
    refine ⟨cs.toList.take (acc.length * 5), ⟨by simp; omega, .inr ⟨g, cap, cs, rfl, h1, hb, h2, h3, hs, rfl⟩⟩, by simp; omega, fun i p hi c hc => ?_⟩
    have hip := (List.getElem?_eq_some_iff.1 hi).1
    have := h5 i p hi c hc
    rw [cell_of_row w g _ cs 24 (0, 0) hb] at this
    rw [List.getElem?_take, if_pos (by omega)]
    simpa using this
theorem vg_of_owns {w : World} {base g cap : Nat} {f : Pr → List Value} {acc : List Pr} {p : Pr} {xs : List Value} (h : w.ownsRow base 24 5 (.slice (some ⟨g, 0, none⟩) (acc.length + 1) cap) (acc.length + 1) (xs ++ f p)) (hl : xs.length = acc.length * 5) (hf : (f p).length = 5)
    (hx : ∀ i p, acc[i]? = some p → ∀ c, c < 5 → xs[i * 5 + c]? = some ((f p)[c]!)) : VG w base (.slice (some ⟨g, 0, none⟩) (acc.length + 1) cap) f (acc ++ [p]) := by
  have hcells := World.ownsRow.cells (g := g) h rfl
  rcases h.2 with ⟨e, _⟩ | ⟨g', cap', cur, e, hb, hg, hnc, hcm, hcs, _⟩
  · cases e
  · injection e with e1 _ e3
    injection e1 with e1
    injection e1 with e1
    subst e1; subst e3
    have ad : ∀ j, (⟨g, 0, none⟩ : Addr).add j = ⟨g, j, none⟩ := fun j => by unfold Addr.add; split <;> simp_all
    refine .inr ⟨g, cap, by simp, hb, by simp; omega, hcm, ⟨cur, hg, hcs⟩, fun i q hi c hc => ?_⟩
    rw [← ad]
    apply hcells
    rcases Nat.lt_or_ge i acc.length with hlt | hge
    · rw [List.getElem?_append_left hlt] at hi
      rw [List.getElem?_append_left (by omega)]
      exact hx i q hi c hc
    · have hq := (List.getElem?_eq_some_iff.1 hi).1
      simp at hq
      obtain rfl : i = acc.length := by omega
      simp at hi
      subst hi
      rw [List.getElem?_append_right (by omega), hl, show acc.length * 5 + c - acc.length * 5 = c by omega]
      rw [List.getElem?_eq_getElem (by omega), getElem!_pos (f p) c (by omega)]
/-- The last pair gets another value. -/
theorem VG.put {w : World} {base g cap : Nat} {f : Pr → List Value} {acc : List Pr} {q p : Pr} (h : VG w base (.slice (some ⟨g, 0, none⟩) (acc ++ [q]).length cap) f (acc ++ [q])) {v0 v1 v2 v3 v4 : Value} (hf : f p = [v0, v1, v2, v3, v4]) :
    VG (put5 w g (acc.length * 5) v0 v1 v2 v3 v4) base (.slice (some ⟨g, 0, none⟩) (acc ++ [q]).length cap) f (acc ++ [p]) := by
  rcases h with ⟨e, _⟩ | ⟨g', cap', e, h1, h2, h3, h4, h5⟩
  · cases e
  · injection e with e1 _ e3
    injection e1 with e1
    injection e1 with e1
    subst e1; subst e3
    have hle : acc.length + 1 ≤ cap := by simpa using h2
    refine .inr ⟨g, cap, by simp, h1, by simpa using h2, h3, put5_blk h4 _ _ _ _ _ _, fun i r hi c hc => ?_⟩
    rcases Nat.lt_or_ge i acc.length with hlt | hge
    · rw [List.getElem?_append_left hlt] at hi
      rw [put5_off h4 _ _ (.inl (by omega))]
      exact h5 i r (by rw [List.getElem?_append_left hlt]; exact hi) c hc
    · have hq := (List.getElem?_eq_some_iff.1 hi).1
      simp at hq
      obtain rfl : i = acc.length := by omega
      simp at hi
      subst hi
      obtain ⟨a0, a1, a2, a3, a4⟩ := put5_at h4 (acc.length * 5) (by omega) v0 v1 v2 v3 v4
      rw [hf]
      match c, hc with
      | 0, _ => exact a0
      | 1, _ => exact a1
      | 2, _ => exact a2
      | 3, _ => exact a3
      | 4, _ => exact a4

/-- append of one value, as a step of a region that draws. -/
theorem step_append_VG {ops : Array Oper} {o : Oper} {a : Act} {W : World} {K : Act → World → Prop} {Q : Exit → Act → World → Prop} {E : Prop} (hgd : o.guard = none) (s x : Operand)
    (ho : o.op = .call { callee := .builtin .append, args := #[s, x], argTypes := #[22, 22] }) (base : Nat) (A : Option Addr) (c : Nat) (f : Pr → List Value) (acc : List Pr) (p : Pr)
    (hs : a.eval s = .slice A acc.length c) (hV : VG W base (.slice A acc.length c) f acc) (ad : Addr) (hx : a.eval x = .slice (some ad) 1 1) (hnews : ∀ j u, (f p)[j]? = some u → W.cell? (ad.add j) = some u)
    (hf : (f p).length = 5) (h1 : ∀ u ∈ f p, u.oneCell' = true) (hlen : acc.length ≤ 100000) (hbase : base ≤ W.heap.size)
    (h : ∀ g cap w', VG w' base (.slice (some ⟨g, 0, none⟩) (acc.length + 1) cap) f (acc ++ [p]) → W.grownBy w' (Value.slice A acc.length c).ownBlock → ((Value.slice A acc.length c).ownBlock = some g ∨ g = W.heap.size) → g < w'.heap.size → K (a.put o.dst (.slice (some ⟨g, 0, none⟩) (acc.length + 1) cap)) w') :
    if Region.wanted o (yielded ops a.tmps) = true then Oper.wp Try.prog o a W K Q else E := by
  obtain ⟨xs, hown, hl, hxs⟩ := hV.owns
  obtain ⟨i0, hi, hz0, hz1, hz2⟩ := info_parts info24
  refine step_append_lies W hgd s x 22 ho base 24 i0 _ 5 80 Try.underlying22 hi hz0 hz1 hz2 rfl (by decide) _ acc.length xs hs hown ad 1 1 (f p) hx (by rw [hf]) hnews h1 (by omega) (by unfold maxLen; omega) (by omega) hbase W.heap.size rfl ?_
  intro g cap w' hown' hgrow hat hlt
  exact h g cap w' (vg_of_owns hown' hl hf hxs) hgrow hat hlt
theorem kc_len (p : Pr) : p.kc.length = 5 := rfl
theorem vc_len (p : Pr) : p.vc.length = 5 := rfl
theorem kc_one (p : Pr) : ∀ v ∈ p.kc, v.oneCell' = true := by
  intro v hv
  simp only [Pr.kc, List.mem_cons, List.not_mem_nil, or_false] at hv
  rcases hv with rfl | rfl | rfl | rfl | rfl <;> rfl
theorem vc_one (p : Pr) : ∀ v ∈ p.vc, v.oneCell' = true := by
  intro v hv
  simp only [Pr.vc, List.mem_cons, List.not_mem_nil, or_false] at hv
  rcases hv with rfl | rfl | rfl | rfl | rfl <;> rfl
theorem news1 (w : World) (t : TypeId) (vs : List Value) : ∀ j u, vs[j]? = some u → (w.alloc (.cells vs.toArray t)).cell? ((⟨w.heap.size, 0, none⟩ : Addr).add j) = some u := new_cells w t vs 0
theorem news2 (w : World) (t : TypeId) (vs : List Value) (o : Obj) : ∀ j u, vs[j]? = some u → ((w.alloc (.cells vs.toArray t)).alloc o).cell? ((⟨w.heap.size, 0, none⟩ : Addr).add j) = some u := fun j u h => by
  rw [← news1 w t vs j u h]
  have ad : (⟨w.heap.size, 0, none⟩ : Addr).add j = ⟨w.heap.size, j, none⟩ := by unfold Addr.add; split <;> simp_all
  rw [ad]
  exact (below_new _ _).cell (p := ⟨w.heap.size, j, none⟩) (by simp)
theorem news3 (w : World) (t : TypeId) (vs : List Value) (o : Obj) : ∀ j u, vs[j]? = some u → ((w.alloc o).alloc (.cells vs.toArray t)).cell? ((⟨w.heap.size + 1, 0, none⟩ : Addr).add j) = some u := by
  have := news1 (w.alloc o) t vs
  rwa [size_alloc] at this
theorem news_far {w w' : World} {row : Option Nat} {g : Nat} {vs : List Value} (h : ∀ j u, vs[j]? = some u → w.cell? ((⟨g, 0, none⟩ : Addr).add j) = some u) (hg : w.grownBy w' row) (hlt : g < w.heap.size) (hne : some g ≠ row) : ∀ j u, vs[j]? = some u → w'.cell? ((⟨g, 0, none⟩ : Addr).add j) = some u := fun j u hj => by
  have ad : (⟨g, 0, none⟩ : Addr).add j = ⟨g, j, none⟩ := by unfold Addr.add; split <;> simp_all
  have := h j u hj
  rw [ad] at this ⊢
  rw [hg.cell_far ⟨g, j, none⟩ hlt hne]; exact this

/-- A pair more: behind the others, or, if the last one has that key, in its place, with its value. -/
def gat (acc : List Pr) (p : Pr) : List Pr :=
  match acc.getLast? with
  | some q => if cmpV 12 q.x p.x == 0 then acc.dropLast ++ [{ q with y := p.y, a3 := p.a3, n3 := p.n3, a4 := p.a4, n4 := p.n4 }] else acc ++ [p]
  | none => acc ++ [p]
def mapV (acc : List (V × V)) : V := .mk 7 0 ⟨#[]⟩ (acc.map (·.1)) (acc.map (·.2))
end Go.Proofs.Ytdolejafihgpmaa
