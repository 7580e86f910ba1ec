/- A row of things that is full, with one more; plain facts for graphs that are hurt. -/
import Derived.Test.YtciipggccjiaiaaPg
namespace Go.Proofs.Ytciipggccjiaiaa
open Go.RowKit Go.Sort
set_option maxRecDepth 100000

def flatT (l : List TA) : List Value := l.flatMap TA.cs
theorem flatT_len : ∀ l : List TA, (flatT l).length = l.length * 5
  | [] => rfl
  | t :: l => by
    have := flatT_len l
    unfold flatT at this ⊢
    rw [List.flatMap_cons, List.length_append, this]
    simp [TA.cs]; omega
theorem flatT_app (a b : List TA) : flatT (a ++ b) = flatT a ++ flatT b := List.flatMap_append
theorem flatT_at : ∀ (l : List TA) (j : Nat) (t : TA), l[j]? = some t → ∀ c, c < 5 → (flatT l)[j * 5 + c]? = t.cs[c]?
  | [], j, t, h, _, _ => by simp at h
  | x :: l, 0, t, h, c, hc => by
    simp at h
    subst h
    unfold flatT
    rw [List.flatMap_cons, List.getElem?_append_left (by simp [TA.cs]; omega)]
    simp
  | x :: l, j + 1, t, h, c, hc => by
    have := flatT_at l j t (by simpa using h) c hc
    unfold flatT at this ⊢
    rw [List.flatMap_cons, List.getElem?_append_right (by simp [TA.cs]; omega)]
    have e : (j + 1) * 5 + c - x.cs.length = j * 5 + c := by simp [TA.cs]; omega
    rw [e]; exact this
theorem flatT_lies {w : World} {b off : Nat} {l : List TA} (h : ∀ j t, l[j]? = some t → cellsT w b (off + j * 5) t) : ∀ (j : Nat) (u : Value), (flatT l)[j]? = some u → w.cell? ⟨b, off + j, none⟩ = some u := fun j u hj => by
  have hj1 := (List.getElem?_eq_some_iff.1 hj).1
  rw [flatT_len] at hj1
  have hq : l[j / 5]? = some l[j / 5] := List.getElem?_eq_getElem (by omega)
  have hv := flatT_at l (j / 5) _ hq (j % 5) (Nat.mod_lt _ (by omega))
  rw [show j / 5 * 5 + j % 5 = j by omega, hj] at hv
  obtain ⟨k0, k1, k2, k3, k4⟩ := h (j / 5) _ hq
  have hm5 : j % 5 < 5 := Nat.mod_lt _ (by omega)
  have hsp : off + j = off + j / 5 * 5 + j % 5 := by omega
  rw [hsp]
  generalize j % 5 = m at hv hm5
  have : m = 0 ∨ m = 1 ∨ m = 2 ∨ m = 3 ∨ m = 4 := by omega
  rcases this with rfl | rfl | rfl | rfl | rfl <;> (injection hv with hv; subst hv)
  · exact k0
  · exact k1
  · exact k2
  · exact k3
  · exact k4
theorem cells_of_flat {w : World} {g : Nat} {l : List TA} {zs : List Value} {e : TypeId} (hb : w.heap[g]? = some (.cells (flatT l ++ zs).toArray e (0, 0))) (j : Nat) (t : TA) (hj : l[j]? = some t) : cellsT w g (j * 5) t := by
  have hl := (List.getElem?_eq_some_iff.1 hj).1
  have hc : ∀ c, c < 5 → w.cell? ⟨g, j * 5 + c, none⟩ = t.cs[c]? := fun c hc => by
    rw [cell_of_row w g (j * 5 + c) _ e (0, 0) hb, List.getElem?_toArray, List.getElem?_append_left (by rw [flatT_len]; omega)]
    exact flatT_at l j t hj c hc
  exact ⟨hc 0 (by omega), hc 1 (by omega), hc 2 (by omega), hc 3 (by omega), hc 4 (by omega)⟩
theorem add_at (b off j : Nat) : (⟨b, off, none⟩ : Addr).add j = ⟨b, off + j, none⟩ := by unfold Addr.add; split <;> simp_all
/-- append of one thing to a row that has no room: a new block. -/
theorem run_appendT (ty : TypeId) (W : World) (d : Nat) (A : Option Addr) (c : Nat) (l : List TA) (hc : c = l.length) (hn : l = [] → A = none) (hl : TRow W d A c l) (z : Nat) (x : TA) (hz : cellsT W z 0 x) (hb : l.length ≤ 10000) :
    ∃ cap w', (Builtin.append_ #[22, 22] ty #[.slice A l.length c, .slice (some ⟨z, 0, none⟩) 1 1]).run Try.prog W = .ok (.slice (some ⟨W.heap.size, 0, none⟩) (l.length + 1) cap) w' ∧ l.length + 1 ≤ cap ∧ (∀ j t, (l ++ [x])[j]? = some t → cellsT w' W.heap.size (j * 5) t) ∧ Below W.heap.size W w' ∧ w'.heap.size = W.heap.size + 1 := by
  obtain ⟨i0, hi, hz0, hz1, hz2⟩ := info_parts info34
  have hx1 : ∀ j t, [x][j]? = some t → cellsT W z (0 + j * 5) t := fun j t hj => by
    have := (List.getElem?_eq_some_iff.1 hj).1
    obtain rfl : j = 0 := by simp at this; omega
    simp at hj
    subst hj
    exact hz
  have hnews : ∀ j v, (flatT [x])[j]? = some v → W.cell? ((⟨z, 0, none⟩ : Addr).add j) = some v := fun j v hj => by
    rw [add_at]; exact flatT_lies hx1 j v hj
  have hnl : (flatT [x]).length = 1 * i0.size := by rw [flatT_len, hz1]; rfl
  have fin : ∀ (zs : List Value) (cap : Nat), (w' : World) → w' = W.drew.alloc (.cells (flatT (l ++ [x]) ++ zs).toArray 34) → (∀ j t, (l ++ [x])[j]? = some t → cellsT w' W.heap.size (j * 5) t) ∧ Below W.heap.size W w' ∧ w'.heap.size = W.heap.size + 1 := fun zs cap w' e => by
    subst e
    have hbk : (W.drew.alloc (.cells (flatT (l ++ [x]) ++ zs).toArray 34)).heap[W.heap.size]? = some (.cells (flatT (l ++ [x]) ++ zs).toArray 34 (0, 0)) := heap_alloc_new W.drew _
    exact ⟨fun j t hj => cells_of_flat hbk j t hj, (Below.refl _ _).drew.alloc (Nat.le_refl _) _, by simp⟩
  by_cases h0 : l.length = 0
  · obtain rfl : l = [] := List.eq_nil_of_length_eq_zero h0
    obtain rfl := hn rfl
    subst hc
    have hr := run_append_nil (P := Try.prog) (w := W) 22 ty 34 i0 _ Try.underlying22 hi hz0 ⟨z, 0, none⟩ 1 1 (flatT [x]) hnl hnews (by omega) (by omega) (by rw [hz2]; omega)
    refine ⟨_, _, hr, grownCap_ge W 1 0 34, ?_⟩
    refine fin (Builtin.zeroCells (Value.agg #[.int .i64 0, .string ⟨#[]⟩, .int .i64 0, .int .i64 0, .slice none 0 0]).cells (grownCap W 1 0 34 - 1)).toList (grownCap W 1 0 34) _ ?_
    congr 2
    apply Array.ext'
    simp
  · obtain ⟨b, off, rfl, _, hcl⟩ := hl.at_ (by omega)
    subst hc
    have hold : ∀ j v, (flatT l)[j]? = some v → W.cell? ((⟨b, off, none⟩ : Addr).add j) = some v := fun j v hj => by
      rw [add_at]; exact flatT_lies hcl j v hj
    have hr := run_append_grow (P := Try.prog) (w := W) 22 ty 34 i0 _ Try.underlying22 hi hz0 ⟨b, off, none⟩ l.length l.length (flatT l) (by rw [flatT_len, hz1]) hold ⟨z, 0, none⟩ 1 1 (flatT [x]) hnl hnews (by omega) (by omega) (by rw [hz2]; exact growslice_fits_succ (by omega) (by omega))
    refine ⟨_, _, hr, grownCap_ge W (l.length + 1) l.length 34, ?_⟩
    refine fin (Builtin.zeroCells (Value.agg #[.int .i64 0, .string ⟨#[]⟩, .int .i64 0, .int .i64 0, .slice none 0 0]).cells (grownCap W (l.length + 1) l.length 34 - (l.length + 1))).toList (grownCap W (l.length + 1) l.length 34) _ ?_
    congr 2
    apply Array.ext'
    simp [flatT_app]
theorem wp_appendT {o : Oper} {a : Act} {W : World} {K : Act → World → Prop} {Q : Exit → Act → World → Prop} (s x : Operand)
    (ho : o.op = .call { callee := .builtin .append, args := #[s, x], argTypes := #[22, 22] }) (d : Nat) (A : Option Addr) (c : Nat) (l : List TA) (n : Nat) (hnl : n = l.length) (hs : a.eval s = .slice A n c) (hc : c = l.length) (hn : l = [] → A = none) (hl : TRow W d A c l) (z : Nat) (t : TA) (hx : a.eval x = .slice (some ⟨z, 0, none⟩) 1 1) (hz : cellsT W z 0 t) (hb : l.length ≤ 10000)
    (h : ∀ cap w', l.length + 1 ≤ cap → (∀ j u, (l ++ [t])[j]? = some u → cellsT w' W.heap.size (j * 5) u) → Below W.heap.size W w' → w'.heap.size = W.heap.size + 1 → K (a.put o.dst (.slice (some ⟨W.heap.size, 0, none⟩) (l.length + 1) cap)) w') : o.wp Try.prog a W K Q := by
  subst hnl
  obtain ⟨cap, w', hr, h1, h2, h3, h4⟩ := run_appendT o.type W d A c l hc hn hl z t hz hb
  unfold Oper.wp execOp
  simp only [ho, resolve, invoke, builtin, Sem.run_bind, Sem.run_pure, Result.andThen_ok, List.map_toArray, List.map_cons, List.map_nil, hs, hx, hr]
  exact h cap w' h1 h2 h3 h4
theorem wpList_appendT {ops : Array Oper} {rest : List Oper} {o : Oper} {a : Act} {W : World} {Q : Exit → Act → World → Prop} (hgd : o.guard = none) (s x : Operand)
    (ho : o.op = .call { callee := .builtin .append, args := #[s, x], argTypes := #[22, 22] }) (d : Nat) (A : Option Addr) (c : Nat) (l : List TA) (n : Nat) (hnl : n = l.length) (hs : a.eval s = .slice A n c) (hc : c = l.length) (hn : l = [] → A = none) (hl : TRow W d A c l) (z : Nat) (t : TA) (hx : a.eval x = .slice (some ⟨z, 0, none⟩) 1 1) (hz : cellsT W z 0 t) (hb : l.length ≤ 10000)
    (h : ∀ cap w', l.length + 1 ≤ cap → (∀ j u, (l ++ [t])[j]? = some u → cellsT w' W.heap.size (j * 5) u) → Below W.heap.size W w' → w'.heap.size = W.heap.size + 1 → wpList Try.prog ops Q rest (a.put o.dst (.slice (some ⟨W.heap.size, 0, none⟩) (l.length + 1) cap)) w') : wpList Try.prog ops Q (o :: rest) a W :=
  wpList_plain hgd fun _ hK => wp_appendT s x ho d A c l n hnl hs hc hn hl z t hx hz hb fun cap w' h1 h2 h3 h4 => hK _ _ (h cap w' h1 h2 h3 h4)
theorem cellsT.kept {a b : World} {g o : Nat} {t : TA} (h : cellsT a g o t) (hk : b.heap[g]? = a.heap[g]?) : cellsT b g o t := by
  have hc := fun (j : Nat) => World.cell?_of_block (w := a) (w' := b) (a := ⟨g, j, none⟩) hk
  exact ⟨(hc _).trans h.c0, (hc _).trans h.c1, (hc _).trans h.c2, (hc _).trans h.c3, (hc _).trans h.c4⟩
/-- The row with one more, when the box was written. -/
theorem trow_fin {F w' : World} {g bx v_off d cap : Nat} {L : List TA} {v : Value} (hF : F = w'.setCell ⟨bx, v_off, none⟩ v) (hne : bx ≠ g) (hlt : g < w'.heap.size) (hc : ∀ j t, L[j]? = some t → cellsT w' g (j * 5) t) (hcap : L.length ≤ cap) (hb : L.length ≤ 2199023255488) (hv : ∀ t ∈ L, PRow F 0 d t.A t.c t.l) : TRow F d (some ⟨g, 0, none⟩) cap L := by
  subst hF
  exact ⟨hcap, hb, fun _ => ⟨g, 0, rfl, by simp [World.setCell]; exact hlt, fun j t hj => by rw [Nat.zero_add]; exact (hc j t hj).kept (Below.heap_setCell _ _ _ _ (fun e => hne e.symm))⟩, hv⟩
end Go.Proofs.Ytciipggccjiaiaa
