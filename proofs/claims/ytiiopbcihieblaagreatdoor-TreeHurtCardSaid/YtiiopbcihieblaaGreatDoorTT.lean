/- Rows of calls and of arguments of one's own: append. -/
import Derived.Test.YtiiopbcihieblaaGreatDoorTM
import Derived.Laws.AppendOwn
import Derived.Laws.AppendOwnNone
import Derived.Lib.OwnBridge
namespace Go.Proofs.YtiiopbcihieblaaGreatDoor
set_option maxRecDepth 100000
open Go.RowKit Go.Sort

theorem addr_add (b off j : Nat) : (⟨b, off, none⟩ : Addr).add j = ⟨b, off + j, none⟩ := by unfold Addr.add; split <;> simp_all
theorem info_partsG {T : TypeId} {z : Value} {s b : Nat} (h : (Tryz.prog.info? T).map (fun i => (i.zero, i.size, i.bytes)) = some (some z, s, b)) : ∃ i0, Tryz.prog.info? T = some i0 ∧ i0.zero = some z ∧ i0.size = s ∧ i0.bytes = b := by
  obtain ⟨i0, hi, e⟩ := Option.map_eq_some_iff.1 h
  simp only [Prod.mk.injEq] at e
  exact ⟨i0, hi, e.1, e.2.1, e.2.2⟩
section
variable {X τ : Type} {tr : X → τ} {cs : X → List Value} {n M : Nat}
theorem flatG_len (hn : ∀ x, (cs x).length = n) : ∀ l : List X, (l.flatMap cs).length = l.length * n
  | [] => by simp
  | x :: r => by rw [List.flatMap_cons, List.length_append, hn, flatG_len hn r, List.length_cons, Nat.succ_mul]; omega
theorem flatG_at (hn : ∀ x, (cs x).length = n) : ∀ (l : List X) (j : Nat) (x : X), l[j]? = some x → ∀ i, i < n → (l.flatMap cs)[j * n + i]? = (cs x)[i]?
  | [], _, _, h, _, _ => by simp at h
  | t :: l, 0, x, h, i, hi => by
    simp at h
    subst h
    rw [List.flatMap_cons, List.getElem?_append_left (by rw [hn]; omega)]
    simp
  | t :: l, j + 1, x, h, i, hi => by
    have := flatG_at hn l j x (by simpa using h) i hi
    rw [List.flatMap_cons, List.getElem?_append_right (by rw [hn, Nat.succ_mul]; omega), ← this]
    congr 1
    rw [hn, Nat.succ_mul]; omega
/-- The cells of each, laid in a row. -/
def CellsG (cs : X → List Value) (n : Nat) (w : World) (b off : Nat) (l : List X) : Prop := ∀ (j : Nat) (x : X), l[j]? = some x → Cs w b (off + j * n) (cs x)
theorem CellsG.keep {w w' : World} {lo B b off : Nat} {l : List X} (h : CellsG cs n w b off l) (hk : Kept lo B w w') (h1 : lo ≤ b) (h2 : b < B) : CellsG cs n w' b off l :=
  fun j x hj => (h j x hj).keep hk h1 h2
theorem flatG_cell (hn : ∀ x, (cs x).length = n) (hn0 : 0 < n) {w : World} {b off : Nat} {l : List X} (hc : CellsG cs n w b off l) (j : Nat) (u : Value) (hj : (l.flatMap cs)[j]? = some u) : w.cell? ((⟨b, off, none⟩ : Addr).add j) = some u := by
  rw [addr_add]
  have hj1 := (List.getElem?_eq_some_iff.1 hj).1
  rw [flatG_len hn] at hj1
  have hd : j / n < l.length := (Nat.div_lt_iff_lt_mul hn0).2 hj1
  have hq : l[j / n]? = some l[j / n] := List.getElem?_eq_getElem hd
  have hm : j % n < n := Nat.mod_lt _ hn0
  have he : j / n * n + j % n = j := by rw [Nat.mul_comm]; exact Nat.div_add_mod j n
  have hv := flatG_at hn l (j / n) _ hq (j % n) hm
  rw [he, hj] at hv
  have := hc (j / n) _ hq (j % n) u hv.symm
  rwa [Nat.add_assoc, he] at this
/-- Elements in a row of one's own. -/
def GOwn (cs : X → List Value) (n : Nat) (T : TypeId) (w : World) (base : Nat) (A : Option Addr) (m c : Nat) (l : List X) : Prop := w.ownsRow base T n (.slice A m c) m (l.flatMap cs)
theorem GOwn.len (hn : ∀ x, (cs x).length = n) (hn0 : 0 < n) {T : TypeId} {w : World} {base m c : Nat} {A : Option Addr} {l : List X} (h : GOwn cs n T w base A m c l) : l.length = m := by
  have h1 := h.1
  rw [flatG_len hn] at h1
  exact Nat.eq_of_mul_eq_mul_right hn0 h1
theorem GOwn.next {T : TypeId} {a b : World} {base m c : Nat} {A : Option Addr} {l : List X} (h : GOwn cs n T a base A m c l) (hb : Below a.heap.size a b) : GOwn cs n T b base A m c l := by
  refine ⟨h.1, ?_⟩
  rcases h.2 with e | ⟨g', cap, cur, e, h1, h2, h3⟩
  · exact .inl e
  · exact .inr ⟨g', cap, cur, e, h1, (hb.block g' (Array.getElem?_eq_some_iff.1 h2).1).trans h2, h3⟩
theorem gown_nil (T : TypeId) (w : World) (base : Nat) : GOwn cs n T w base none 0 0 [] := World.ownsRow_nil _ _ _ _
theorem GOwn.row (hn : ∀ x, (cs x).length = n) (hn0 : 0 < n) {T : TypeId} {w : World} {base c m : Nat} {A : Option Addr} {l : List X} {R : X → Prop} (h : GOwn cs n T w base A m c l) (hbig : m ≤ M) (hv : ∀ x ∈ l, R x) : GRow tr cs n M w base w.heap.size R A c (l.map tr) := by
  have hl := h.len hn hn0
  rcases h.2 with ⟨e, e0⟩ | ⟨g, cap, cur, e, hb, hg, hnc, hcm, hcs, ht⟩
  · injection e with e1 e2 e3
    obtain rfl : l = [] := List.eq_nil_of_length_eq_zero (by omega)
    subst e1
    subst e3
    exact grow_none _ _ _ _
  · injection e with e1 e2 e3
    subst e1 e3
    refine ⟨by simp; omega, by omega, by simp; omega, (fun e => by cases e), fun h0 => ⟨g, 0, rfl, hb, (Array.getElem?_eq_some_iff.1 hg).1, fun j t hj => ?_⟩⟩
    rw [List.getElem?_map] at hj
    obtain ⟨x, hx, rfl⟩ := Option.map_eq_some_iff.1 hj
    refine ⟨x, rfl, fun i v hi => ?_, hv x (List.mem_of_getElem? hx)⟩
    have hin : i < n := by have := (List.getElem?_eq_some_iff.1 hi).1; rw [hn] at this; exact this
    have hc := World.ownsRow.cells (g := g) h rfl (j * n + i) v (by rw [flatG_at hn l j x hx i hin, hi])
    rw [addr_add] at hc
    rwa [Nat.add_assoc]
/-- A row is its elements, one behind the other. -/
theorem GRow.list {w : World} {lo B : Nat} {R : X → Prop} {A : Option Addr} {c : Nat} {l : List τ} (h : GRow tr cs n M w lo B R A c l) :
    ∃ xs : List X, xs.map tr = l ∧ (∀ x ∈ xs, R x) ∧ (l.length = 0 → xs = []) ∧ (0 < l.length → ∃ b off, A = some ⟨b, off, none⟩ ∧ lo ≤ b ∧ b < B ∧ CellsG cs n w b off xs) := by
  by_cases h0 : 0 < l.length
  · obtain ⟨b, off, e, b1, b2, hc⟩ := h.at_ h0
    have key : ∀ k, k ≤ l.length → ∃ xs : List X, xs.length = k ∧ xs.map tr = l.take k ∧ (∀ x ∈ xs, R x) ∧ CellsG cs n w b off xs := by
      intro k
      induction k with
      | zero => exact fun _ => ⟨[], rfl, by simp, by simp, fun j x hj => by simp at hj⟩
      | succ k ih =>
        intro hk
        obtain ⟨xs, hx0, hx1, hx2, hx3⟩ := ih (by omega)
        have hj : l[k]? = some l[k] := List.getElem?_eq_getElem (by omega)
        obtain ⟨x, q0, q1, q2⟩ := hc k _ hj
        refine ⟨xs ++ [x], by simp [hx0], by rw [take_snoc l k hj, List.map_append, hx1, ← q0]; rfl, fun y hy => ?_, fun j y hy => ?_⟩
        · rcases List.mem_append.1 hy with hy | hy
          · exact hx2 y hy
          · rw [List.mem_singleton.1 hy]; exact q2
        · rcases Nat.lt_or_ge j k with hlt | hge
          · rw [List.getElem?_append_left (by omega)] at hy
            exact hx3 j y hy
          · rw [List.getElem?_append_right (by omega), hx0] at hy
            have : j - k = 0 := by
              rcases Nat.eq_zero_or_pos (j - k) with h | h
              · exact h
              · rw [List.getElem?_eq_none (by simp; omega)] at hy; cases hy
            rw [this] at hy
            simp at hy
            subst hy
            rw [show j = k by omega]; exact q1
    obtain ⟨xs, hx0, hx1, hx2, hx3⟩ := key l.length (Nat.le_refl _)
    rw [List.take_length] at hx1
    exact ⟨xs, hx1, hx2, fun h => by omega, fun _ => ⟨b, off, e, b1, b2, hx3⟩⟩
  · have : l = [] := List.eq_nil_of_length_eq_zero (by omega)
    subst this
    exact ⟨[], rfl, by simp, fun _ => rfl, fun h => absurd h h0⟩
theorem gown_shape {w : World} {base sz m : Nat} {e : TypeId} {v : Value} {xs : List Value} (h : w.ownsRow base e sz v m xs) : ∃ A c, v = .slice A m c := by
  rcases h.2 with ⟨h, e0⟩ | ⟨g, cap, cur, h, _⟩
  · exact ⟨none, 0, by rw [h, e0]⟩
  · exact ⟨_, _, h⟩
/-- append of elements that lie in memory. -/
theorem append_G (hn : ∀ x, (cs x).length = n) (hn0 : 0 < n) (h1c : ∀ x, ∀ u ∈ cs x, u.oneCell' = true) {TR T : TypeId} {z : Value} {bytes : Nat} (hu : Tryz.prog.underlying TR = some (.slice T))
    (hinfo : (Tryz.prog.info? T).map (fun i => (i.zero, i.size, i.bytes)) = some (some z, n, bytes)) (hz : z.cells.size = n)
    {w : World} {ops : Array Oper} {rest : List Oper} {o : Oper} {a : Act} {Q : Exit → Act → World → Prop} (hgd : o.guard = none) (s x : Operand)
    (ho : o.op = .call { callee := .builtin .append, args := #[s, x], argTypes := #[TR, TR] })
    (base : Nat) {A : Option Addr} {m c : Nat} {l : List X} (hown : GOwn cs n T w base A m c l) (hs : a.eval s = .slice A m c)
    {g off k cx : Nat} {ys : List X} (hk : ys.length = k) (hx : a.eval x = .slice (some ⟨g, off, none⟩) k cx) (hc : CellsG cs n w g off ys) (hmax : m + k ≤ maxLen) (hlen : (m + k) * bytes ≤ 140737488355328) (hbase : base ≤ w.heap.size)
    (h : ∀ A' c' w', GOwn cs n T w' base A' (m + k) c' (l ++ ys) → w.grownBy w' (Value.ownBlock (.slice A m c)) → wpList Tryz.prog ops Q rest (a.put o.dst (.slice A' (m + k) c')) w') : wpList Tryz.prog ops Q (o :: rest) a w := by
  obtain ⟨i0, hi, hz0, hz1, hz2⟩ := info_partsG hinfo
  have fin : ∀ v' w', w'.ownsRow base T n v' (m + k) (l.flatMap cs ++ ys.flatMap cs) → w.grownBy w' (Value.ownBlock (.slice A m c)) → wpList Tryz.prog ops Q rest (a.put o.dst v') w' := fun v' w' h1 h2 => by
    obtain ⟨A', c', rfl⟩ := gown_shape h1
    exact h A' c' w' (by unfold GOwn; rw [List.flatMap_append]; exact h1) h2
  refine wpList_append_own _ hgd s x TR ho base T i0 _ n bytes hu hi hz0 hz1 hz2 hz hn0 _ _ _ hs hown ⟨g, off, none⟩ k cx (ys.flatMap cs) hx (by rw [flatG_len hn, hk]) (flatG_cell hn hn0 hc) (fun u hu => ?_) hmax hlen hbase ?_
  · obtain ⟨y, _, hy⟩ := List.mem_flatMap.1 hu
    exact h1c y u hy
  · intro v' w' h1 h2 _
    exact fin v' w' h1 h2
theorem GOwn.below {T : TypeId} {w0 X9 w9 : World} {base m c : Nat} {A : Option Addr} {l : List X} (ho : GOwn cs n T X9 base A m c l) (hb : w0.heap.size ≤ base) (h : Below w0.heap.size w0 X9) (hg : X9.grownBy w9 (Value.ownBlock (.slice A m c))) : Below w0.heap.size w0 w9 :=
  ⟨hg.os.trans h.os, hg.tape.trans h.tape, hg.output.trans h.output, Nat.le_trans h.size hg.size, fun k hk => (hg.block k (Nat.lt_of_lt_of_le hk h.size) (fun e => by have := (World.ownsRow.lt ho k e.symm).1; omega)).trans (h.block k hk)⟩
/-- What lies above the own block stays. -/
theorem GOwn.keeps {T : TypeId} {X9 w9 : World} {base B m c : Nat} {A : Option Addr} {l : List X} (_ho : GOwn cs n T X9 base A m c l) (hB : ∀ k, Value.ownBlock (.slice A m c) = some k → k < B) (hg : X9.grownBy w9 (Value.ownBlock (.slice A m c))) : Kept B X9.heap.size X9 w9 :=
  fun k h1 h2 => hg.block k h2 (fun e => by have := hB k e.symm; omega)
theorem GOwn.far {T T' : TypeId} (hT : T ≠ T') {X' : Type} {cs' : X' → List Value} {n' : Nat} {w : World} {base base' m m' c c' : Nat} {A A' : Option Addr} {l : List X} {l' : List X'} (h : GOwn cs n T w base A m c l) (h' : GOwn cs' n' T' w base' A' m' c' l') :
    Value.ownBlock (.slice A m c) = none ∨ Value.ownBlock (.slice A m c) ≠ Value.ownBlock (.slice A' m' c') := by
  rcases h.2 with ⟨e, _⟩ | ⟨g, cap, cur, e, _, hg, _⟩
  · left; rw [e]; rfl
  · rcases h'.2 with ⟨e', _⟩ | ⟨g', cap', cur', e', _, hg', _⟩
    · right; rw [e, e']; simp [Value.ownBlock]
    · right
      rw [e, e']
      simp only [Value.ownBlock, ne_eq, Option.some.injEq]
      rintro rfl
      rw [hg] at hg'
      simp only [Option.some.injEq, Obj.cells.injEq] at hg'
      exact hT hg'.2.1
theorem GOwn.kept {T : TypeId} {w w' : World} {row : Option Nat} {base m c : Nat} {A : Option Addr} {l : List X} (h : GOwn cs n T w base A m c l) (hg : w.grownBy w' row) (hne : Value.ownBlock (.slice A m c) = none ∨ Value.ownBlock (.slice A m c) ≠ row) : GOwn cs n T w' base A m c l :=
  World.ownsRow.kept h hg hne
/-- A row of own is laid as it is built. -/
theorem gown_lay (hn : ∀ x, (cs x).length = n) (T : TypeId) (w : World) (l : List X) (hl : l.length ≤ 1000) : GOwn cs n T (w.alloc (.cells (l.flatMap cs).toArray T)) w.heap.size (some ⟨w.heap.size, 0, none⟩) l.length l.length l := by
  refine ⟨by rw [flatG_len hn], .inr ⟨w.heap.size, l.length, _, rfl, Nat.le_refl _, heap_alloc_new _ _, Nat.le_refl _, by unfold maxLen; omega, by simp [flatG_len hn], ?_⟩⟩
  rw [List.take_of_length_le (by simp [flatG_len hn])]
theorem cells_lay (hn : ∀ x, (cs x).length = n) (T : TypeId) (w : World) (l : List X) : CellsG cs n (w.alloc (.cells (l.flatMap cs).toArray T)) w.heap.size 0 l := by
  intro j x hj i v hi
  have hin : i < n := by have := (List.getElem?_eq_some_iff.1 hi).1; rw [hn] at this; exact this
  rw [World.cell?_alloc_at _ _ _ _ rfl, Nat.zero_add]
  simp only [List.getElem?_toArray]
  rw [flatG_at hn l j x hj i hin, hi]
end
theorem oneC (x : Ct) : ∀ u ∈ x.cs, u.oneCell' = true := by
  intro u hu
  simp [Ct.cs] at hu
  rcases hu with rfl | rfl <;> rfl
theorem oneG (x : Gt) : ∀ u ∈ x.cs, u.oneCell' = true := by
  intro u hu
  simp [Gt.cs] at hu
  rcases hu with rfl | rfl | rfl | rfl | rfl | rfl | rfl | rfl | rfl | rfl | rfl <;> rfl
theorem infoC : (Tryz.prog.info? 36).map (fun i => (i.zero, i.size, i.bytes)) = some (some (.agg #[.string ⟨#[]⟩, .slice none 0 0]), 2, 40) := by kernel_rfl
theorem infoG : (Tryz.prog.info? 44).map (fun i => (i.zero, i.size, i.bytes)) = some (some (.agg #[.int .i64 0, .int .i64 0, .int .i64 0, .string ⟨#[]⟩, .slice none 0 0, .slice none 0 0, .int .i64 0, .slice none 0 0, .slice none 0 0, .slice none 0 0, .string ⟨#[]⟩]), 11, 184) := by kernel_rfl
abbrev COwn (w : World) (base : Nat) (A : Option Addr) (m c : Nat) (l : List Ct) : Prop := GOwn Ct.cs 2 36 w base A m c l
abbrev AOwn (w : World) (base : Nat) (A : Option Addr) (m c : Nat) (l : List Gt) : Prop := GOwn Gt.cs 11 44 w base A m c l
theorem append_C {w : World} {ops : Array Oper} {rest : List Oper} {o : Oper} {a : Act} {Q : Exit → Act → World → Prop} (hgd : o.guard = none) (s x : Operand)
    (ho : o.op = .call { callee := .builtin .append, args := #[s, x], argTypes := #[22, 22] })
    (base : Nat) {A : Option Addr} {m c : Nat} {l : List Ct} (hown : COwn w base A m c l) (hs : a.eval s = .slice A m c)
    {g off k cx : Nat} {ys : List Ct} (hk : ys.length = k) (hx : a.eval x = .slice (some ⟨g, off, none⟩) k cx) (hc : CellsG Ct.cs 2 w g off ys) (hlen : (m + k) * 40 ≤ 140737488355328) (hbase : base ≤ w.heap.size)
    (h : ∀ A' c' w', COwn w' base A' (m + k) c' (l ++ ys) → w.grownBy w' (Value.ownBlock (.slice A m c)) → wpList Tryz.prog ops Q rest (a.put o.dst (.slice A' (m + k) c')) w') : wpList Tryz.prog ops Q (o :: rest) a w :=
  append_G Ct.cs_len (by decide) oneC Tryz.underlying22 infoC (by rfl) hgd s x ho base hown hs hk hx hc (by unfold maxLen; omega) hlen hbase h
theorem append_A {w : World} {ops : Array Oper} {rest : List Oper} {o : Oper} {a : Act} {Q : Exit → Act → World → Prop} (hgd : o.guard = none) (s x : Operand)
    (ho : o.op = .call { callee := .builtin .append, args := #[s, x], argTypes := #[34, 34] })
    (base : Nat) {A : Option Addr} {m c : Nat} {l : List Gt} (hown : AOwn w base A m c l) (hs : a.eval s = .slice A m c)
    {g off k cx : Nat} {ys : List Gt} (hk : ys.length = k) (hx : a.eval x = .slice (some ⟨g, off, none⟩) k cx) (hc : CellsG Gt.cs 11 w g off ys) (hlen : (m + k) * 184 ≤ 140737488355328) (hbase : base ≤ w.heap.size)
    (h : ∀ A' c' w', AOwn w' base A' (m + k) c' (l ++ ys) → w.grownBy w' (Value.ownBlock (.slice A m c)) → wpList Tryz.prog ops Q rest (a.put o.dst (.slice A' (m + k) c')) w') : wpList Tryz.prog ops Q (o :: rest) a w :=
  append_G Gt.cs_len (by decide) oneG Tryz.underlying34 infoG (by rfl) hgd s x ho base hown hs hk hx hc (by unfold maxLen; omega) hlen hbase h
end Go.Proofs.YtiiopbcihieblaaGreatDoor
