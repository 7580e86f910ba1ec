/- Rows of one's own that grow, whose elements lie in new memory. -/
import Derived.Test.YtllkimdlmnjoiaaGreatDoorXC
import Derived.Laws.AppendOwn
import Derived.Deep.AppendLies
import Derived.Lib.OwnBridge
namespace Go.Proofs.YtllkimdlmnjoiaaGreatDoor
set_option maxRecDepth 100000
open Go.RowKit Go.Sort

theorem addr_add (b off j : Nat) : (⟨b, off, none⟩ : Addr).add j = ⟨b, off + j, none⟩ := by unfold Addr.add; split <;> simp_all
theorem info_partsG {T : TypeId} {z : Value} {s b : Nat} (h : (Tryz.prog.info? T).map (fun i => (i.zero, i.size, i.bytes)) = some (some z, s, b)) : ∃ i0, Tryz.prog.info? T = some i0 ∧ i0.zero = some z ∧ i0.size = s ∧ i0.bytes = b := by
  obtain ⟨i0, hi, e⟩ := Option.map_eq_some_iff.1 h
  simp only [Prod.mk.injEq] at e
  exact ⟨i0, hi, e.1, e.2.1, e.2.2⟩
section
variable {X τ : Type} {tr : X → τ} {cs : X → List Value} {n M : Nat}
theorem flatG_len (hn : ∀ x, (cs x).length = n) : ∀ l : List X, (l.flatMap cs).length = l.length * n
  | [] => by simp
  | x :: r => by rw [List.flatMap_cons, List.length_append, hn, flatG_len hn r, List.length_cons, Nat.succ_mul]; omega
theorem flatG_at (hn : ∀ x, (cs x).length = n) : ∀ (l : List X) (j : Nat) (x : X), l[j]? = some x → ∀ i, i < n → (l.flatMap cs)[j * n + i]? = (cs x)[i]?
  | [], _, _, h, _, _ => by simp at h
  | t :: l, 0, x, h, i, hi => by
    simp at h
    subst h
    rw [List.flatMap_cons, List.getElem?_append_left (by rw [hn]; omega)]
    simp
  | t :: l, j + 1, x, h, i, hi => by
    have := flatG_at hn l j x (by simpa using h) i hi
    rw [List.flatMap_cons, List.getElem?_append_right (by rw [hn, Nat.succ_mul]; omega), ← this]
    congr 1
    rw [hn, Nat.succ_mul]; omega
/-- The cells of each, laid in a row. -/
def CellsG (cs : X → List Value) (n : Nat) (w : World) (b off : Nat) (l : List X) : Prop := ∀ (j : Nat) (x : X), l[j]? = some x → Cs w b (off + j * n) (cs x)
theorem flatG_cell (hn : ∀ x, (cs x).length = n) (hn0 : 0 < n) {w : World} {b off : Nat} {l : List X} (hc : CellsG cs n w b off l) (j : Nat) (u : Value) (hj : (l.flatMap cs)[j]? = some u) : w.cell? ((⟨b, off, none⟩ : Addr).add j) = some u := by
  rw [addr_add]
  have hj1 := (List.getElem?_eq_some_iff.1 hj).1
  rw [flatG_len hn] at hj1
  have hd : j / n < l.length := (Nat.div_lt_iff_lt_mul hn0).2 hj1
  have hq : l[j / n]? = some l[j / n] := List.getElem?_eq_getElem hd
  have hm : j % n < n := Nat.mod_lt _ hn0
  have he : j / n * n + j % n = j := by rw [Nat.mul_comm]; exact Nat.div_add_mod j n
  have hv := flatG_at hn l (j / n) _ hq (j % n) hm
  rw [he, hj] at hv
  have := hc (j / n) _ hq (j % n) u hv.symm
  rwa [Nat.add_assoc, he] at this
/-- Elements in a row of one's own. -/
def GOwn (cs : X → List Value) (n : Nat) (T : TypeId) (w : World) (base : Nat) (A : Option Addr) (m c : Nat) (l : List X) : Prop := w.ownsRow base T n (.slice A m c) m (l.flatMap cs)
theorem GOwn.len (hn : ∀ x, (cs x).length = n) (hn0 : 0 < n) {T : TypeId} {w : World} {base m c : Nat} {A : Option Addr} {l : List X} (h : GOwn cs n T w base A m c l) : l.length = m := by
  have h1 := h.1
  rw [flatG_len hn] at h1
  exact Nat.eq_of_mul_eq_mul_right hn0 h1
theorem gown_nil (T : TypeId) (w : World) (base : Nat) : GOwn cs n T w base none 0 0 [] := World.ownsRow_nil _ _ _ _
theorem GOwn.row (hn : ∀ x, (cs x).length = n) (hn0 : 0 < n) {T : TypeId} {w : World} {base c m : Nat} {A : Option Addr} {l : List X} {R : X → Prop} (h : GOwn cs n T w base A m c l) (hbig : m ≤ M) (hv : ∀ x ∈ l, R x) : GRow tr cs n M w base w.heap.size R A c (l.map tr) := by
  have hl := h.len hn hn0
  rcases h.2 with ⟨e, e0⟩ | ⟨g, cap, cur, e, hb, hg, hnc, hcm, hcs, ht⟩
  · injection e with e1 e2 e3
    obtain rfl : l = [] := List.eq_nil_of_length_eq_zero (by omega)
    subst e1
    subst e3
    exact grow_none _ _ _ _
  · injection e with e1 e2 e3
    subst e1 e3
    refine ⟨by simp; omega, by omega, by simp; omega, (fun e => by cases e), fun h0 => ⟨g, 0, rfl, hb, (Array.getElem?_eq_some_iff.1 hg).1, fun j t hj => ?_⟩⟩
    rw [List.getElem?_map] at hj
    obtain ⟨x, hx, rfl⟩ := Option.map_eq_some_iff.1 hj
    refine ⟨x, rfl, fun i v hi => ?_, hv x (List.mem_of_getElem? hx)⟩
    have hin : i < n := by have := (List.getElem?_eq_some_iff.1 hi).1; rw [hn] at this; exact this
    have hc := World.ownsRow.cells (g := g) h rfl (j * n + i) v (by rw [flatG_at hn l j x hx i hin, hi])
    rw [addr_add] at hc
    rwa [Nat.add_assoc]
theorem cells_lay (hn : ∀ x, (cs x).length = n) (T : TypeId) (w : World) (l : List X) : CellsG cs n (w.alloc (.cells (l.flatMap cs).toArray T)) w.heap.size 0 l := by
  intro j x hj i v hi
  have hin : i < n := by have := (List.getElem?_eq_some_iff.1 hi).1; rw [hn] at this; exact this
  rw [World.cell?_alloc_at _ _ _ _ rfl, Nat.zero_add]
  simp only [List.getElem?_toArray]
  rw [flatG_at hn l j x hj i hin, hi]
end

/-- A row that grows. -/
structure Row {X : Type} (cs : X → List Value) (n : Nat) (T : TypeId) (R : World → Nat → Nat → X → Prop) (w : World) (base : Nat) (A : Option Addr) (m c : Nat) (xs : List X) : Prop where
  own : GOwn cs n T w base A m c xs
  el : ∀ x ∈ xs, ∃ lo B, base ≤ lo ∧ B ≤ w.heap.size ∧ (∀ g, Value.ownBlock (.slice A m c) = some g → B ≤ g ∨ g < lo) ∧ R w lo B x
section
variable {X τ : Type} {tr : X → τ} {cs : X → List Value} {n M : Nat} {T : TypeId} {R : World → Nat → Nat → X → Prop}
theorem row_nil (w : World) (base : Nat) : Row cs n T R w base none 0 0 [] := ⟨gown_nil _ _ _, fun _ h => by cases h⟩
theorem GOwn.keptUp {a b : World} {base m c : Nat} {A : Option Addr} {l : List X} (h : GOwn cs n T a base A m c l) (hk : ∀ k, base ≤ k → k < a.heap.size → b.heap[k]? = a.heap[k]?) : GOwn cs n T b base A m c l := by
  refine ⟨h.1, ?_⟩
  rcases h.2 with e | ⟨g', cap, cur, e, h0, h2, h3⟩
  · exact .inl e
  · exact .inr ⟨g', cap, cur, e, h0, (hk g' h0 (Array.getElem?_eq_some_iff.1 h2).1).trans h2, h3⟩
theorem Row.next (hR : ∀ {a b : World} {lo B : Nat} {x : X}, Kept lo B a b → R a lo B x → R b lo B x) {a b : World} {base m c : Nat} {A : Option Addr} {xs : List X} (h : Row cs n T R a base A m c xs) (hk : ∀ k, base ≤ k → k < a.heap.size → b.heap[k]? = a.heap[k]?) (hs : a.heap.size ≤ b.heap.size) : Row cs n T R b base A m c xs :=
  ⟨h.own.keptUp hk, fun x hx => by
    obtain ⟨lo, B, h1, h2, h3, h4⟩ := h.el x hx
    exact ⟨lo, B, h1, by omega, h3, hR (fun k k1 k2 => hk k (by omega) (by omega)) h4⟩⟩
theorem Row.push (hR : ∀ {a b : World} {lo B : Nat} {x : X}, Kept lo B a b → R a lo B x → R b lo B x) {a b : World} {base m c c' g : Nat} {A : Option Addr} {xs : List X} {y : X} {lo0 B0 : Nat} (h : Row cs n T R a base A m c xs) (hy : R a lo0 B0 y) (h1 : base ≤ lo0) (h2 : B0 ≤ a.heap.size)
    (h3 : ∀ g, Value.ownBlock (.slice A m c) = some g → B0 ≤ g ∨ g < lo0) (hown : GOwn cs n T b base (some ⟨g, 0, none⟩) (m + 1) c' (xs ++ [y])) (hg : a.grownBy b (Value.ownBlock (.slice A m c))) (hn : Value.ownBlock (.slice A m c) = some g ∨ g = a.heap.size) :
    Row cs n T R b base (some ⟨g, 0, none⟩) (m + 1) c' (xs ++ [y]) := by
  refine ⟨hown, fun x hx => ?_⟩
  have key : ∀ lo B, base ≤ lo → B ≤ a.heap.size → (∀ g, Value.ownBlock (.slice A m c) = some g → B ≤ g ∨ g < lo) → R a lo B x → ∃ lo B, base ≤ lo ∧ B ≤ b.heap.size ∧ (∀ g', Value.ownBlock (.slice (some ⟨g, 0, none⟩) (m + 1) c') = some g' → B ≤ g' ∨ g' < lo) ∧ R b lo B x := by
    intro lo B k1 k2 k3 k4
    have hsz := hg.size
    refine ⟨lo, B, k1, by omega, fun g' e => ?_, hR (fun k q1 q2 => hg.block k (by omega) (fun e => ?_)) k4⟩
    · have : g' = g := by simpa [Value.ownBlock] using e.symm
      subst this
      rcases hn with hn | hn
      · exact k3 _ hn
      · exact .inl (by omega)
    · have := k3 k e.symm
      omega
  rcases List.mem_append.1 hx with hx | hx
  · obtain ⟨lo, B, k1, k2, k3, k4⟩ := h.el x hx
    exact key lo B k1 k2 k3 k4
  · rw [List.mem_singleton.1 hx] at key
    rw [List.mem_singleton.1 hx]
    exact key lo0 B0 h1 h2 h3 hy
theorem Row.all (hW : ∀ {w : World} {lo B lo' B' : Nat} {x : X}, lo' ≤ lo → B ≤ B' → R w lo B x → R w lo' B' x) {w : World} {base m c : Nat} {A : Option Addr} {xs : List X} (h : Row cs n T R w base A m c xs) : ∀ x ∈ xs, R w base w.heap.size x := fun x hx => by
  obtain ⟨lo, B, h1, h2, _, h4⟩ := h.el x hx
  exact hW h1 h2 h4
/-- append of one, at the operation. -/
theorem append_L (hn : ∀ x, (cs x).length = n) (hn0 : 0 < n) (h1c : ∀ x, ∀ u ∈ cs x, u.oneCell' = true) {TR : TypeId} {z : Value} {bytes : Nat} (hu : Tryz.prog.underlying TR = some (.slice T))
    (hinfo : (Tryz.prog.info? T).map (fun i => (i.zero, i.size, i.bytes)) = some (some z, n, bytes)) (hz : z.cells.size = n)
    {w : World} {ops : Array Oper} {rest : List Oper} {o : Oper} {a : Act} {Q : Exit → Act → World → Prop} (hgd : o.guard = none) (s x : Operand)
    (ho : o.op = .call { callee := .builtin .append, args := #[s, x], argTypes := #[TR, TR] })
    (base : Nat) {A : Option Addr} {m c : Nat} {l : List X} (hown : GOwn cs n T w base A m c l) (hs : a.eval s = .slice A m c)
    {g off cx : Nat} {y : X} (hx : a.eval x = .slice (some ⟨g, off, none⟩) 1 cx) (hc : CellsG cs n w g off [y]) (hmax : m + 1 ≤ maxLen) (hlen : (m + 1) * bytes ≤ 140737488355328) (hbase : base ≤ w.heap.size)
    (h : ∀ g' c' w', GOwn cs n T w' base (some ⟨g', 0, none⟩) (m + 1) c' (l ++ [y]) → w.grownBy w' (Value.ownBlock (.slice A m c)) → (Value.ownBlock (.slice A m c) = some g' ∨ g' = w.heap.size) → wpList Tryz.prog ops Q rest (a.put o.dst (.slice (some ⟨g', 0, none⟩) (m + 1) c')) w') : wpList Tryz.prog ops Q (o :: rest) a w := by
  obtain ⟨i0, hi, hz0, hz1, hz2⟩ := info_partsG hinfo
  refine wpList_append_lies _ hgd s x TR ho base T i0 _ n bytes hu hi hz0 hz1 hz2 hz hn0 _ _ _ hs hown ⟨g, off, none⟩ 1 cx ([y].flatMap cs) hx (by rw [flatG_len hn]; rfl) (flatG_cell hn hn0 hc) (fun u hu => ?_) (by decide) hmax hlen hbase _ rfl ?_
  · obtain ⟨y, _, hy⟩ := List.mem_flatMap.1 hu
    exact h1c y u hy
  · intro g' c' w' h1 h2 h3 _
    exact h g' c' w' (by unfold GOwn; rw [List.flatMap_append]; exact h1) h2 h3
end
/-- What is claimed of an element: of a value, a predicate, an argument, a call. -/
def RV (d : Nat) (w : World) (lo B : Nat) (y : At) : Prop := Rd w lo B d y.t y.A y.c y.A' y.c'
def RP (d : Nat) (w : World) (lo B : Nat) (y : Pt) : Prop := Pd w lo B d y.t y.A y.c y.A' y.c'
def RG (d : Nat) (w : World) (lo B : Nat) (y : Gt) : Prop := GOk w lo B (Ch w lo B d) y
def RCl (d : Nat) (w : World) (lo B : Nat) (y : Ct) : Prop := COk w lo B (Ch w lo B d) y
theorem RV.keep {d : Nat} {a b : World} {lo B : Nat} {x : At} (hk : Kept lo B a b) (h : RV d a lo B x) : RV d b lo B x := Rd.imp hk (Nat.le_refl _) (Nat.le_refl _) (Nat.le_refl _) h
theorem RP.keep {d : Nat} {a b : World} {lo B : Nat} {x : Pt} (hk : Kept lo B a b) (h : RP d a lo B x) : RP d b lo B x := Pd.imp hk (Nat.le_refl _) (Nat.le_refl _) (Nat.le_refl _) h
theorem RG.keep {d : Nat} {a b : World} {lo B : Nat} {x : Gt} (hk : Kept lo B a b) (h : RG d a lo B x) : RG d b lo B x := GOk.imp hk (Nat.le_refl _) (Nat.le_refl _) (fun _ _ _ h => h.keep hk) h
theorem RCl.keep {d : Nat} {a b : World} {lo B : Nat} {x : Ct} (hk : Kept lo B a b) (h : RCl d a lo B x) : RCl d b lo B x := COk.imp hk (Nat.le_refl _) (Nat.le_refl _) (fun _ _ _ h => h.keep hk) h
theorem RV.wide {d : Nat} {w : World} {lo B lo' B' : Nat} {x : At} (h1 : lo' ≤ lo) (h2 : B ≤ B') (h : RV d w lo B x) : RV d w lo' B' x := Rd.imp (Kept.refl _ _ _) h1 h2 (Nat.le_refl _) h
theorem RP.wide {d : Nat} {w : World} {lo B lo' B' : Nat} {x : Pt} (h1 : lo' ≤ lo) (h2 : B ≤ B') (h : RP d w lo B x) : RP d w lo' B' x := Pd.imp (Kept.refl _ _ _) h1 h2 (Nat.le_refl _) h
theorem RG.wide {d : Nat} {w : World} {lo B lo' B' : Nat} {x : Gt} (h1 : lo' ≤ lo) (h2 : B ≤ B') (h : RG d w lo B x) : RG d w lo' B' x := GOk.imp (Kept.refl _ _ _) h1 h2 (fun _ _ _ h => h.more h1 h2 (Nat.le_refl _)) h
theorem RCl.wide {d : Nat} {w : World} {lo B lo' B' : Nat} {x : Ct} (h1 : lo' ≤ lo) (h2 : B ≤ B') (h : RCl d w lo B x) : RCl d w lo' B' x := COk.imp (Kept.refl _ _ _) h1 h2 (fun _ _ _ h => h.more h1 h2 (Nat.le_refl _)) h
theorem At_cs_len (x : At) : x.cs.length = 5 := rfl
theorem Pt_cs_len (x : Pt) : x.cs.length = 3 := rfl
theorem Gt_cs_len (x : Gt) : x.cs.length = 11 := rfl
theorem Ct_cs_len (x : Ct) : x.cs.length = 2 := rfl
theorem oneAt (x : At) : ∀ u ∈ x.cs, u.oneCell' = true := by intro u hu; simp [At.cs] at hu; rcases hu with rfl | rfl | rfl | rfl | rfl <;> rfl
theorem onePt (x : Pt) : ∀ u ∈ x.cs, u.oneCell' = true := by intro u hu; simp [Pt.cs] at hu; rcases hu with rfl | rfl | rfl <;> rfl
theorem oneGt (x : Gt) : ∀ u ∈ x.cs, u.oneCell' = true := by intro u hu; simp [Gt.cs] at hu; rcases hu with rfl | rfl | rfl | rfl | rfl | rfl | rfl | rfl | rfl | rfl | rfl <;> rfl
theorem oneCt (x : Ct) : ∀ u ∈ x.cs, u.oneCell' = true := by intro u hu; simp [Ct.cs] at hu; rcases hu with rfl | rfl <;> rfl
theorem infoAt : (Tryz.prog.info? 77).map (fun i => (i.zero, i.size, i.bytes)) = some (some (.agg #[.int .i64 0, .int .i64 0, .string ⟨#[]⟩, .slice none 0 0, .slice none 0 0]), 5, 80) := by kernel_rfl
theorem infoPt : (Tryz.prog.info? 80).map (fun i => (i.zero, i.size, i.bytes)) = some (some (.agg #[.int .i64 0, .slice none 0 0, .slice none 0 0]), 3, 56) := by kernel_rfl
theorem infoGt : (Tryz.prog.info? 82).map (fun i => (i.zero, i.size, i.bytes)) = some (some (.agg #[.int .i64 0, .int .i64 0, .int .i64 0, .string ⟨#[]⟩, .slice none 0 0, .slice none 0 0, .int .i64 0, .slice none 0 0, .slice none 0 0, .slice none 0 0, .string ⟨#[]⟩]), 11, 184) := by kernel_rfl
theorem infoCt : (Tryz.prog.info? 74).map (fun i => (i.zero, i.size, i.bytes)) = some (some (.agg #[.string ⟨#[]⟩, .slice none 0 0]), 2, 40) := by kernel_rfl
/-- A row of values, of predicates, that is done. -/
theorem rw_done {w : World} {base m c d : Nat} {A : Option Addr} {xs : List At} (h : Row At.cs 5 77 (RV d) w base A m c xs) (hm : m ≤ 1759218604441) : Rw w base w.heap.size d A c (xs.map At.t) := by
  have r := GOwn.row (tr := At.t) (M := 1759218604441) At_cs_len (by decide) h.own hm (Row.all (R := RV d) RV.wide h)
  refine ⟨r.le, r.cap, r.big, r.nil, fun h0 => ?_⟩
  obtain ⟨b, off, e, b1, b2, hc⟩ := r.at_ h0
  refine ⟨b, off, e, b1, b2, fun j t hj => ?_⟩
  obtain ⟨x, rfl, q, hr⟩ := hc j t hj
  exact ⟨x.A, x.c, x.A', x.c', ⟨q 0 _ rfl, q 1 _ rfl, q 2 _ rfl, q 3 _ rfl, q 4 _ rfl⟩, hr⟩
theorem pw_done {w : World} {base m c d : Nat} {A : Option Addr} {xs : List Pt} (h : Row Pt.cs 3 80 (RP d) w base A m c xs) (hm : m ≤ 2513169434843) : Pw w base w.heap.size d A c (xs.map Pt.t) := by
  have r := GOwn.row (tr := Pt.t) (M := 2513169434843) Pt_cs_len (by decide) h.own hm (Row.all (R := RP d) RP.wide h)
  refine ⟨r.le, r.cap, r.big, r.nil, fun h0 => ?_⟩
  obtain ⟨b, off, e, b1, b2, hc⟩ := r.at_ h0
  refine ⟨b, off, e, b1, b2, fun j t hj => ?_⟩
  obtain ⟨x, rfl, q, hr⟩ := hc j t hj
  exact ⟨x.A, x.c, x.A', x.c', ⟨q 0 _ rfl, q 1 _ rfl, q 2 _ rfl⟩, hr⟩
end Go.Proofs.YtllkimdlmnjoiaaGreatDoor
