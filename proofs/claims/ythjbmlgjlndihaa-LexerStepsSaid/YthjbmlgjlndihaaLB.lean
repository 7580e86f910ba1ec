/- Tokens in memory: one in its box, rows of them, rows of one's own that grow. -/
import Derived.Test.YthjbmlgjlndihaaLA
import Derived.RangeFuncOwn
namespace Go.Proofs.Ythjbmlgjlndihaa
set_option maxRecDepth 100000
open Go.RowKit

theorem bnext {a b c : World} (h : Below a.heap.size a b) (k : Below b.heap.size b c) : Below a.heap.size a c := h.trans (k.mono h.size)
theorem below_new (w : World) (o : Obj) : Below w.heap.size w (w.alloc o) := (Below.refl _ _).alloc (Nat.le_refl _) o
theorem cell_below {w w' : World} {B : Nat} {a : Addr} {v : Value} (hb : Below B w w') (h : w.cell? a = some v) (hB : a.block < B) : w'.cell? a = some v := (hb.cell hB).trans h
theorem add_none (b off j : Nat) : (⟨b, off, none⟩ : Addr).add j = ⟨b, off + j, none⟩ := by unfold Addr.add; split <;> simp_all
theorem toList_size (s : ByteArray) : s.toList.length = s.size := by rw [ByteArray.toList_eq]; simp
theorem toList_at (a : ByteArray) (k : Nat) (h : k < a.size) : a.toList[k]? = some (a[k]'h) := by
  rw [ByteArray.toList_eq]
  have : k < a.data.toList.length := by rw [Array.length_toList]; exact h
  rw [List.getElem?_eq_getElem this]; rfl
/-- The text of some bytes. -/
def bs (l : Bs) : ByteArray := ⟨l.toArray⟩
theorem bs_toList (l : Bs) : (bs l).toList = l := by rw [ByteArray.toList_eq]; simp [bs]
theorem bs_of (s : ByteArray) : bs s.toList = s := by
  apply ByteArray.ext
  unfold bs
  rw [ByteArray.toList_eq]
theorem bs_cut (s : ByteArray) (i j : Nat) : s.extract i j = bs ((s.toList.take j).drop i) := by rw [← toList_cut, bs_of]
theorem bs_size (l : Bs) : (bs l).size = l.length := by rw [← toList_size, bs_toList]
theorem bs_inj {a b : Bs} (h : bs a = bs b) : a = b := by rw [← bs_toList a, h, bs_toList]

structure TK where
  k : Int
  p : Int
  s : Bs
  n : Int
abbrev TK.v (t : TK) : Value := .agg #[.int .i64 t.k, .int .i64 t.p, .string (bs t.s), .int .i64 t.n]
def TK.cs (t : TK) : List Value := [.int .i64 t.k, .int .i64 t.p, .string (bs t.s), .int .i64 t.n]
def TK.zero : TK := ⟨0, 0, [], 0⟩
def flatT (l : List TK) : List Value := l.flatMap TK.cs
theorem flatT_len : ∀ l : List TK, (flatT l).length = l.length * 4
  | [] => rfl
  | p :: r => by
    have := flatT_len r
    unfold flatT at *
    rw [List.flatMap_cons, List.length_append, this, List.length_cons]; simp [TK.cs]; omega
theorem flatT_app (a b : List TK) : flatT (a ++ b) = flatT a ++ flatT b := List.flatMap_append
theorem flatT_at : ∀ (l : List TK) (j : Nat) (p : TK), l[j]? = some p → ∀ c, c < 4 → (flatT l)[j * 4 + c]? = p.cs[c]?
  | [], _, _, h => by simp at h
  | q :: l, 0, p, h => fun c hc => by
    simp at h
    subst h
    unfold flatT
    rw [List.flatMap_cons, List.getElem?_append_left (by simp [TK.cs]; omega)]
    simp
  | q :: l, j + 1, p, h => fun c hc => by
    have ih := flatT_at l j p (by simpa using h) c hc
    unfold flatT at *
    rw [List.flatMap_cons, List.getElem?_append_right (by simp [TK.cs]; omega), ← ih]
    congr 1
    simp [TK.cs]; omega
structure cells4 (w : World) (b o : Nat) (t : TK) : Prop where
  c0 : w.cell? ⟨b, o, none⟩ = some (.int .i64 t.k)
  c1 : w.cell? ⟨b, o + 1, none⟩ = some (.int .i64 t.p)
  c2 : w.cell? ⟨b, o + 2, none⟩ = some (.string (bs t.s))
  c3 : w.cell? ⟨b, o + 3, none⟩ = some (.int .i64 t.n)
theorem cells4.next {a b : World} {g o : Nat} {t : TK} (h : cells4 a g o t) (hb : Below a.heap.size a b) (hg : g < a.heap.size) : cells4 b g o t :=
  ⟨cell_below hb h.c0 hg, cell_below hb h.c1 hg, cell_below hb h.c2 hg, cell_below hb h.c3 hg⟩
/-- A token in its own box. -/
def Tok (w : World) (g : Nat) (t : TK) : Prop := w.heap[g]? = some (.cells #[.int .i64 t.k, .int .i64 t.p, .string (bs t.s), .int .i64 t.n] 32 (0, 0))
theorem Tok.lt {w : World} {g : Nat} {t : TK} (h : Tok w g t) : g < w.heap.size := (Array.getElem?_eq_some_iff.1 h).1
theorem Tok.new (w : World) (t : TK) : Tok (w.alloc (.cells #[.int .i64 t.k, .int .i64 t.p, .string (bs t.s), .int .i64 t.n] 32)) w.heap.size t := World.alloc_heap_new w _
theorem Tok.kept {w w' : World} {g : Nat} {t : TK} (h : Tok w g t) (hk : w'.heap[g]? = w.heap[g]?) : Tok w' g t := hk.trans h
theorem Tok.next {w w' : World} {g : Nat} {t : TK} (h : Tok w g t) (hb : Below w.heap.size w w') : Tok w' g t := h.kept (hb.block g h.lt)
theorem Tok.cells {w : World} {g : Nat} {t : TK} (h : Tok w g t) : cells4 w g 0 t := by
  have h' : w.heap[g]? = _ := h
  refine ⟨?_, ?_, ?_, ?_⟩ <;> simp [World.cell?, h']
theorem Tok.frozen {w : World} {g : Nat} {t : TK} (h : Tok w g t) (i : Nat) : w.frozen? ⟨g, i, none⟩ = false := by
  have h' : w.heap[g]? = _ := h
  simp [World.frozen?, h']
theorem set_heap {w : World} {g : Nat} {cs : Array Value} {t : TypeId} (h : w.heap[g]? = some (.cells cs t (0, 0))) (o : Nat) (u : Value) : (w.setCell ⟨g, o, none⟩ u).heap[g]? = some (.cells (cs.setIfInBounds o u) t (0, 0)) := by
  simp [World.setCell, Array.getElem?_modify, h]
/-- The box is written over. -/
theorem Tok.set {w : World} {g : Nat} {t : TK} (h : Tok w g t) (u : TK) :
    ∃ F, F = (((w.setCell ⟨g, 0, none⟩ (.int .i64 u.k)).setCell ⟨g, 1, none⟩ (.int .i64 u.p)).setCell ⟨g, 2, none⟩ (.string (bs u.s))).setCell ⟨g, 3, none⟩ (.int .i64 u.n) ∧ Tok F g u ∧ F.heap.size = w.heap.size ∧ (∀ B v, B ≤ g → Below B v w → Below B v F) ∧ KeepsOthers w F := by
  refine ⟨_, rfl, ?_, by simp [World.setCell], fun B v hB hb => ?_, ?_⟩
  · have := set_heap (set_heap (set_heap (set_heap h 0 (.int .i64 u.k)) 1 (.int .i64 u.p)) 2 (.string (bs u.s))) 3 (.int .i64 u.n)
    exact this
  · repeat (refine Below.setCell ?_ hB _)
    exact hb
  · exact ((((KeepsOthers.setCell _ _ _).trans (KeepsOthers.setCell _ _ _)).trans (KeepsOthers.setCell _ _ _)).trans (KeepsOthers.setCell _ _ _))
theorem Tok.place {w : World} {g : Nat} {t : TK} (h : Tok w g t) (p : Int) : Tok (w.setCell ⟨g, 1, none⟩ (.int .i64 p)) g ⟨t.k, p, t.s, t.n⟩ := set_heap h 1 (.int .i64 p)

/-- A slice that reads as tokens. -/
structure TRow (w : World) (A : Option Addr) (c : Nat) (l : List TK) : Prop where
  le : l.length ≤ c
  cap : c ≤ maxLen
  nil : A = none → c = 0
  at_ : 0 < l.length → ∃ b off, A = some ⟨b, off, none⟩ ∧ b < w.heap.size ∧ ∀ (j : Nat) x, l[j]? = some x → cells4 w b (off + j * 4) x
theorem TRow.next {a b : World} {A : Option Addr} {c : Nat} {l : List TK} (h : TRow a A c l) (hb : Below a.heap.size a b) : TRow b A c l :=
  ⟨h.le, h.cap, h.nil, fun h0 => by
    obtain ⟨g, off, e, hg, hc⟩ := h.at_ h0
    exact ⟨g, off, e, Nat.lt_of_lt_of_le hg hb.size, fun j x hj => (hc j x hj).next hb hg⟩⟩
theorem TRow.elem {w : World} {A : Option Addr} {c : Nat} {l : List TK} (h : TRow w A c l) {k : Nat} (hk : k < l.length) : ∃ b off x, A = some ⟨b, off, none⟩ ∧ b < w.heap.size ∧ l[k]? = some x ∧ cells4 w b (off + k * 4) x := by
  obtain ⟨b, off, e, hb, hc⟩ := h.at_ (by omega)
  exact ⟨b, off, l[k], e, hb, List.getElem?_eq_getElem hk, hc k _ (List.getElem?_eq_getElem hk)⟩
theorem trow_nil (w : World) : TRow w none 0 [] := ⟨by simp, by unfold maxLen; omega, fun _ => rfl, fun h => absurd h (by simp)⟩
/-- Tokens in a row of one's own. -/
def TOwn (w : World) (base : Nat) (A : Option Addr) (n c : Nat) (l : List TK) : Prop := w.ownsRow base 32 4 (.slice A n c) n (flatT l)
theorem TOwn.len {w : World} {base n c : Nat} {A : Option Addr} {l : List TK} (h : TOwn w base A n c l) : l.length = n := by have := h.1; rw [flatT_len] at this; omega
theorem TOwn.keep {a b : World} {base n c : Nat} {A : Option Addr} {l : List TK} (h : TOwn a base A n c l) (hb : ∀ k, base ≤ k → k < a.heap.size → b.heap[k]? = a.heap[k]?) : TOwn b base A n c l := by
  refine ⟨h.1, ?_⟩
  rcases h.2 with e | ⟨g', cap, cur, e, h1, h2, h3⟩
  · exact .inl e
  · exact .inr ⟨g', cap, cur, e, h1, (hb g' h1 (Array.getElem?_eq_some_iff.1 h2).1).trans h2, h3⟩
theorem TOwn.next {a b : World} {base n c : Nat} {A : Option Addr} {l : List TK} (h : TOwn a base A n c l) (hb : Below a.heap.size a b) : TOwn b base A n c l := h.keep fun k _ hk => hb.block k hk
theorem TOwn.row {w : World} {base c : Nat} {A : Option Addr} {l : List TK} {n : Nat} (h : TOwn w base A n c l) : TRow w A c l := by
  have hl := h.len
  rcases h.2 with ⟨e, e0⟩ | ⟨g, cap, cur, e, hb, hg, hnc, hcm, hcs, ht⟩
  · injection e with e1 e2 e3
    obtain rfl : l = [] := List.eq_nil_of_length_eq_zero (by omega)
    subst e1 e3
    exact trow_nil _
  · injection e with e1 e2 e3
    subst e1 e3
    refine ⟨by omega, hcm, (fun e => by cases e), fun h0 => ⟨g, 0, rfl, (Array.getElem?_eq_some_iff.1 hg).1, fun j x hj => ?_⟩⟩
    have hc := fun (i : Nat) u (hu : (flatT l)[i]? = some u) => World.ownsRow.cells (g := g) h rfl i u hu
    have ha : ∀ i, (⟨g, 0, none⟩ : Addr).add i = ⟨g, 0 + i, none⟩ := fun i => add_none _ _ _
    simp only [ha] at hc
    have f := flatT_at l j x hj
    exact ⟨hc _ _ (f 0 (by omega)), by have := hc _ _ (f 1 (by omega)); rwa [← Nat.add_assoc] at this, by have := hc _ _ (f 2 (by omega)); rwa [← Nat.add_assoc] at this, by have := hc _ _ (f 3 (by omega)); rwa [← Nat.add_assoc] at this⟩
theorem town_nil (w : World) (base : Nat) : TOwn w base none 0 0 [] := World.ownsRow_nil _ _ _ _
end Go.Proofs.Ythjbmlgjlndihaa
