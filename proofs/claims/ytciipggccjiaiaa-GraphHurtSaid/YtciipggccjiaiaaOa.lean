/- The memory of the document's With: a thing in a box, whose properties grow one by one. -/
import Derived.Test.YtciipggccjiaiaaNZ
namespace Go.Proofs.Ytciipggccjiaiaa
open Go.RowKit Go.Sort
set_option maxRecDepth 100000

structure RS (w0 : World) (id : Int) (label : ByteArray) (o n : Int) (wr : World) (A : Option Addr) (c : Nat) (out : List PA) : Prop where
  bel : Below w0.heap.size w0 wr
  lt : w0.heap.size < wr.heap.size
  box : CellT wr w0.heap.size (.int .i64 id) (.string label) (.int .i64 o) (.int .i64 n) (.slice A out.length c)
  own : wr.ownsRow (w0.heap.size + 1) 39 6 (.slice A out.length c) out.length (flatP out)
theorem owns_ge {w : World} {base n c : Nat} {A : Option Addr} {xs : List Value} (h : w.ownsRow base 39 6 (.slice A n c) n xs) : ∀ g, Value.ownBlock (.slice A n c) = some g → base ≤ g := fun g e => by
  rcases h.2 with ⟨e', _⟩ | ⟨g', cap, cur, e', h1, _⟩
  · injection e' with e1
    subst e1
    cases e
  · injection e' with e1
    subst e1
    injection e with e
    have : g' = g := e
    omega
theorem owns_kept {a b : World} {base n c : Nat} {A : Option Addr} {xs : List Value} (h : a.ownsRow base 39 6 (.slice A n c) n xs) (hk : ∀ k, base ≤ k → k < a.heap.size → b.heap[k]? = a.heap[k]?) : b.ownsRow base 39 6 (.slice A n c) n xs := by
  refine ⟨h.1, ?_⟩
  rcases h.2 with e | ⟨g', cap, cur, e, h1, h2, h3⟩
  · exact .inl e
  · exact .inr ⟨g', cap, cur, e, h1, (hk g' h1 (Array.getElem?_eq_some_iff.1 h2).1).trans h2, h3⟩
theorem RS.next {w0 : World} {id : Int} {label : ByteArray} {o n : Int} {a b : World} {A : Option Addr} {c : Nat} {out : List PA} (h : RS w0 id label o n a A c out) (hb : Below a.heap.size a b) : RS w0 id label o n b A c out :=
  ⟨bnext h.bel hb, Nat.lt_of_lt_of_le h.lt hb.size, h.box.next hb, owns_kept h.own (fun k _ hk => hb.block k hk)⟩
theorem RS.push {w0 : World} {id : Int} {label : ByteArray} {o n : Int} {X w' : World} {A : Option Addr} {c g' cap : Nat} {out : List PA} {p : PA} (h : RS w0 id label o n X A c out) (hg : X.grownBy w' (Value.ownBlock (.slice A out.length c))) (hown : w'.ownsRow (w0.heap.size + 1) 39 6 (.slice (some ⟨g', 0, none⟩) (out.length + 1) cap) (out.length + 1) (flatP out ++ flatP [p])) :
    RS w0 id label o n (w'.setCell ⟨w0.heap.size, 4, none⟩ (.slice (some ⟨g', 0, none⟩) (out.length + 1) cap)) (some ⟨g', 0, none⟩) cap (out ++ [p]) := by
  have hl : (out ++ [p]).length = out.length + 1 := by simp
  have hs : X.heap.size ≤ w'.heap.size := hg.size
  have hne : ∀ k, k ≤ w0.heap.size → w'.heap[k]? = X.heap[k]? := fun k hk => hg.block k (by have := h.lt; omega) (fun e => by have := owns_ge h.own k e.symm; omega)
  have bel' : Below w0.heap.size w0 w' := ⟨hg.os.trans h.bel.os, hg.tape.trans h.bel.tape, hg.output.trans h.bel.output, Nat.le_trans h.bel.size hs, fun k hk => (hne k (by omega)).trans (h.bel.block k hk)⟩
  refine ⟨bel'.setCell (p := ⟨w0.heap.size, 4, none⟩) (Nat.le_refl _) _, by have := h.lt; simp [World.setCell]; omega, ?_, ?_⟩
  · rw [hl]
    exact (h.box.kept (hne _ (Nat.le_refl _))).set4 _
  · rw [hl, flatP_app]
    exact owns_kept hown (fun k hk _ => Below.heap_setCell _ _ _ _ (by show k ≠ w0.heap.size; omega))
/-- append of some properties to a row that may be nil. -/
theorem append_anyP {ops : Array Oper} {rest : List Oper} {o : Oper} {a : Act} {W : World} {Q : Exit → Act → World → Prop} (hgd : o.guard = none) (s x : Operand)
    (ho : o.op = .call { callee := .builtin .append, args := #[s, x], argTypes := #[32, 32] }) (base : Nat) (A : Option Addr) (n c : Nat) (xs : List Value)
    (hs : a.eval s = .slice A n c) (hown : W.ownsRow base 39 6 (.slice A n c) n xs) (d : Nat) (X : Option Addr) (cx : Nat) (l : List PA) (m : Nat) (hml : l.length = m) (hx : a.eval x = .slice X m cx) (hl : PRow W 0 d X cx l) (h0 : 0 < l.length) (hlen : n + l.length ≤ 1466015503658) (hbase : base ≤ W.heap.size)
    (h : ∀ g' cap w', w'.ownsRow base 39 6 (.slice (some ⟨g', 0, none⟩) (n + m) cap) (n + m) (xs ++ flatP l) → W.grownBy w' (Value.ownBlock (.slice A n c)) → g' < w'.heap.size → wpList Try.prog ops Q rest (a.put o.dst (.slice (some ⟨g', 0, none⟩) (n + m) cap)) w') : wpList Try.prog ops Q (o :: rest) a W := by
  subst hml
  obtain ⟨i0, hi, hz0, hz1, hz2⟩ := info_parts info39
  obtain ⟨b, off, rfl, _, hb, hc⟩ := hl.at_ h0
  refine wpList_append_lies W hgd s x 32 ho base 39 i0 _ 6 96 Try.underlying32 hi hz0 hz1 hz2 rfl (by decide) _ n xs hs hown ⟨b, off, none⟩ l.length cx (flatP l) hx (flatP_len l) (fun j u hj => ?_) (fun u hu => ?_) h0 (by unfold maxLen; omega) (by omega) hbase W.heap.size rfl (fun g' cap w' h1 h2 h3 h4 => h g' cap w' h1 h2 h4)
  · have ad : (⟨b, off, none⟩ : Addr).add j = ⟨b, off + j, none⟩ := by unfold Addr.add; split <;> simp_all
    rw [ad]
    have hj1 := (List.getElem?_eq_some_iff.1 hj).1
    rw [flatP_len] at hj1
    have hq : l[j / 6]? = some l[j / 6] := List.getElem?_eq_getElem (by omega)
    have hv := flatP_at l (j / 6) _ hq (j % 6) (Nat.mod_lt _ (by omega))
    rw [show j / 6 * 6 + j % 6 = j by omega, hj] at hv
    obtain ⟨k0, k1, k2, k3, k4, k5⟩ := hc (j / 6) _ hq
    have hm6 : j % 6 < 6 := Nat.mod_lt _ (by omega)
    have hsp : off + j = off + j / 6 * 6 + j % 6 := by omega
    rw [hsp]
    generalize j % 6 = m at hv hm6
    have : m = 0 ∨ m = 1 ∨ m = 2 ∨ m = 3 ∨ m = 4 ∨ m = 5 := by omega
    rcases this with rfl | rfl | rfl | rfl | rfl | rfl <;> (injection hv with hv; subst hv)
    · exact k0
    · exact k1
    · exact k2
    · exact k3
    · exact k4
    · exact k5
  · obtain ⟨q, _, hq⟩ := List.mem_flatMap.1 hu
    simp [PA.cs] at hq
    rcases hq with rfl | rfl | rfl | rfl | rfl | rfl <;> rfl
/-- The row so far: of the first k properties. -/
def outK (i i2 : Nat) (l : List PA) (p : PA) (k : Nat) : List PA := if k ≤ i then l.take k else l.take i ++ ([p] ++ (l.drop i2).take (k - i2))
theorem outK_zero (i i2 : Nat) (l : List PA) (p : PA) : outK i i2 l p 0 = [] := by unfold outK; simp
theorem outK_lt {i i2 : Nat} {l : List PA} {p q : PA} {k : Nat} (hk : k < i) (hq : l[k]? = some q) : outK i i2 l p (k + 1) = outK i i2 l p k ++ [q] := by
  obtain ⟨h1, e1⟩ := List.getElem?_eq_some_iff.1 hq
  unfold outK
  rw [if_pos (by omega), if_pos (by omega), List.take_succ_eq_append_getElem h1, e1]
theorem outK_has {i : Nat} {l : List PA} {p : PA} : outK i (i + 1) l p (i + 1) = outK i (i + 1) l p i ++ [p] := by
  unfold outK
  rw [if_neg (by omega), if_pos (Nat.le_refl _)]; simp
theorem outK_not {i : Nat} {l : List PA} {p q : PA} (hq : l[i]? = some q) : outK i i l p (i + 1) = outK i i l p i ++ [p] ++ [q] := by
  obtain ⟨h1, e1⟩ := List.getElem?_eq_some_iff.1 hq
  unfold outK
  rw [if_neg (by omega), if_pos (Nat.le_refl _), List.drop_eq_getElem_cons h1, e1, show i + 1 - i = 1 by omega]; simp
theorem outK_gt {i i2 : Nat} {l : List PA} {p q : PA} {k : Nat} (hk : i < k) (h2 : i2 ≤ k) (hq : l[k]? = some q) : outK i i2 l p (k + 1) = outK i i2 l p k ++ [q] := by
  obtain ⟨h1, e1⟩ := List.getElem?_eq_some_iff.1 hq
  unfold outK
  rw [if_neg (by omega), if_neg (by omega), show k + 1 - i2 = (k - i2) + 1 by omega]
  have hd : (l.drop i2)[k - i2]? = some q := by rw [List.getElem?_drop, show i2 + (k - i2) = k by omega, hq]
  obtain ⟨h3, e3⟩ := List.getElem?_eq_some_iff.1 hd
  rw [List.take_succ_eq_append_getElem h3, e3]
  simp
theorem outK_end {i i2 : Nat} {l : List PA} {p : PA} (h : i < l.length) (_h2 : i2 ≤ l.length) : outK i i2 l p l.length = withLL i i2 l p := by
  unfold outK withLL
  have e : (l.drop i2).take (l.length - i2) = l.drop i2 := List.take_of_length_le (by simp)
  rw [if_neg (by omega), e]
theorem outK_last {l : List PA} {p : PA} {i2 : Nat} (h2 : i2 = l.length) : outK l.length i2 l p l.length ++ [p] = withLL l.length i2 l p := by
  unfold outK withLL
  rw [if_pos (Nat.le_refl _), h2, List.drop_length]; simp
theorem outK_len (i i2 : Nat) (l : List PA) (p : PA) (k : Nat) : (outK i i2 l p k).length ≤ k + l.length + 1 := by
  unfold outK
  split
  · simp; omega
  · simp; omega
end Go.Proofs.Ytciipggccjiaiaa
/- Contract of the document's With. -/
namespace Go.Proofs.Ytciipggccjiaiaa
open Go.RowKit Go.Sort
set_option maxRecDepth 100000

def RWithPost (w : World) (d : Nat) (t : TA) (key : ByteArray) (x : At) (e : Ending) (w' : World) : Prop :=
  ∃ q : TA, e = .returned (.tuple #[q.v, .int .i64 (withE key x.t t.l)]) ∧ PRow w' 0 d q.A q.c q.l ∧ ((withE key x.t t.l ≠ 0 ∧ q.tv' = zeroTV) ∨ (withE key x.t t.l = 0 ∧ q.tv' = ⟨t.id, t.label, t.o, t.i, (withLL (fromOf key t.l) (toOf key t.l) t.l ⟨key, x⟩).map PA.kv⟩)) ∧ Below w.heap.size w w'
/-- What the rounds ask of each property. -/
structure Asks (key : ByteArray) (l : List PA) (has : Bool) (i i2 : Nat) : Prop where
  le : i ≤ l.length
  yes : has = true → i < l.length ∧ i2 = i + 1
  no : has = false → i2 = i
  low : ∀ (k : Nat) (q : PA), k < i → l[k]? = some q → (if has then keyB key q else gtB key q) = false
  at_ : ∀ q : PA, l[i]? = some q → (if has then keyB key q else gtB key q) = true
theorem idxG_low {α : Type} (p : α → Bool) : ∀ (l : List α) (k : Nat) (j : Nat) (q : α), (idxG p l k = -1 ∨ (k : Int) + j < idxG p l k) → l[j]? = some q → p q = false
  | [], _, _, _, _, h => by simp at h
  | x :: r, k, 0, q, hi, h => by
    simp at h
    subst h
    cases hp : p x with
    | false => rfl
    | true =>
      exfalso
      rw [idxG, if_pos hp] at hi
      rcases hi with h1 | h1 <;> omega
  | x :: r, k, j + 1, q, hi, h => by
    cases hp : p x with
    | true =>
      exfalso
      rw [idxG, if_pos hp] at hi
      rcases hi with h1 | h1 <;> omega
    | false =>
      refine idxG_low p r (k + 1) j q ?_ (by simpa using h)
      rw [idxG, if_neg (by rw [hp]; simp)] at hi
      rcases hi with h1 | h1
      · exact .inl h1
      · exact .inr (by omega)
theorem asks_of (key : ByteArray) (l : List PA) : Asks key l (decide (¬ idxG (keyB key) l 0 < 0)) (fromOf key l) (toOf key l) := by
  rcases idxG_at (keyB key) l 0 with ⟨e1, f1⟩ | ⟨i, y, e1, hy, f1, hpy⟩
  · have hd : decide (¬ idxG (keyB key) l 0 < 0) = false := by simp; omega
    have hf : fromOf key l = insAt key l := by unfold fromOf; rw [if_pos (by omega)]
    have ht : toOf key l = insAt key l := by unfold toOf; rw [if_pos (by omega)]
    rw [hd, hf, ht]
    refine ⟨insAt_le key l, (fun h => by cases h), fun _ => rfl, fun k q hk hq => ?_, fun q hq => ?_⟩
    · show gtB key q = false
      unfold insAt at hk
      by_cases hj : idxG (gtB key) l 0 < 0
      · exact idxG_low (gtB key) l 0 k q (.inl (by rcases idxG_range (gtB key) l 0 with ⟨e, _⟩ | ⟨e, _⟩; exact e; omega)) hq
      · rw [if_neg hj] at hk
        exact idxG_low (gtB key) l 0 k q (.inr (by omega)) hq
    · show gtB key q = true
      rcases idxG_at (gtB key) l 0 with ⟨e2, _⟩ | ⟨j, z, e2, hz, _, hpz⟩
      · have : insAt key l = l.length := by unfold insAt; rw [if_pos (by omega)]
        rw [this] at hq
        simp at hq
      · have : insAt key l = j := by unfold insAt; rw [if_neg (by omega)]; omega
        rw [this, hz] at hq
        injection hq with hq
        subst hq
        exact hpz
  · have hd : decide (¬ idxG (keyB key) l 0 < 0) = true := by simp; omega
    have hf : fromOf key l = i := by unfold fromOf; rw [if_neg (by omega)]; omega
    have ht : toOf key l = i + 1 := by unfold toOf; rw [if_neg (by omega)]; omega
    have hil := (List.getElem?_eq_some_iff.1 hy).1
    rw [hd, hf, ht]
    refine ⟨by omega, fun _ => ⟨hil, rfl⟩, (fun h => by cases h), fun k q hk hq => ?_, fun q hq => ?_⟩
    · exact idxG_low (keyB key) l 0 k q (.inr (by omega)) hq
    · rw [hy] at hq
      injection hq with hq
      subst hq
      exact hpy
theorem gt_parts (key : ByteArray) (q : PA) (b : Bool) (h : gtB key q = b) : (b = true ∧ Op.bytesLess q.key.toList key.toList = false ∧ (q.key.toList == key.toList) = false) ∨ (b = false ∧ Op.bytesLess q.key.toList key.toList = true) ∨ (b = false ∧ Op.bytesLess q.key.toList key.toList = false ∧ (q.key.toList == key.toList) = true) := by
  unfold gtB at h
  cases h1 : Op.bytesLess q.key.toList key.toList <;> cases h2 : (q.key.toList == key.toList) <;> rw [h1, h2] at h <;> simp at h <;> subst h <;> simp
end Go.Proofs.Ytciipggccjiaiaa
