/- Texts of values, plain: quotes, digits, rows; and how a text is read. -/
import Derived.Test.YtmgjiipooffggaaVJ
import Derived.Test.YtmgjiipooffggaaIS
import Derived.Test.YtmgjiipooffggaaSh
import Derived.Test.YtmgjiipooffggaaVRc
import Derived.Deep.QuietTactic
import Derived.BigQuiet
import Derived.Test.YtmgjiipooffggaaVG
import Derived.Test.YtmgjiipooffggaaVVa
namespace Go.Proofs.Ytmgjiipooffggaa
open Go.RowKit

abbrev Bs := List UInt8

def hexD (n : Nat) : UInt8 := UInt8.ofNat (if n < 10 then 48 + n else 87 + n)
def seenB (c : UInt8) : Bool := decide (32 ≤ c.toNat) && decide (c.toNat ≤ 126)
def qB (c : UInt8) : Bs := if c = 39 ∨ c = 92 then [92, c] else if seenB c then [c] else [92, 120, hexD (c.toNat / 16), hexD (c.toNat % 16)]
def qM (l : Bs) : Bs := l.flatMap qB
def qL (l : Bs) : Bs := 39 :: (qM l ++ [39])

/-- Items with a comma and a blank between: from item number i on. -/
def itemsT {α : Type} (f : α → Bs) : Nat → List α → Bs
  | _, [] => []
  | i, x :: r => ((if 0 < i then [44, 32] else []) ++ f x) ++ itemsT f (i + 1) r
def pairT (f : V → Bs) (p : V × V) : Bs := f p.1 ++ ([58, 32] ++ f p.2)

def txt : Nat → V → Bs
  | 0, _ => []
  | r + 1, t =>
    if t.k = 1 then (if t.n = 0 then [102, 97, 108, 115, 101] else [116, 114, 117, 101])
    else if t.k = 2 then digL t.n
    else if t.k = 3 then qL t.s.toList
    else if t.k = 4 then [118, 91] ++ (digL t.n ++ [93])
    else if t.k = 5 then [101, 91] ++ (digL t.n ++ [93])
    else if t.k = 6 then [91] ++ (itemsT (txt r) 0 t.l ++ [93])
    else if t.k = 7 then [123] ++ (itemsT (pairT (txt r)) 0 (t.l.zip t.m) ++ [125])
    else if t.k = 8 then [112, 97, 116, 104, 91] ++ (itemsT (txt r) 0 t.l ++ [93])
    else []

/-! Reading. -/
def nibL (c : UInt8) : Option Nat := if 48 ≤ c.toNat ∧ c.toNat ≤ 57 then some (c.toNat - 48) else if 97 ≤ c.toNat ∧ c.toNat ≤ 102 then some (c.toNat - 87) else none
def hiddenL (l : Bs) : Option (UInt8 × Bs) :=
  match nibL (l.headD 0), nibL ((l.drop 1).headD 0) with
  | some h, some o => if seenB (UInt8.ofNat (16 * h + o)) then none else some (UInt8.ofNat (16 * h + o), (l.drop 1).drop 1)
  | _, _ => none
def meantL (l : Bs) : Option (UInt8 × Bs) :=
  if l.headD 0 = 39 ∨ l.headD 0 = 92 then some (l.headD 0, l.drop 1) else if l.headD 0 = 120 then hiddenL (l.drop 1) else none
/-- What stands between two quotes, n bytes at most less one. -/
def textR : Nat → Bs → Bs → Option (Bs × Bs)
  | 0, _, _ => none
  | n + 1, acc, l =>
    if l.headD 0 = 39 then some (acc, l.drop 1)
    else if l.headD 0 = 92 then (match meantL (l.drop 1) with | none => none | some (x, r) => textR n (acc ++ [x]) r)
    else if seenB (l.headD 0) then textR n (acc ++ [l.headD 0]) (l.drop 1)
    else none
def numB (c : UInt8) : Bool := c == 45 || digB c
def numR (l : Bs) : Option (Int × Bs) := if parseE (l.takeWhile numB) = 0 then some (parseV (l.takeWhile numB), l.dropWhile numB) else none
def takeL (p l : Bs) : Option Bs := if p.isPrefixOf l then some (l.drop p.length) else none
def thingR (k : Int) (l : Bs) : Option (V × Bs) :=
  match numR l with
  | none => none
  | some (n, r) => match takeL [93] r with
    | none => none
    | some q => some (.mk k n ⟨#[]⟩ [] [], q)
/-- So many items at most, and the end of them. -/
def itemsR {α : Type} (e : Bs) (one : Bs → Option (α × Bs)) : Nat → List α → Bs → Option (List α × Bs)
  | 0, _, _ => none
  | n + 1, acc, l => match one l with
    | none => none
    | some (x, r) => match takeL e r with
      | some q => some (acc ++ [x], q)
      | none => match takeL [44, 32] r with
        | none => none
        | some q => itemsR e one n (acc ++ [x]) q
def rowR {α : Type} (e : Bs) (one : Bs → Option (α × Bs)) (l : Bs) : Option (List α × Bs) :=
  match takeL e l with
  | some q => some ([], q)
  | none => itemsR e one 1000 [] l
def pairR (one : Bs → Option (V × Bs)) (l : Bs) : Option ((V × V) × Bs) :=
  match one l with
  | none => none
  | some (k, r) => match takeL [58, 32] r with
    | none => none
    | some q => match one q with
      | none => none
      | some (v, z) => some ((k, v), z)
def rowV' (k : Int) : Option (List V × Bs) → Option (V × Bs)
  | none => none
  | some (xs, q) => some (.mk k 0 ⟨#[]⟩ xs [], q)
def dictV' : Option (List (V × V) × Bs) → Option (V × Bs)
  | none => none
  | some (ps, q) => some (.mk 7 0 ⟨#[]⟩ (ps.map Prod.fst) (ps.map Prod.snd), q)
def numV' : Option (Int × Bs) → Option (V × Bs)
  | none => none
  | some (n, q) => some (.mk 2 n ⟨#[]⟩ [] [], q)
def textV' : Option (Bs × Bs) → Option (V × Bs)
  | none => none
  | some (b, q) => some (.mk 3 0 ⟨b.toArray⟩ [] [], q)
def namedR (one : Bs → Option (V × Bs)) (l : Bs) : Option (V × Bs) :=
  match takeL [116, 114, 117, 101] l with
  | some q => some (.mk 1 1 ⟨#[]⟩ [] [], q)
  | none => match takeL [102, 97, 108, 115, 101] l with
    | some q => some (.mk 1 0 ⟨#[]⟩ [] [], q)
    | none => match takeL [118, 91] l with
      | some q => thingR 4 q
      | none => match takeL [101, 91] l with
        | some q => thingR 5 q
        | none => match takeL [112, 97, 116, 104, 91] l with
          | some q => rowV' 8 (rowR [93] one q)
          | none => none
def rd : Nat → Bs → Option (V × Bs)
  | 0, _ => none
  | r + 1, l =>
    if numB (l.headD 0) then numV' (numR l)
    else if l.headD 0 = 39 then textV' (textR 1001 [] (l.drop 1))
    else if 97 ≤ (l.headD 0).toNat ∧ (l.headD 0).toNat ≤ 122 then namedR (rd r) l
    else match takeL [91] l with
      | some q => rowV' 6 (rowR [93] (rd r) q)
      | none => match takeL [123] l with
        | some q => dictV' (rowR [125] (pairR (rd r)) q)
        | none => none

/-! What is read is what was written there. -/
theorem take_some {p l q : Bs} (h : takeL p l = some q) : l = p ++ q := by
  unfold takeL at h
  split at h
  · rename_i hp
    obtain ⟨t, rfl⟩ := List.isPrefixOf_iff_prefix.1 hp
    simp at h; rw [h]
  · cases h
theorem take_here (p q : Bs) : takeL p (p ++ q) = some q := by
  unfold takeL
  rw [if_pos (List.isPrefixOf_iff_prefix.2 ⟨q, rfl⟩)]; simp
theorem take_apart {p l : Bs} (h : ¬ ∃ q, l = p ++ q) : takeL p l = none := by
  unfold takeL
  rw [if_neg]
  intro hp
  obtain ⟨t, ht⟩ := List.isPrefixOf_iff_prefix.1 hp
  exact h ⟨t, ht.symm⟩
theorem take_other {a b : UInt8} {p l : Bs} (h : a ≠ b) : takeL (a :: p) (b :: l) = none := take_apart (by rintro ⟨q, e⟩; injection e with e1 _; exact h e1.symm)
theorem take_nil {a : UInt8} {p : Bs} : takeL (a :: p) [] = none := take_apart (by rintro ⟨q, e⟩; cases e)

theorem all_bytes {p : UInt8 → Prop} [DecidablePred p] (h : ∀ n : Fin 256, p (UInt8.ofNat n.val)) (c : UInt8) : p c := by
  have := h ⟨c.toNat, c.toNat_lt⟩
  simpa using this

theorem hidden_qB (c : UInt8) (r : Bs) (_h1 : ¬ (c = 39 ∨ c = 92)) (h2 : seenB c = false) : hiddenL (hexD (c.toNat / 16) :: hexD (c.toNat % 16) :: r) = some (c, r) := by
  have k : nibL (hexD (c.toNat / 16)) = some (c.toNat / 16) ∧ nibL (hexD (c.toNat % 16)) = some (c.toNat % 16) ∧ UInt8.ofNat (16 * (c.toNat / 16) + c.toNat % 16) = c :=
    all_bytes (p := fun c => nibL (hexD (c.toNat / 16)) = some (c.toNat / 16) ∧ nibL (hexD (c.toNat % 16)) = some (c.toNat % 16) ∧ UInt8.ofNat (16 * (c.toNat / 16) + c.toNat % 16) = c) (by decide +kernel) c
  unfold hiddenL
  simp only [List.headD_cons, List.drop_succ_cons, List.drop_zero, k.1, k.2.1, k.2.2, h2]
  simp

theorem nib_hex (c : UInt8) (n : Nat) (h : nibL c = some n) : n < 16 ∧ hexD n = c := by
  have k : (nibL c).all (fun n => decide (n < 16) && hexD n == c) = true := all_bytes (p := fun c => (nibL c).all (fun n => decide (n < 16) && hexD n == c) = true) (by decide +kernel) c
  rw [h] at k
  simpa using k

theorem nib_zero : nibL 0 = none := by decide

theorem hidden_some {l : Bs} {x : UInt8} {q : Bs} (h : hiddenL l = some (x, q)) : 120 :: l = 120 :: hexD (x.toNat / 16) :: hexD (x.toNat % 16) :: q ∧ seenB x = false := by
  unfold hiddenL at h
  match l, h with
  | [], h => simp [nib_zero] at h
  | [a], h => simp [nib_zero] at h
  | a :: b :: r, h =>
    simp only [List.headD_cons, List.drop_succ_cons, List.drop_zero] at h
    match ha : nibL a, hb : nibL b, h with
    | none, _, h => simp at h
    | some _, none, h => simp at h
    | some u, some v, h =>
      simp only at h
      split at h
      · cases h
      · rename_i hs
        injection h with h
        injection h with h1 h2
        subst h2
        obtain ⟨hu, eu⟩ := nib_hex a u ha
        obtain ⟨hv, ev⟩ := nib_hex b v hb
        have hx : x.toNat = 16 * u + v := by rw [← h1]; simp; omega
        refine ⟨?_, by rw [← h1]; simpa using hs⟩
        rw [hx, show (16 * u + v) / 16 = u from by omega, show (16 * u + v) % 16 = v from by omega, eu, ev]

theorem qM_cons (c : UInt8) (r : Bs) : qM (c :: r) = qB c ++ qM r := rfl
theorem qM_append (a b : Bs) : qM (a ++ b) = qM a ++ qM b := by simp [qM]
theorem seen_zero : seenB 0 = false := by decide
theorem not_seen {x : UInt8} (h : seenB x = false) : ¬ (x = 39 ∨ x = 92) := by rintro (rfl | rfl) <;> revert h <;> decide

theorem meant_some {l : Bs} {x : UInt8} {q : Bs} (h : meantL l = some (x, q)) : 92 :: l = qB x ++ q := by
  unfold meantL at h
  split at h
  · rename_i h0
    match l, h, h0 with
    | [], h, h0 => exact absurd h0 (by decide)
    | c :: r, h, h0 =>
      simp only [List.headD_cons, List.drop_succ_cons, List.drop_zero] at h h0
      injection h with h; injection h with h1 h2
      subst h1 h2
      simp [qB, h0]
  · split at h
    · rename_i h0 h1
      match l, h, h1 with
      | [], h, h1 => exact absurd h1 (by decide)
      | c :: r, h, h1 =>
        simp only [List.headD_cons, List.drop_succ_cons, List.drop_zero] at h h1
        obtain ⟨e, hs⟩ := hidden_some h
        subst h1
        rw [e]
        simp [qB, not_seen hs, hs]
    · cases h

theorem text_some : ∀ (n : Nat) (acc l b q : Bs), textR n acc l = some (b, q) → ∃ m, b = acc ++ m ∧ l = qM m ++ 39 :: q
  | 0, _, _, _, _, h => by cases h
  | n + 1, acc, l, b, q, h => by
    unfold textR at h
    split at h
    · rename_i h0
      match l, h, h0 with
      | [], h, h0 => exact absurd h0 (by decide)
      | c :: r, h, h0 =>
        simp only [List.headD_cons, List.drop_succ_cons, List.drop_zero] at h h0
        injection h with h; injection h with h1 h2
        subst h1 h2 h0
        exact ⟨[], by simp, by simp [qM]⟩
    · split at h
      · rename_i h1 h0
        match l, h, h0 with
        | [], h, h0 => exact absurd h0 (by decide)
        | c :: r, h, h0 =>
          simp only [List.headD_cons, List.drop_succ_cons, List.drop_zero] at h h0
          match hm : meantL r, h with
          | none, h => cases h
          | some (x, z), h =>
            obtain ⟨m, e1, e2⟩ := text_some n _ _ _ _ h
            refine ⟨x :: m, by rw [e1]; simp, ?_⟩
            subst h0
            rw [meant_some hm, e2, qM_cons]; simp
      · split at h
        · rename_i h1 h2 h0
          match l, h, h0, h1, h2 with
          | [], h, h0, _, _ => exact absurd h0 (by decide)
          | c :: r, h, h0, h1, h2 =>
            simp only [List.headD_cons, List.drop_succ_cons, List.drop_zero] at h h0 h1 h2
            obtain ⟨m, e1, e2⟩ := text_some n _ _ _ _ h
            refine ⟨c :: m, by rw [e1]; simp, ?_⟩
            rw [e2, qM_cons]
            simp [qB, h1, h2, h0]
        · cases h

theorem text_here : ∀ (m : Bs) (n : Nat) (acc q : Bs), m.length < n → textR n acc (qM m ++ 39 :: q) = some (acc ++ m, q)
  | _, 0, _, _, h => absurd h (by omega)
  | [], n + 1, acc, q, _ => by simp [textR, qM]
  | c :: m, n + 1, acc, q, h => by
    have ih := text_here m n (acc ++ [c]) q (by simp at h; omega)
    rw [qM_cons, List.append_assoc]
    by_cases h1 : c = 39 ∨ c = 92
    · have hb : qB c = [92, c] := by simp [qB, h1]
      have hm : meantL (c :: (qM m ++ 39 :: q)) = some (c, qM m ++ 39 :: q) := by simp [meantL, h1]
      rw [hb]
      simp only [List.cons_append, List.nil_append, textR, List.headD_cons, List.drop_succ_cons, List.drop_zero, hm, ih]
      simp
    · by_cases h2 : seenB c = true
      · have hb : qB c = [c] := by simp [qB, h1, h2]
        rw [hb]
        have h3 : c ≠ 39 := fun e => h1 (.inl e)
        have h4 : c ≠ 92 := fun e => h1 (.inr e)
        simp only [List.cons_append, List.nil_append, textR, List.headD_cons, List.drop_succ_cons, List.drop_zero, ih, h2, if_neg h3, if_neg h4]
        simp
      · simp at h2
        have hb : qB c = [92, 120, hexD (c.toNat / 16), hexD (c.toNat % 16)] := by simp [qB, h1, h2]
        have hm : meantL (120 :: hexD (c.toNat / 16) :: hexD (c.toNat % 16) :: (qM m ++ 39 :: q)) = some (c, qM m ++ 39 :: q) := by
          have := hidden_qB c (qM m ++ 39 :: q) h1 h2
          simp [meantL, this]
        rw [hb]
        simp only [List.cons_append, List.nil_append, textR, List.headD_cons, List.drop_succ_cons, List.drop_zero, hm, ih]
        simp

/-- A text that is longer is none. -/
theorem qL_inj {a b : Bs} (h : qL a = qL b) : a = b := by
  unfold qL at h
  injection h with _ h
  have k1 := text_here a (max a.length b.length + 1) [] [] (by omega)
  have k2 := text_here b (max a.length b.length + 1) [] [] (by omega)
  rw [h, k2] at k1
  simpa using k1.symm
end Go.Proofs.Ytmgjiipooffggaa
/- The reader in memory; what it sees, its steps. -/
namespace Go.Proofs.Ytmgjiipooffggaa
set_option maxRecDepth 100000
open Go.RowKit

/-- The reader in block g: a text, and what is left of it. -/
def RL (w : World) (g : Nat) (s : ByteArray) (l : Bs) : Prop :=
  ∃ p : Nat, w.heap[g]? = some (.cells #[.string s, .int .i64 p] 63 (0, 0)) ∧ p ≤ s.size ∧ s.size ≤ 140737488355328 ∧ s.toList.drop p = l
theorem RL.lt {w : World} {g : Nat} {s : ByteArray} {l : Bs} (h : RL w g s l) : g < w.heap.size := by
  obtain ⟨p, h, _⟩ := h
  rcases Nat.lt_or_ge g w.heap.size with h' | h'
  · exact h'
  · simp [Array.getElem?_eq_none h'] at h
theorem RL.kept {w w' : World} {g : Nat} {s : ByteArray} {l : Bs} (h : RL w g s l) (hk : w'.heap[g]? = w.heap[g]?) : RL w' g s l := by
  obtain ⟨p, h1, h2⟩ := h
  exact ⟨p, hk.trans h1, h2⟩
theorem RL.next {w w' : World} {g : Nat} {s : ByteArray} {l : Bs} (h : RL w g s l) (hb : Below w.heap.size w w') : RL w' g s l := h.kept (hb.block g h.lt)
theorem RL.cut {w : World} {g : Nat} {s : ByteArray} {l : Bs} (h : RL w g s l) : l.length ≤ 140737488355328 := by
  obtain ⟨p, _, _, h3, rfl⟩ := h
  rw [List.length_drop, toList_size]; omega

/-- All blocks but g's, of those that were there, are as they were. -/
def RK (g : Nat) (w w' : World) : Prop := Below g w w' ∧ Kept (g + 1) w.heap.size w w'
theorem RK.refl (g : Nat) (w : World) : RK g w w := ⟨Below.refl _ _, Kept.refl _ _ _⟩
theorem RK.trans {g : Nat} {a b c : World} (h : RK g a b) (k : RK g b c) : RK g a c :=
  ⟨h.1.trans k.1, fun i h1 h2 => (k.2 i h1 (Nat.lt_of_lt_of_le h2 h.1.size)).trans (h.2 i h1 h2)⟩
theorem RK.below {g : Nat} {w w' : World} (h : Below w.heap.size w w') (hg : g < w.heap.size) : RK g w w' := ⟨h.mono (by omega), Kept.of_below h (Nat.le_refl _)⟩
theorem RK.set (g o : Nat) (u : Value) (w : World) : RK g w (w.setCell ⟨g, o, none⟩ u) := ⟨(Below.refl _ _).setCell (p := ⟨g, o, none⟩) (Nat.le_refl _) u, Kept.setCell (p := ⟨g, o, none⟩) (.inl (Nat.lt_succ_self g)) u⟩
theorem RK.size {g : Nat} {w w' : World} (h : RK g w w') : w.heap.size ≤ w'.heap.size := h.1.size
theorem RK.other {g : Nat} {w w' : World} (h : RK g w w') (k : Nat) (hk : k < w.heap.size) (hn : k ≠ g) : w'.heap[k]? = w.heap[k]? := by
  rcases Nat.lt_or_ge k g with h' | h'
  · exact h.1.block k h'
  · exact h.2 k (by omega) hk
theorem set_cells {w : World} {g : Nat} {a b : Value} {t : TypeId} (h : w.heap[g]? = some (.cells #[a, b] t (0, 0))) (u : Value) : (w.setCell ⟨g, 1, none⟩ u).heap[g]? = some (.cells #[a, u] t (0, 0)) := by
  simp only [World.setCell, Array.getElem?_modify]
  rw [if_pos trivial, h]; rfl
theorem RL.set {w : World} {g : Nat} {s : ByteArray} {l : Bs} (h : RL w g s l) (q : Nat) (hq : q ≤ s.size) {l' : Bs} (hl : s.toList.drop q = l') : RL (w.setCell ⟨g, 1, none⟩ (.int .i64 q)) g s l' := by
  obtain ⟨p, h1, h2, h3, _⟩ := h
  exact ⟨q, set_cells h1 _, hq, h3, hl⟩
/-- What the walk asks of the reader. -/
theorem RL.open_ {w : World} {g : Nat} {s : ByteArray} {l : Bs} (h : RL w g s l) : ∃ p : Nat, w.cell? ⟨g, 0, none⟩ = some (.string s) ∧ w.cell? ⟨g, 1, none⟩ = some (.int .i64 p) ∧ w.frozen? ⟨g, 1, none⟩ = false ∧ p ≤ s.size ∧ s.size ≤ 140737488355328 ∧ s.toList.drop p = l := by
  obtain ⟨p, h1, h2, h3, h4⟩ := h
  exact ⟨p, by rw [Lib.cell_of_heap h1]; rfl, by rw [Lib.cell_of_heap h1]; rfl, Lib.frozen_of_heap h1 1, h2, h3, h4⟩

theorem atEnd_any (w : World) (g : Nat) (s : ByteArray) (l : Bs) (h : RL w g s l) :
    Calls Try.prog 33 #[.pointer (some ⟨g, 0, none⟩)] w fun e w' => e = .returned (.bool l.isEmpty) ∧ Below w.heap.size w w' := by
  obtain ⟨p, c0, c1, f1, hp, hs, hl⟩ := h.open_
  have HL := Lib.hid (show decide ((p : Int) = (s.size : Int)) = l.isEmpty by
    rw [← hl]
    rw [Bool.eq_iff_iff, decide_eq_true_iff, List.isEmpty_iff, List.drop_eq_nil_iff, toList_size]; omega)
  clear hl h
  go_enter Try.func33, Try.ntmps33
  go_wp2_with fail
  go_quiet (fail)
  go_wp2
  go_ret
  refine ⟨?_, drewN_below w _⟩
  rw [← HL.out]
  congr 1

theorem head_at (s : ByteArray) (p : Nat) (hp : p < s.size) : (s.toList.drop p).headD 0 = s[p]'hp ∧ (s.toList.drop p).drop 1 = s.toList.drop (p + 1) := by
  have h := toList_at s p hp
  obtain ⟨h1, h2⟩ := List.getElem?_eq_some_iff.1 h
  rw [List.drop_eq_getElem_cons h1, h2]
  exact ⟨rfl, rfl⟩
theorem head_out (s : ByteArray) (p : Nat) (hp : s.size ≤ p) : s.toList.drop p = [] := List.drop_eq_nil_of_le (by rw [toList_size]; exact hp)

theorem peek_any (w : World) (g : Nat) (s : ByteArray) (l : Bs) (h : RL w g s l) :
    Calls Try.prog 50 #[.pointer (some ⟨g, 0, none⟩)] w fun e w' => e = .returned (.int .u8 ((l.headD 0).toNat : Int)) ∧ Below w.heap.size w w' := by
  have H := Lib.hid h
  obtain ⟨p, _, _, _, hp, hs, hl⟩ := h.open_
  have HL := Lib.hid hl
  clear hl h
  go_enter Try.func50, Try.ntmps50
  go_wp2_with fail
  refine (atEnd_any _ g s l H.out).mono ?_
  rintro e w1 ⟨rfl, hb⟩
  have HB := Lib.hid hb
  have H1 := Lib.hid (H.out.next hb)
  clear hb
  by_cases hlt : p < s.size
  · have hne : l.isEmpty = false := by rw [← HL.out]; rw [Bool.eq_false_iff]; intro h0; rw [List.isEmpty_iff, List.drop_eq_nil_iff, toList_size] at h0; omega
    obtain ⟨p', c0, c1, _, hp', _, hl'⟩ := H1.out.open_
    obtain rfl : p' = p := by
      have := congrArg List.length (hl'.trans HL.out.symm)
      rw [List.length_drop, List.length_drop, toList_size] at this; omega
    clear hl' hp'
    have i0 : (0 : Int) ≤ (p' : Int) := by omega
    have i1 : (p' : Int) < (s.size : Int) := by omega
    go_wp2_with fail
    go_quiet (fail)
    go_wp2
    go_ret
    refine ⟨?_, bnext HB.out (drewN_below w1 _)⟩
    rw [← HL.out, (head_at s p' hlt).1]
    rfl
  · have he : l.isEmpty = true := by rw [← HL.out, head_out s p (by omega)]; rfl
    go_wp2
    go_ret
    refine ⟨?_, HB.out⟩
    rw [← HL.out, head_out s p (by omega)]
    rfl

/-- A byte and the reader behind it. -/
def NextPost (w : World) (g : Nat) (s : ByteArray) (l : Bs) (e : Ending) (w' : World) : Prop :=
  e = .returned (.int .u8 ((l.headD 0).toNat : Int)) ∧ RL w' g s (l.drop 1) ∧ RK g w w'
set_option maxHeartbeats 800000 in
theorem next_any (w : World) (g : Nat) (s : ByteArray) (l : Bs) (h : RL w g s l) :
    Calls Try.prog 80 #[.pointer (some ⟨g, 0, none⟩)] w (NextPost w g s l) := by
  unfold NextPost
  have H := Lib.hid h
  have LT := Lib.hid h.lt
  clear h
  generalize hcc : l.headD 0 = c
  have PK := Lib.hid (fun W (h : RL W g s l) => hcc ▸ peek_any W g s l h)
  have HC := Lib.hid hcc
  clear hcc
  go_enter Try.func80, Try.ntmps80
  go_wp2_with fail
  refine (PK.out _ H.out).mono ?_
  rintro e w1 ⟨rfl, hb⟩
  have HB := Lib.hid hb
  have H1 := Lib.hid (H.out.next hb)
  clear hb
  go_wp2_with fail
  refine (atEnd_any _ g s l H1.out).mono ?_
  rintro e w2 ⟨rfl, hb⟩
  have HB2 := Lib.hid (bnext HB.out hb)
  have H2 := Lib.hid (H1.out.next hb)
  clear hb HB H1
  obtain ⟨p, c0, c1, f1, hp, hs, hl⟩ := H2.out.open_
  by_cases hlt : p < s.size
  · have hne : l.isEmpty = false := by rw [← hl]; rw [Bool.eq_false_iff]; intro h0; rw [List.isEmpty_iff, List.drop_eq_nil_iff, toList_size] at h0; omega
    have HL := Lib.hid hl
    clear hl
    have i0 : (0 : Int) ≤ (p : Int) := by omega
    have i1 : (p : Int) < (s.size : Int) := by omega
    go_wp2
    go_ret
    refine ⟨rfl, ?_, ?_⟩
    · refine RL.set H2.out (p + 1) (by omega) ?_
      rw [← HL.out, (head_at s p hlt).2]
    · exact (RK.below HB2.out LT.out).trans (RK.set _ _ _ _)
  · have he : l = [] := by rw [← hl, head_out s p (by omega)]
    clear hl c0 c1 f1
    have hne : l.isEmpty = true := by rw [he]; rfl
    have HE := Lib.hid he
    clear he
    go_wp2
    go_ret
    refine ⟨rfl, ?_, RK.below HB2.out LT.out⟩
    have := H2.out
    rw [HE.out] at this ⊢
    exact this

/-- Bytes taken, if they stand there. -/
def TakePost (w : World) (g : Nat) (s : ByteArray) (l p : Bs) (e : Ending) (w' : World) : Prop :=
  e = .returned (.bool (takeL p l).isSome) ∧ RL w' g s ((takeL p l).getD l) ∧ RK g w w'
theorem take_any (w : World) (g : Nat) (s lit : ByteArray) (l : Bs) (h : RL w g s l) :
    Calls Try.prog 57 #[.pointer (some ⟨g, 0, none⟩), .string lit] w (TakePost w g s l lit.data.toList) := by
  have H := Lib.hid h
  have LT := Lib.hid h.lt
  obtain ⟨p, c0, c1, f1, hp, hs, hl⟩ := h.open_
  have HL := Lib.hid hl
  have HP : Hid (Lib.hasPrefix (s.extract p s.size).data.toList lit.data.toList = (takeL lit.data.toList l).isSome) := Lib.hid (by
    have : (s.extract p s.size).data.toList = l := by rw [← ByteArray.toList_eq, toList_cut, ← toList_len, List.take_length, hl]
    rw [this]
    unfold Lib.hasPrefix takeL
    cases lit.data.toList.isPrefixOf l <;> rfl)
  have i0 : (0 : Int) ≤ (p : Int) := by omega
  have i1 : (p : Int) ≤ (s.size : Int) := by omega
  clear hl h
  generalize hq : (takeL lit.data.toList l).isSome = q at HP
  have CP := Lib.hid (fun W : World => (Try.strings_HasPrefix (s.extract p s.size) lit W).mono (fun e w' h => (⟨h.1.trans (by rw [HP.out]), h.2⟩ : e = .returned (.bool q) ∧ w' = W)))
  go_enter Try.func57, Try.ntmps57
  go_wp2_with fail
  go_quiet ((go_at_call 84; exact Calls.quiet_of_same (CP.out _)))
  cases q with
  | false =>
    go_wp2
    go_ret
    have hn : takeL lit.data.toList l = none := by simpa using hq
    refine ⟨by rw [hn]; rfl, ?_, RK.below (drewN_below w _) LT.out⟩
    rw [hn]
    exact H.out.next (drewN_below w _)
  | true =>
    obtain ⟨z, hz⟩ := Option.isSome_iff_exists.1 hq
    have e1 := take_some hz
    have e2 : lit.data.toList.length = lit.size := by rw [← ByteArray.toList_eq, toList_size]
    have i2 : p + lit.size ≤ s.size := by
      have := congrArg List.length (HL.out.trans e1)
      rw [List.length_drop, List.length_append, toList_size, e2] at this; omega
    have E1 := Lib.hid e1
    have E2 := Lib.hid e2
    clear e1 e2 hq
    have i3 : (p : Int) + (lit.size : Int) ≤ (s.size : Int) := by omega
    have i4 : (s.size : Int) ≤ 140737488355328 := by omega
    have HZ := Lib.hid hz
    clear hz
    go_wp2
    go_ret
    refine ⟨by rw [HZ.out]; rfl, ?_, (RK.below (drewN_below w _) LT.out).trans (RK.set _ _ _ _)⟩
    rw [HZ.out]
    refine RL.set (H.out.next (drewN_below w _)) (p + lit.size) i2 ?_
    rw [← List.drop_drop, HL.out, E1.out, ← E2.out]
    simp
end Go.Proofs.Ytmgjiipooffggaa
/- The reader's small words: bytes of numbers, hexadecimal digits, what stands behind a backslash. -/
namespace Go.Proofs.Ytmgjiipooffggaa
set_option maxRecDepth 100000
open Go.RowKit

theorem ofNumber_any (c : UInt8) (w : World) : Calls Try.prog 51 #[.int .u8 (c.toNat : Int)] w fun e w' => e = .returned (.bool (numB c)) ∧ w = w' := by
  have hc := c.toNat_lt
  have h1 : numB c = (decide (c.toNat = 45) || decide (48 ≤ c.toNat ∧ c.toNat ≤ 57)) := by
    unfold numB digB
    congr 1
    rw [Bool.eq_iff_iff, beq_iff_eq, decide_eq_true_iff, ← UInt8.toNat_inj]; rfl
  have H1 := Lib.hid h1
  clear h1
  generalize hn : c.toNat = n at hc H1
  clear hn
  go_enter Try.func51, Try.ntmps51
  by_cases h45 : n = 45
  · subst h45
    go_wp2
    go_ret
    exact ⟨by rw [H1.out]; rfl, rfl⟩
  · have hne : ((n : Int) == 45) = false := by simp; omega
    by_cases h48 : 48 ≤ n
    · by_cases h57 : n ≤ 57
      · have R : Hid ((decide (n = 45) || decide (48 ≤ n ∧ n ≤ 57)) = true) := Lib.hid (by simp; omega)
        go_wp2
        go_ret
        exact ⟨by rw [H1.out, R.out]; first | rfl | (simp <;> omega), rfl⟩
      · have R : Hid ((decide (n = 45) || decide (48 ≤ n ∧ n ≤ 57)) = false) := Lib.hid (by simp; omega)
        go_wp2
        go_ret
        exact ⟨by rw [H1.out, R.out]; first | rfl | (simp <;> omega), rfl⟩
    · have R : Hid ((decide (n = 45) || decide (48 ≤ n ∧ n ≤ 57)) = false) := Lib.hid (by simp; omega)
      go_wp2
      go_ret
      exact ⟨by rw [H1.out, R.out]; first | rfl | (simp <;> omega), rfl⟩

def nibP (c : UInt8) : Nat × Bool := match nibL c with | some n => (n, true) | none => (0, false)
theorem nib_1 (c : UInt8) (h1 : 48 ≤ c.toNat) (h2 : c.toNat ≤ 57) : nibP c = (c.toNat - 48, true) := by simp [nibP, nibL, h1, h2]
theorem nib_2 (c : UInt8) (h1 : 97 ≤ c.toNat) (h2 : c.toNat ≤ 102) : nibP c = (c.toNat - 87, true) := by
  unfold nibP nibL
  rw [if_neg (by omega), if_pos ⟨h1, h2⟩]
theorem nib_3 (c : UInt8) (h1 : ¬ (48 ≤ c.toNat ∧ c.toNat ≤ 57)) (h2 : ¬ (97 ≤ c.toNat ∧ c.toNat ≤ 102)) : nibP c = (0, false) := by
  unfold nibP nibL
  rw [if_neg h1, if_neg h2]
theorem digit_any (c : UInt8) (w : World) : Calls Try.prog 105 #[.int .u8 (c.toNat : Int)] w fun e w' => e = .returned (.tuple #[.int .u8 ((nibP c).1 : Int), .bool (nibP c).2]) ∧ w = w' := by
  have hc := c.toNat_lt
  have N1 := Lib.hid (nib_1 c)
  have N2 := Lib.hid (nib_2 c)
  have N3 := Lib.hid (nib_3 c)
  generalize nibP c = z at N1 N2 N3 ⊢
  generalize hn : c.toNat = n at hc N1 N2 N3 ⊢
  clear hn
  go_enter Try.func105, Try.ntmps105
  by_cases h48 : 48 ≤ n
  · by_cases h57 : n ≤ 57
    · have q := Lib.hid (N1.out h48 h57)
      have i3 : IntKind.u8.wrap ((n : Int) - 48) = ((n - 48 : Nat) : Int) := by rw [show (n : Int) - 48 = ((n - 48 : Nat) : Int) from by omega]; exact IntWalk.u8_in _ (by omega)
      go_wp2
      go_ret2
      refine ⟨?_, rfl⟩
      rw [q.out]
      first | rfl | (simp <;> omega)
    · by_cases h97 : 97 ≤ n
      · by_cases h102 : n ≤ 102
        · have q := Lib.hid (N2.out h97 h102)
          go_wp2
          go_ret2
          refine ⟨?_, rfl⟩
          rw [q.out]
          first | rfl | (simp <;> omega)
        · have q := Lib.hid (N3.out (by omega) (by omega))
          go_wp2
          go_ret2
          exact ⟨by rw [q.out]; rfl, rfl⟩
      · have q := Lib.hid (N3.out (by omega) (by omega))
        go_wp2
        go_ret2
        exact ⟨by rw [q.out]; rfl, rfl⟩
  · have q := Lib.hid (N3.out (by omega) (by omega))
    have h97 : ¬ (97 ≤ n) := by omega
    go_wp2
    go_ret2
    exact ⟨by rw [q.out]; rfl, rfl⟩
end Go.Proofs.Ytmgjiipooffggaa
/- The reader's hidden, meant, number, thing. -/
namespace Go.Proofs.Ytmgjiipooffggaa
set_option maxRecDepth 100000
open Go.RowKit

theorem nibP_lt (c : UInt8) : (nibP c).1 ≤ 15 := by
  unfold nibP
  cases h : nibL c with
  | none => simp
  | some n => have := (nib_hex c n h).1; simp; omega
theorem hidden_is (l : Bs) : hiddenL l = if (nibP (l.headD 0)).2 && (nibP ((l.drop 1).headD 0)).2 && !seenB (UInt8.ofNat (16 * (nibP (l.headD 0)).1 + (nibP ((l.drop 1).headD 0)).1)) then some (UInt8.ofNat (16 * (nibP (l.headD 0)).1 + (nibP ((l.drop 1).headD 0)).1), (l.drop 1).drop 1) else none := by
  unfold hiddenL nibP
  cases nibL (l.headD 0) <;> cases nibL ((l.drop 1).headD 0) <;> simp
  split <;> simp_all
theorem seen_of (n : Nat) (h : n ≤ 255) : seenB (UInt8.ofNat n) = (decide (32 ≤ n) && decide (n ≤ 126)) := by
  unfold seenB
  rw [show (UInt8.ofNat n).toNat = n by simp; omega]

/-- A byte that is told, or none. -/
def BytePost (w : World) (g : Nat) (s : ByteArray) (o : Option (UInt8 × Bs)) (e : Ending) (w' : World) : Prop :=
  ∃ (n : Nat) (l' : Bs), e = .returned (.tuple #[.int .u8 (n : Int), .bool o.isSome]) ∧ n ≤ 255 ∧ RL w' g s l' ∧ RK g w w' ∧ ∀ x r, o = some (x, r) → x = UInt8.ofNat n ∧ l' = r

set_option maxHeartbeats 800000 in
theorem hidden_any (w : World) (g : Nat) (s : ByteArray) (l : Bs) (h : RL w g s l) :
    Calls Try.prog 98 #[.pointer (some ⟨g, 0, none⟩)] w (BytePost w g s (hiddenL l)) := by
  have H := Lib.hid h
  rw [hidden_is]
  clear h
  have N1 := Lib.hid (next_any w g s l H.out)
  have N2 := Lib.hid (fun W (h : RL W g s (l.drop 1)) => next_any W g s (l.drop 1) h)
  unfold NextPost at N1 N2
  generalize l.headD 0 = c1 at *
  generalize (l.drop 1).headD 0 = c2 at *
  have D1 := Lib.hid (fun W => digit_any c1 W)
  have D2 := Lib.hid (fun W => digit_any c2 W)
  have b1 := nibP_lt c1
  have b2 := nibP_lt c2
  generalize hz1 : nibP c1 = z1 at *
  generalize hz2 : nibP c2 = z2 at *
  clear hz1 hz2
  obtain ⟨n1, k1⟩ := z1
  obtain ⟨n2, k2⟩ := z2
  simp only at b1 b2 D1 D2 ⊢
  rw [seen_of (16 * n1 + n2) (by omega)]
  generalize hG : (if (k1 && k2 && !(decide (32 ≤ 16 * n1 + n2) && decide (16 * n1 + n2 ≤ 126))) = true then some (UInt8.ofNat (16 * n1 + n2), (l.drop 1).drop 1) else none) = G
  have HG := Lib.hid hG
  clear hG
  go_enter Try.func98, Try.ntmps98
  go_wp2_with fail
  refine N1.out.mono ?_
  rintro e w1 ⟨rfl, r1, rk1⟩
  have R1 := Lib.hid r1
  have RK1 := Lib.hid rk1
  clear r1 rk1
  go_wp2_with fail
  refine (D1.out w1).mono ?_
  rintro e w1' ⟨rfl, rfl⟩
  go_wp2_with fail
  refine (N2.out _ R1.out).mono ?_
  rintro e w2 ⟨rfl, r2, rk2⟩
  have R2 := Lib.hid r2
  have RK2 := Lib.hid (RK1.out.trans rk2)
  clear r2 rk2
  go_wp2_with fail
  refine (D2.out w2).mono ?_
  rintro e w2' ⟨rfl, rfl⟩
  have i1 : IntKind.u8.wrap ((n1 : Int) * 16) = (n1 : Int) * 16 := IntWalk.u8_in _ (by omega)
  have i2 : IntKind.u8.wrap ((n1 : Int) * 16 + (n2 : Int)) = (n1 : Int) * 16 + (n2 : Int) := IntWalk.u8_in _ (by omega)
  have E : Hid ((n1 : Int) * 16 + (n2 : Int) = ((16 * n1 + n2 : Nat) : Int)) := Lib.hid (by omega)
  cases k1
  · have hG : G = none := by rw [← HG.out]; simp
    subst hG
    go_wp2
    go_ret2
    exact ⟨16 * n1 + n2, _, by rw [E.out]; rfl, by omega, R2.out, RK2.out, by simp⟩
  · cases k2
    · have hG : G = none := by rw [← HG.out]; simp
      subst hG
      go_wp2
      go_ret2
      exact ⟨16 * n1 + n2, _, by rw [E.out]; rfl, by omega, R2.out, RK2.out, by simp⟩
    · by_cases h1 : (n1 : Int) * 16 + (n2 : Int) < 32
      · have hb : (decide (32 ≤ 16 * n1 + n2) && decide (16 * n1 + n2 ≤ 126)) = false := by simp; omega
        have hG : G = some (UInt8.ofNat (16 * n1 + n2), (l.drop 1).drop 1) := by rw [← HG.out, hb]; rfl
        clear hb
        subst hG
        go_wp2
        go_ret2
        exact ⟨16 * n1 + n2, _, by rw [E.out]; rfl, by omega, R2.out, RK2.out, by rintro x r ⟨⟩; exact ⟨rfl, rfl⟩⟩
      · by_cases h2 : (126 : Int) < (n1 : Int) * 16 + (n2 : Int)
        · have hb : (decide (32 ≤ 16 * n1 + n2) && decide (16 * n1 + n2 ≤ 126)) = false := by simp; omega
          have hG : G = some (UInt8.ofNat (16 * n1 + n2), (l.drop 1).drop 1) := by rw [← HG.out, hb]; rfl
          clear hb
          subst hG
          go_wp2
          go_ret2
          exact ⟨16 * n1 + n2, _, by rw [E.out]; rfl, by omega, R2.out, RK2.out, by rintro x r ⟨⟩; exact ⟨rfl, rfl⟩⟩
        · have hb : (decide (32 ≤ 16 * n1 + n2) && decide (16 * n1 + n2 ≤ 126)) = true := by simp; omega
          have hG : G = none := by rw [← HG.out, hb]; rfl
          clear hb
          subst hG
          have hd := Lib.hid (show (decide (((16 * n1 + n2 : Nat) : Int) < 32) || decide ((126 : Int) < ((16 * n1 + n2 : Nat) : Int))) = false by simp; omega)
          go_wp2
          go_ret2
          refine ⟨16 * n1 + n2, _, ?_, by omega, R2.out, RK2.out, by simp⟩
          rw [E.out]
          show Ending.returned (.tuple #[.int .u8 ((16 * n1 + n2 : Nat) : Int), .bool (decide (((16 * n1 + n2 : Nat) : Int) < 32) || decide ((126 : Int) < ((16 * n1 + n2 : Nat) : Int)))]) = _
          rw [hd.out]
          rfl

theorem byte_is (c : UInt8) (k : Nat) (h : k ≤ 255) : ((c.toNat : Int) == (k : Int)) = decide (c = UInt8.ofNat k) := by
  rw [Bool.eq_iff_iff, beq_iff_eq, decide_eq_true_iff, ← UInt8.toNat_inj]
  simp
  omega
set_option maxHeartbeats 800000 in
theorem meant_any (w : World) (g : Nat) (s : ByteArray) (l : Bs) (h : RL w g s l) :
    Calls Try.prog 81 #[.pointer (some ⟨g, 0, none⟩)] w (BytePost w g s (meantL l)) := by
  have N1 := Lib.hid (next_any w g s l h)
  have H2 := Lib.hid (fun W (h : RL W g s (l.drop 1)) => hidden_any W g s (l.drop 1) h)
  clear h
  unfold meantL
  unfold NextPost at N1
  have q1 := byte_is (l.headD 0) 39 (by omega)
  have q2 := byte_is (l.headD 0) 92 (by omega)
  have q3 := byte_is (l.headD 0) 120 (by omega)
  have hlt := (l.headD 0).toNat_lt
  have hof : UInt8.ofNat (l.headD 0).toNat = l.headD 0 := by simp
  generalize l.headD 0 = c at *
  have OF := Lib.hid hof
  clear hof
  generalize hG : (if c = 39 ∨ c = 92 then some (c, l.drop 1) else if c = 120 then hiddenL (l.drop 1) else none) = G
  have HG := Lib.hid hG
  clear hG
  go_enter Try.func81, Try.ntmps81
  go_wp2_with fail
  refine N1.out.mono ?_
  rintro e w1 ⟨rfl, r1, rk1⟩
  have R1 := Lib.hid r1
  have RK1 := Lib.hid rk1
  clear r1 rk1
  by_cases h1 : c = 39
  · have p1 : ((c.toNat : Int) == 39) = true := by rw [h1]; rfl
    have hG : G = some (c, l.drop 1) := by rw [← HG.out]; rw [if_pos (.inl h1)]
    subst hG
    clear HG
    clear q1 q2 q3 h1
    go_wp2
    go_ret2
    exact ⟨c.toNat, _, rfl, by omega, R1.out, RK1.out, by rintro x r ⟨⟩; exact ⟨OF.out.symm, rfl⟩⟩
  · have p1 : ((c.toNat : Int) == 39) = false := by rw [show (39 : Int) = ((39 : Nat) : Int) from rfl, q1]; simpa using h1
    by_cases h2 : c = 92
    · have p2 : ((c.toNat : Int) == 92) = true := by rw [h2]; rfl
      have hG : G = some (c, l.drop 1) := by rw [← HG.out]; rw [if_pos (.inr h2)]
      subst hG
      clear HG
      clear q1 q2 q3 h1 h2
      go_wp2
      go_ret2
      exact ⟨c.toNat, _, rfl, by omega, R1.out, RK1.out, by rintro x r ⟨⟩; exact ⟨OF.out.symm, rfl⟩⟩
    · have p2 : ((c.toNat : Int) == 92) = false := by rw [show (92 : Int) = ((92 : Nat) : Int) from rfl, q2]; simpa using h2
      by_cases h3 : c = 120
      · have p3 : ((c.toNat : Int) == 120) = true := by rw [h3]; rfl
        have hG : G = hiddenL (l.drop 1) := by rw [← HG.out]; rw [if_neg (by rintro (h | h) <;> contradiction), if_pos h3]
        subst hG
        clear HG
        clear q1 q2 q3 h1 h2 h3
        go_wp2_with fail
        refine (H2.out _ R1.out).mono ?_
        rintro e w2 ⟨n, l', rfl, hn, r2, rk2, hx⟩
        have HX := Lib.hid hx
        clear hx
        generalize hq : (hiddenL (l.drop 1)).isSome = q
        have HQ := Lib.hid hq
        clear hq
        go_wp2
        go_ret2
        exact ⟨n, l', by rw [HQ.out]; rfl, hn, r2, RK1.out.trans rk2, HX.out⟩
      · have p3 : ((c.toNat : Int) == 120) = false := by rw [show (120 : Int) = ((120 : Nat) : Int) from rfl, q3]; simpa using h3
        have hG : G = none := by rw [← HG.out]; rw [if_neg (by rintro (h | h) <;> contradiction), if_neg h3]
        subst hG
        clear HG
        clear q1 q2 q3 h1 h2 h3
        go_wp2
        go_ret2
        exact ⟨0, _, rfl, by omega, R1.out, RK1.out, by simp⟩
end Go.Proofs.Ytmgjiipooffggaa
