/- Carried over from an earlier seat. -/
import Derived.Test.YtllkimdlmnjoiaaGreatDoorEZIA
import Derived.RangeFuncOwn
import Derived.Deep.QuietTactic
import Derived.BigQuiet
import Derived.Laws.IdiomStrings
import Derived.Laws.BytesArg
import Derived.Deep.AppendLies
namespace Go.Proofs.YtllkimdlmnjoiaaGreatDoor.E8
set_option maxRecDepth 100000
set_option maxRecDepth 100000
open Go.RowKit

abbrev Bs := List UInt8
def blankB (c : UInt8) : Bool := c == 32 || c == 9 || c == 10 || c == 13
def letB (c : UInt8) : Bool := decide (97 ≤ c.toNat ∧ c.toNat ≤ 122) || decide (65 ≤ c.toNat ∧ c.toNat ≤ 90) || decide (c.toNat = 95)
def signB (c : UInt8) : Bool := c == 46 || c == 40 || c == 41 || c == 44 || c == 91 || c == 93
def wordB (c : UInt8) : Bool := letB c || digB c

theorem byte_eq (c d : UInt8) : (c == d) = decide (c.toNat = d.toNat) := by
  rw [Bool.eq_iff_iff, beq_iff_eq, decide_eq_true_iff, ← UInt8.toNat_inj]
theorem blank_eq (c : UInt8) : blankB c = (decide (c.toNat = 32) || decide (c.toNat = 9) || decide (c.toNat = 10) || decide (c.toNat = 13)) := by
  unfold blankB
  simp only [byte_eq]
  rfl
set_option maxHeartbeats 800000 in
theorem blank_any (c : UInt8) (w : World) : Calls Tryz.prog 85 #[.int .u8 (c.toNat : Int)] w fun e w' => e = .returned (.bool (blankB c)) ∧ w = w' := by
  have hc := c.toNat_lt
  have H1 := Lib.hid (blank_eq c)
  generalize blankB c = b at H1
  generalize hn : c.toNat = n at hc H1
  clear hn
  go_enter Tryz.func85, Tryz.ntmps85
  by_cases h32 : n = 32
  · subst h32
    go_wp2
    go_ret
    exact ⟨by rw [H1.out]; rfl, rfl⟩
  · have e32 : ((n : Int) == 32) = false := by simp; omega
    by_cases h9 : n = 9
    · subst h9
      go_wp2
      go_ret
      exact ⟨by rw [H1.out]; rfl, rfl⟩
    · have e9 : ((n : Int) == 9) = false := by simp; omega
      by_cases h10 : n = 10
      · subst h10
        go_wp2
        go_ret
        exact ⟨by rw [H1.out]; rfl, rfl⟩
      · have e10 : ((n : Int) == 10) = false := by simp; omega
        by_cases h13 : n = 13
        · subst h13
          go_wp2
          go_ret
          exact ⟨by rw [H1.out]; rfl, rfl⟩
        · have e13 : ((n : Int) == 13) = false := by simp; omega
          have R : Hid ((decide (n = 32) || decide (n = 9) || decide (n = 10) || decide (n = 13)) = false) := Lib.hid (by simp; omega)
          clear h32 h9 h10 h13
          go_wp2
          go_ret
          exact ⟨by rw [H1.out, R.out]; rfl, rfl⟩
theorem sign_eq (c : UInt8) : signB c = (decide (c.toNat = 46) || decide (c.toNat = 40) || decide (c.toNat = 41) || decide (c.toNat = 44) || decide (c.toNat = 91) || decide (c.toNat = 93)) := by
  unfold signB
  simp only [byte_eq]
  rfl
set_option maxHeartbeats 800000 in
theorem sign_any (c : UInt8) (w : World) : Calls Tryz.prog 91 #[.int .u8 (c.toNat : Int)] w fun e w' => e = .returned (.bool (signB c)) ∧ w = w' := by
  have hc := c.toNat_lt
  have H1 := Lib.hid (sign_eq c)
  generalize signB c = b at H1
  generalize hn : c.toNat = n at hc H1
  clear hn
  go_enter Tryz.func91, Tryz.ntmps91
  by_cases h46 : n = 46
  · subst h46
    go_wp2
    go_ret
    exact ⟨by rw [H1.out]; rfl, rfl⟩
  · have e46 : ((n : Int) == 46) = false := by simp; omega
    by_cases h40 : n = 40
    · subst h40
      go_wp2
      go_ret
      exact ⟨by rw [H1.out]; rfl, rfl⟩
    · have e40 : ((n : Int) == 40) = false := by simp; omega
      by_cases h41 : n = 41
      · subst h41
        go_wp2
        go_ret
        exact ⟨by rw [H1.out]; rfl, rfl⟩
      · have e41 : ((n : Int) == 41) = false := by simp; omega
        by_cases h44 : n = 44
        · subst h44
          go_wp2
          go_ret
          exact ⟨by rw [H1.out]; rfl, rfl⟩
        · have e44 : ((n : Int) == 44) = false := by simp; omega
          by_cases h91 : n = 91
          · subst h91
            go_wp2
            go_ret
            exact ⟨by rw [H1.out]; rfl, rfl⟩
          · have e91 : ((n : Int) == 91) = false := by simp; omega
            by_cases h93 : n = 93
            · subst h93
              go_wp2
              go_ret
              exact ⟨by rw [H1.out]; rfl, rfl⟩
            · have e93 : ((n : Int) == 93) = false := by simp; omega
              have R : Hid ((decide (n = 46) || decide (n = 40) || decide (n = 41) || decide (n = 44) || decide (n = 91) || decide (n = 93)) = false) := Lib.hid (by simp; omega)
              clear h46 h40 h41 h44 h91 h93
              go_wp2
              go_ret
              exact ⟨by rw [H1.out, R.out]; rfl, rfl⟩

set_option maxHeartbeats 800000 in
theorem digit_any (c : UInt8) (w : World) : Calls Tryz.prog 88 #[.int .u8 (c.toNat : Int)] w fun e w' => e = .returned (.bool (digB c)) ∧ w = w' := by
  have hc := c.toNat_lt
  have H1 : Hid (digB c = decide (48 ≤ c.toNat ∧ c.toNat ≤ 57)) := Lib.hid rfl
  generalize digB c = b at H1
  generalize hn : c.toNat = n at hc H1
  clear hn
  go_enter Tryz.func88, Tryz.ntmps88
  by_cases h1 : 48 ≤ n
  · by_cases h2 : n ≤ 57
    · have R : Hid (decide (48 ≤ n ∧ n ≤ 57) = true) := Lib.hid (by simp; omega)
      go_wp2
      go_ret
      exact ⟨by rw [H1.out, R.out]; try (simp; try omega), rfl⟩
    · have R : Hid (decide (48 ≤ n ∧ n ≤ 57) = false) := Lib.hid (by simp; omega)
      go_wp2
      go_ret
      exact ⟨by rw [H1.out, R.out]; try (simp; try omega), rfl⟩
  · have R : Hid (decide (48 ≤ n ∧ n ≤ 57) = false) := Lib.hid (by simp; omega)
    go_wp2
    go_ret
    exact ⟨by rw [H1.out, R.out]; try (simp; try omega), rfl⟩

set_option maxHeartbeats 1600000 in
theorem letter_any (c : UInt8) (w : World) : Calls Tryz.prog 86 #[.int .u8 (c.toNat : Int)] w fun e w' => e = .returned (.bool (letB c)) ∧ w = w' := by
  have hc := c.toNat_lt
  have H1 : Hid (letB c = (decide (97 ≤ c.toNat ∧ c.toNat ≤ 122) || decide (65 ≤ c.toNat ∧ c.toNat ≤ 90) || decide (c.toNat = 95))) := Lib.hid rfl
  generalize letB c = b at H1
  generalize hn : c.toNat = n at hc H1
  clear hn
  go_enter Tryz.func86, Tryz.ntmps86
  by_cases h1 : 97 ≤ n
  · by_cases h2 : n ≤ 122
    · have R : Hid ((decide (97 ≤ n ∧ n ≤ 122) || decide (65 ≤ n ∧ n ≤ 90) || decide (n = 95)) = true) := Lib.hid (by simp; omega)
      go_wp2
      go_ret
      exact ⟨by rw [H1.out, R.out]; rfl, rfl⟩
    · have h3 : 65 ≤ n := by omega
      have h4 : ¬ n ≤ 90 := by omega
      have h5 : ((n : Int) == 95) = false := by simp; omega
      have R : Hid ((decide (97 ≤ n ∧ n ≤ 122) || decide (65 ≤ n ∧ n ≤ 90) || decide (n = 95)) = false) := Lib.hid (by simp; omega)
      go_wp2
      go_ret
      exact ⟨by rw [H1.out, R.out]; rfl, rfl⟩
  · by_cases h3 : 65 ≤ n
    · by_cases h4 : n ≤ 90
      · have R : Hid ((decide (97 ≤ n ∧ n ≤ 122) || decide (65 ≤ n ∧ n ≤ 90) || decide (n = 95)) = true) := Lib.hid (by simp; omega)
        go_wp2
        go_ret
        exact ⟨by rw [H1.out, R.out]; rfl, rfl⟩
      · by_cases h5 : n = 95
        · subst h5
          have R : Hid ((decide (97 ≤ 95 ∧ 95 ≤ 122) || decide (65 ≤ 95 ∧ 95 ≤ 90) || decide (95 = 95)) = true) := Lib.hid (by decide)
          go_wp2
          go_ret
          exact ⟨by rw [H1.out, R.out]; rfl, rfl⟩
        · have h6 : ((n : Int) == 95) = false := by simp; omega
          have R : Hid ((decide (97 ≤ n ∧ n ≤ 122) || decide (65 ≤ n ∧ n ≤ 90) || decide (n = 95)) = false) := Lib.hid (by simp; omega)
          go_wp2
          go_ret
          exact ⟨by rw [H1.out, R.out]; rfl, rfl⟩
    · have h6 : ((n : Int) == 95) = false := by simp; omega
      have R : Hid ((decide (97 ≤ n ∧ n ≤ 122) || decide (65 ≤ n ∧ n ≤ 90) || decide (n = 95)) = false) := Lib.hid (by simp; omega)
      go_wp2
      go_ret
      exact ⟨by rw [H1.out, R.out]; rfl, rfl⟩
end Go.Proofs.YtllkimdlmnjoiaaGreatDoor.E8

/- Carried over from an earlier seat. -/
namespace Go.Proofs.YtllkimdlmnjoiaaGreatDoor.E8
set_option maxRecDepth 100000
set_option maxRecDepth 100000
open Go.RowKit

theorem bnext {a b c : World} (h : Below a.heap.size a b) (k : Below b.heap.size b c) : Below a.heap.size a c := h.trans (k.mono h.size)
theorem below_new (w : World) (o : Obj) : Below w.heap.size w (w.alloc o) := (Below.refl _ _).alloc (Nat.le_refl _) o
theorem cell_below {w w' : World} {B : Nat} {a : Addr} {v : Value} (hb : Below B w w') (h : w.cell? a = some v) (hB : a.block < B) : w'.cell? a = some v := (hb.cell hB).trans h
theorem add_none (b off j : Nat) : (⟨b, off, none⟩ : Addr).add j = ⟨b, off + j, none⟩ := by unfold Addr.add; split <;> simp_all
theorem toList_size (s : ByteArray) : s.toList.length = s.size := by rw [ByteArray.toList_eq]; simp
theorem toList_at (a : ByteArray) (k : Nat) (h : k < a.size) : a.toList[k]? = some (a[k]'h) := by
  rw [ByteArray.toList_eq]
  have : k < a.data.toList.length := by rw [Array.length_toList]; exact h
  rw [List.getElem?_eq_getElem this]; rfl
/-- The text of some bytes. -/
def bs (l : Bs) : ByteArray := ⟨l.toArray⟩
theorem bs_toList (l : Bs) : (bs l).toList = l := by rw [ByteArray.toList_eq]; simp [bs]
theorem bs_of (s : ByteArray) : bs s.toList = s := by
  apply ByteArray.ext
  unfold bs
  rw [ByteArray.toList_eq]
theorem bs_cut (s : ByteArray) (i j : Nat) : s.extract i j = bs ((s.toList.take j).drop i) := by rw [← toList_cut, bs_of]
theorem bs_size (l : Bs) : (bs l).size = l.length := by rw [← toList_size, bs_toList]
structure TK where
  k : Int
  p : Int
  s : Bs
  n : Int
abbrev TK.v (t : TK) : Value := .agg #[.int .i64 t.k, .int .i64 t.p, .string (bs t.s), .int .i64 t.n]
def TK.cs (t : TK) : List Value := [.int .i64 t.k, .int .i64 t.p, .string (bs t.s), .int .i64 t.n]
def TK.zero : TK := ⟨0, 0, [], 0⟩
def flatT (l : List TK) : List Value := l.flatMap TK.cs
theorem flatT_len : ∀ l : List TK, (flatT l).length = l.length * 4
  | [] => rfl
  | p :: r => by
    have := flatT_len r
    unfold flatT at *
    rw [List.flatMap_cons, List.length_append, this, List.length_cons]; simp [TK.cs]; omega
theorem flatT_app (a b : List TK) : flatT (a ++ b) = flatT a ++ flatT b := List.flatMap_append
theorem flatT_at : ∀ (l : List TK) (j : Nat) (p : TK), l[j]? = some p → ∀ c, c < 4 → (flatT l)[j * 4 + c]? = p.cs[c]?
  | [], _, _, h => by simp at h
  | q :: l, 0, p, h => fun c hc => by
    simp at h
    subst h
    unfold flatT
    rw [List.flatMap_cons, List.getElem?_append_left (by simp [TK.cs]; omega)]
    simp
  | q :: l, j + 1, p, h => fun c hc => by
    have ih := flatT_at l j p (by simpa using h) c hc
    unfold flatT at *
    rw [List.flatMap_cons, List.getElem?_append_right (by simp [TK.cs]; omega), ← ih]
    congr 1
    simp [TK.cs]; omega
structure cells4 (w : World) (b o : Nat) (t : TK) : Prop where
  c0 : w.cell? ⟨b, o, none⟩ = some (.int .i64 t.k)
  c1 : w.cell? ⟨b, o + 1, none⟩ = some (.int .i64 t.p)
  c2 : w.cell? ⟨b, o + 2, none⟩ = some (.string (bs t.s))
  c3 : w.cell? ⟨b, o + 3, none⟩ = some (.int .i64 t.n)
theorem cells4.next {a b : World} {g o : Nat} {t : TK} (h : cells4 a g o t) (hb : Below a.heap.size a b) (hg : g < a.heap.size) : cells4 b g o t :=
  ⟨cell_below hb h.c0 hg, cell_below hb h.c1 hg, cell_below hb h.c2 hg, cell_below hb h.c3 hg⟩
/-- A token in its own box. -/
def Tok (w : World) (g : Nat) (t : TK) : Prop := w.heap[g]? = some (.cells #[.int .i64 t.k, .int .i64 t.p, .string (bs t.s), .int .i64 t.n] 42 (0, 0))
theorem Tok.lt {w : World} {g : Nat} {t : TK} (h : Tok w g t) : g < w.heap.size := (Array.getElem?_eq_some_iff.1 h).1
theorem Tok.new (w : World) (t : TK) : Tok (w.alloc (.cells #[.int .i64 t.k, .int .i64 t.p, .string (bs t.s), .int .i64 t.n] 42)) w.heap.size t := World.alloc_heap_new w _
theorem Tok.kept {w w' : World} {g : Nat} {t : TK} (h : Tok w g t) (hk : w'.heap[g]? = w.heap[g]?) : Tok w' g t := hk.trans h
theorem Tok.next {w w' : World} {g : Nat} {t : TK} (h : Tok w g t) (hb : Below w.heap.size w w') : Tok w' g t := h.kept (hb.block g h.lt)
theorem Tok.cells {w : World} {g : Nat} {t : TK} (h : Tok w g t) : cells4 w g 0 t := by
  have h' : w.heap[g]? = _ := h
  refine ⟨?_, ?_, ?_, ?_⟩ <;> simp [World.cell?, h']
theorem Tok.frozen {w : World} {g : Nat} {t : TK} (h : Tok w g t) (i : Nat) : w.frozen? ⟨g, i, none⟩ = false := by
  have h' : w.heap[g]? = _ := h
  simp [World.frozen?, h']
theorem set_heap {w : World} {g : Nat} {cs : Array Value} {t : TypeId} (h : w.heap[g]? = some (.cells cs t (0, 0))) (o : Nat) (u : Value) : (w.setCell ⟨g, o, none⟩ u).heap[g]? = some (.cells (cs.setIfInBounds o u) t (0, 0)) := by
  simp [World.setCell, Array.getElem?_modify, h]
/-- The box is written over. -/
theorem Tok.set {w : World} {g : Nat} {t : TK} (h : Tok w g t) (u : TK) :
    ∃ F, F = (((w.setCell ⟨g, 0, none⟩ (.int .i64 u.k)).setCell ⟨g, 1, none⟩ (.int .i64 u.p)).setCell ⟨g, 2, none⟩ (.string (bs u.s))).setCell ⟨g, 3, none⟩ (.int .i64 u.n) ∧ Tok F g u ∧ F.heap.size = w.heap.size ∧ (∀ B v, B ≤ g → Below B v w → Below B v F) ∧ KeepsOthers w F := by
  refine ⟨_, rfl, ?_, by simp [World.setCell], fun B v hB hb => ?_, ?_⟩
  · have := set_heap (set_heap (set_heap (set_heap h 0 (.int .i64 u.k)) 1 (.int .i64 u.p)) 2 (.string (bs u.s))) 3 (.int .i64 u.n)
    exact this
  · repeat (refine Below.setCell ?_ hB _)
    exact hb
  · exact ((((KeepsOthers.setCell _ _ _).trans (KeepsOthers.setCell _ _ _)).trans (KeepsOthers.setCell _ _ _)).trans (KeepsOthers.setCell _ _ _))
/-- A slice that reads as tokens. -/
structure TRow (w : World) (A : Option Addr) (c : Nat) (l : List TK) : Prop where
  le : l.length ≤ c
  cap : c ≤ maxLen
  nil : A = none → c = 0
  at_ : 0 < l.length → ∃ b off, A = some ⟨b, off, none⟩ ∧ b < w.heap.size ∧ ∀ (j : Nat) x, l[j]? = some x → cells4 w b (off + j * 4) x
theorem trow_nil (w : World) : TRow w none 0 [] := ⟨by simp, by unfold maxLen; omega, fun _ => rfl, fun h => absurd h (by simp)⟩
/-- Tokens in a row of one's own. -/
def TOwn (w : World) (base : Nat) (A : Option Addr) (n c : Nat) (l : List TK) : Prop := w.ownsRow base 42 4 (.slice A n c) n (flatT l)
theorem TOwn.len {w : World} {base n c : Nat} {A : Option Addr} {l : List TK} (h : TOwn w base A n c l) : l.length = n := by have := h.1; rw [flatT_len] at this; omega
theorem TOwn.row {w : World} {base c : Nat} {A : Option Addr} {l : List TK} {n : Nat} (h : TOwn w base A n c l) : TRow w A c l := by
  have hl := h.len
  rcases h.2 with ⟨e, e0⟩ | ⟨g, cap, cur, e, hb, hg, hnc, hcm, hcs, ht⟩
  · injection e with e1 e2 e3
    obtain rfl : l = [] := List.eq_nil_of_length_eq_zero (by omega)
    subst e1 e3
    exact trow_nil _
  · injection e with e1 e2 e3
    subst e1 e3
    refine ⟨by omega, hcm, (fun e => by cases e), fun h0 => ⟨g, 0, rfl, (Array.getElem?_eq_some_iff.1 hg).1, fun j x hj => ?_⟩⟩
    have hc := fun (i : Nat) u (hu : (flatT l)[i]? = some u) => World.ownsRow.cells (g := g) h rfl i u hu
    have ha : ∀ i, (⟨g, 0, none⟩ : Addr).add i = ⟨g, 0 + i, none⟩ := fun i => add_none _ _ _
    simp only [ha] at hc
    have f := flatT_at l j x hj
    exact ⟨hc _ _ (f 0 (by omega)), by have := hc _ _ (f 1 (by omega)); rwa [← Nat.add_assoc] at this, by have := hc _ _ (f 2 (by omega)); rwa [← Nat.add_assoc] at this, by have := hc _ _ (f 3 (by omega)); rwa [← Nat.add_assoc] at this⟩
theorem town_nil (w : World) (base : Nat) : TOwn w base none 0 0 [] := World.ownsRow_nil _ _ _ _
end Go.Proofs.YtllkimdlmnjoiaaGreatDoor.E8

/- Carried over from an earlier seat. -/
namespace Go.Proofs.YtllkimdlmnjoiaaGreatDoor.E8
set_option maxRecDepth 100000
set_option maxRecDepth 100000
open Go.RowKit

theorem drop_at (s : ByteArray) (k : Nat) (h : k < s.size) : s.toList.drop k = (s[k]'h) :: s.toList.drop (k + 1) := by
  have h' : k < s.toList.length := by rw [toList_size]; exact h
  have e := toList_at s k h
  rw [List.getElem?_eq_getElem h'] at e
  injection e with e
  rw [← e]
  exact List.drop_eq_getElem_cons h'
theorem drop_out (s : ByteArray) (k : Nat) (h : s.size ≤ k) : s.toList.drop k = [] := List.drop_eq_nil_of_le (by rw [toList_size]; exact h)

/-- Where bytes of one kind end that stand from a place on. -/
def runN (p : UInt8 → Bool) (l : Bs) (k : Nat) : Nat := k + ((l.drop k).takeWhile p).length
theorem runN_le (p : UInt8 → Bool) (l : Bs) (k : Nat) (h : k ≤ l.length) : runN p l k ≤ l.length := by
  have h1 : ((l.drop k).takeWhile p).length ≤ (l.drop k).length := List.Sublist.length_le (List.takeWhile_sublist p)
  rw [List.length_drop] at h1
  unfold runN; omega
theorem runN_ge (p : UInt8 → Bool) (l : Bs) (k : Nat) : k ≤ runN p l k := by unfold runN; omega
theorem runN_step (p : UInt8 → Bool) (s : ByteArray) (k : Nat) (h : k < s.size) (hp : p (s[k]'h) = true) : runN p s.toList (k + 1) = runN p s.toList k := by
  unfold runN
  rw [drop_at s k h, List.takeWhile_cons, if_pos hp, List.length_cons]; omega
theorem runN_stop (p : UInt8 → Bool) (s : ByteArray) (k : Nat) (h : k < s.size) (hp : p (s[k]'h) = false) : runN p s.toList k = k := by
  unfold runN
  rw [drop_at s k h, List.takeWhile_cons, if_neg (by simp [hp])]; rfl
theorem runN_end (p : UInt8 → Bool) (s : ByteArray) (k : Nat) (h : s.size ≤ k) : runN p s.toList k = k := by
  unfold runN
  rw [drop_out s k h]; rfl

set_option maxHeartbeats 1600000 in
theorem past_any (s : ByteArray) (p : Nat) (hs : s.size ≤ 20000) (hp : p ≤ s.size) (w : World) :
    Calls Tryz.prog 62 #[.string s, .int .i64 (p : Int)] w fun e w' => e = .returned (.int .i64 (runN blankB s.toList p : Nat)) ∧ w = w' := by
  go_enter Tryz.func62, Tryz.ntmps62
  go_wp2
  go_loop [1] (fun t => ∃ k : Nat, t = .int .i64 k ∧ k ≤ s.size ∧ Hid (runN blankB s.toList k = runN blankB s.toList p)) (fun t => s.size - (RowKit.intOf t).toNat)
  case atStart => exact ⟨p, rfl, hp, Lib.hid rfl⟩
  case round =>
    obtain ⟨k, rfl, hk, hr⟩ := hrel
    by_cases hlt : k < s.size
    · cases hb : blankB (s[k]'hlt)
      · have HR : Hid (runN blankB s.toList p = k) := Lib.hid (by rw [← hr.out]; exact runN_stop _ s k hlt hb)
        go_wp2_with fail
        refine (blank_any (s[k]'hlt) _).mono ?_
        rintro e w' ⟨rfl, rfl⟩
        go_wp2
        go_ret
        exact ⟨by rw [HR.out]; rfl, rfl⟩
      · have HR : Hid (runN blankB s.toList (k + 1) = runN blankB s.toList p) := Lib.hid (by rw [← hr.out]; exact runN_step _ s k hlt hb)
        go_wp2_with fail
        refine (blank_any (s[k]'hlt) _).mono ?_
        rintro e w' ⟨rfl, rfl⟩
        go_wp2
        go_round
        case rel => exact ⟨k + 1, by go_num, by omega, HR⟩
        case measure => simp [RowKit.intOf]; omega
    · have HR : Hid (runN blankB s.toList p = k) := Lib.hid (by rw [← hr.out]; exact runN_end _ s k (by omega))
      go_wp2
      go_ret
      exact ⟨by rw [HR.out]; rfl, rfl⟩

set_option maxHeartbeats 1600000 in
theorem word_any (s : ByteArray) (hs : s.size ≤ 20000) (hp : 1 ≤ s.size) (w : World) :
    Calls Tryz.prog 87 #[.string s] w fun e w' => e = .returned (.int .i64 (runN wordB s.toList 1 : Nat)) ∧ w = w' := by
  go_enter Tryz.func87, Tryz.ntmps87
  go_wp2
  go_loop [3] (fun t => ∃ k : Nat, t = .int .i64 k ∧ k ≤ s.size ∧ Hid (runN wordB s.toList k = runN wordB s.toList 1)) (fun t => s.size - (RowKit.intOf t).toNat)
  case atStart => exact ⟨1, rfl, hp, Lib.hid rfl⟩
  case round =>
    obtain ⟨k, rfl, hk, hr⟩ := hrel
    by_cases hlt : k < s.size
    · cases hl : letB (s[k]'hlt)
      · cases hd : digB (s[k]'hlt)
        · have HR : Hid (runN wordB s.toList 1 = k) := Lib.hid (by rw [← hr.out]; exact runN_stop _ s k hlt (by simp [wordB, hl, hd]))
          go_wp2_with fail
          refine (letter_any (s[k]'hlt) _).mono ?_
          rintro e w' ⟨rfl, rfl⟩
          go_wp2_with fail
          refine (digit_any (s[k]'hlt) _).mono ?_
          rintro e w' ⟨rfl, rfl⟩
          go_wp2
          go_ret
          exact ⟨by rw [HR.out]; rfl, rfl⟩
        · have HR : Hid (runN wordB s.toList (k + 1) = runN wordB s.toList 1) := Lib.hid (by rw [← hr.out]; exact runN_step _ s k hlt (by simp [wordB, hd]))
          go_wp2_with fail
          refine (letter_any (s[k]'hlt) _).mono ?_
          rintro e w' ⟨rfl, rfl⟩
          go_wp2_with fail
          refine (digit_any (s[k]'hlt) _).mono ?_
          rintro e w' ⟨rfl, rfl⟩
          go_wp2
          go_round
          case rel => exact ⟨k + 1, by go_num, by omega, HR⟩
          case measure => simp [RowKit.intOf]; omega
      · have HR : Hid (runN wordB s.toList (k + 1) = runN wordB s.toList 1) := Lib.hid (by rw [← hr.out]; exact runN_step _ s k hlt (by simp [wordB, hl]))
        go_wp2_with fail
        refine (letter_any (s[k]'hlt) _).mono ?_
        rintro e w' ⟨rfl, rfl⟩
        go_wp2
        go_round
        case rel => exact ⟨k + 1, by go_num, by omega, HR⟩
        case measure => simp [RowKit.intOf]; omega
    · have HR : Hid (runN wordB s.toList 1 = k) := Lib.hid (by rw [← hr.out]; exact runN_end _ s k (by omega))
      go_wp2
      go_ret
      exact ⟨by rw [HR.out]; rfl, rfl⟩

def tkO (o : Option (TK × Nat)) : TK := match o with | some r => r.1 | none => TK.zero
def lnO (o : Option (TK × Nat)) : Nat := match o with | some r => r.2 | none => 0
def FirstPost (w : World) (o : Option (TK × Nat)) (e : Ending) (w' : World) : Prop :=
  e = .returned (.tuple #[(tkO o).v, .int .i64 (lnO o : Nat), .bool o.isSome]) ∧ Below w.heap.size w w'
def numP (l : Bs) : Option (TK × Nat) := if parseE l = 0 then some (⟨2, 0, l, parseV l⟩, l.length) else none
theorem numP_yes {l : Bs} (h : parseE l = 0) : numP l = some (⟨2, 0, l, parseV l⟩, l.length) := if_pos h
theorem numP_no {l : Bs} (h : ¬ parseE l = 0) : numP l = none := if_neg h
abbrev zbox : Obj := .cells #[.int .i64 0, .int .i64 0, .string ⟨#[]⟩, .int .i64 0] 42
theorem tok_zero (w : World) : Tok (w.alloc zbox) w.heap.size TK.zero := Tok.new w TK.zero
theorem tok_clear {w : World} {g : Nat} {t : TK} (h : Tok w g t) :
    ∃ F, F = (((w.setCell ⟨g, 0, none⟩ (.int .i64 0)).setCell ⟨g, 1, none⟩ (.int .i64 0)).setCell ⟨g, 2, none⟩ (.string ⟨#[]⟩)).setCell ⟨g, 3, none⟩ (.int .i64 0) ∧ Tok F g TK.zero ∧ F.heap.size = w.heap.size ∧ (∀ B v, B ≤ g → Below B v w → Below B v F) ∧ KeepsOthers w F := h.set TK.zero
set_option maxHeartbeats 1600000 in
theorem number_any (l : Bs) (hs : l.length ≤ 20000) (w : World) : Calls Tryz.prog 89 #[.string (bs l)] w (FirstPost w (numP l)) := by
  have PA := fun W => parse_any (bs l) W
  rw [bs_toList] at PA
  have SZ := bs_size l
  have PB := Lib.hid PA
  have HZ := Lib.hid SZ
  have SZ2 : (bs l).size ≤ 20000 := by omega
  clear PA SZ
  by_cases hE : parseE l = 0
  · have HG := Lib.hid (numP_yes hE)
    generalize numP l = G at HG
    generalize parseV l = V at PB HG
    rw [hE] at PB
    clear hE
    go_enter Tryz.func89, Tryz.ntmps89
    go_wp2_with fail
    have B0 := Lib.hid (tok_zero w)
    have z0 := Lib.hid (below_new w zbox)
    unfold zbox at B0 z0
    generalize hW : World.alloc w _ = W at B0 z0 ⊢
    clear hW
    refine (PB.out W).mono ?_
    rintro e w1 ⟨rfl, hb⟩
    have B1 := B0.out.next hb
    have Z1 := Lib.hid (bnext z0.out hb)
    clear hb
    obtain ⟨c0, c1, c2, c3⟩ := B1.cells
    have f0 := B1.frozen 0
    have f1 := B1.frozen 1
    have f2 := B1.frozen 2
    have f3 := B1.frozen 3
    have HR := Lib.hid (B1.set ⟨2, 0, l, V⟩)
    clear B1
    go_wp2
    obtain ⟨F, hF, ht, hs', hbel, _⟩ := HR.out
    rw [← hF]
    clear hF
    obtain ⟨r0, r1, r2, r3⟩ := ht.cells
    refine bodyPost_ret (v := .tuple #[.agg #[.int .i64 2, .int .i64 0, .string (bs l), .int .i64 V], .int .i64 ((bs l).size : Int), .bool true]) (by simp [results, Tryz.results89, go_sem, r0, r1, r2, r3]) rfl ⟨?_, hbel _ _ (Nat.le_refl _) Z1.out⟩
    rw [HG.out, HZ.out]; rfl
  · have HG := Lib.hid (numP_no hE)
    generalize numP l = G at HG
    generalize parseV l = V at PB
    have hne : (parseE l == 0) = false := by simpa using hE
    generalize parseE l = E at PB hE hne
    clear hE
    go_enter Tryz.func89, Tryz.ntmps89
    go_wp2_with fail
    have B0 := Lib.hid (tok_zero w)
    have z0 := Lib.hid (below_new w zbox)
    unfold zbox at B0 z0
    generalize hW : World.alloc w _ = W at B0 z0 ⊢
    clear hW
    refine (PB.out W).mono ?_
    rintro e w1 ⟨rfl, hb⟩
    have B1 := B0.out.next hb
    have Z1 := Lib.hid (bnext z0.out hb)
    clear hb
    obtain ⟨c0, c1, c2, c3⟩ := B1.cells
    have f0 := B1.frozen 0
    have f1 := B1.frozen 1
    have f2 := B1.frozen 2
    have f3 := B1.frozen 3
    have HR := Lib.hid (tok_clear B1)
    clear B1
    go_wp2
    obtain ⟨F, hF, ht, hs', hbel, _⟩ := HR.out
    rw [← hF]
    clear hF
    obtain ⟨r0, r1, r2, r3⟩ := ht.cells
    refine bodyPost_ret (v := .tuple #[.agg #[.int .i64 0, .int .i64 0, .string (bs []), .int .i64 0], .int .i64 0, .bool false]) (by simp [results, Tryz.results89, go_sem, r0, r1, r2, r3, TK.zero]) rfl ⟨?_, hbel _ _ (Nat.le_refl _) Z1.out⟩
    rw [HG.out]; rfl
end Go.Proofs.YtllkimdlmnjoiaaGreatDoor.E8

/- Carried over from an earlier seat. -/
namespace Go.Proofs.YtllkimdlmnjoiaaGreatDoor.E8
set_option maxRecDepth 100000
set_option maxRecDepth 100000
open Go.RowKit Go.Sort

/-- What stands up to the next quote, as it is meant, and where it ends. -/
def textP : Bs → Bs → Nat → Option (Bs × Nat)
  | [], _, _ => none
  | c :: r, acc, i =>
    if c.toNat < 32 then none
    else if c.toNat = 39 then some (acc, i + 1)
    else if c.toNat = 92 then
      match r with
      | [] => none
      | d :: r' => if d.toNat = 39 ∨ d.toNat = 92 then (if acc.length = 1000 then none else textP r' (acc ++ [d]) (i + 2)) else none
    else if acc.length = 1000 then none else textP r (acc ++ [c]) (i + 1)

theorem textP_nil (acc : Bs) (i : Nat) : textP [] acc i = none := by unfold textP; rfl
theorem textP_cons (c : UInt8) (r acc : Bs) (i : Nat) : textP (c :: r) acc i = if c.toNat < 32 then none
    else if c.toNat = 39 then some (acc, i + 1)
    else if c.toNat = 92 then
      match r with
      | [] => none
      | d :: r' => if d.toNat = 39 ∨ d.toNat = 92 then (if acc.length = 1000 then none else textP r' (acc ++ [d]) (i + 2)) else none
    else if acc.length = 1000 then none else textP r (acc ++ [c]) (i + 1) := by cases r <;> (conv => lhs; unfold textP) <;> rfl

theorem tx_out (s : ByteArray) (k : Nat) (acc : Bs) (h : s.size ≤ k) : textP (s.toList.drop k) acc k = none := by rw [drop_out s k h, textP_nil]
theorem tx_low (s : ByteArray) (k : Nat) (acc : Bs) (h : k < s.size) (h1 : (s[k]'h).toNat < 32) : textP (s.toList.drop k) acc k = none := by
  rw [drop_at s k h, textP_cons, if_pos h1]
theorem tx_q (s : ByteArray) (k : Nat) (acc : Bs) (h : k < s.size) (h2 : (s[k]'h).toNat = 39) : textP (s.toList.drop k) acc k = some (acc, k + 1) := by
  rw [drop_at s k h, textP_cons, if_neg (by omega), if_pos h2]
theorem tx_full (s : ByteArray) (k : Nat) (acc : Bs) (h : k < s.size) (h1 : ¬ (s[k]'h).toNat < 32) (h2 : ¬ (s[k]'h).toNat = 39) (h3 : ¬ (s[k]'h).toNat = 92) (h4 : acc.length = 1000) : textP (s.toList.drop k) acc k = none := by
  rw [drop_at s k h, textP_cons, if_neg h1, if_neg h2, if_neg h3, if_pos h4]
theorem tx_next (s : ByteArray) (k : Nat) (acc : Bs) (h : k < s.size) (h1 : ¬ (s[k]'h).toNat < 32) (h2 : ¬ (s[k]'h).toNat = 39) (h3 : ¬ (s[k]'h).toNat = 92) (h4 : ¬ acc.length = 1000) :
    textP (s.toList.drop k) acc k = textP (s.toList.drop (k + 1)) (acc ++ [s[k]'h]) (k + 1) := by
  rw [drop_at s k h, textP_cons, if_neg h1, if_neg h2, if_neg h3, if_neg h4]
theorem tx_end (s : ByteArray) (k : Nat) (acc : Bs) (h : k < s.size) (h3 : (s[k]'h).toNat = 92) (h4 : s.size ≤ k + 1) : textP (s.toList.drop k) acc k = none := by
  rw [drop_at s k h, drop_out s (k + 1) h4, textP_cons, if_neg (by omega), if_neg (by omega), if_pos h3]
theorem tx_bad (s : ByteArray) (k : Nat) (acc : Bs) (h : k + 1 < s.size) (h3 : (s[k]'(by omega)).toNat = 92) (h4 : ¬ ((s[k + 1]'h).toNat = 39 ∨ (s[k + 1]'h).toNat = 92)) : textP (s.toList.drop k) acc k = none := by
  rw [drop_at s k (by omega), drop_at s (k + 1) h, textP_cons, if_neg (by omega), if_neg (by omega), if_pos h3]
  simp only [if_neg h4]
theorem tx_bfull (s : ByteArray) (k : Nat) (acc : Bs) (h : k + 1 < s.size) (h3 : (s[k]'(by omega)).toNat = 92) (h5 : acc.length = 1000) : textP (s.toList.drop k) acc k = none := by
  rw [drop_at s k (by omega), drop_at s (k + 1) h, textP_cons, if_neg (by omega), if_neg (by omega), if_pos h3]
  simp only [if_pos h5]
  split <;> rfl
theorem tx_bnext (s : ByteArray) (k : Nat) (acc : Bs) (h : k + 1 < s.size) (h3 : (s[k]'(by omega)).toNat = 92) (h4 : (s[k + 1]'h).toNat = 39 ∨ (s[k + 1]'h).toNat = 92) (h5 : ¬ acc.length = 1000) :
    textP (s.toList.drop k) acc k = textP (s.toList.drop (k + 2)) (acc ++ [s[k + 1]'h]) (k + 2) := by
  rw [drop_at s k (by omega), drop_at s (k + 1) h, textP_cons, if_neg (by omega), if_neg (by omega), if_pos h3]
  simp only [if_pos h4, if_neg h5]

theorem info5 : (Tryz.prog.info? 5).map (fun i => (i.zero, i.size, i.bytes)) = some (some (.int .u8 0), 1, 1) := by kernel_rfl
abbrev u8v (c : UInt8) : Value := .int .u8 (c.toNat : Int)
theorem own_shape {w : World} {base : Nat} {e : TypeId} {size : Nat} {v : Value} {n : Nat} {xs : List Value} (h : w.ownsRow base e size v n xs) : ∃ A c, v = .slice A n c := by
  rcases h.2 with ⟨h1, h2⟩ | ⟨g, cap, cur, h1, _⟩
  · exact ⟨none, 0, by rw [h1, h2]⟩
  · exact ⟨_, _, h1⟩
/-- 'string(b)' of a row of bytes that the call owns. -/
theorem str_own {w : World} {base : Nat} {v : Value} {acc : Bs} (h : w.ownsRow base 5 1 v acc.length (acc.map u8v)) : (convert 31 9 v).run Tryz.prog w = .ok (.string (bs acc)) w := by
  rcases h.2 with ⟨h1, h2⟩ | ⟨g, cap, cur, h1, _⟩
  · have : acc = [] := List.length_eq_zero_iff.1 h2
    subst this
    rw [h1, run_convert_bytes_nil w 31 5 Tryz.underlying31 Tryz.underlying5 0 0 9 Tryz.underlying9]
    rfl
  · rw [h1]
    refine run_convert_bytes_back w 31 9 5 _ cap acc Tryz.underlying31 Tryz.underlying5 Tryz.underlying9 (fun j hj => ?_)
    refine h.cells (g := g) (by rw [h1]; rfl) j _ ?_
    simp [hj]
theorem own_block {w : World} {base n c sz : Nat} {A : Option Addr} {e : TypeId} {xs : List Value} (h : w.ownsRow base e sz (.slice A n c) n xs) : ∀ k, Value.ownBlock (.slice A n c) = some k → base ≤ k := fun k hk => (h.lt k hk).1
theorem grown_below {B : Nat} {w a b : World} {row : Option Nat} (hB : B ≤ w.heap.size) (h : Below B w a) (hg : a.grownBy b row) (hrow : ∀ k, row = some k → B ≤ k) : Below B w b :=
  ⟨hg.os.trans h.os, hg.tape.trans h.tape, hg.output.trans h.output, Nat.le_trans h.size hg.size, fun k hk => (hg.block k (by have := h.size; omega) (fun e => by have := hrow k e.symm; omega)).trans (h.block k hk)⟩
/-- Behind an append to a row of bytes a token's box is as it was. -/
theorem tok_grown {a b : World} {base g n c : Nat} {A : Option Addr} {xs : List Value} {o : Obj} {t : TK} (hO : a.ownsRow base 5 1 (.slice A n c) n xs) (ht : Tok a g t) (hg : (a.alloc o).grownBy b (Value.ownBlock (.slice A n c))) : Tok b g t := by
  refine ht.kept ?_
  refine (hg.block g (by have := ht.lt; simp; omega) (fun e => ?_)).trans (Below.heap_alloc _ _ _ ht.lt)
  rcases hO.2 with ⟨h1, h2⟩ | ⟨g', cap, cur, h1, h2, h3, _⟩
  · rw [h1] at e; simp [Value.ownBlock] at e
  · rw [h1] at e
    obtain rfl : g = g' := by simpa [Value.ownBlock] using e
    have := (show a.heap[g]? = _ from ht).symm.trans h3
    simp at this

def textO (o : Option (Bs × Nat)) : Option (TK × Nat) := match o with | some r => some (⟨3, 0, r.1, 0⟩, r.2) | none => none

def lenOf : Value → Nat | .slice _ n _ => n | _ => 0

set_option maxHeartbeats 3200000 in
theorem text_any (s : ByteArray) (hs : s.size ≤ 20000) (hp : 1 ≤ s.size) (w : World) : Calls Tryz.prog 90 #[.string s] w (FirstPost w (textO (textP (s.toList.drop 1) [] 1))) := by
  generalize hG : textP (s.toList.drop 1) [] 1 = G
  have HG := Lib.hid hG
  clear hG
  obtain ⟨i0, hi, hz0, hz1, hz2⟩ := info_parts info5
  go_enter Tryz.func90, Tryz.ntmps90
  go_wp2_with fail
  have B0 := Lib.hid (tok_zero w)
  have z0 := Lib.hid (below_new w zbox)
  unfold zbox at B0 z0
  generalize hW : World.alloc w _ = W at B0 z0 ⊢
  clear hW
  go_loopw [5, 6] (fun v i wr => ∃ (acc : Bs) (A : Option Addr) (cap k : Nat), v = .slice A acc.length cap ∧ i = .int .i64 k ∧ 1 ≤ k ∧ k ≤ s.size ∧ acc.length ≤ 1000 ∧ Hid (wr.ownsRow w.heap.size 5 1 (.slice A acc.length cap) acc.length (acc.map u8v)) ∧ Hid (Tok wr w.heap.size TK.zero) ∧ Hid (Below w.heap.size w wr) ∧ Hid (textP (s.toList.drop k) acc k = G)) (fun _ i _ => s.size - (RowKit.intOf i).toNat)
  case atStart => exact ⟨[], none, 0, 1, rfl, rfl, by omega, hp, by simp, Lib.hid (World.ownsRow_nil _ _ _ _), B0, z0, HG⟩
  case round =>
    obtain ⟨acc, A, cap, k, rfl, rfl, hk1, hk, hm, hown, htok, hbel, ht⟩ := hrel
    by_cases hlt : k < s.size
    · by_cases h32 : (s[k]'hlt).toNat < 32
      · have h32i : ((s[k]'hlt).toNat : Int) < 32 := by omega
        have HN : Hid (G = none) := Lib.hid (by rw [← ht.out]; exact tx_low s k acc hlt h32)
        try clear hf
        try clear h92
        try clear h39
        try clear d39
        try clear d92
        obtain ⟨c0, c1, c2, c3⟩ := htok.out.cells
        have f0 := htok.out.frozen 0
        have f1 := htok.out.frozen 1
        have f2 := htok.out.frozen 2
        have f3 := htok.out.frozen 3
        have HR := Lib.hid (tok_clear htok.out)
        go_wp2
        obtain ⟨F, hF, ht', _, hbel', _⟩ := HR.out
        rw [← hF]
        clear hF
        obtain ⟨r0, r1, r2, r3⟩ := ht'.cells
        refine bodyPost_ret (v := .tuple #[.agg #[.int .i64 0, .int .i64 0, .string (bs []), .int .i64 0], .int .i64 0, .bool false]) (by simp [results, Tryz.results90, go_sem, r0, r1, r2, r3, TK.zero]) rfl ⟨?_, hbel' _ _ (Nat.le_refl _) hbel.out⟩
        rw [HN.out]
        rfl
      · have h32i : (32 : Int) ≤ ((s[k]'hlt).toNat : Int) := by omega
        by_cases h39 : (s[k]'hlt).toNat = 39
        · have e39 : (((s[k]'hlt).toNat : Int) == 39) = true := by simp; omega
          have HN : Hid (G = some (acc, k + 1)) := Lib.hid (by rw [← ht.out]; exact tx_q s k acc hlt h39)
          obtain ⟨c0, c1, c2, c3⟩ := htok.out.cells
          have f0 := htok.out.frozen 0
          have f1 := htok.out.frozen 1
          have f2 := htok.out.frozen 2
          have f3 := htok.out.frozen 3
          have HR := Lib.hid (htok.out.set ⟨3, 0, acc, 0⟩)
          have hcv := str_own hown.out
          clear h39
          go_wp2
          obtain ⟨F, hF, ht', _, hbel', _⟩ := HR.out
          rw [← hF]
          clear hF
          obtain ⟨r0, r1, r2, r3⟩ := ht'.cells
          refine bodyPost_ret (v := .tuple #[.agg #[.int .i64 3, .int .i64 0, .string (bs acc), .int .i64 0], .int .i64 ((k : Int) + 1), .bool true]) (by simp [results, Tryz.results90, go_sem, r0, r1, r2, r3]) rfl ⟨?_, hbel' _ _ (Nat.le_refl _) hbel.out⟩
          rw [HN.out]
          rfl
        · have e39 : (((s[k]'hlt).toNat : Int) == 39) = false := by simp; omega
          by_cases h92 : (s[k]'hlt).toNat = 92
          · have e92 : (((s[k]'hlt).toNat : Int) == 92) = true := by simp; omega
            by_cases hl2 : k + 1 < s.size
            · have en : (((k : Int) + 1) == (s.size : Int)) = false := by simp; omega
              have hl2i : (k : Int) + 1 < (s.size : Int) := by omega
              have hix : ((k : Int) + 1).toNat = k + 1 := by omega
              by_cases d39 : (s[k + 1]'hl2).toNat = 39
              · have ed : (((s[k + 1]'hl2).toNat : Int) != 39) = false := by simp; omega
                by_cases hf : acc.length = 1000
                · have hff : ((acc.length : Int) == 1000) = true := by simp; omega
                  have HN : Hid (G = none) := Lib.hid (by rw [← ht.out]; exact tx_bfull s k acc hl2 h92 hf)
                  try clear hf
                  try clear h92
                  try clear h39
                  try clear d39
                  try clear d92
                  obtain ⟨c0, c1, c2, c3⟩ := htok.out.cells
                  have f0 := htok.out.frozen 0
                  have f1 := htok.out.frozen 1
                  have f2 := htok.out.frozen 2
                  have f3 := htok.out.frozen 3
                  have HR := Lib.hid (tok_clear htok.out)
                  go_wp2
                  obtain ⟨F, hF, ht', _, hbel', _⟩ := HR.out
                  rw [← hF]
                  clear hF
                  obtain ⟨r0, r1, r2, r3⟩ := ht'.cells
                  refine bodyPost_ret (v := .tuple #[.agg #[.int .i64 0, .int .i64 0, .string (bs []), .int .i64 0], .int .i64 0, .bool false]) (by simp [results, Tryz.results90, go_sem, r0, r1, r2, r3, TK.zero]) rfl ⟨?_, hbel' _ _ (Nat.le_refl _) hbel.out⟩
                  rw [HN.out]
                  rfl
                · have hT0 := tx_bnext s k acc hl2 h92 (.inl d39) hf
                  have HT : Hid (textP (s.toList.drop (k + 2)) (acc ++ [s[k + 1]'hl2]) (k + 2) = G) := Lib.hid (by rw [← ht.out]; exact (tx_bnext s k acc hl2 h92 (.inl d39) hf).symm)
                  try clear hT0
                  try clear h92
                  try clear h39
                  try clear d39
                  try clear d92
                  have hmi : (acc.length : Int) < 1000 := by omega
                  have hmf : ((acc.length : Int) == 1000) = false := by simp; omega
                  clear hf
                  go_wp2_with (at_builtin; refine wpList_append_own _ rfl _ _ 31 rfl w.heap.size 5 i0 (.int .u8 0) 1 1 Tryz.underlying31 hi hz0 hz1 hz2 rfl (by decide) _ _ _ rfl (hown.out.alloc _) ⟨wr.heap.size, 0, none⟩ 1 1 [.int .u8 ((s[k + 1]'hl2).toNat : Int)] rfl rfl ?c1 ?c2 ?c3 ?c4 ?c5 ?_)
                  case c1 =>
                    intro j u hj
                    match j, hj with
                    | 0, hj => simp at hj; subst hj; simp [Addr.add]
                  case c2 => intro u hu; simp at hu; subst hu; rfl
                  case c3 => unfold maxLen; omega
                  case c4 => omega
                  case c5 => have := hbel.out.size; simp; omega
                  intro v' w4 hown' hgrow _
                  have HO : Hid (w4.ownsRow w.heap.size 5 1 v' (acc ++ [s[k + 1]'hl2]).length ((acc ++ [s[k + 1]'hl2]).map u8v)) := Lib.hid (by simpa using hown')
                  have HK := Lib.hid (tok_grown hown.out htok.out hgrow)
                  have HB : Hid (Below w.heap.size w w4) := Lib.hid (grown_below (Nat.le_refl _) (hbel.out.alloc hbel.out.size _) hgrow (own_block hown.out))
                  have HL : (acc ++ [s[k + 1]'hl2]).length = acc.length + 1 := by simp
                  have HM := Lib.hid HL
                  clear hown' hgrow HL
                  generalize acc ++ [s[k + 1]'hl2] = acc' at HO HT HM
                  obtain ⟨A', cap', rfl⟩ := own_shape HO.out
                  go_wp2
                  go_roundw
                  case rel => exact ⟨acc', A', cap', k + 2, rfl, by go_num, by omega, by omega, by have := HM.out; omega, HO, HK, HB, HT⟩
                  case measure => simp [RowKit.intOf]; omega
              · have ed : (((s[k + 1]'hl2).toNat : Int) != 39) = true := by simp; omega
                by_cases d92 : (s[k + 1]'hl2).toNat = 92
                · have ed2 : (((s[k + 1]'hl2).toNat : Int) != 92) = false := by simp; omega
                  by_cases hf : acc.length = 1000
                  · have hff : ((acc.length : Int) == 1000) = true := by simp; omega
                    have HN : Hid (G = none) := Lib.hid (by rw [← ht.out]; exact tx_bfull s k acc hl2 h92 hf)
                    try clear hf
                    try clear h92
                    try clear h39
                    try clear d39
                    try clear d92
                    obtain ⟨c0, c1, c2, c3⟩ := htok.out.cells
                    have f0 := htok.out.frozen 0
                    have f1 := htok.out.frozen 1
                    have f2 := htok.out.frozen 2
                    have f3 := htok.out.frozen 3
                    have HR := Lib.hid (tok_clear htok.out)
                    go_wp2
                    obtain ⟨F, hF, ht', _, hbel', _⟩ := HR.out
                    rw [← hF]
                    clear hF
                    obtain ⟨r0, r1, r2, r3⟩ := ht'.cells
                    refine bodyPost_ret (v := .tuple #[.agg #[.int .i64 0, .int .i64 0, .string (bs []), .int .i64 0], .int .i64 0, .bool false]) (by simp [results, Tryz.results90, go_sem, r0, r1, r2, r3, TK.zero]) rfl ⟨?_, hbel' _ _ (Nat.le_refl _) hbel.out⟩
                    rw [HN.out]
                    rfl
                  · have hT0 := True.intro
                    have HT : Hid (textP (s.toList.drop (k + 2)) (acc ++ [s[k + 1]'hl2]) (k + 2) = G) := Lib.hid (by rw [← ht.out]; exact (tx_bnext s k acc hl2 h92 (.inr d92) hf).symm)
                    try clear hT0
                    try clear h92
                    try clear h39
                    try clear d39
                    try clear d92
                    have hmi : (acc.length : Int) < 1000 := by omega
                    have hmf : ((acc.length : Int) == 1000) = false := by simp; omega
                    clear hf
                    go_wp2_with (at_builtin; refine wpList_append_own _ rfl _ _ 31 rfl w.heap.size 5 i0 (.int .u8 0) 1 1 Tryz.underlying31 hi hz0 hz1 hz2 rfl (by decide) _ _ _ rfl (hown.out.alloc _) ⟨wr.heap.size, 0, none⟩ 1 1 [.int .u8 ((s[k + 1]'hl2).toNat : Int)] rfl rfl ?c1 ?c2 ?c3 ?c4 ?c5 ?_)
                    case c1 =>
                      intro j u hj
                      match j, hj with
                      | 0, hj => simp at hj; subst hj; simp [Addr.add]
                    case c2 => intro u hu; simp at hu; subst hu; rfl
                    case c3 => unfold maxLen; omega
                    case c4 => omega
                    case c5 => have := hbel.out.size; simp; omega
                    intro v' w4 hown' hgrow _
                    have HO : Hid (w4.ownsRow w.heap.size 5 1 v' (acc ++ [s[k + 1]'hl2]).length ((acc ++ [s[k + 1]'hl2]).map u8v)) := Lib.hid (by simpa using hown')
                    have HK := Lib.hid (tok_grown hown.out htok.out hgrow)
                    have HB : Hid (Below w.heap.size w w4) := Lib.hid (grown_below (Nat.le_refl _) (hbel.out.alloc hbel.out.size _) hgrow (own_block hown.out))
                    have HL : (acc ++ [s[k + 1]'hl2]).length = acc.length + 1 := by simp
                    have HM := Lib.hid HL
                    clear hown' hgrow HL
                    generalize acc ++ [s[k + 1]'hl2] = acc' at HO HT HM
                    obtain ⟨A', cap', rfl⟩ := own_shape HO.out
                    go_wp2
                    go_roundw
                    case rel => exact ⟨acc', A', cap', k + 2, rfl, by go_num, by omega, by omega, by have := HM.out; omega, HO, HK, HB, HT⟩
                    case measure => simp [RowKit.intOf]; omega
                · have ed2 : (((s[k + 1]'hl2).toNat : Int) != 92) = true := by simp; omega
                  have HN : Hid (G = none) := Lib.hid (by rw [← ht.out]; exact tx_bad s k acc hl2 h92 (by omega))
                  try clear hf
                  try clear h92
                  try clear h39
                  try clear d39
                  try clear d92
                  obtain ⟨c0, c1, c2, c3⟩ := htok.out.cells
                  have f0 := htok.out.frozen 0
                  have f1 := htok.out.frozen 1
                  have f2 := htok.out.frozen 2
                  have f3 := htok.out.frozen 3
                  have HR := Lib.hid (tok_clear htok.out)
                  go_wp2
                  obtain ⟨F, hF, ht', _, hbel', _⟩ := HR.out
                  rw [← hF]
                  clear hF
                  obtain ⟨r0, r1, r2, r3⟩ := ht'.cells
                  refine bodyPost_ret (v := .tuple #[.agg #[.int .i64 0, .int .i64 0, .string (bs []), .int .i64 0], .int .i64 0, .bool false]) (by simp [results, Tryz.results90, go_sem, r0, r1, r2, r3, TK.zero]) rfl ⟨?_, hbel' _ _ (Nat.le_refl _) hbel.out⟩
                  rw [HN.out]
                  rfl
            · have en : (((k : Int) + 1) == (s.size : Int)) = true := by simp; omega
              have HN : Hid (G = none) := Lib.hid (by rw [← ht.out]; exact tx_end s k acc hlt h92 (by omega))
              try clear hf
              try clear h92
              try clear h39
              try clear d39
              try clear d92
              obtain ⟨c0, c1, c2, c3⟩ := htok.out.cells
              have f0 := htok.out.frozen 0
              have f1 := htok.out.frozen 1
              have f2 := htok.out.frozen 2
              have f3 := htok.out.frozen 3
              have HR := Lib.hid (tok_clear htok.out)
              go_wp2
              obtain ⟨F, hF, ht', _, hbel', _⟩ := HR.out
              rw [← hF]
              clear hF
              obtain ⟨r0, r1, r2, r3⟩ := ht'.cells
              refine bodyPost_ret (v := .tuple #[.agg #[.int .i64 0, .int .i64 0, .string (bs []), .int .i64 0], .int .i64 0, .bool false]) (by simp [results, Tryz.results90, go_sem, r0, r1, r2, r3, TK.zero]) rfl ⟨?_, hbel' _ _ (Nat.le_refl _) hbel.out⟩
              rw [HN.out]
              rfl
          · have e92 : (((s[k]'hlt).toNat : Int) == 92) = false := by simp; omega
            by_cases hf : acc.length = 1000
            · have hff : ((acc.length : Int) == 1000) = true := by simp; omega
              have HN : Hid (G = none) := Lib.hid (by rw [← ht.out]; exact tx_full s k acc hlt h32 h39 h92 hf)
              try clear hf
              try clear h92
              try clear h39
              try clear d39
              try clear d92
              obtain ⟨c0, c1, c2, c3⟩ := htok.out.cells
              have f0 := htok.out.frozen 0
              have f1 := htok.out.frozen 1
              have f2 := htok.out.frozen 2
              have f3 := htok.out.frozen 3
              have HR := Lib.hid (tok_clear htok.out)
              go_wp2
              obtain ⟨F, hF, ht', _, hbel', _⟩ := HR.out
              rw [← hF]
              clear hF
              obtain ⟨r0, r1, r2, r3⟩ := ht'.cells
              refine bodyPost_ret (v := .tuple #[.agg #[.int .i64 0, .int .i64 0, .string (bs []), .int .i64 0], .int .i64 0, .bool false]) (by simp [results, Tryz.results90, go_sem, r0, r1, r2, r3, TK.zero]) rfl ⟨?_, hbel' _ _ (Nat.le_refl _) hbel.out⟩
              rw [HN.out]
              rfl
            · have hT0 := True.intro
              have HT : Hid (textP (s.toList.drop (k + 1)) (acc ++ [s[k]'hlt]) (k + 1) = G) := Lib.hid (by rw [← ht.out]; exact (tx_next s k acc hlt h32 h39 h92 hf).symm)
              try clear hT0
              try clear h92
              try clear h39
              try clear d39
              try clear d92
              have hmi : (acc.length : Int) < 1000 := by omega
              have hmf : ((acc.length : Int) == 1000) = false := by simp; omega
              clear hf
              go_wp2_with (at_builtin; refine wpList_append_own _ rfl _ _ 31 rfl w.heap.size 5 i0 (.int .u8 0) 1 1 Tryz.underlying31 hi hz0 hz1 hz2 rfl (by decide) _ _ _ rfl (hown.out.alloc _) ⟨wr.heap.size, 0, none⟩ 1 1 [.int .u8 ((s[k]'hlt).toNat : Int)] rfl rfl ?c1 ?c2 ?c3 ?c4 ?c5 ?_)
              case c1 =>
                intro j u hj
                match j, hj with
                | 0, hj => simp at hj; subst hj; simp [Addr.add]
              case c2 => intro u hu; simp at hu; subst hu; rfl
              case c3 => unfold maxLen; omega
              case c4 => omega
              case c5 => have := hbel.out.size; simp; omega
              intro v' w4 hown' hgrow _
              have HO : Hid (w4.ownsRow w.heap.size 5 1 v' (acc ++ [s[k]'hlt]).length ((acc ++ [s[k]'hlt]).map u8v)) := Lib.hid (by simpa using hown')
              have HK := Lib.hid (tok_grown hown.out htok.out hgrow)
              have HB : Hid (Below w.heap.size w w4) := Lib.hid (grown_below (Nat.le_refl _) (hbel.out.alloc hbel.out.size _) hgrow (own_block hown.out))
              have HL : (acc ++ [s[k]'hlt]).length = acc.length + 1 := by simp
              have HM := Lib.hid HL
              clear hown' hgrow HL
              generalize acc ++ [s[k]'hlt] = acc' at HO HT HM
              obtain ⟨A', cap', rfl⟩ := own_shape HO.out
              go_wp2
              go_roundw
              case rel => exact ⟨acc', A', cap', k + 1, rfl, by go_num, by omega, by omega, by have := HM.out; omega, HO, HK, HB, HT⟩
              case measure => simp [RowKit.intOf]; omega
    · have hge : s.size ≤ k := by omega
      have HN : Hid (G = none) := Lib.hid (by rw [← ht.out]; exact tx_out s k acc hge)
      try clear hf
      try clear h92
      try clear h39
      try clear d39
      try clear d92
      obtain ⟨c0, c1, c2, c3⟩ := htok.out.cells
      have f0 := htok.out.frozen 0
      have f1 := htok.out.frozen 1
      have f2 := htok.out.frozen 2
      have f3 := htok.out.frozen 3
      have HR := Lib.hid (tok_clear htok.out)
      go_wp2
      obtain ⟨F, hF, ht', _, hbel', _⟩ := HR.out
      rw [← hF]
      clear hF
      obtain ⟨r0, r1, r2, r3⟩ := ht'.cells
      refine bodyPost_ret (v := .tuple #[.agg #[.int .i64 0, .int .i64 0, .string (bs []), .int .i64 0], .int .i64 0, .bool false]) (by simp [results, Tryz.results90, go_sem, r0, r1, r2, r3, TK.zero]) rfl ⟨?_, hbel' _ _ (Nat.le_refl _) hbel.out⟩
      rw [HN.out]
      rfl
end Go.Proofs.YtllkimdlmnjoiaaGreatDoor.E8

/- Carried over from an earlier seat. -/
namespace Go.Proofs.YtllkimdlmnjoiaaGreatDoor.E8
set_option maxRecDepth 100000
set_option maxRecDepth 100000
open Go.RowKit

/-- The first token of bytes that begin with no blank, without its place, and how many bytes it takes. -/
def firstP (l : Bs) : Option (TK × Nat) :=
  if letB (l.headD 0) = true then some (⟨1, 0, l.take (runN wordB l 1), 0⟩, runN wordB l 1)
  else if digB (l.headD 0) = true ∨ (l.headD 0).toNat = 45 then numP (l.take (runN wordB l 1))
  else if (l.headD 0).toNat = 39 then textO (textP (l.drop 1) [] 1)
  else if signB (l.headD 0) = true then some (⟨4, 0, l.take 1, 0⟩, 1)
  else none
theorem head_is (s : ByteArray) (hp : 0 < s.size) : s.toList.headD 0 = s[0]'hp := by
  have := drop_at s 0 hp
  rw [List.drop_zero] at this
  rw [this]; rfl
theorem first_let (s : ByteArray) (hp : 0 < s.size) (h : letB (s[0]'hp) = true) : firstP s.toList = some (⟨1, 0, s.toList.take (runN wordB s.toList 1), 0⟩, runN wordB s.toList 1) := by
  unfold firstP; rw [head_is s hp, if_pos h]
theorem first_num (s : ByteArray) (hp : 0 < s.size) (h : letB (s[0]'hp) = false) (h2 : digB (s[0]'hp) = true ∨ (s[0]'hp).toNat = 45) : firstP s.toList = numP (s.toList.take (runN wordB s.toList 1)) := by
  unfold firstP; rw [head_is s hp, if_neg (by simp [h]), if_pos h2]
theorem first_text (s : ByteArray) (hp : 0 < s.size) (h : letB (s[0]'hp) = false) (h2 : digB (s[0]'hp) = false) (h4 : (s[0]'hp).toNat = 39) : firstP s.toList = textO (textP (s.toList.drop 1) [] 1) := by
  unfold firstP; rw [head_is s hp, if_neg (by simp [h]), if_neg (by simp [h2]; omega), if_pos h4]
theorem first_sign (s : ByteArray) (hp : 0 < s.size) (h : letB (s[0]'hp) = false) (h2 : digB (s[0]'hp) = false) (h3 : ¬ (s[0]'hp).toNat = 45) (h4 : ¬ (s[0]'hp).toNat = 39) (h5 : signB (s[0]'hp) = true) : firstP s.toList = some (⟨4, 0, s.toList.take 1, 0⟩, 1) := by
  unfold firstP; rw [head_is s hp, if_neg (by simp [h]), if_neg (by simp [h2]; omega), if_neg h4, if_pos h5]
theorem first_none (s : ByteArray) (hp : 0 < s.size) (h : letB (s[0]'hp) = false) (h2 : digB (s[0]'hp) = false) (h3 : ¬ (s[0]'hp).toNat = 45) (h4 : ¬ (s[0]'hp).toNat = 39) (h5 : signB (s[0]'hp) = false) : firstP s.toList = none := by
  unfold firstP; rw [head_is s hp, if_neg (by simp [h]), if_neg (by simp [h2]; omega), if_neg h4, if_neg (by simp [h5])]

theorem take_bs (s : ByteArray) (n : Nat) : s.extract 0 n = bs (s.toList.take n) := by rw [bs_cut, List.drop_zero]

set_option maxHeartbeats 3200000 in
theorem first_any (s : ByteArray) (hs : s.size ≤ 20000) (hp : 0 < s.size) (w : World) : Calls Tryz.prog 63 #[.string s] w (FirstPost w (firstP s.toList)) := by
  cases hl : letB (s[0]'hp)
  · cases hd : digB (s[0]'hp)
    · by_cases h45 : (s[0]'hp).toNat = 45
      · have HN : Hid (firstP s.toList = numP (s.toList.take (runN wordB s.toList 1))) := Lib.hid (first_num s hp hl (.inr h45))
        have e45 : (((s[0]'hp).toNat : Int) == 45) = true := by simp; omega
        clear h45
        have hwl := runN_le wordB s.toList 1 (by rw [toList_size]; omega)
        rw [toList_size] at hwl
        have hwg := runN_ge wordB s.toList 1
        have cW := Lib.hid (word_any s hs (by omega))
        have HX := Lib.hid (take_bs s (runN wordB s.toList 1))
        have cN := Lib.hid (fun W => number_any (s.toList.take (runN wordB s.toList 1)) (by rw [List.length_take]; omega) W)
        unfold FirstPost at cN
        generalize numP (s.toList.take (runN wordB s.toList 1)) = X at cN HN
        generalize s.toList.take (runN wordB s.toList 1) = l2 at cN HX
        generalize runN wordB s.toList 1 = m at hwl hwg cW HX
        have hml : (m : Int) ≤ (s.size : Int) := by omega
        have hm0 : (0 : Int) ≤ (m : Int) := by omega
        generalize hT : tkO X = T at cN
        generalize hM : lnO X = M at cN
        generalize hI : X.isSome = I at cN
        have HT := Lib.hid hT
        have HM := Lib.hid hM
        have HI := Lib.hid hI
        clear hT hM hI
        generalize firstP s.toList = G at HN
        go_enter Tryz.func63, Tryz.ntmps63
        go_wp2_with fail
        have B0 := Lib.hid (tok_zero w)
        have z0 := Lib.hid (below_new w zbox)
        unfold zbox at B0 z0
        generalize hW : World.alloc w _ = W at B0 z0 ⊢
        clear hW
        refine (letter_any (s[0]'hp) _).mono ?_
        rintro e w' ⟨rfl, rfl⟩
        go_wp2_with fail
        refine (digit_any (s[0]'hp) _).mono ?_
        rintro e w' ⟨rfl, rfl⟩
        go_wp2_with fail
        refine (cW.out _).mono ?_
        rintro e w' ⟨rfl, rfl⟩
        have hX := HX.out
        go_wp2_with fail
        clear hX
        refine (cN.out _).mono ?_
        rintro e w1 ⟨rfl, hb⟩
        have B1 := Lib.hid (B0.out.next hb)
        have Z1 := Lib.hid (bnext z0.out hb)
        clear hb
        obtain ⟨c0, c1, c2, c3⟩ := B1.out.cells
        have f0 := B1.out.frozen 0
        have f1 := B1.out.frozen 1
        have f2 := B1.out.frozen 2
        have f3 := B1.out.frozen 3
        have HR := Lib.hid (B1.out.set ⟨T.k, T.p, T.s, T.n⟩)
        go_wp2
        obtain ⟨F, hF, ht', _, hbel', _⟩ := HR.out
        rw [← hF]
        clear hF
        obtain ⟨r0, r1, r2, r3⟩ := ht'.cells
        refine bodyPost_ret (v := .tuple #[.agg #[.int .i64 (T.k), .int .i64 (T.p), .string (bs (T.s)), .int .i64 (T.n)], .int .i64 (M : Int), .bool I]) (by simp [results, Tryz.results63, go_sem, r0, r1, r2, r3]) rfl ⟨?_, hbel' _ _ (Nat.le_refl _) Z1.out⟩
        rw [HN.out]
        rw [HT.out, HM.out, HI.out]
      · have e45 : (((s[0]'hp).toNat : Int) == 45) = false := by simp; omega
        by_cases h39 : (s[0]'hp).toNat = 39
        · have e39 : (((s[0]'hp).toNat : Int) == 39) = true := by simp; omega
          have HN := Lib.hid (first_text s hp hl hd h39)
          clear h39 h45
          have cN := Lib.hid (fun W => text_any s hs (by omega) W)
          unfold FirstPost at cN
          generalize textO (textP (s.toList.drop 1) [] 1) = X at cN HN
          generalize hT : tkO X = T at cN
          generalize hM : lnO X = M at cN
          generalize hI : X.isSome = I at cN
          have HT := Lib.hid hT
          have HM := Lib.hid hM
          have HI := Lib.hid hI
          clear hT hM hI
          generalize firstP s.toList = G at HN
          go_enter Tryz.func63, Tryz.ntmps63
          go_wp2_with fail
          have B0 := Lib.hid (tok_zero w)
          have z0 := Lib.hid (below_new w zbox)
          unfold zbox at B0 z0
          generalize hW : World.alloc w _ = W at B0 z0 ⊢
          clear hW
          refine (letter_any (s[0]'hp) _).mono ?_
          rintro e w' ⟨rfl, rfl⟩
          go_wp2_with fail
          refine (digit_any (s[0]'hp) _).mono ?_
          rintro e w' ⟨rfl, rfl⟩
          go_wp2_with fail
          refine (cN.out _).mono ?_
          rintro e w1 ⟨rfl, hb⟩
          have B1 := Lib.hid (B0.out.next hb)
          have Z1 := Lib.hid (bnext z0.out hb)
          clear hb
          obtain ⟨c0, c1, c2, c3⟩ := B1.out.cells
          have f0 := B1.out.frozen 0
          have f1 := B1.out.frozen 1
          have f2 := B1.out.frozen 2
          have f3 := B1.out.frozen 3
          have HR := Lib.hid (B1.out.set ⟨T.k, T.p, T.s, T.n⟩)
          go_wp2
          obtain ⟨F, hF, ht', _, hbel', _⟩ := HR.out
          rw [← hF]
          clear hF
          obtain ⟨r0, r1, r2, r3⟩ := ht'.cells
          refine bodyPost_ret (v := .tuple #[.agg #[.int .i64 (T.k), .int .i64 (T.p), .string (bs (T.s)), .int .i64 (T.n)], .int .i64 (M : Int), .bool I]) (by simp [results, Tryz.results63, go_sem, r0, r1, r2, r3]) rfl ⟨?_, hbel' _ _ (Nat.le_refl _) Z1.out⟩
          rw [HN.out]
          rw [HT.out, HM.out, HI.out]
        · have e39 : (((s[0]'hp).toNat : Int) == 39) = false := by simp; omega
          cases hg : signB (s[0]'hp)
          · have HN := Lib.hid (first_none s hp hl hd h45 h39 hg)
            clear h39 h45
            generalize firstP s.toList = G at HN
            go_enter Tryz.func63, Tryz.ntmps63
            go_wp2_with fail
            have B0 := Lib.hid (tok_zero w)
            have z0 := Lib.hid (below_new w zbox)
            unfold zbox at B0 z0
            generalize hW : World.alloc w _ = W at B0 z0 ⊢
            clear hW
            refine (letter_any (s[0]'hp) _).mono ?_
            rintro e w' ⟨rfl, rfl⟩
            go_wp2_with fail
            refine (digit_any (s[0]'hp) _).mono ?_
            rintro e w' ⟨rfl, rfl⟩
            go_wp2_with fail
            refine (sign_any (s[0]'hp) _).mono ?_
            rintro e w' ⟨rfl, rfl⟩
            obtain ⟨c0, c1, c2, c3⟩ := B0.out.cells
            have f0 := B0.out.frozen 0
            have f1 := B0.out.frozen 1
            have f2 := B0.out.frozen 2
            have f3 := B0.out.frozen 3
            have HR := Lib.hid (tok_clear B0.out)
            go_wp2
            obtain ⟨F, hF, ht', _, hbel', _⟩ := HR.out
            rw [← hF]
            clear hF
            obtain ⟨r0, r1, r2, r3⟩ := ht'.cells
            refine bodyPost_ret (v := .tuple #[.agg #[.int .i64 0, .int .i64 0, .string (bs []), .int .i64 0], .int .i64 0, .bool false]) (by simp [results, Tryz.results63, go_sem, r0, r1, r2, r3, TK.zero]) rfl ⟨?_, hbel' _ _ (Nat.le_refl _) z0.out⟩
            rw [HN.out]
            rfl
          · have HN := Lib.hid (first_sign s hp hl hd h45 h39 hg)
            clear h39 h45
            have HX := Lib.hid (take_bs s 1)
            generalize s.toList.take 1 = l2 at HN HX
            have h1i : (1 : Int) ≤ (s.size : Int) := by omega
            generalize firstP s.toList = G at HN
            go_enter Tryz.func63, Tryz.ntmps63
            go_wp2_with fail
            have B0 := Lib.hid (tok_zero w)
            have z0 := Lib.hid (below_new w zbox)
            unfold zbox at B0 z0
            generalize hW : World.alloc w _ = W at B0 z0 ⊢
            clear hW
            refine (letter_any (s[0]'hp) _).mono ?_
            rintro e w' ⟨rfl, rfl⟩
            go_wp2_with fail
            refine (digit_any (s[0]'hp) _).mono ?_
            rintro e w' ⟨rfl, rfl⟩
            go_wp2_with fail
            refine (sign_any (s[0]'hp) _).mono ?_
            rintro e w' ⟨rfl, rfl⟩
            have hX := HX.out
            obtain ⟨c0, c1, c2, c3⟩ := B0.out.cells
            have f0 := B0.out.frozen 0
            have f1 := B0.out.frozen 1
            have f2 := B0.out.frozen 2
            have f3 := B0.out.frozen 3
            have HR := Lib.hid (B0.out.set ⟨4, 0, l2, 0⟩)
            go_wp2
            obtain ⟨F, hF, ht', _, hbel', _⟩ := HR.out
            rw [← hF]
            clear hF
            obtain ⟨r0, r1, r2, r3⟩ := ht'.cells
            refine bodyPost_ret (v := .tuple #[.agg #[.int .i64 (4), .int .i64 (0), .string (bs (l2)), .int .i64 (0)], .int .i64 1, .bool true]) (by simp [results, Tryz.results63, go_sem, r0, r1, r2, r3]) rfl ⟨?_, hbel' _ _ (Nat.le_refl _) z0.out⟩
            rw [HN.out]
            rfl
    · have HN : Hid (firstP s.toList = numP (s.toList.take (runN wordB s.toList 1))) := Lib.hid (first_num s hp hl (.inl hd))
      have hwl := runN_le wordB s.toList 1 (by rw [toList_size]; omega)
      rw [toList_size] at hwl
      have hwg := runN_ge wordB s.toList 1
      have cW := Lib.hid (word_any s hs (by omega))
      have HX := Lib.hid (take_bs s (runN wordB s.toList 1))
      have cN := Lib.hid (fun W => number_any (s.toList.take (runN wordB s.toList 1)) (by rw [List.length_take]; omega) W)
      unfold FirstPost at cN
      generalize numP (s.toList.take (runN wordB s.toList 1)) = X at cN HN
      generalize s.toList.take (runN wordB s.toList 1) = l2 at cN HX
      generalize runN wordB s.toList 1 = m at hwl hwg cW HX
      have hml : (m : Int) ≤ (s.size : Int) := by omega
      have hm0 : (0 : Int) ≤ (m : Int) := by omega
      generalize hT : tkO X = T at cN
      generalize hM : lnO X = M at cN
      generalize hI : X.isSome = I at cN
      have HT := Lib.hid hT
      have HM := Lib.hid hM
      have HI := Lib.hid hI
      clear hT hM hI
      generalize firstP s.toList = G at HN
      go_enter Tryz.func63, Tryz.ntmps63
      go_wp2_with fail
      have B0 := Lib.hid (tok_zero w)
      have z0 := Lib.hid (below_new w zbox)
      unfold zbox at B0 z0
      generalize hW : World.alloc w _ = W at B0 z0 ⊢
      clear hW
      refine (letter_any (s[0]'hp) _).mono ?_
      rintro e w' ⟨rfl, rfl⟩
      go_wp2_with fail
      refine (digit_any (s[0]'hp) _).mono ?_
      rintro e w' ⟨rfl, rfl⟩
      go_wp2_with fail
      refine (cW.out _).mono ?_
      rintro e w' ⟨rfl, rfl⟩
      have hX := HX.out
      go_wp2_with fail
      clear hX
      refine (cN.out _).mono ?_
      rintro e w1 ⟨rfl, hb⟩
      have B1 := Lib.hid (B0.out.next hb)
      have Z1 := Lib.hid (bnext z0.out hb)
      clear hb
      obtain ⟨c0, c1, c2, c3⟩ := B1.out.cells
      have f0 := B1.out.frozen 0
      have f1 := B1.out.frozen 1
      have f2 := B1.out.frozen 2
      have f3 := B1.out.frozen 3
      have HR := Lib.hid (B1.out.set ⟨T.k, T.p, T.s, T.n⟩)
      go_wp2
      obtain ⟨F, hF, ht', _, hbel', _⟩ := HR.out
      rw [← hF]
      clear hF
      obtain ⟨r0, r1, r2, r3⟩ := ht'.cells
      refine bodyPost_ret (v := .tuple #[.agg #[.int .i64 (T.k), .int .i64 (T.p), .string (bs (T.s)), .int .i64 (T.n)], .int .i64 (M : Int), .bool I]) (by simp [results, Tryz.results63, go_sem, r0, r1, r2, r3]) rfl ⟨?_, hbel' _ _ (Nat.le_refl _) Z1.out⟩
      rw [HN.out]
      rw [HT.out, HM.out, HI.out]
  · have HN := Lib.hid (first_let s hp hl)
    have hwl := runN_le wordB s.toList 1 (by rw [toList_size]; omega)
    rw [toList_size] at hwl
    have hwg := runN_ge wordB s.toList 1
    have cW := Lib.hid (word_any s hs (by omega))
    have HX := Lib.hid (take_bs s (runN wordB s.toList 1))
    generalize s.toList.take (runN wordB s.toList 1) = l2 at HN HX
    generalize runN wordB s.toList 1 = m at hwl hwg cW HX HN
    have hml : (m : Int) ≤ (s.size : Int) := by omega
    have hm0 : (0 : Int) ≤ (m : Int) := by omega
    generalize firstP s.toList = G at HN
    go_enter Tryz.func63, Tryz.ntmps63
    go_wp2_with fail
    have B0 := Lib.hid (tok_zero w)
    have z0 := Lib.hid (below_new w zbox)
    unfold zbox at B0 z0
    generalize hW : World.alloc w _ = W at B0 z0 ⊢
    clear hW
    refine (letter_any (s[0]'hp) _).mono ?_
    rintro e w' ⟨rfl, rfl⟩
    go_wp2_with fail
    refine (cW.out _).mono ?_
    rintro e w' ⟨rfl, rfl⟩
    have hX := HX.out
    obtain ⟨c0, c1, c2, c3⟩ := B0.out.cells
    have f0 := B0.out.frozen 0
    have f1 := B0.out.frozen 1
    have f2 := B0.out.frozen 2
    have f3 := B0.out.frozen 3
    have HR := Lib.hid (B0.out.set ⟨1, 0, l2, 0⟩)
    go_wp2
    obtain ⟨F, hF, ht', _, hbel', _⟩ := HR.out
    rw [← hF]
    clear hF
    obtain ⟨r0, r1, r2, r3⟩ := ht'.cells
    refine bodyPost_ret (v := .tuple #[.agg #[.int .i64 (1), .int .i64 (0), .string (bs (l2)), .int .i64 (0)], .int .i64 (m : Int), .bool true]) (by simp [results, Tryz.results63, go_sem, r0, r1, r2, r3]) rfl ⟨?_, hbel' _ _ (Nat.le_refl _) z0.out⟩
    rw [HN.out]
    rfl
end Go.Proofs.YtllkimdlmnjoiaaGreatDoor.E8

