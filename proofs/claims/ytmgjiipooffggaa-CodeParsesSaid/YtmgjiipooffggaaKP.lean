/- Writing: a builder of strings, and what is written to it. -/
import Derived.Test.YtmgjiipooffggaaKO
import Derived.Test.YtmgjiipooffggaaIS
namespace Go.Proofs.Ytmgjiipooffggaa
set_option maxRecDepth 100000
open Go.RowKit Go.Sort

/-- A builder in block b (its row lies from B on) that holds the bytes bs. -/
def WB (w : World) (B b : Nat) (bs : Bs) : Prop := Lib.IsBuilderF 52 5 B b (Lib.byteCells bs) w ∧ B ≤ w.heap.size
/-- What stays when something is written. -/
def WK (B b : Nat) (w w' : World) : Prop := Below B w w' ∧ Lib.OthersKept 5 (some b) w w'
theorem WK.refl (B b : Nat) (w : World) : WK B b w w := ⟨Below.refl _ _, Lib.OthersKept.refl _ _ _⟩
theorem WK.trans {B b : Nat} {x y z : World} (h : WK B b x y) (k : WK B b y z) : WK B b x z := ⟨h.1.trans k.1, h.2.trans k.2⟩
theorem WK.below {B b : Nat} {w w' : World} (h : Below w.heap.size w w') (hB : B ≤ w.heap.size) : WK B b w w' :=
  ⟨h.mono hB, fun k _o hk _ _ => (h.block k (Array.getElem?_eq_some_iff.1 hk).1).trans hk⟩
theorem IsBuilderF.next {B b : Nat} {bs : List Value} {w w' : World} (h : Lib.IsBuilderF 52 5 B b bs w) (hb : Below w.heap.size w w') : Lib.IsBuilderF 52 5 B b bs w' := by
  rcases h with ⟨hB, v, h1, h2, h3⟩ | ⟨hB, v, h1, h2, h3⟩
  · refine .inl ⟨hB, v, (hb.block b (Array.getElem?_eq_some_iff.1 h1).1).trans h1, ?_, h3⟩
    refine ⟨h2.1, ?_⟩
    rcases h2.2 with hn | ⟨g, cap, cur, fz, e, q1, q2, q3⟩
    · exact .inl hn
    · exact .inr ⟨g, cap, cur, fz, e, q1, (hb.block g (Array.getElem?_eq_some_iff.1 q2).1).trans q2, q3⟩
  · refine .inr ⟨hB, v, (hb.block b (Array.getElem?_eq_some_iff.1 h1).1).trans h1, ?_, h3⟩
    refine ⟨h2.1, ?_⟩
    rcases h2.2 with hn | ⟨g, cap, cur, fz, e, q1, q2, q3⟩
    · exact .inl hn
    · exact .inr ⟨g, cap, cur, fz, e, q1, (hb.block g (Array.getElem?_eq_some_iff.1 q2).1).trans q2, q3⟩
theorem WB.next {w w' : World} {B b : Nat} {bs : Bs} (h : WB w B b bs) (hb : Below w.heap.size w w') : WB w' B b bs := ⟨IsBuilderF.next h.1 hb, Nat.le_trans h.2 hb.size⟩
theorem WB.lt {w : World} {B b : Nat} {bs : Bs} (h : WB w B b bs) : B ≤ b ∧ b < w.heap.size := by
  rcases h.1 with ⟨hB, v, h1, _⟩ | ⟨hB, v, h1, _⟩ <;> exact ⟨hB, (Array.getElem?_eq_some_iff.1 h1).1⟩
/-- A box of the call's own, of another kind, stays. -/
theorem WK.blk {B b : Nat} {w w' : World} {g n : Nat} (k : WK B b w w') (h : Blk w g n) (hn : g ≠ b) : w'.heap[g]? = w.heap[g]? := by
  obtain ⟨cs, h1, _⟩ := h
  rw [h1]
  exact k.2 g _ h1 (fun e => hn (by injection e)) (fun c fz e => by injection e with _ e2 _; cases e2)

def WP (B b : Nat) (bs : Bs) (w : World) (w' : World) : Prop := WB w' B b bs ∧ WK B b w w'
theorem str_any (w : World) (B b : Nat) (bs : Bs) (s : ByteArray) (h : WB w B b bs) (hl : bs.length + s.size ≤ 140737488355328) :
    Calls Try.prog 31 #[.pointer (some ⟨b, 0, none⟩), .string s] w fun e w' => e = .returned (.tuple #[.int .i64 s.size, .nilIface]) ∧ WP B b (bs ++ s.toList) w w' := by
  refine (Try.Builder_WriteString_k B b (Lib.byteCells bs) s w h.1 (by rw [Lib.byteCells_length]; exact hl) h.2).mono ?_
  rintro e w' ⟨he, hb, hk, ho⟩
  refine ⟨he, ⟨.inr ?_, Nat.le_trans h.2 hk.size⟩, hk, ho⟩
  rw [Lib.byteCells_append, ByteArray.toList_eq]
  exact hb
end Go.Proofs.Ytmgjiipooffggaa
/- write: the program's text of a value. -/
namespace Go.Proofs.Ytmgjiipooffggaa
set_option maxRecDepth 100000
open Go.RowKit Go.Sort

theorem lit_list (L : Bs) : (⟨L.toArray⟩ : ByteArray).toList = L := by rw [ByteArray.toList_eq]
theorem lit_size (L : Bs) : (⟨L.toArray⟩ : ByteArray).size = L.length := by rw [← toList_size, lit_list]
theorem str_lit (w : World) (B b : Nat) (bs L : Bs) (h : WB w B b bs) (hl : bs.length + L.length ≤ 140737488355328) :
    Calls Try.prog 31 #[.pointer (some ⟨b, 0, none⟩), .string ⟨L.toArray⟩] w fun e w' => e = .returned (.tuple #[.int .i64 L.length, .nilIface]) ∧ WP B b (bs ++ L) w w' := by
  have := str_any w B b bs ⟨L.toArray⟩ h (by rw [lit_size]; exact hl)
  rw [lit_list, lit_size] at this
  exact this
def WPost (B b : Nat) (bs : Bs) (w : World) (e : Ending) (w' : World) : Prop := e = .returned (.tuple #[]) ∧ WP B b bs w w'

theorem writeBool_any (w : World) (B b : Nat) (bs : Bs) (n : Int) (h : WB w B b bs) (hl : bs.length + (if n = 0 then ([102, 97, 108, 115, 101] : Bs) else [116, 114, 117, 101]).length ≤ 140737488355328) :
    Calls Try.prog 41 #[.pointer (some ⟨b, 0, none⟩), .int .i64 n] w (WPost B b (bs ++ (if n = 0 then [102, 97, 108, 115, 101] else [116, 114, 117, 101])) w) := by
  by_cases hn : n = 0
  · rw [if_pos hn] at hl ⊢
    have S1 := Lib.hid (str_lit w B b bs [102, 97, 108, 115, 101] h (by simpa using hl))
    clear h hl
    have hb : (n == 0) = true := by simpa using hn
    clear hn
    go_enter Try.func41, Try.ntmps41
    go_wp2_with fail
    refine S1.out.mono ?_
    rintro e w1 ⟨rfl, hw⟩
    have HW := Lib.hid hw
    clear hw
    go_wp2
    go_end0
    exact ⟨rfl, HW.out⟩
  · rw [if_neg hn] at hl ⊢
    have S2 := Lib.hid (str_lit w B b bs [116, 114, 117, 101] h (by simpa using hl))
    clear h hl
    have hb : (n == 0) = false := by simpa using hn
    clear hn
    go_enter Try.func41, Try.ntmps41
    go_wp2_with fail
    refine S2.out.mono ?_
    rintro e w1 ⟨rfl, hw⟩
    have HW := Lib.hid hw
    clear hw
    go_wp2
    go_end0
    exact ⟨rfl, HW.out⟩
def cm (k : Nat) : Bs := if 0 < k then [44, 32] else []
theorem writeComma_any (w : World) (B b : Nat) (bs : Bs) (k : Nat) (hk : k ≤ 9223372036854775807) (h : WB w B b bs) (hl : bs.length + (cm k).length ≤ 140737488355328) :
    Calls Try.prog 75 #[.pointer (some ⟨b, 0, none⟩), .int .i64 (k : Int)] w (WPost B b (bs ++ cm k) w) := by
  have H := Lib.hid h
  unfold cm at hl ⊢
  by_cases hn : 0 < k
  · rw [if_pos hn] at hl ⊢
    have S1 := Lib.hid (str_lit w B b bs [44, 32] h (by simpa using hl))
    clear h hl
    have hb : (0 : Int) < (k : Int) := by omega
    clear hn
    go_enter Try.func75, Try.ntmps75
    go_wp2_with fail
    refine S1.out.mono ?_
    rintro e w1 ⟨rfl, hw⟩
    have HW := Lib.hid hw
    clear hw
    go_wp2
    go_end0
    exact ⟨rfl, HW.out⟩
  · rw [if_neg hn, List.append_nil]
    clear h hl
    have hb : ¬ (0 : Int) < (k : Int) := by omega
    clear hn
    go_enter Try.func75, Try.ntmps75
    go_wp2
    go_end0
    exact ⟨rfl, ⟨H.out, WK.refl _ _ _⟩⟩
theorem digL_len (n : Int) (h : fitsB n = true) : (digL n).length ≤ 21 := by
  unfold digL
  have := lowsAll_len n.natAbs (by rw [fits_iff] at h; omega)
  rw [List.length_append, List.length_map, List.length_reverse]
  split <;> simp <;> omega
theorem writeThing_any (w : World) (B b : Nat) (bs L : Bs) (n : Int) (hn : fitsB n = true) (h : WB w B b bs) (hl0 : bs.length + (L ++ (digL n ++ [93])).length ≤ 140737488355328) :
    Calls Try.prog 43 #[.pointer (some ⟨b, 0, none⟩), .string ⟨L.toArray⟩, .int .i64 n] w (WPost B b (bs ++ (L ++ (digL n ++ [93]))) w) := by
  have hl : bs.length + (L.length + ((digL n).length + 1)) ≤ 140737488355328 := by simpa using hl0
  have S1 := Lib.hid (str_lit w B b bs L h (by omega))
  have HN := Lib.hid hn
  have HL := Lib.hid hl
  clear h hl hn hl0
  obtain ⟨sb, hsb⟩ : ∃ sb : ByteArray, sb = ⟨L.toArray⟩ := ⟨_, rfl⟩
  rw [← hsb] at S1 ⊢
  clear hsb
  go_enter Try.func43, Try.ntmps43
  go_wp2_with fail
  refine S1.out.mono ?_
  rintro e w1 ⟨rfl, hw⟩
  have HW := Lib.hid hw
  clear hw S1
  go_wp2_with fail
  refine (digits_any n w1 HN.out).mono ?_
  rintro e w2 ⟨rfl, hb⟩
  have HB := Lib.hid hb
  have W2 := Lib.hid (HW.out.1.next hb)
  have K2 := Lib.hid (HW.out.2.trans (WK.below hb HW.out.1.2))
  clear hb
  have S2 := Lib.hid (str_lit w2 B b (bs ++ L) (digL n) W2.out (by have := HL.out; simp; omega))
  generalize (⟨(digL n).toArray⟩ : ByteArray) = sd at *
  go_wp2_with fail
  refine S2.out.mono ?_
  rintro e w3 ⟨rfl, hw⟩
  have HW3 := Lib.hid hw
  clear hw S2
  go_wp2_with fail
  refine (str_lit w3 B b (bs ++ L ++ digL n) [93] HW3.out.1 (by have := HL.out; simp; omega)).mono ?_
  rintro e w4 ⟨rfl, hw⟩
  have HW4 := Lib.hid hw
  clear hw
  go_wp2
  go_end0
  refine ⟨rfl, ?_, (K2.out.trans HW3.out.2).trans HW4.out.2⟩
  have := HW4.out.1
  simpa using this

def WriteOk (r : Nat) : Prop := ∀ (w : World) (B b : Nat) (bs : Bs) (d : Nat) (x : At), WB w B b bs → Rd w 0 B d x.t x.A x.c x.A' x.c' → okV r x.t = true → bs.length + (txt r x.t).length ≤ 140737488355328 →
  Calls Try.prog 26 #[.pointer (some ⟨b, 0, none⟩), x.v] w (WPost B b (bs ++ txt r x.t) w)

section
variable {α : Type} (f : α → Bs)
theorem itemsT_append : ∀ (a b : List α) (i : Nat), itemsT f i (a ++ b) = itemsT f i a ++ itemsT f (i + a.length) b
  | [], b, i => rfl
  | x :: a, b, i => by
    simp only [List.cons_append, itemsT, itemsT_append a b (i + 1), List.length_cons, List.append_assoc]
    rw [show i + 1 + a.length = i + (a.length + 1) from by omega]
theorem itemsT_next (l : List α) (k : Nat) {x : α} (h : l[k]? = some x) : itemsT f 0 (l.take (k + 1)) = itemsT f 0 (l.take k) ++ (cm k ++ f x) := by
  have hk := (List.getElem?_eq_some_iff.1 h).1
  rw [take_next l k h, itemsT_append]
  simp only [itemsT, List.append_nil]
  rw [List.length_take, show min k l.length = k from by omega, Nat.zero_add]
  rfl
theorem itemsT_take_le (l : List α) (k : Nat) : (itemsT f 0 (l.take k)).length ≤ (itemsT f 0 l).length := by
  have := congrArg (fun m => (itemsT f 0 m).length) (List.take_append_drop k l).symm
  simp only [itemsT_append, List.length_append] at this
  omega
end
end Go.Proofs.Ytmgjiipooffggaa
