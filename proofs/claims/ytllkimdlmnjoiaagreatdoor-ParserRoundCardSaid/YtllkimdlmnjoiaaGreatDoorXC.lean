/- The parser's row of tokens, in memory; what it asks of the first one. -/
import Derived.Test.YtllkimdlmnjoiaaGreatDoorELG
import Derived.Test.YtllkimdlmnjoiaaGreatDoorTB
namespace Go.Proofs.YtllkimdlmnjoiaaGreatDoor
set_option maxRecDepth 100000
open Go.RowKit Go.Sort

abbrev Tk := E8.TK
abbrev bsT (l : List UInt8) : ByteArray := E8.bs l
theorem bsT_beq (a b : List UInt8) : ((bsT a).toList == (bsT b).toList) = (a == b) := by rw [E8.bs_toList, E8.bs_toList]
/-- All stays but block g. -/
structure RK (g : Nat) (w w' : World) : Prop where
  os : w'.os = w.os
  tape : w'.tape = w.tape
  output : w'.output = w.output
  size : w.heap.size ≤ w'.heap.size
  block : ∀ k, k < w.heap.size → k ≠ g → w'.heap[k]? = w.heap[k]?
theorem RK.refl (g : Nat) (w : World) : RK g w w := ⟨rfl, rfl, rfl, Nat.le_refl _, fun _ _ _ => rfl⟩
theorem RK.trans {g : Nat} {a b c : World} (h : RK g a b) (k : RK g b c) : RK g a c :=
  ⟨k.os.trans h.os, k.tape.trans h.tape, k.output.trans h.output, Nat.le_trans h.size k.size, fun i hi hn => (k.block i (Nat.lt_of_lt_of_le hi h.size) hn).trans (h.block i hi hn)⟩
theorem RK.of {g : Nat} {a b : World} (h : Below a.heap.size a b) : RK g a b :=
  ⟨h.os, h.tape, h.output, h.size, fun i hi _ => h.block i hi⟩
theorem RK.then {g : Nat} {a b c : World} (h : RK g a b) (k : Below b.heap.size b c) : RK g a c := h.trans (RK.of k)
theorem RK.below {g : Nat} {a b : World} (h : RK g a b) (hg : g ≤ a.heap.size) : Below g a b :=
  ⟨h.os, h.tape, h.output, h.size, fun i hi => h.block i (by omega) (by omega)⟩
theorem RK.heap {g k : Nat} {a b : World} {o : Obj} (h : RK g a b) (hx : a.heap[k]? = some o) (hne : k ≠ g) : b.heap[k]? = some o :=
  (h.block k (Array.getElem?_eq_some_iff.1 hx).1 hne).trans hx
/-- Block g alone is another one. -/
structure SameBut (g : Nat) (w F : World) : Prop where
  os : F.os = w.os
  tape : F.tape = w.tape
  output : F.output = w.output
  size : F.heap.size = w.heap.size
  block : ∀ k, k ≠ g → F.heap[k]? = w.heap[k]?
theorem SameBut.refl (g : Nat) (w : World) : SameBut g w w := ⟨rfl, rfl, rfl, rfl, fun _ _ => rfl⟩
theorem SameBut.set {g : Nat} {w F : World} (h : SameBut g w F) (i : Nat) (u : Value) : SameBut g w (F.setCell ⟨g, i, none⟩ u) :=
  ⟨h.os, h.tape, h.output, by simpa [World.setCell] using h.size, fun k hk => by rw [← h.block k hk]; simp [World.setCell, Array.getElem?_modify, Ne.symm hk]⟩
theorem SameBut.rk {g : Nat} {w F : World} (h : SameBut g w F) : RK g w F := ⟨h.os, h.tape, h.output, Nat.le_of_eq h.size.symm, fun k _ hn => h.block k hn⟩
theorem SameBut.fresh {g g0 : Nat} {w0 w F : World} (h : SameBut g w F) (hk : RK g0 w0 w) (hg : w0.heap.size ≤ g) : RK g0 w0 F :=
  ⟨h.os.trans hk.os, h.tape.trans hk.tape, h.output.trans hk.output, by rw [h.size]; exact hk.size, fun k hl hn => (h.block k (by omega)).trans (hk.block k hl hn)⟩
theorem SameBut.below {g : Nat} {w0 w F : World} (h : SameBut g w F) (hk : Below w0.heap.size w0 w) (hg : w0.heap.size ≤ g) : Below w0.heap.size w0 F :=
  ⟨h.os.trans hk.os, h.tape.trans hk.tape, h.output.trans hk.output, by rw [h.size]; exact hk.size, fun k hl => (h.block k (by omega)).trans (hk.block k hl)⟩
theorem bx_set2 {w : World} {g : Nat} {T : TypeId} {o0 o1 : Value} (h : w.heap[g]? = some (.cells #[o0, o1] T (0, 0))) (u0 u1 : Value) :
    ∃ F, F = (w.setCell ⟨g, 0, none⟩ u0).setCell ⟨g, 1, none⟩ u1 ∧ F.heap[g]? = some (.cells #[u0, u1] T (0, 0)) ∧ SameBut g w F := by
  refine ⟨_, rfl, ?_, ?_⟩
  · simp [World.setCell, Array.getElem?_modify, h]
  · exact ((SameBut.refl g w).set 0 u0).set 1 u1
theorem bx_cells2 {w : World} {g : Nat} {T : TypeId} {u0 u1 : Value} (h : w.heap[g]? = some (.cells #[u0, u1] T (0, 0))) : w.cell? ⟨g, 0, none⟩ = some u0 ∧ w.cell? ⟨g, 1, none⟩ = some u1 ∧ (∀ i, w.frozen? ⟨g, i, none⟩ = false) := by
  refine ⟨?_, ?_, fun i => ?_⟩ <;> simp [World.cell?, World.frozen?, h]
theorem bx_set3 {w : World} {g : Nat} {T : TypeId} {o0 o1 o2 : Value} (h : w.heap[g]? = some (.cells #[o0, o1, o2] T (0, 0))) (u0 u1 u2 : Value) :
    ∃ F, F = ((w.setCell ⟨g, 0, none⟩ u0).setCell ⟨g, 1, none⟩ u1).setCell ⟨g, 2, none⟩ u2 ∧ F.heap[g]? = some (.cells #[u0, u1, u2] T (0, 0)) ∧ SameBut g w F := by
  refine ⟨_, rfl, ?_, ?_⟩
  · simp [World.setCell, Array.getElem?_modify, h]
  · exact (((SameBut.refl g w).set 0 u0).set 1 u1).set 2 u2
theorem bx_cells3 {w : World} {g : Nat} {T : TypeId} {u0 u1 u2 : Value} (h : w.heap[g]? = some (.cells #[u0, u1, u2] T (0, 0))) : w.cell? ⟨g, 0, none⟩ = some u0 ∧ w.cell? ⟨g, 1, none⟩ = some u1 ∧ w.cell? ⟨g, 2, none⟩ = some u2 ∧ (∀ i, w.frozen? ⟨g, i, none⟩ = false) := by
  refine ⟨?_, ?_, ?_, fun i => ?_⟩ <;> simp [World.cell?, World.frozen?, h]
theorem bx_set4 {w : World} {g : Nat} {T : TypeId} {o0 o1 o2 o3 : Value} (h : w.heap[g]? = some (.cells #[o0, o1, o2, o3] T (0, 0))) (u0 u1 u2 u3 : Value) :
    ∃ F, F = (((w.setCell ⟨g, 0, none⟩ u0).setCell ⟨g, 1, none⟩ u1).setCell ⟨g, 2, none⟩ u2).setCell ⟨g, 3, none⟩ u3 ∧ F.heap[g]? = some (.cells #[u0, u1, u2, u3] T (0, 0)) ∧ SameBut g w F := by
  refine ⟨_, rfl, ?_, ?_⟩
  · simp [World.setCell, Array.getElem?_modify, h]
  · exact ((((SameBut.refl g w).set 0 u0).set 1 u1).set 2 u2).set 3 u3
theorem bx_cells4 {w : World} {g : Nat} {T : TypeId} {u0 u1 u2 u3 : Value} (h : w.heap[g]? = some (.cells #[u0, u1, u2, u3] T (0, 0))) : w.cell? ⟨g, 0, none⟩ = some u0 ∧ w.cell? ⟨g, 1, none⟩ = some u1 ∧ w.cell? ⟨g, 2, none⟩ = some u2 ∧ w.cell? ⟨g, 3, none⟩ = some u3 ∧ (∀ i, w.frozen? ⟨g, i, none⟩ = false) := by
  refine ⟨?_, ?_, ?_, ?_, fun i => ?_⟩ <;> simp [World.cell?, World.frozen?, h]
theorem bx_set5 {w : World} {g : Nat} {T : TypeId} {o0 o1 o2 o3 o4 : Value} (h : w.heap[g]? = some (.cells #[o0, o1, o2, o3, o4] T (0, 0))) (u0 u1 u2 u3 u4 : Value) :
    ∃ F, F = ((((w.setCell ⟨g, 0, none⟩ u0).setCell ⟨g, 1, none⟩ u1).setCell ⟨g, 2, none⟩ u2).setCell ⟨g, 3, none⟩ u3).setCell ⟨g, 4, none⟩ u4 ∧ F.heap[g]? = some (.cells #[u0, u1, u2, u3, u4] T (0, 0)) ∧ SameBut g w F := by
  refine ⟨_, rfl, ?_, ?_⟩
  · simp [World.setCell, Array.getElem?_modify, h]
  · exact (((((SameBut.refl g w).set 0 u0).set 1 u1).set 2 u2).set 3 u3).set 4 u4
theorem bx_cells5 {w : World} {g : Nat} {T : TypeId} {u0 u1 u2 u3 u4 : Value} (h : w.heap[g]? = some (.cells #[u0, u1, u2, u3, u4] T (0, 0))) : w.cell? ⟨g, 0, none⟩ = some u0 ∧ w.cell? ⟨g, 1, none⟩ = some u1 ∧ w.cell? ⟨g, 2, none⟩ = some u2 ∧ w.cell? ⟨g, 3, none⟩ = some u3 ∧ w.cell? ⟨g, 4, none⟩ = some u4 ∧ (∀ i, w.frozen? ⟨g, i, none⟩ = false) := by
  refine ⟨?_, ?_, ?_, ?_, ?_, fun i => ?_⟩ <;> simp [World.cell?, World.frozen?, h]
theorem bx_set11 {w : World} {g : Nat} {T : TypeId} {o0 o1 o2 o3 o4 o5 o6 o7 o8 o9 o10 : Value} (h : w.heap[g]? = some (.cells #[o0, o1, o2, o3, o4, o5, o6, o7, o8, o9, o10] T (0, 0))) (u0 u1 u2 u3 u4 u5 u6 u7 u8 u9 u10 : Value) :
    ∃ F, F = ((((((((((w.setCell ⟨g, 0, none⟩ u0).setCell ⟨g, 1, none⟩ u1).setCell ⟨g, 2, none⟩ u2).setCell ⟨g, 3, none⟩ u3).setCell ⟨g, 4, none⟩ u4).setCell ⟨g, 5, none⟩ u5).setCell ⟨g, 6, none⟩ u6).setCell ⟨g, 7, none⟩ u7).setCell ⟨g, 8, none⟩ u8).setCell ⟨g, 9, none⟩ u9).setCell ⟨g, 10, none⟩ u10 ∧ F.heap[g]? = some (.cells #[u0, u1, u2, u3, u4, u5, u6, u7, u8, u9, u10] T (0, 0)) ∧ SameBut g w F := by
  refine ⟨_, rfl, ?_, ?_⟩
  · simp [World.setCell, Array.getElem?_modify, h]
  · exact (((((((((((SameBut.refl g w).set 0 u0).set 1 u1).set 2 u2).set 3 u3).set 4 u4).set 5 u5).set 6 u6).set 7 u7).set 8 u8).set 9 u9).set 10 u10
theorem bx_cells11 {w : World} {g : Nat} {T : TypeId} {u0 u1 u2 u3 u4 u5 u6 u7 u8 u9 u10 : Value} (h : w.heap[g]? = some (.cells #[u0, u1, u2, u3, u4, u5, u6, u7, u8, u9, u10] T (0, 0))) : w.cell? ⟨g, 0, none⟩ = some u0 ∧ w.cell? ⟨g, 1, none⟩ = some u1 ∧ w.cell? ⟨g, 2, none⟩ = some u2 ∧ w.cell? ⟨g, 3, none⟩ = some u3 ∧ w.cell? ⟨g, 4, none⟩ = some u4 ∧ w.cell? ⟨g, 5, none⟩ = some u5 ∧ w.cell? ⟨g, 6, none⟩ = some u6 ∧ w.cell? ⟨g, 7, none⟩ = some u7 ∧ w.cell? ⟨g, 8, none⟩ = some u8 ∧ w.cell? ⟨g, 9, none⟩ = some u9 ∧ w.cell? ⟨g, 10, none⟩ = some u10 ∧ (∀ i, w.frozen? ⟨g, i, none⟩ = false) := by
  refine ⟨?_, ?_, ?_, ?_, ?_, ?_, ?_, ?_, ?_, ?_, ?_, fun i => ?_⟩ <;> simp [World.cell?, World.frozen?, h]

theorem new_blk (w : World) (o : Obj) : (w.alloc o).heap[w.heap.size]? = some o := World.alloc_heap_new w o
/-- Tokens that lie below the reader. -/
structure Toks (w : World) (g : Nat) (A : Option Addr) (c : Nat) (l : List Tk) : Prop where
  le : l.length ≤ c
  cap : c ≤ maxLen
  nil : A = none → c = 0
  at_ : 0 < l.length → ∃ b off, A = some ⟨b, off, none⟩ ∧ b < g ∧ ∀ (j : Nat) x, l[j]? = some x → E8.cells4 w b (off + j * 4) x
theorem Toks.next {a b : World} {g c : Nat} {A : Option Addr} {l : List Tk} (h : Toks a g A c l) (hb : Below g a b) : Toks b g A c l :=
  ⟨h.le, h.cap, h.nil, fun h0 => by
    obtain ⟨x, off, e, hg, hc⟩ := h.at_ h0
    exact ⟨x, off, e, hg, fun j t hj => ⟨cell_below hb (hc j t hj).c0 hg, cell_below hb (hc j t hj).c1 hg, cell_below hb (hc j t hj).c2 hg, cell_below hb (hc j t hj).c3 hg⟩⟩⟩
/-- What holds of each token. -/
structure TkOk (t : Tk) : Prop where
  n0 : -9223372036854775808 ≤ t.n
  n1 : t.n ≤ 9223372036854775807
  s1 : t.s.length ≤ 20000
/-- The reader: what is left, where the query ends, how many calls so far. -/
structure Rdr (w : World) (g : Nat) (q : Int) (l : List Tk) (n : Nat) : Prop where
  blk : ∃ A c, w.heap[g]? = some (.cells #[.slice A l.length c, .int .i64 q, .int .i64 (n : Int)] 64 (0, 0)) ∧ Toks w g A c l
  big : l.length ≤ 20001
  few : n ≤ 200
  tok : ∀ t ∈ l, TkOk t
theorem Rdr.lt {w : World} {g n : Nat} {q : Int} {l : List Tk} (h : Rdr w g q l n) : g < w.heap.size := by
  obtain ⟨A, c, h, _⟩ := h.blk
  exact (Array.getElem?_eq_some_iff.1 h).1
theorem Rdr.next {a b : World} {g n : Nat} {q : Int} {l : List Tk} (h : Rdr a g q l n) (hb : Below a.heap.size a b) : Rdr b g q l n := by
  have hl := h.lt
  obtain ⟨A, c, e, t⟩ := h.blk
  exact ⟨⟨A, c, (hb.block g hl).trans e, t.next (hb.mono (Nat.le_of_lt hl))⟩, h.big, h.few, h.tok⟩
theorem Rdr.same {a b : World} {g n k : Nat} {q : Int} {l : List Tk} (h : Rdr a g q l n) (hb : SameBut k a b) (hk : g < k) : Rdr b g q l n := by
  obtain ⟨A, c, e, t⟩ := h.blk
  exact ⟨⟨A, c, (hb.block g (by omega)).trans e, t.next ⟨hb.os, hb.tape, hb.output, Nat.le_of_eq hb.size.symm, fun i hi => hb.block i (by omega)⟩⟩, h.big, h.few, h.tok⟩

def hdT (l : List Tk) : Tk := l.headD E8.TK.zero
def plc (q : Int) : List Tk → Int
  | [] => q
  | t :: _ => t.p
def isN (t : Tk) (s : List UInt8) : Bool := t.k == 1 && t.s == s
def sees (l : List Tk) (s : List UInt8) : Bool := (hdT l).k == 4 && (hdT l).s == s
def tmE (l : List Tk) : Int := if (hdT l).k = 1 ∨ (hdT l).k = 2 ∨ (hdT l).k = 3 then 3 else if sees l [91] then 3 else 30
/-- A token's box. -/
def BT (w : World) (b : Nat) (t : Tk) : Prop := w.heap[b]? = some (.cells #[.int .i64 t.k, .int .i64 t.p, .string (bsT t.s), .int .i64 t.n] 42 (0, 0))
theorem BT.new (w : World) (t : Tk) : BT (w.alloc (.cells #[.int .i64 t.k, .int .i64 t.p, .string (bsT t.s), .int .i64 t.n] 42)) w.heap.size t := new_blk w _
theorem BT.lt {a : World} {g : Nat} {t : Tk} (h : BT a g t) : g < a.heap.size := (Array.getElem?_eq_some_iff.1 h).1
theorem BT.next {a b : World} {g : Nat} {t : Tk} (h : BT a g t) (hb : Below a.heap.size a b) : BT b g t := (hb.block g h.lt).trans h
set_option maxHeartbeats 1600000 in
theorem next_any (w : World) (g n : Nat) (q : Int) (l : List Tk) (h : Rdr w g q l n) : Calls Tryz.prog 42 #[.pointer (some ⟨g, 0, none⟩)] w fun e w' => e = .returned (hdT l).v ∧ Below w.heap.size w w' := by
  have H := Lib.hid h
  have hbig : l.length ≤ 20001 := h.big
  clear h
  go_enter Tryz.func42, Tryz.ntmps42
  go_upto_region 1 with fail
  have k1 := new_blk w (.cells #[.int .i64 0, .int .i64 0, .string ⟨#[]⟩, .int .i64 0] 42)
  generalize hW : World.alloc w _ = W at k1
  have HB : Hid (Below w.heap.size w W) := Lib.hid (by rw [← hW]; exact below_new _ _)
  have K1 := Lib.hid k1
  have H1 := Lib.hid (H.out.next HB.out)
  obtain ⟨z0, z1, z2, z3, zf⟩ := bx_cells4 k1
  have f0 := zf 0
  have f1 := zf 1
  have f2 := zf 2
  have f3 := zf 3
  clear zf hW k1 H
  obtain ⟨A, c, e, t⟩ := H1.out.blk
  obtain ⟨c0, c1, c2, _⟩ := bx_cells3 e
  cases l with
  | nil =>
    have HS := Lib.hid (bx_set4 K1.out (.int .i64 0) (.int .i64 0) (.string ⟨#[]⟩) (.int .i64 0))
    clear e t
    go_wp2
    obtain ⟨F, hF, hb, hs⟩ := HS.out
    rw [← hF]
    clear hF
    obtain ⟨r0, r1, r2, r3, _⟩ := bx_cells4 hb
    exact bodyPost_ret (v := .agg #[.int .i64 0, .int .i64 0, .string ⟨#[]⟩, .int .i64 0]) (by simp [results, Tryz.results42, go_sem, r0, r1, r2, r3]) rfl ⟨rfl, hs.below HB.out (Nat.le_refl _)⟩
  | cons x r =>
    obtain ⟨b, off, rfl, hb, hc⟩ := t.at_ (by simp)
    obtain ⟨q0, q1, q2, q3⟩ := hc 0 x rfl
    rw [Nat.zero_mul, Nat.add_zero] at q0 q1 q2 q3
    have hl : (0 : Int) < (((x :: r).length : Nat) : Int) := by simp <;> omega
    have hl3 : ((((x :: r).length : Nat) : Int) == 0) = false := by rw [beq_eq_false_iff_ne]; omega
    have hl2 : 0 < (x :: r).length := by simp
    have HS := Lib.hid (bx_set4 K1.out (.int .i64 x.k) (.int .i64 x.p) (.string (bsT x.s)) (.int .i64 x.n))
    generalize (x :: r).length = m at hl hl2 hl3 c0 hbig
    clear e t hc
    go_wp2
    obtain ⟨F, hF, hb, hs⟩ := HS.out
    rw [← hF]
    clear hF
    obtain ⟨r0, r1, r2, r3, _⟩ := bx_cells4 hb
    exact bodyPost_ret (v := .agg #[.int .i64 x.k, .int .i64 x.p, .string (bsT x.s), .int .i64 x.n]) (by simp [results, Tryz.results42, go_sem, r0, r1, r2, r3]) rfl ⟨rfl, hs.below HB.out (Nat.le_refl _)⟩
end Go.Proofs.YtllkimdlmnjoiaaGreatDoor
/- The parser's row of tokens: place, skip, sees, take, tooMany; isName, amount. -/
namespace Go.Proofs.YtllkimdlmnjoiaaGreatDoor
set_option maxRecDepth 100000
open Go.RowKit Go.Sort

set_option maxHeartbeats 1600000 in
theorem place_any (w : World) (g n : Nat) (q : Int) (l : List Tk) (h : Rdr w g q l n) : Calls Tryz.prog 25 #[.pointer (some ⟨g, 0, none⟩)] w fun e w' => e = .returned (.int .i64 (plc q l)) ∧ w' = w := by
  obtain ⟨A, c, e, t⟩ := h.blk
  obtain ⟨c0, c1, c2, _⟩ := bx_cells3 e
  have hbig : l.length ≤ 20001 := h.big
  clear h
  cases l with
  | nil =>
    clear e t
    go_enter Tryz.func25, Tryz.ntmps25
    go_wp2
    go_ret
    exact ⟨rfl, rfl⟩
  | cons x r =>
    obtain ⟨b, off, rfl, hb, hc⟩ := t.at_ (by simp)
    obtain ⟨q0, q1, q2, q3⟩ := hc 0 x rfl
    rw [Nat.zero_mul, Nat.add_zero] at q0 q1 q2 q3
    have hl : (0 : Int) < (((x :: r).length : Nat) : Int) := by simp <;> omega
    have hl3 : ((((x :: r).length : Nat) : Int) == 0) = false := by rw [beq_eq_false_iff_ne]; omega
    have hl2 : 0 < (x :: r).length := by simp
    have FIN := Lib.hid (show plc q (x :: r) = x.p from rfl)
    generalize plc q (x :: r) = z at FIN ⊢
    generalize (x :: r).length = m at hl hl2 hl3 c0 hbig
    clear e t hc
    go_enter Tryz.func25, Tryz.ntmps25
    go_wp2
    go_ret
    exact ⟨by rw [FIN.out]; rfl, rfl⟩
theorem set_first {w : World} {g : Nat} {T : TypeId} {o0 o1 o2 u : Value} (h : w.heap[g]? = some (.cells #[o0, o1, o2] T (0, 0))) : (w.setCell ⟨g, 0, none⟩ u).heap[g]? = some (.cells #[u, o1, o2] T (0, 0)) ∧ SameBut g w (w.setCell ⟨g, 0, none⟩ u) :=
  ⟨by simp [World.setCell, Array.getElem?_modify, h], (SameBut.refl g w).set 0 u⟩
theorem Rdr.tail {w F : World} {g n : Nat} {q : Int} {x : Tk} {r : List Tk} {b off c : Nat} (t : Toks w g (some ⟨b, off, none⟩) c (x :: r)) (hbig : (x :: r).length ≤ 20001) (hfew : n ≤ 200) (htok : ∀ t ∈ x :: r, TkOk t) (hs : SameBut g w F) {o c' : Nat} (ho : r ≠ [] → o = off + 4) (hc' : c' = c - 1)
    (hb : F.heap[g]? = some (.cells #[.slice (some ⟨b, o, none⟩) r.length c', .int .i64 q, .int .i64 (n : Int)] 64 (0, 0))) : Rdr F g q r n := by
  obtain ⟨b', off', e, hbg, hc⟩ := t.at_ (by simp)
  injection e with e
  injection e with e1 e2
  subst e1 e2
  have hle := t.le
  have hcap := t.cap
  simp only [List.length_cons] at hle hbig
  refine ⟨⟨_, _, hb, ⟨by omega, by omega, (fun e => by cases e), fun h0 => ⟨b, o, rfl, hbg, fun j y hj => ?_⟩⟩⟩, by omega, hfew, fun t ht => htok t (by simp [ht])⟩
  have hr : r ≠ [] := by intro e; subst e; simp at h0
  rw [ho hr]
  have := hc (j + 1) y (by simpa using hj)
  rw [show off + 4 + j * 4 = off + (j + 1) * 4 by omega]
  have k : ∀ i, F.cell? ⟨b, i, none⟩ = w.cell? ⟨b, i, none⟩ := fun i => World.cell?_of_block (w := w) (a := ⟨b, i, none⟩) (hs.block b (by omega))
  exact ⟨(k _).trans this.c0, (k _).trans this.c1, (k _).trans this.c2, (k _).trans this.c3⟩
set_option maxHeartbeats 1600000 in
theorem skip_any (w : World) (g n : Nat) (q : Int) (x : Tk) (r : List Tk) (h : Rdr w g q (x :: r) n) : Calls Tryz.prog 43 #[.pointer (some ⟨g, 0, none⟩)] w fun e w' => e = .returned (.tuple #[]) ∧ Rdr w' g q r n ∧ RK g w w' := by
  obtain ⟨A, c, e, t⟩ := h.blk
  obtain ⟨c0, c1, c2, hf⟩ := bx_cells3 e
  have hg := h.lt
  have hbig : (x :: r).length ≤ 20001 := h.big
  have hfew := h.few
  have htok := h.tok
  have t' := t
  obtain ⟨b, off, rfl, hb, hc⟩ := t'.at_ (by simp)
  have hle := t.le
  have hcap := t.cap
  have f0 := hf 0
  have HS := Lib.hid (fun u => set_first (u := u) e)
  have TL := Lib.hid (fun (F : World) (hs : SameBut g w F) (o c' : Nat) (ho : r ≠ [] → o = off + 4) (hc' : c' = c - 1) (hb : F.heap[g]? = some (.cells #[.slice (some ⟨b, o, none⟩) r.length c', .int .i64 q, .int .i64 (n : Int)] 64 (0, 0))) => Rdr.tail t hbig hfew htok hs ho hc' hb)
  simp only [List.length_cons] at hle hbig c0
  clear h e t hc hf t' htok
  go_enter Tryz.func43, Tryz.ntmps43
  go_wp2
  all_goals
    go_end0
    refine ⟨rfl, TL.out _ (HS.out _).2 _ _ (fun hr => ?_) (by omega) (HS.out _).1, (HS.out _).2.rk⟩
    first | rfl | (exfalso; exact hr (List.eq_nil_of_length_eq_zero (by omega)))
set_option maxHeartbeats 1600000 in
theorem sees_any (w : World) (g n : Nat) (q : Int) (l : List Tk) (s : List UInt8) (h : Rdr w g q l n) : Calls Tryz.prog 64 #[.pointer (some ⟨g, 0, none⟩), .string (bsT s)] w fun e w' => e = .returned (.bool (sees l s)) ∧ Below w.heap.size w w' := by
  have CT := Lib.hid (next_any w g n q l h)
  have SE := Lib.hid (show sees l s = ((hdT l).k == 4 && (hdT l).s == s) from rfl)
  obtain ⟨z, hz⟩ : ∃ z, z = sees l s := ⟨_, rfl⟩
  rw [← hz] at SE ⊢
  generalize hdT l = t at CT SE
  clear h hz
  go_enter Tryz.func64, Tryz.ntmps64
  go_wp2_with fail
  refine CT.out.mono ?_
  rintro e w1 ⟨rfl, hb⟩
  have B1 := Lib.hid hb
  clear CT hb
  go_upto_region 2 with fail
  have k1 := BT.new w1 t
  generalize hW : World.alloc w1 _ = W at k1
  have K1 : Hid (BT W w1.heap.size t) := Lib.hid k1
  have HB : Hid (Below w.heap.size w W) := Lib.hid (by rw [← hW]; exact bnext B1.out (below_new _ _))
  obtain ⟨a0, a1, a2, a3, _⟩ := bx_cells4 K1.out
  clear hW k1
  have EQ := bsT_beq t.s s
  cases hk : (t.k == 4)
  · have FIN := Lib.hid (show z = false by rw [SE.out, hk]; rfl)
    clear EQ
    go_wp2
    go_ret
    exact ⟨by rw [FIN.out]; rfl, HB.out⟩
  · cases hs : (t.s == s)
    · have FIN := Lib.hid (show z = false by rw [SE.out, hk, hs]; rfl)
      rw [hs] at EQ
      clear hs
      go_wp2
      go_ret
      exact ⟨by rw [FIN.out]; rfl, HB.out⟩
    · have FIN := Lib.hid (show z = true by rw [SE.out, hk, hs]; rfl)
      rw [hs] at EQ
      clear hs
      go_wp2
      go_ret
      exact ⟨by rw [FIN.out]; rfl, HB.out⟩
set_option maxHeartbeats 1600000 in
theorem isN_any (w : World) (t : Tk) (s : List UInt8) : Calls Tryz.prog 41 #[t.v, .string (bsT s)] w fun e w' => e = .returned (.bool (isN t s)) ∧ Below w.heap.size w w' := by
  have SE := Lib.hid (show isN t s = (t.k == 1 && t.s == s) from rfl)
  obtain ⟨z, hz⟩ : ∃ z, z = isN t s := ⟨_, rfl⟩
  rw [← hz] at SE ⊢
  clear hz
  go_enter Tryz.func41, Tryz.ntmps41
  go_upto_region 1 with fail
  have k1 := BT.new w t
  generalize hW : World.alloc w _ = W at k1
  have K1 : Hid (BT W w.heap.size t) := Lib.hid k1
  have HB : Hid (Below w.heap.size w W) := Lib.hid (by rw [← hW]; exact below_new _ _)
  obtain ⟨a0, a1, a2, a3, _⟩ := bx_cells4 K1.out
  clear hW k1
  have EQ := bsT_beq t.s s
  cases hk : (t.k == 1)
  · have FIN := Lib.hid (show z = false by rw [SE.out, hk]; rfl)
    clear EQ
    go_wp2
    go_ret
    exact ⟨by rw [FIN.out]; rfl, HB.out⟩
  · cases hs : (t.s == s)
    · have FIN := Lib.hid (show z = false by rw [SE.out, hk, hs]; rfl)
      rw [hs] at EQ
      clear hs
      go_wp2
      go_ret
      exact ⟨by rw [FIN.out]; rfl, HB.out⟩
    · have FIN := Lib.hid (show z = true by rw [SE.out, hk, hs]; rfl)
      rw [hs] at EQ
      clear hs
      go_wp2
      go_ret
      exact ⟨by rw [FIN.out]; rfl, HB.out⟩
theorem sees_cons {l : List Tk} {s : List UInt8} (h : sees l s = true) : ∃ x r, l = x :: r := by
  cases l with
  | nil => simp [sees, hdT, E8.TK.zero] at h
  | cons x r => exact ⟨x, r, rfl⟩
set_option maxHeartbeats 1600000 in
theorem take_any (w : World) (g n : Nat) (q : Int) (l : List Tk) (s : List UInt8) (h : Rdr w g q l n) : Calls Tryz.prog 92 #[.pointer (some ⟨g, 0, none⟩), .string (bsT s)] w fun e w' => e = .returned (.bool (sees l s)) ∧ Rdr w' g q (if sees l s = true then l.tail else l) n ∧ RK g w w' := by
  have CT := Lib.hid (sees_any w g n q l s h)
  have H := Lib.hid h
  clear h
  cases hz : sees l s
  case false =>
    rw [hz] at CT
    clear hz
    go_enter Tryz.func92, Tryz.ntmps92
    go_wp2_with fail
    refine CT.out.mono ?_
    rintro e w1 ⟨rfl, hb⟩
    have B1 := Lib.hid hb
    clear CT hb
    go_wp2
    go_ret
    exact ⟨rfl, H.out.next B1.out, RK.of B1.out⟩
  case true =>
    obtain ⟨x, r, rfl⟩ := sees_cons hz
    rw [hz] at CT
    clear hz
    go_enter Tryz.func92, Tryz.ntmps92
    go_wp2_with fail
    refine CT.out.mono ?_
    rintro e w1 ⟨rfl, hb⟩
    have B1 := Lib.hid hb
    have C2 := Lib.hid (skip_any w1 g n q x r (H.out.next hb))
    clear CT hb
    go_wp2_with fail
    refine C2.out.mono ?_
    rintro e w2 ⟨rfl, hr, hk⟩
    have H2 := Lib.hid hr
    have K2 := Lib.hid ((RK.of B1.out).trans hk)
    clear C2 hr hk
    go_wp2
    go_ret
    exact ⟨rfl, H2.out, K2.out⟩
theorem fieldT (k p : Int) (s : ByteArray) (n : Int) (w : World) : (Instr.field 42 (.agg #[.int .i64 k, .int .i64 p, .string s, .int .i64 n]) 0).run Tryz.prog w = .ok (.int .i64 k) w := by
  kernel_rfl
set_option maxHeartbeats 1600000 in
theorem tooMany_any (w : World) (g n : Nat) (q : Int) (l : List Tk) (h : Rdr w g q l n) : Calls Tryz.prog 95 #[.pointer (some ⟨g, 0, none⟩)] w fun e w' => e = .returned (.int .i64 (tmE l)) ∧ Below w.heap.size w w' := by
  have CT := Lib.hid (next_any w g n q l h)
  have CS := Lib.hid (fun w' (hb : Below w.heap.size w w') => sees_any w' g n q l [91] (h.next hb))
  have SE := Lib.hid (show tmE l = if (hdT l).k = 1 ∨ (hdT l).k = 2 ∨ (hdT l).k = 3 then 3 else if sees l [91] then 3 else 30 from rfl)
  obtain ⟨z, hz⟩ : ∃ z, z = tmE l := ⟨_, rfl⟩
  rw [← hz] at SE ⊢
  generalize hdT l = t at CT SE
  generalize sees l [91] = b at CS SE
  rw [show bsT [91] = ⟨#[91]⟩ from rfl] at CS
  unfold E8.TK.v at CT
  clear h hz
  go_enter Tryz.func95, Tryz.ntmps95
  go_wp2_with fail
  refine CT.out.mono ?_
  rintro e w1 ⟨rfl, hb⟩
  have B1 := Lib.hid hb
  have C2 := Lib.hid (CS.out w1 hb)
  clear CT CS hb
  have FK := fieldT t.k t.p (E8.bs t.s) t.n w1
  by_cases h1 : t.k = 1
  · have e1 : (t.k == 1) = true := by rw [h1]; rfl
    have FIN := Lib.hid (show z = 3 by rw [SE.out, if_pos (.inl h1)])
    clear h1
    go_wp2
    go_ret
    exact ⟨by rw [FIN.out]; rfl, B1.out⟩
  have e1 : (t.k == 1) = false := by rw [beq_eq_false_iff_ne]; exact h1
  by_cases h2 : t.k = 2
  · have e2 : (t.k == 2) = true := by rw [h2]; rfl
    have FIN := Lib.hid (show z = 3 by rw [SE.out, if_pos (.inr (.inl h2))])
    clear h2 h1
    go_wp2
    go_ret
    exact ⟨by rw [FIN.out]; rfl, B1.out⟩
  have e2 : (t.k == 2) = false := by rw [beq_eq_false_iff_ne]; exact h2
  by_cases h3 : t.k = 3
  · have e3 : (t.k == 3) = true := by rw [h3]; rfl
    have FIN := Lib.hid (show z = 3 by rw [SE.out, if_pos (.inr (.inr h3))])
    clear h3 h2 h1
    go_wp2
    go_ret
    exact ⟨by rw [FIN.out]; rfl, B1.out⟩
  have e3 : (t.k == 3) = false := by rw [beq_eq_false_iff_ne]; exact h3
  have EQ := Lib.hid (show z = if b then 3 else 30 by rw [SE.out, if_neg (by omega)])
  clear h1 h2 h3 SE
  go_wp2_with fail
  refine C2.out.mono ?_
  rintro e w2 ⟨rfl, hb⟩
  have B2 := Lib.hid (bnext B1.out hb)
  clear C2 hb
  cases b
  · go_wp2
    go_ret
    exact ⟨by rw [EQ.out]; rfl, B2.out⟩
  · go_wp2
    go_ret
    exact ⟨by rw [EQ.out]; rfl, B2.out⟩
theorem amt_new (w : World) (a : Int) (m : Bool) : (w.alloc (.cells #[.int .i64 a, .bool m] 151)).cell? ⟨w.heap.size, 0, none⟩ = some (.int .i64 a) ∧ (w.alloc (.cells #[.int .i64 a, .bool m] 151)).cell? ⟨w.heap.size, 1, none⟩ = some (.bool m) := by
  obtain ⟨h0, h1, _⟩ := bx_cells2 (new_blk w (.cells #[.int .i64 a, .bool m] 151))
  exact ⟨h0, h1⟩
set_option maxHeartbeats 1600000 in
theorem enough_any (w : World) (a : Int) (m : Bool) (k : Nat) : Calls Tryz.prog 120 #[.agg #[.int .i64 a, .bool m], .int .i64 (k : Int)] w fun e w' => e = .returned (.bool (decide (a ≤ (k : Int)))) ∧ Below w.heap.size w w' := by
  obtain ⟨a0, a1⟩ := amt_new w a m
  have hb := Lib.hid (below_new w (.cells #[.int .i64 a, .bool m] 151))
  go_enter Tryz.func120, Tryz.ntmps120
  go_wp2
  go_ret
  exact ⟨by first | rfl | (congr 2), hb.out⟩
set_option maxHeartbeats 1600000 in
theorem another_any (w : World) (a : Int) (m : Bool) (k : Nat) : Calls Tryz.prog 121 #[.agg #[.int .i64 a, .bool m], .int .i64 (k : Int)] w fun e w' => e = .returned (.bool (decide ((k : Int) < a) || m)) ∧ Below w.heap.size w w' := by
  obtain ⟨a0, a1⟩ := amt_new w a m
  have hb := Lib.hid (below_new w (.cells #[.int .i64 a, .bool m] 151))
  by_cases h : (k : Int) < a
  · have e : (decide ((k : Int) < a) || m) = true := by simp [h]
    rw [e]
    clear e
    go_enter Tryz.func121, Tryz.ntmps121
    go_wp2
    go_ret
    exact ⟨rfl, hb.out⟩
  · have e : (decide ((k : Int) < a) || m) = m := by simp [h]
    rw [e]
    clear e
    go_enter Tryz.func121, Tryz.ntmps121
    go_wp2
    go_ret
    exact ⟨rfl, hb.out⟩
end Go.Proofs.YtllkimdlmnjoiaaGreatDoor
/- The parser's questions of a token; what it answers, plain. -/
namespace Go.Proofs.YtllkimdlmnjoiaaGreatDoor
set_option maxRecDepth 100000
open Go.RowKit Go.Sort

theorem bsT_lit (a b : List UInt8) : ((bsT a).toList == b) = (a == b) := by rw [E8.bs_toList]
def begV (t : Tk) : Bool := if t.k = 2 ∨ t.k = 3 then true else if t.k = 1 then t.s == [116, 114, 117, 101] || t.s == [102, 97, 108, 115, 101] else if t.k = 4 then t.s == [91] else false
def kindT (t : Tk) : Int := if t.k ≠ 1 then 0 else if t.s = [101, 113] then 1 else if t.s = [110, 101, 113] then 2 else if t.s = [108, 116] then 3 else if t.s = [108, 116, 101] then 4 else if t.s = [103, 116] then 5 else if t.s = [103, 116, 101] then 6 else if t.s = [98, 101, 116, 119, 101, 101, 110] then 7 else if t.s = [105, 110, 115, 105, 100, 101] then 8 else if t.s = [111, 117, 116, 115, 105, 100, 101] then 9 else if t.s = [119, 105, 116, 104, 105, 110] then 10 else if t.s = [119, 105, 116, 104, 111, 117, 116] then 11 else if t.s = [110, 111, 116] then 12 else if t.s = [97, 110, 100] then 13 else if t.s = [111, 114] then 14 else 0
def zV : V := .mk 0 0 ⟨#[]⟩ [] []
def zP : P := .mk 0 [] []
def singV (t : Tk) : V := if t.k = 2 then .mk 2 t.n ⟨#[]⟩ [] [] else if t.k = 3 then .mk 3 0 (bsT t.s) [] [] else if t.s = [116, 114, 117, 101] then .mk 1 1 ⟨#[]⟩ [] [] else .mk 1 0 ⟨#[]⟩ [] []
/-- How many values, or predicates, a predicate of a kind has: at least so many; or more. -/
def hasT (k : Int) : Int × Bool := if k = 7 ∨ k = 8 ∨ k = 9 then (2, false) else if k = 10 ∨ k = 11 then (0, true) else if k = 13 ∨ k = 14 then (2, true) else (1, false)
def madeT (k : Int) : Bool := k == 12 || k == 13 || k == 14
/-- What is read: a thing, what is left, the calls so far; or what is wrong, where the reader stands. -/
inductive Rs (α : Type) where
  | ok (x : α) (l : List Tk) (n : Nat)
  | bad (l : List Tk) (n : Nat) (e : Int)
def Rs.map {α β : Type} (f : α → β) : Rs α → Rs β
  | .ok x l n => .ok (f x) l n
  | .bad l n e => .bad l n e
/-- What stands between two signs, behind the first. -/
def btl {α : Type} (last : List UInt8) (a : Int) (m : Bool) (rd : Nat → List Tk → Nat → Rs α) : Nat → List α → List Tk → Nat → Rs (List α)
  | 0, _, l, n => .bad l n 30
  | f + 1, acc, l, n =>
    if (decide (a ≤ (acc.length : Int)) && sees l last) = true then .ok acc l.tail n
    else if (decide (0 < acc.length) && !((decide ((acc.length : Int) < a) || m) && sees l [44])) = true then .bad l n 30
    else match rd acc.length (if 0 < acc.length then l.tail else l) n with
      | .ok x l2 n2 => btl last a m rd f (acc ++ [x]) l2 n2
      | .bad l2 n2 e => .bad l2 n2 e
def btw {α : Type} (first last : List UInt8) (a : Int) (m : Bool) (rd : Nat → List Tk → Nat → Rs α) (l : List Tk) (n : Nat) : Rs (List α) :=
  if sees l first = true then btl last a m rd (l.length + 1) [] l.tail n else .bad l n 30
def rdV (val : List Tk → Nat → Rs V) (had : Nat) (l : List Tk) (n : Nat) : Rs V := if had = 1000 then .bad l n (tmE l) else val l n
/-- A value, with so many levels left. -/
def valT : Nat → List Tk → Nat → Rs V
  | 0, l, n => if begV (hdT l) = true then .bad l n 3 else .bad l n 30
  | r + 1, l, n => if begV (hdT l) = true then (if (hdT l).k = 4 then (btw [91] [93] 0 true (rdV (valT r)) l n).map (fun vs => .mk 6 0 ⟨#[]⟩ vs []) else .ok (singV (hdT l)) l.tail n) else .bad l n 30
def rdP (pr : List Tk → Nat → Rs P) (had : Nat) (l : List Tk) (n : Nat) : Rs P := if had = 1000 ∧ kindT (hdT l) ≠ 0 then .bad l n 3 else pr l n
def prdT : Nat → List Tk → Nat → Rs P
  | 0, l, n => if kindT (hdT l) = 0 then .bad l n 30 else .bad l n 3
  | r + 1, l, n => if kindT (hdT l) = 0 then .bad l n 30
    else if madeT (kindT (hdT l)) = true then (btw [40] [41] (hasT (kindT (hdT l))).1 (hasT (kindT (hdT l))).2 (rdP (prdT r)) l.tail n).map (fun ps => .mk (kindT (hdT l)) [] ps)
    else (btw [40] [41] (hasT (kindT (hdT l))).1 (hasT (kindT (hdT l))).2 (rdV (valT 12)) l.tail n).map (fun vs => .mk (kindT (hdT l)) vs [])
def argT (inner : List Tk → Nat → Rs (List C)) (l : List Tk) (n : Nat) : Rs Ag :=
  if begV (hdT l) = true then (valT 12 l n).map (fun v => ⟨1, v, zP, [], ⟨#[]⟩⟩)
  else if kindT (hdT l) ≠ 0 then (prdT 12 l n).map (fun p => ⟨2, zV, p, [], ⟨#[]⟩⟩)
  else if isN (hdT l) [95, 95] = true then (inner l n).map (fun c => ⟨3, zV, zP, c, ⟨#[]⟩⟩)
  else if ((hdT l).k == 1 && nameB (bsT (hdT l).s)) = true then .ok ⟨4, zV, zP, [], bsT (hdT l).s⟩ l.tail n
  else .bad l n 30
def rdA (arg : List Tk → Nat → Rs Ag) (had : Nat) (l : List Tk) (n : Nat) : Rs Ag := if had = 50 then .bad l n (tmE l) else arg l n
def nmT (l : List Tk) (n : Nat) : Rs (List UInt8) :=
  if ((hdT l).k == 1 && !((hdT l).s == [95, 95]) && nameB (bsT (hdT l).s)) = true then (if n = 200 then .bad l n 3 else .ok (hdT l).s l.tail (n + 1)) else .bad l n 30
def calT (inner : List Tk → Nat → Rs (List C)) (l : List Tk) (n : Nat) : Rs C :=
  if sees l [46] = true then
    match nmT l.tail n with
    | .ok s l2 n2 => (btw [40] [41] 0 true (rdA (argT inner)) l2 n2).map (fun a => .mk (bsT s) a)
    | .bad l2 n2 e => .bad l2 n2 e
  else .bad l n 30
def chl (cal : List Tk → Nat → Rs C) : Nat → List C → List Tk → Nat → Rs (List C)
  | 0, _, l, n => .bad l n 30
  | f + 1, acc, l, n =>
    if (acc.length == 0 || sees l [46]) = true then
      match cal l n with
      | .ok x l2 n2 => chl cal f (acc ++ [x]) l2 n2
      | .bad l2 n2 e => .bad l2 n2 e
    else .ok acc l n
/-- A chain, with so many levels left. -/
def chnT : Nat → List Tk → Nat → Rs (List C)
  | 0, l, n => .bad l n 3
  | r + 1, l, n => chl (calT (fun l n => if r = 0 then .bad l n 3 else chnT r l.tail n)) (l.length + 1) [] l n
def qryT (l : List Tk) : Rs (List C) :=
  if isN (hdT l) [103] = true then
    match chnT 10 l.tail 0 with
    | .ok c l2 n2 => if 0 < l2.length then .bad l2 n2 30 else .ok c l2 n2
    | .bad l2 n2 e => .bad l2 n2 e
  else .bad l 0 30
set_option maxHeartbeats 3200000 in
theorem begV_any (w : World) (t : Tk) : Calls Tryz.prog 115 #[t.v] w fun e w' => e = .returned (.bool (begV t)) ∧ Below w.heap.size w w' := by
  have SE := Lib.hid (show begV t = if t.k = 2 ∨ t.k = 3 then true else if t.k = 1 then t.s == [116, 114, 117, 101] || t.s == [102, 97, 108, 115, 101] else if t.k = 4 then t.s == [91] else false from rfl)
  obtain ⟨z, hz⟩ : ∃ z, z = begV t := ⟨_, rfl⟩
  rw [← hz] at SE ⊢
  clear hz
  have E1 := bsT_lit t.s [116, 114, 117, 101]
  have E2 := bsT_lit t.s [102, 97, 108, 115, 101]
  have E3 := bsT_lit t.s [91]
  generalize (t.s == [116, 114, 117, 101]) = x1 at E1 SE
  generalize (t.s == [102, 97, 108, 115, 101]) = x2 at E2 SE
  generalize (t.s == [91]) = x3 at E3 SE
  go_enter Tryz.func115, Tryz.ntmps115
  go_upto_region 1 with fail
  have k1 := BT.new w t
  generalize hW : World.alloc w _ = W at k1
  have HB : Hid (Below w.heap.size w W) := Lib.hid (by rw [← hW]; exact below_new _ _)
  obtain ⟨a0, a1, a2, a3, _⟩ := bx_cells4 k1
  clear hW k1
  by_cases h2 : t.k = 2
  · have e2 : (t.k == 2) = true := by rw [h2]; rfl
    have FIN := Lib.hid (show z = true by rw [SE.out, if_pos (.inl h2)])
    clear h2
    go_wp2
    go_ret
    exact ⟨by rw [FIN.out]; rfl, HB.out⟩
  have e2 : (t.k == 2) = false := by rw [beq_eq_false_iff_ne]; exact h2
  by_cases h3 : t.k = 3
  · have e3 : (t.k == 3) = true := by rw [h3]; rfl
    have FIN := Lib.hid (show z = true by rw [SE.out, if_pos (.inr h3)])
    clear h2 h3
    go_wp2
    go_ret
    exact ⟨by rw [FIN.out]; rfl, HB.out⟩
  have e3 : (t.k == 3) = false := by rw [beq_eq_false_iff_ne]; exact h3
  by_cases h1 : t.k = 1
  · have e1 : (t.k == 1) = true := by rw [h1]; rfl
    have FIN := Lib.hid (show z = (x1 || x2) by rw [SE.out, if_neg (by omega), if_pos h1])
    clear h1 h2 h3 SE
    cases x1
    · go_wp2
      go_ret
      exact ⟨by rw [FIN.out]; rfl, HB.out⟩
    · go_wp2
      go_ret
      exact ⟨by rw [FIN.out]; rfl, HB.out⟩
  have e1 : (t.k == 1) = false := by rw [beq_eq_false_iff_ne]; exact h1
  by_cases h4 : t.k = 4
  · have e4 : (t.k == 4) = true := by rw [h4]; rfl
    have FIN := Lib.hid (show z = x3 by rw [SE.out, if_neg (by omega), if_neg h1, if_pos h4])
    clear h1 h2 h3 h4 SE
    go_wp2
    go_ret
    exact ⟨by rw [FIN.out]; rfl, HB.out⟩
  have e4 : (t.k == 4) = false := by rw [beq_eq_false_iff_ne]; exact h4
  have FIN := Lib.hid (show z = false by rw [SE.out, if_neg (by omega), if_neg h1, if_neg h4])
  clear h1 h2 h3 h4 SE
  go_wp2
  go_ret
  exact ⟨by rw [FIN.out]; rfl, HB.out⟩
set_option maxHeartbeats 6400000 in
theorem kindT_any (w : World) (t : Tk) : Calls Tryz.prog 117 #[t.v] w fun e w' => e = .returned (.int .i64 (kindT t)) ∧ Below w.heap.size w w' := by
  have SE := Lib.hid (show kindT t = if t.k ≠ 1 then 0 else if t.s = [101, 113] then 1 else if t.s = [110, 101, 113] then 2 else if t.s = [108, 116] then 3 else if t.s = [108, 116, 101] then 4 else if t.s = [103, 116] then 5 else if t.s = [103, 116, 101] then 6 else if t.s = [98, 101, 116, 119, 101, 101, 110] then 7 else if t.s = [105, 110, 115, 105, 100, 101] then 8 else if t.s = [111, 117, 116, 115, 105, 100, 101] then 9 else if t.s = [119, 105, 116, 104, 105, 110] then 10 else if t.s = [119, 105, 116, 104, 111, 117, 116] then 11 else if t.s = [110, 111, 116] then 12 else if t.s = [97, 110, 100] then 13 else if t.s = [111, 114] then 14 else 0 from rfl)
  obtain ⟨z, hz⟩ : ∃ z, z = kindT t := ⟨_, rfl⟩
  rw [← hz] at SE ⊢
  clear hz
  go_enter Tryz.func117, Tryz.ntmps117
  go_upto_region 1 with fail
  have k1 := BT.new w t
  generalize hW : World.alloc w _ = W at k1
  have HB : Hid (Below w.heap.size w W) := Lib.hid (by rw [← hW]; exact below_new _ _)
  obtain ⟨a0, a1, a2, a3, _⟩ := bx_cells4 k1
  clear hW k1
  by_cases hk : t.k = 1
  case neg =>
    have e1 : (t.k == 1) = false := by rw [beq_eq_false_iff_ne]; exact hk
    have FIN := Lib.hid (show z = 0 by rw [SE.out, if_pos hk])
    clear hk
    go_wp2
    go_ret
    exact ⟨by rw [FIN.out]; rfl, HB.out⟩
  have e1 : (t.k == 1) = true := by rw [hk]; rfl
  go_upto_region 4 with fail
  have E0 := bsT_lit t.s [101, 113]
  by_cases h0 : t.s = [101, 113]
  · rw [show (t.s == [101, 113]) = true by rw [beq_iff_eq]; exact h0] at E0
    have FIN := Lib.hid (show z = 1 by rw [SE.out, if_neg (by omega), if_pos h0])
    clear hk h0
    go_wp2
    go_ret
    exact ⟨by rw [FIN.out]; rfl, HB.out⟩
  rw [show (t.s == [101, 113]) = false by rw [beq_eq_false_iff_ne]; exact h0] at E0
  have E1 := bsT_lit t.s [110, 101, 113]
  by_cases h1 : t.s = [110, 101, 113]
  · rw [show (t.s == [110, 101, 113]) = true by rw [beq_iff_eq]; exact h1] at E1
    have FIN := Lib.hid (show z = 2 by rw [SE.out, if_neg (by omega), if_neg h0, if_pos h1])
    clear hk h1 h0
    go_wp2
    go_ret
    exact ⟨by rw [FIN.out]; rfl, HB.out⟩
  rw [show (t.s == [110, 101, 113]) = false by rw [beq_eq_false_iff_ne]; exact h1] at E1
  have E2 := bsT_lit t.s [108, 116]
  by_cases h2 : t.s = [108, 116]
  · rw [show (t.s == [108, 116]) = true by rw [beq_iff_eq]; exact h2] at E2
    have FIN := Lib.hid (show z = 3 by rw [SE.out, if_neg (by omega), if_neg h0, if_neg h1, if_pos h2])
    clear hk h2 h0 h1
    go_wp2
    go_ret
    exact ⟨by rw [FIN.out]; rfl, HB.out⟩
  rw [show (t.s == [108, 116]) = false by rw [beq_eq_false_iff_ne]; exact h2] at E2
  have E3 := bsT_lit t.s [108, 116, 101]
  by_cases h3 : t.s = [108, 116, 101]
  · rw [show (t.s == [108, 116, 101]) = true by rw [beq_iff_eq]; exact h3] at E3
    have FIN := Lib.hid (show z = 4 by rw [SE.out, if_neg (by omega), if_neg h0, if_neg h1, if_neg h2, if_pos h3])
    clear hk h3 h0 h1 h2
    go_wp2
    go_ret
    exact ⟨by rw [FIN.out]; rfl, HB.out⟩
  rw [show (t.s == [108, 116, 101]) = false by rw [beq_eq_false_iff_ne]; exact h3] at E3
  have E4 := bsT_lit t.s [103, 116]
  by_cases h4 : t.s = [103, 116]
  · rw [show (t.s == [103, 116]) = true by rw [beq_iff_eq]; exact h4] at E4
    have FIN := Lib.hid (show z = 5 by rw [SE.out, if_neg (by omega), if_neg h0, if_neg h1, if_neg h2, if_neg h3, if_pos h4])
    clear hk h4 h0 h1 h2 h3
    go_wp2
    go_ret
    exact ⟨by rw [FIN.out]; rfl, HB.out⟩
  rw [show (t.s == [103, 116]) = false by rw [beq_eq_false_iff_ne]; exact h4] at E4
  have E5 := bsT_lit t.s [103, 116, 101]
  by_cases h5 : t.s = [103, 116, 101]
  · rw [show (t.s == [103, 116, 101]) = true by rw [beq_iff_eq]; exact h5] at E5
    have FIN := Lib.hid (show z = 6 by rw [SE.out, if_neg (by omega), if_neg h0, if_neg h1, if_neg h2, if_neg h3, if_neg h4, if_pos h5])
    clear hk h5 h0 h1 h2 h3 h4
    go_wp2
    go_ret
    exact ⟨by rw [FIN.out]; rfl, HB.out⟩
  rw [show (t.s == [103, 116, 101]) = false by rw [beq_eq_false_iff_ne]; exact h5] at E5
  have E6 := bsT_lit t.s [98, 101, 116, 119, 101, 101, 110]
  by_cases h6 : t.s = [98, 101, 116, 119, 101, 101, 110]
  · rw [show (t.s == [98, 101, 116, 119, 101, 101, 110]) = true by rw [beq_iff_eq]; exact h6] at E6
    have FIN := Lib.hid (show z = 7 by rw [SE.out, if_neg (by omega), if_neg h0, if_neg h1, if_neg h2, if_neg h3, if_neg h4, if_neg h5, if_pos h6])
    clear hk h6 h0 h1 h2 h3 h4 h5
    go_wp2
    go_ret
    exact ⟨by rw [FIN.out]; rfl, HB.out⟩
  rw [show (t.s == [98, 101, 116, 119, 101, 101, 110]) = false by rw [beq_eq_false_iff_ne]; exact h6] at E6
  have E7 := bsT_lit t.s [105, 110, 115, 105, 100, 101]
  by_cases h7 : t.s = [105, 110, 115, 105, 100, 101]
  · rw [show (t.s == [105, 110, 115, 105, 100, 101]) = true by rw [beq_iff_eq]; exact h7] at E7
    have FIN := Lib.hid (show z = 8 by rw [SE.out, if_neg (by omega), if_neg h0, if_neg h1, if_neg h2, if_neg h3, if_neg h4, if_neg h5, if_neg h6, if_pos h7])
    clear hk h7 h0 h1 h2 h3 h4 h5 h6
    go_wp2
    go_ret
    exact ⟨by rw [FIN.out]; rfl, HB.out⟩
  rw [show (t.s == [105, 110, 115, 105, 100, 101]) = false by rw [beq_eq_false_iff_ne]; exact h7] at E7
  have E8 := bsT_lit t.s [111, 117, 116, 115, 105, 100, 101]
  by_cases h8 : t.s = [111, 117, 116, 115, 105, 100, 101]
  · rw [show (t.s == [111, 117, 116, 115, 105, 100, 101]) = true by rw [beq_iff_eq]; exact h8] at E8
    have FIN := Lib.hid (show z = 9 by rw [SE.out, if_neg (by omega), if_neg h0, if_neg h1, if_neg h2, if_neg h3, if_neg h4, if_neg h5, if_neg h6, if_neg h7, if_pos h8])
    clear hk h8 h0 h1 h2 h3 h4 h5 h6 h7
    go_wp2
    go_ret
    exact ⟨by rw [FIN.out]; rfl, HB.out⟩
  rw [show (t.s == [111, 117, 116, 115, 105, 100, 101]) = false by rw [beq_eq_false_iff_ne]; exact h8] at E8
  have E9 := bsT_lit t.s [119, 105, 116, 104, 105, 110]
  by_cases h9 : t.s = [119, 105, 116, 104, 105, 110]
  · rw [show (t.s == [119, 105, 116, 104, 105, 110]) = true by rw [beq_iff_eq]; exact h9] at E9
    have FIN := Lib.hid (show z = 10 by rw [SE.out, if_neg (by omega), if_neg h0, if_neg h1, if_neg h2, if_neg h3, if_neg h4, if_neg h5, if_neg h6, if_neg h7, if_neg h8, if_pos h9])
    clear hk h9 h0 h1 h2 h3 h4 h5 h6 h7 h8
    go_wp2
    go_ret
    exact ⟨by rw [FIN.out]; rfl, HB.out⟩
  rw [show (t.s == [119, 105, 116, 104, 105, 110]) = false by rw [beq_eq_false_iff_ne]; exact h9] at E9
  have E10 := bsT_lit t.s [119, 105, 116, 104, 111, 117, 116]
  by_cases h10 : t.s = [119, 105, 116, 104, 111, 117, 116]
  · rw [show (t.s == [119, 105, 116, 104, 111, 117, 116]) = true by rw [beq_iff_eq]; exact h10] at E10
    have FIN := Lib.hid (show z = 11 by rw [SE.out, if_neg (by omega), if_neg h0, if_neg h1, if_neg h2, if_neg h3, if_neg h4, if_neg h5, if_neg h6, if_neg h7, if_neg h8, if_neg h9, if_pos h10])
    clear hk h10 h0 h1 h2 h3 h4 h5 h6 h7 h8 h9
    go_wp2
    go_ret
    exact ⟨by rw [FIN.out]; rfl, HB.out⟩
  rw [show (t.s == [119, 105, 116, 104, 111, 117, 116]) = false by rw [beq_eq_false_iff_ne]; exact h10] at E10
  have E11 := bsT_lit t.s [110, 111, 116]
  by_cases h11 : t.s = [110, 111, 116]
  · rw [show (t.s == [110, 111, 116]) = true by rw [beq_iff_eq]; exact h11] at E11
    have FIN := Lib.hid (show z = 12 by rw [SE.out, if_neg (by omega), if_neg h0, if_neg h1, if_neg h2, if_neg h3, if_neg h4, if_neg h5, if_neg h6, if_neg h7, if_neg h8, if_neg h9, if_neg h10, if_pos h11])
    clear hk h11 h0 h1 h2 h3 h4 h5 h6 h7 h8 h9 h10
    go_wp2
    go_ret
    exact ⟨by rw [FIN.out]; rfl, HB.out⟩
  rw [show (t.s == [110, 111, 116]) = false by rw [beq_eq_false_iff_ne]; exact h11] at E11
  have E12 := bsT_lit t.s [97, 110, 100]
  by_cases h12 : t.s = [97, 110, 100]
  · rw [show (t.s == [97, 110, 100]) = true by rw [beq_iff_eq]; exact h12] at E12
    have FIN := Lib.hid (show z = 13 by rw [SE.out, if_neg (by omega), if_neg h0, if_neg h1, if_neg h2, if_neg h3, if_neg h4, if_neg h5, if_neg h6, if_neg h7, if_neg h8, if_neg h9, if_neg h10, if_neg h11, if_pos h12])
    clear hk h12 h0 h1 h2 h3 h4 h5 h6 h7 h8 h9 h10 h11
    go_wp2
    go_ret
    exact ⟨by rw [FIN.out]; rfl, HB.out⟩
  rw [show (t.s == [97, 110, 100]) = false by rw [beq_eq_false_iff_ne]; exact h12] at E12
  have E13 := bsT_lit t.s [111, 114]
  by_cases h13 : t.s = [111, 114]
  · rw [show (t.s == [111, 114]) = true by rw [beq_iff_eq]; exact h13] at E13
    have FIN := Lib.hid (show z = 14 by rw [SE.out, if_neg (by omega), if_neg h0, if_neg h1, if_neg h2, if_neg h3, if_neg h4, if_neg h5, if_neg h6, if_neg h7, if_neg h8, if_neg h9, if_neg h10, if_neg h11, if_neg h12, if_pos h13])
    clear hk h13 h0 h1 h2 h3 h4 h5 h6 h7 h8 h9 h10 h11 h12
    go_wp2
    go_ret
    exact ⟨by rw [FIN.out]; rfl, HB.out⟩
  rw [show (t.s == [111, 114]) = false by rw [beq_eq_false_iff_ne]; exact h13] at E13
  have FIN := Lib.hid (show z = 0 by rw [SE.out, if_neg (by omega), if_neg h0, if_neg h1, if_neg h2, if_neg h3, if_neg h4, if_neg h5, if_neg h6, if_neg h7, if_neg h8, if_neg h9, if_neg h10, if_neg h11, if_neg h12, if_neg h13])
  clear hk h0 h1 h2 h3 h4 h5 h6 h7 h8 h9 h10 h11 h12 h13
  go_wp2
  go_ret
  exact ⟨by rw [FIN.out]; rfl, HB.out⟩
theorem two_new (w : World) (o p : Obj) : ((w.alloc o).alloc p).heap[w.heap.size]? = some o ∧ ((w.alloc o).alloc p).heap[w.heap.size + 1]? = some p := by
  have h1 := new_blk w o
  have h2 := new_blk (w.alloc o) p
  rw [size_alloc] at h2
  exact ⟨((below_new (w.alloc o) p).block _ (by simp)).trans h1, h2⟩
set_option maxHeartbeats 1600000 in
theorem single_any (w : World) (t : Tk) : Calls Tryz.prog 137 #[t.v] w fun e w' => e = .returned (.agg #[.int .i64 (singV t).k, .int .i64 (singV t).n, .string (singV t).s, .slice none 0 0, .slice none 0 0]) ∧ Below w.heap.size w w' := by
  have E1 := bsT_lit t.s [116, 114, 117, 101]
  go_enter Tryz.func137, Tryz.ntmps137
  go_upto_region 1 with fail
  generalize hW : World.alloc (World.alloc w _) _ = W
  obtain ⟨k1, k2⟩ : W.heap[w.heap.size]? = some (.cells #[.int .i64 t.k, .int .i64 t.p, .string (bsT t.s), .int .i64 t.n] 42 (0, 0)) ∧ W.heap[w.heap.size + 1]? = some (.cells #[.int .i64 0, .int .i64 0, .string ⟨#[]⟩, .slice none 0 0, .slice none 0 0] 77 (0, 0)) := by rw [← hW]; exact two_new _ _ _
  have HB : Hid (Below w.heap.size w W) := Lib.hid (by rw [← hW]; exact below_new2 _ _ _)
  obtain ⟨a0, a1, a2, a3, _⟩ := bx_cells4 k1
  obtain ⟨z0, z1, z2, z3, z4, zf⟩ := bx_cells5 k2
  have f0 := zf 0
  have f1 := zf 1
  have f2 := zf 2
  have f3 := zf 3
  have f4 := zf 4
  have HS := Lib.hid (fun u0 u1 u2 u3 u4 => bx_set5 k2 u0 u1 u2 u3 u4)
  clear hW k1 k2 zf
  have FIN : Hid (∀ (a b : Int) (s : ByteArray), singV t = .mk a b s [] [] → ∀ F : World, F = ((((W.setCell ⟨w.heap.size + 1, 0, none⟩ (.int .i64 a)).setCell ⟨w.heap.size + 1, 1, none⟩ (.int .i64 b)).setCell ⟨w.heap.size + 1, 2, none⟩ (.string s)).setCell ⟨w.heap.size + 1, 3, none⟩ (.slice none 0 0)).setCell ⟨w.heap.size + 1, 4, none⟩ (.slice none 0 0) →
      (F.cell? ⟨w.heap.size + 1, 0, none⟩ = some (.int .i64 a) ∧ F.cell? ⟨w.heap.size + 1, 1, none⟩ = some (.int .i64 b) ∧ F.cell? ⟨w.heap.size + 1, 2, none⟩ = some (.string s) ∧ F.cell? ⟨w.heap.size + 1, 3, none⟩ = some (.slice none 0 0) ∧ F.cell? ⟨w.heap.size + 1, 4, none⟩ = some (.slice none 0 0)) ∧ Below w.heap.size w F) := Lib.hid (by
    intro a b s _ F hF
    obtain ⟨F', hF', hb, hs⟩ := HS.out (.int .i64 a) (.int .i64 b) (.string s) (.slice none 0 0) (.slice none 0 0)
    rw [← hF', ] at hF
    subst hF
    obtain ⟨r0, r1, r2, r3, r4, _⟩ := bx_cells5 hb
    exact ⟨⟨r0, r1, r2, r3, r4⟩, hs.below HB.out (by omega)⟩)
  clear HS
  by_cases h2 : t.k = 2
  · have e2 : (t.k == 2) = true := by rw [h2]; rfl
    have EQ := Lib.hid (show singV t = .mk 2 t.n ⟨#[]⟩ [] [] by unfold singV; rw [if_pos h2])
    clear h2
    go_wp2
    obtain ⟨F, hF⟩ : ∃ F, F = ((((W.setCell ⟨w.heap.size + 1, 0, none⟩ (.int .i64 2)).setCell ⟨w.heap.size + 1, 1, none⟩ (.int .i64 t.n)).setCell ⟨w.heap.size + 1, 2, none⟩ (.string ⟨#[]⟩)).setCell ⟨w.heap.size + 1, 3, none⟩ (.slice none 0 0)).setCell ⟨w.heap.size + 1, 4, none⟩ (.slice none 0 0) := ⟨_, rfl⟩
    obtain ⟨⟨r0, r1, r2, r3, r4⟩, hbl⟩ := FIN.out _ _ _ EQ.out F hF
    rw [← hF]
    exact bodyPost_ret (v := .agg #[.int .i64 2, .int .i64 t.n, .string ⟨#[]⟩, .slice none 0 0, .slice none 0 0]) (by simp [results, Tryz.results137, go_sem, r0, r1, r2, r3, r4]) rfl ⟨by rw [EQ.out]; rfl, hbl⟩
  have e2 : (t.k == 2) = false := by rw [beq_eq_false_iff_ne]; exact h2
  by_cases h3 : t.k = 3
  · have e3 : (t.k == 3) = true := by rw [h3]; rfl
    have EQ := Lib.hid (show singV t = .mk 3 0 (bsT t.s) [] [] by unfold singV; rw [if_neg h2, if_pos h3])
    clear h2 h3
    go_wp2
    obtain ⟨F, hF⟩ : ∃ F, F = ((((W.setCell ⟨w.heap.size + 1, 0, none⟩ (.int .i64 3)).setCell ⟨w.heap.size + 1, 1, none⟩ (.int .i64 0)).setCell ⟨w.heap.size + 1, 2, none⟩ (.string (bsT t.s))).setCell ⟨w.heap.size + 1, 3, none⟩ (.slice none 0 0)).setCell ⟨w.heap.size + 1, 4, none⟩ (.slice none 0 0) := ⟨_, rfl⟩
    obtain ⟨⟨r0, r1, r2, r3, r4⟩, hbl⟩ := FIN.out _ _ _ EQ.out F hF
    rw [← hF]
    exact bodyPost_ret (v := .agg #[.int .i64 3, .int .i64 0, .string (bsT t.s), .slice none 0 0, .slice none 0 0]) (by simp [results, Tryz.results137, go_sem, r0, r1, r2, r3, r4]) rfl ⟨by rw [EQ.out]; rfl, hbl⟩
  have e3 : (t.k == 3) = false := by rw [beq_eq_false_iff_ne]; exact h3
  by_cases ht : t.s = [116, 114, 117, 101]
  · rw [show (t.s == [116, 114, 117, 101]) = true by rw [beq_iff_eq]; exact ht] at E1
    have EQ := Lib.hid (show singV t = .mk 1 1 ⟨#[]⟩ [] [] by unfold singV; rw [if_neg h2, if_neg h3, if_pos ht])
    clear h2 h3 ht
    go_wp2
    obtain ⟨F, hF⟩ : ∃ F, F = ((((W.setCell ⟨w.heap.size + 1, 0, none⟩ (.int .i64 1)).setCell ⟨w.heap.size + 1, 1, none⟩ (.int .i64 1)).setCell ⟨w.heap.size + 1, 2, none⟩ (.string ⟨#[]⟩)).setCell ⟨w.heap.size + 1, 3, none⟩ (.slice none 0 0)).setCell ⟨w.heap.size + 1, 4, none⟩ (.slice none 0 0) := ⟨_, rfl⟩
    obtain ⟨⟨r0, r1, r2, r3, r4⟩, hbl⟩ := FIN.out _ _ _ EQ.out F hF
    rw [← hF]
    exact bodyPost_ret (v := .agg #[.int .i64 1, .int .i64 1, .string ⟨#[]⟩, .slice none 0 0, .slice none 0 0]) (by simp [results, Tryz.results137, go_sem, r0, r1, r2, r3, r4]) rfl ⟨by rw [EQ.out]; rfl, hbl⟩
  · rw [show (t.s == [116, 114, 117, 101]) = false by rw [beq_eq_false_iff_ne]; exact ht] at E1
    have EQ := Lib.hid (show singV t = .mk 1 0 ⟨#[]⟩ [] [] by unfold singV; rw [if_neg h2, if_neg h3, if_neg ht])
    clear h2 h3 ht
    go_wp2
    obtain ⟨F, hF⟩ : ∃ F, F = ((((W.setCell ⟨w.heap.size + 1, 0, none⟩ (.int .i64 1)).setCell ⟨w.heap.size + 1, 1, none⟩ (.int .i64 0)).setCell ⟨w.heap.size + 1, 2, none⟩ (.string ⟨#[]⟩)).setCell ⟨w.heap.size + 1, 3, none⟩ (.slice none 0 0)).setCell ⟨w.heap.size + 1, 4, none⟩ (.slice none 0 0) := ⟨_, rfl⟩
    obtain ⟨⟨r0, r1, r2, r3, r4⟩, hbl⟩ := FIN.out _ _ _ EQ.out F hF
    rw [← hF]
    exact bodyPost_ret (v := .agg #[.int .i64 1, .int .i64 0, .string ⟨#[]⟩, .slice none 0 0, .slice none 0 0]) (by simp [results, Tryz.results137, go_sem, r0, r1, r2, r3, r4]) rfl ⟨by rw [EQ.out]; rfl, hbl⟩
theorem has_fin {w W : World} {g : Nat} (hb : Below w.heap.size w W) (hg : w.heap.size ≤ g) (k : W.heap[g]? = some (.cells #[.int .i64 0, .bool false] 151 (0, 0))) (a : Int) (m : Bool) :
    ((W.setCell ⟨g, 0, none⟩ (.int .i64 a)).setCell ⟨g, 1, none⟩ (.bool m)).cell? ⟨g, 0, none⟩ = some (.int .i64 a) ∧ ((W.setCell ⟨g, 0, none⟩ (.int .i64 a)).setCell ⟨g, 1, none⟩ (.bool m)).cell? ⟨g, 1, none⟩ = some (.bool m) ∧ Below w.heap.size w ((W.setCell ⟨g, 0, none⟩ (.int .i64 a)).setCell ⟨g, 1, none⟩ (.bool m)) := by
  obtain ⟨F, hF, h2, hs⟩ := bx_set2 k (.int .i64 a) (.bool m)
  rw [← hF]
  obtain ⟨r0, r1, _⟩ := bx_cells2 h2
  exact ⟨r0, r1, hs.below hb hg⟩
set_option maxHeartbeats 3200000 in
theorem has_any (w : World) (k : Int) : Calls Tryz.prog 140 #[.int .i64 k] w fun e w' => e = .returned (.agg #[.int .i64 (hasT k).1, .bool (hasT k).2]) ∧ Below w.heap.size w w' := by
  have SE := Lib.hid (show hasT k = if k = 7 ∨ k = 8 ∨ k = 9 then (2, false) else if k = 10 ∨ k = 11 then (0, true) else if k = 13 ∨ k = 14 then (2, true) else (1, false) from rfl)
  obtain ⟨z, hz⟩ : ∃ z, z = hasT k := ⟨_, rfl⟩
  rw [← hz] at SE ⊢
  clear hz
  go_enter Tryz.func140, Tryz.ntmps140
  go_upto_region 1 with fail
  have k1 := new_blk w (.cells #[.int .i64 0, .bool false] 151)
  generalize hW : World.alloc w _ = W at k1
  have HB : Hid (Below w.heap.size w W) := Lib.hid (by rw [← hW]; exact below_new _ _)
  obtain ⟨z0, z1, zf⟩ := bx_cells2 k1
  have f0 := zf 0
  have f1 := zf 1
  have FN := Lib.hid (fun a m => has_fin HB.out (Nat.le_refl _) k1 a m)
  clear hW k1 zf
  by_cases h7 : k = 7
  · have e7 : (k == 7) = true := by rw [h7]; rfl
    have EQ := Lib.hid (show z = (2, false) by rw [SE.out, if_pos (.inl h7)])
    clear h7 SE
    go_wp2
    obtain ⟨r0, r1, hbl⟩ := FN.out 2 false
    exact bodyPost_ret (v := .agg #[.int .i64 2, .bool false]) (by simp [results, Tryz.results140, go_sem, r0, r1]) rfl ⟨by rw [EQ.out], hbl⟩
  have e7 : (k == 7) = false := by rw [beq_eq_false_iff_ne]; exact h7
  by_cases h8 : k = 8
  · have e8 : (k == 8) = true := by rw [h8]; rfl
    have EQ := Lib.hid (show z = (2, false) by rw [SE.out, if_pos (.inr (.inl h8))])
    clear h7 h8 SE
    go_wp2
    obtain ⟨r0, r1, hbl⟩ := FN.out 2 false
    exact bodyPost_ret (v := .agg #[.int .i64 2, .bool false]) (by simp [results, Tryz.results140, go_sem, r0, r1]) rfl ⟨by rw [EQ.out], hbl⟩
  have e8 : (k == 8) = false := by rw [beq_eq_false_iff_ne]; exact h8
  by_cases h9 : k = 9
  · have e9 : (k == 9) = true := by rw [h9]; rfl
    have EQ := Lib.hid (show z = (2, false) by rw [SE.out, if_pos (.inr (.inr h9))])
    clear h7 h8 h9 SE
    go_wp2
    obtain ⟨r0, r1, hbl⟩ := FN.out 2 false
    exact bodyPost_ret (v := .agg #[.int .i64 2, .bool false]) (by simp [results, Tryz.results140, go_sem, r0, r1]) rfl ⟨by rw [EQ.out], hbl⟩
  have e9 : (k == 9) = false := by rw [beq_eq_false_iff_ne]; exact h9
  by_cases h10 : k = 10
  · have e10 : (k == 10) = true := by rw [h10]; rfl
    have EQ := Lib.hid (show z = (0, true) by rw [SE.out, if_neg (by omega), if_pos (.inl h10)])
    clear h7 h8 h9 h10 SE
    go_wp2
    obtain ⟨r0, r1, hbl⟩ := FN.out 0 true
    exact bodyPost_ret (v := .agg #[.int .i64 0, .bool true]) (by simp [results, Tryz.results140, go_sem, r0, r1]) rfl ⟨by rw [EQ.out], hbl⟩
  have e10 : (k == 10) = false := by rw [beq_eq_false_iff_ne]; exact h10
  by_cases h11 : k = 11
  · have e11 : (k == 11) = true := by rw [h11]; rfl
    have EQ := Lib.hid (show z = (0, true) by rw [SE.out, if_neg (by omega), if_pos (.inr h11)])
    clear h7 h8 h9 h10 h11 SE
    go_wp2
    obtain ⟨r0, r1, hbl⟩ := FN.out 0 true
    exact bodyPost_ret (v := .agg #[.int .i64 0, .bool true]) (by simp [results, Tryz.results140, go_sem, r0, r1]) rfl ⟨by rw [EQ.out], hbl⟩
  have e11 : (k == 11) = false := by rw [beq_eq_false_iff_ne]; exact h11
  by_cases h13 : k = 13
  · have e13 : (k == 13) = true := by rw [h13]; rfl
    have EQ := Lib.hid (show z = (2, true) by rw [SE.out, if_neg (by omega), if_neg (by omega), if_pos (.inl h13)])
    clear h7 h8 h9 h10 h11 h13 SE
    go_wp2
    obtain ⟨r0, r1, hbl⟩ := FN.out 2 true
    exact bodyPost_ret (v := .agg #[.int .i64 2, .bool true]) (by simp [results, Tryz.results140, go_sem, r0, r1]) rfl ⟨by rw [EQ.out], hbl⟩
  have e13 : (k == 13) = false := by rw [beq_eq_false_iff_ne]; exact h13
  by_cases h14 : k = 14
  · have e14 : (k == 14) = true := by rw [h14]; rfl
    have EQ := Lib.hid (show z = (2, true) by rw [SE.out, if_neg (by omega), if_neg (by omega), if_pos (.inr h14)])
    clear h7 h8 h9 h10 h11 h13 h14 SE
    go_wp2
    obtain ⟨r0, r1, hbl⟩ := FN.out 2 true
    exact bodyPost_ret (v := .agg #[.int .i64 2, .bool true]) (by simp [results, Tryz.results140, go_sem, r0, r1]) rfl ⟨by rw [EQ.out], hbl⟩
  have e14 : (k == 14) = false := by rw [beq_eq_false_iff_ne]; exact h14
  have EQ := Lib.hid (show z = (1, false) by rw [SE.out, if_neg (by omega), if_neg (by omega), if_neg (by omega)])
  clear h7 h8 h9 h10 h11 h13 h14 SE
  go_wp2
  obtain ⟨r0, r1, hbl⟩ := FN.out 1 false
  exact bodyPost_ret (v := .agg #[.int .i64 1, .bool false]) (by simp [results, Tryz.results140, go_sem, r0, r1]) rfl ⟨by rw [EQ.out], hbl⟩
set_option maxHeartbeats 1600000 in
theorem made_any (w : World) (k : Int) : Calls Tryz.prog 138 #[.int .i64 k] w fun e w' => e = .returned (.bool (madeT k)) ∧ w' = w := by
  have SE := Lib.hid (show madeT k = (k == 12 || k == 13 || k == 14) from rfl)
  obtain ⟨z, hz⟩ : ∃ z, z = madeT k := ⟨_, rfl⟩
  rw [← hz] at SE ⊢
  clear hz
  cases h12 : (k == 12)
  · cases h13 : (k == 13)
    · cases h14 : (k == 14)
      · have FIN := Lib.hid (show z = false by rw [SE.out, h12, h13, h14]; rfl)
        go_enter Tryz.func138, Tryz.ntmps138
        go_wp2
        go_ret
        exact ⟨by rw [FIN.out]; rfl, rfl⟩
      · have FIN := Lib.hid (show z = true by rw [SE.out, h12, h13, h14]; rfl)
        go_enter Tryz.func138, Tryz.ntmps138
        go_wp2
        go_ret
        exact ⟨by rw [FIN.out]; rfl, rfl⟩
    · have FIN := Lib.hid (show z = true by rw [SE.out, h12, h13]; rfl)
      go_enter Tryz.func138, Tryz.ntmps138
      go_wp2
      go_ret
      exact ⟨by rw [FIN.out]; rfl, rfl⟩
  · have FIN := Lib.hid (show z = true by rw [SE.out, h12]; rfl)
    go_enter Tryz.func138, Tryz.ntmps138
    go_wp2
    go_ret
    exact ⟨by rw [FIN.out]; rfl, rfl⟩
end Go.Proofs.YtllkimdlmnjoiaaGreatDoor
