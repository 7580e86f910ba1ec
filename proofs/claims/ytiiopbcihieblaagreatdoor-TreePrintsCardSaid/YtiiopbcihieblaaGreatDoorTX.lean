/- Carried over from an earlier seat. -/
import Derived.Test.YtiiopbcihieblaaGreatDoorTH
import Derived.Test.YtiiopbcihieblaaGreatDoorTW
namespace Go.Proofs.YtiiopbcihieblaaGreatDoor
set_option maxRecDepth 100000
set_option maxRecDepth 100000
open Go.RowKit Go.Sort

def qC (c : UInt8) : Bs := if c = 39 ∨ c = 92 then [92, c] else [c]
def qT (s : Bs) : Bs := 39 :: (s.flatMap qC ++ [39])
/-- The text of a value; of a predicate; of an argument; of a chain behind a word. -/
def txV : Nat → V → Bs
  | 0, _ => []
  | r + 1, v => if v.k = 1 then (if v.n = 0 then [102, 97, 108, 115, 101] else [116, 114, 117, 101]) else if v.k = 2 then digL v.n else if v.k = 3 then qT v.s.toList
    else [91] ++ (itemsT (txV r) 0 v.l ++ [93])
def nameP (k : Int) : Bs := namesB.getD k.toNat []
def txP : Nat → P → Bs
  | 0, _ => []
  | r + 1, p => nameP p.k ++ ([40] ++ ((if 0 < p.p.length then itemsT (txP r) 0 p.p else itemsT (txV 12) 0 p.v) ++ [41]))
def txG (f : List C → Bs) (g : Ag) : Bs := if g.k = 1 then txV 12 g.v else if g.k = 2 then txP 12 g.p else if g.k = 3 then f g.c else g.s.toList
def txCall (f : List C → Bs) (x : C) : Bs := [46] ++ (x.n.toList ++ ([40] ++ (itemsT (txG f) 0 x.a ++ [41])))
def txC : Nat → Bs → List C → Bs
  | 0, first, _ => first
  | r + 1, first, l => first ++ l.flatMap (txCall (txC r [95, 95]))

/-- As much as a text may hold. -/
abbrev MX : Nat := 140737488355328
theorem toArr (s : ByteArray) : (⟨s.toList.toArray⟩ : ByteArray) = s := str_eta s

set_option maxHeartbeats 3200000 in
theorem writeRowV (f : V → Bs) (S : V → Prop) (B b d : Nat) (hcl : ∀ (W : World) (bs : Bs) (x : At), NM W → WB W B b bs → Rd W 0 B d x.t x.A x.c x.A' x.c' → S x.t → bs.length + (f x.t).length ≤ MX → Calls Tryz.prog 62 #[.pointer (some ⟨b, 0, none⟩), x.v] W (WPost B b (bs ++ f x.t) W))
    (w : World) (hm : NM w) (hB : 0 < B) (bs first last : Bs) (sf sl : ByteArray) (hsf : sf.toList = first) (hsl : sl.toList = last) (A : Option Addr) (c : Nat) (l : List V) (h : WB w B b bs) (hr : Rw w 0 B d A c l) (hS : ∀ x ∈ l, S x) (hl : bs.length + (first ++ (itemsT f 0 l ++ last)).length ≤ MX) :
    Calls Tryz.prog 86 #[.pointer (some ⟨b, 0, none⟩), .string sf, .slice A l.length c, .func (.func 62) #[.pointer (some ⟨b, 0, none⟩)] #[], .string sl] w (WPost B b (bs ++ (first ++ (itemsT f 0 l ++ last))) w) := by
  have HC := Lib.hid hcl
  have HR := Lib.hid hr
  have HS := Lib.hid hS
  have HM := Lib.hid hm
  have hbig := hr.big
  subst hsf hsl
  have hl' : bs.length + (sf.toList.length + ((itemsT f 0 l).length + sl.toList.length)) ≤ MX := by simpa using hl
  have S1 := Lib.hid (str_any w B b bs sf h (by rw [← toList_size]; unfold MX at hl'; omega))
  have HL := Lib.hid hl'
  have TK := Lib.hid (fun k => itemsT_take_le f l k)
  clear hcl hr hS hm h hl hl'
  go_enter Tryz.func86, Tryz.ntmps86
  go_wp2_with fail
  refine S1.out.mono ?_
  rintro e w0 ⟨rfl, hw⟩
  have HW := Lib.hid hw
  clear hw S1
  go_wp2
  go_loopw [10, 19] (fun _ i wr => ∃ k : Nat, k ≤ l.length ∧ i = .int .i64 k ∧ Hid (WB wr B b (bs ++ sf.toList ++ itemsT f 0 (l.take k))) ∧ Hid (WK B b w wr)) (fun _ i _ => l.length - (intOf i).toNat)
  case atStart => exact ⟨0, by omega, rfl, Lib.hid (by simpa [itemsT] using HW.out.1), Lib.hid HW.out.2⟩
  case round =>
    obtain ⟨k, hk, rfl, hWB, hK⟩ := hrel
    by_cases hlt : k < l.length
    · obtain ⟨b0, off, x0, A1, c1, A2, c2, rfl, _, hb0, hx, q, rx⟩ := (HR.out.keep (Kept.of_below hK.out.1 (Nat.le_refl _))).elem hlt
      obtain ⟨x, rfl, rfl, rfl, rfl, rfl⟩ : ∃ x : At, x0 = x.t ∧ A1 = x.A ∧ c1 = x.c ∧ A2 = x.A' ∧ c2 = x.c' := ⟨⟨x0, A1, c1, A2, c2⟩, rfl, rfl, rfl, rfl, rfl⟩
      obtain ⟨q0, q1, q2, q3, q4⟩ := q
      have NX := Lib.hid (itemsT_next f l k hx)
      have TN := Lib.hid (TK.out (k + 1))
      have SX := Lib.hid (HS.out _ (List.mem_of_getElem? hx))
      have RX := Lib.hid rx
      clear rx hx
      have hxb := heap_alloc_new wr (.cells #[.int .i64 x.t.k, .int .i64 x.t.n, .string x.t.s, .slice x.A x.t.l.length x.c, .slice x.A' x.t.m.length x.c'] 39)
      have b0 := below_new wr (.cells #[.int .i64 x.t.k, .int .i64 x.t.n, .string x.t.s, .slice x.A x.t.l.length x.c, .slice x.A' x.t.m.length x.c'] 39)
      go_upto_region 4 with fail
      generalize hW : World.alloc wr _ = W at b0 hxb ⊢
      clear hW q0 q1 q2 q3 q4
      have WB0 := Lib.hid (hWB.out.next b0)
      have K0 := Lib.hid (WK.below (b := b) b0 hWB.out.2)
      have hgb := Lib.hid (show wr.heap.size ≠ b by have := hWB.out.lt; omega)
      have HXB := Lib.hid hxb
      clear b0 hxb
      obtain ⟨sep, hsep⟩ : ∃ sep : Bs, sep = cm k := ⟨_, rfl⟩
      by_cases hk0 : k = 0
      · subst hk0
        obtain rfl : sep = [] := hsep
        have hx2 : W.heap[wr.heap.size]? = some (.cells #[.int .i64 x.t.k, .int .i64 x.t.n, .string x.t.s, .slice x.A x.t.l.length x.c, .slice x.A' x.t.m.length x.c'] 39 (0, 0)) := HXB.out
        have a0 : W.cell? ⟨wr.heap.size, 0, none⟩ = some (.int .i64 x.t.k) := by rw [Lib.cell_of_heap hx2]; rfl
        have a1 : W.cell? ⟨wr.heap.size, 1, none⟩ = some (.int .i64 x.t.n) := by rw [Lib.cell_of_heap hx2]; rfl
        have a2 : W.cell? ⟨wr.heap.size, 2, none⟩ = some (.string x.t.s) := by rw [Lib.cell_of_heap hx2]; rfl
        have a3 : W.cell? ⟨wr.heap.size, 3, none⟩ = some (.slice x.A x.t.l.length x.c) := by rw [Lib.cell_of_heap hx2]; rfl
        have a4 : W.cell? ⟨wr.heap.size, 4, none⟩ = some (.slice x.A' x.t.m.length x.c') := by rw [Lib.cell_of_heap hx2]; rfl
        have CT := HC.out W (bs ++ sf.toList ++ itemsT f 0 (l.take 0) ++ []) x (HM.out.kept ((hK.out.1.trans K0.out.1).block 0 hB)) (by simpa using WB0.out) (RX.out.keep (Kept.of_below K0.out.1 (Nat.le_refl _))) SX.out (by
          have h1 := TN.out
          have h2 := HL.out
          rw [NX.out] at h1
          simp only [List.length_append, cm] at h1 ⊢
          simp at h1 ⊢; omega)
        go_wp2_with fail
        refine CT.mono ?_
        rintro e w3 ⟨rfl, hw3⟩
        have HW3 := Lib.hid hw3
        clear hw3 CT a0 a1 a2 a3 a4 hx2
        go_wp2
        go_roundw
        case rel => exact ⟨1, by omega, by go_num, Lib.hid (by rw [NX.out]; have := HW3.out.1; simpa [cm] using this), Lib.hid ((hK.out.trans K0.out).trans HW3.out.2)⟩
        case measure => simp [intOf]; omega
      · have hkp : (0 : Int) < (k : Int) := by omega
        have S2 := Lib.hid (str_lit W B b (bs ++ sf.toList ++ itemsT f 0 (l.take k)) [44, 32] WB0.out (by
          have h1 := TN.out
          have h2 := HL.out
          rw [NX.out] at h1
          rw [show cm k = [44, 32] from by unfold cm; rw [if_pos (by omega)]] at h1
          simp only [List.length_append] at h1 ⊢
          unfold MX at h2; omega))
        go_wp2_with fail
        refine S2.out.mono ?_
        rintro e w2 ⟨rfl, hw2⟩
        have HW2 := Lib.hid hw2
        clear hw2 S2
        have hx2 : w2.heap[wr.heap.size]? = some (.cells #[.int .i64 x.t.k, .int .i64 x.t.n, .string x.t.s, .slice x.A x.t.l.length x.c, .slice x.A' x.t.m.length x.c'] 39 (0, 0)) := (HW2.out.2.stay HXB.out (by decide) hgb.out).trans HXB.out
        have a0 : w2.cell? ⟨wr.heap.size, 0, none⟩ = some (.int .i64 x.t.k) := by rw [Lib.cell_of_heap hx2]; rfl
        have a1 : w2.cell? ⟨wr.heap.size, 1, none⟩ = some (.int .i64 x.t.n) := by rw [Lib.cell_of_heap hx2]; rfl
        have a2 : w2.cell? ⟨wr.heap.size, 2, none⟩ = some (.string x.t.s) := by rw [Lib.cell_of_heap hx2]; rfl
        have a3 : w2.cell? ⟨wr.heap.size, 3, none⟩ = some (.slice x.A x.t.l.length x.c) := by rw [Lib.cell_of_heap hx2]; rfl
        have a4 : w2.cell? ⟨wr.heap.size, 4, none⟩ = some (.slice x.A' x.t.m.length x.c') := by rw [Lib.cell_of_heap hx2]; rfl
        have CT := HC.out w2 (bs ++ sf.toList ++ itemsT f 0 (l.take k) ++ [44, 32]) x (HM.out.kept (((hK.out.1.trans K0.out.1).trans HW2.out.2.1).block 0 hB)) HW2.out.1 (RX.out.keep (Kept.of_below (K0.out.1.trans HW2.out.2.1) (Nat.le_refl _))) SX.out (by
          have h1 := TN.out
          have h2 := HL.out
          rw [NX.out] at h1
          simp only [List.length_append, cm] at h1 ⊢
          rw [if_pos (by omega)] at h1; omega)
        go_wp2_with fail
        refine CT.mono ?_
        rintro e w3 ⟨rfl, hw3⟩
        have HW3 := Lib.hid hw3
        clear hw3 CT a0 a1 a2 a3 a4 hx2
        go_wp2
        go_roundw
        case rel => exact ⟨k + 1, by omega, by go_num, Lib.hid (by rw [NX.out, show cm k = [44, 32] from by unfold cm; rw [if_pos (by omega)]]; have := HW3.out.1; simpa [cm] using this), Lib.hid (((hK.out.trans K0.out).trans HW2.out.2).trans HW3.out.2)⟩
        case measure => simp [intOf]; omega
    · have ALL := Lib.hid (show l.take k = l from List.take_of_length_le (by omega))
      have S3 := Lib.hid (str_any wr B b _ sl hWB.out (by
        have h2 := HL.out
        rw [ALL.out, ← toList_size]
        simp only [List.length_append]
        unfold MX at h2; omega))
      rw [ALL.out] at S3
      go_wp2_with fail
      refine S3.out.mono ?_
      rintro e w2 ⟨rfl, hw2⟩
      have HW2 := Lib.hid hw2
      clear hw2 S3
      go_wp2
      go_end0
      exact ⟨rfl, by have := HW2.out.1; simpa using this, hK.out.trans HW2.out.2⟩

set_option maxHeartbeats 3200000 in
theorem writeRowP (f : P → Bs) (S : P → Prop) (B b d : Nat) (hcl : ∀ (W : World) (bs : Bs) (x : Pt), NM W → WB W B b bs → Pd W 0 B d x.t x.A x.c x.A' x.c' → S x.t → bs.length + (f x.t).length ≤ MX → Calls Tryz.prog 63 #[.pointer (some ⟨b, 0, none⟩), x.val] W (WPost B b (bs ++ f x.t) W))
    (w : World) (hm : NM w) (hB : 0 < B) (bs first last : Bs) (sf sl : ByteArray) (hsf : sf.toList = first) (hsl : sl.toList = last) (A : Option Addr) (c : Nat) (l : List P) (h : WB w B b bs) (hr : Pw w 0 B d A c l) (hS : ∀ x ∈ l, S x) (hl : bs.length + (first ++ (itemsT f 0 l ++ last)).length ≤ MX) :
    Calls Tryz.prog 87 #[.pointer (some ⟨b, 0, none⟩), .string sf, .slice A l.length c, .func (.func 63) #[.pointer (some ⟨b, 0, none⟩)] #[], .string sl] w (WPost B b (bs ++ (first ++ (itemsT f 0 l ++ last))) w) := by
  have HC := Lib.hid hcl
  have HR := Lib.hid hr
  have HS := Lib.hid hS
  have HM := Lib.hid hm
  have hbig := hr.big
  subst hsf hsl
  have hl' : bs.length + (sf.toList.length + ((itemsT f 0 l).length + sl.toList.length)) ≤ MX := by simpa using hl
  have S1 := Lib.hid (str_any w B b bs sf h (by rw [← toList_size]; unfold MX at hl'; omega))
  have HL := Lib.hid hl'
  have TK := Lib.hid (fun k => itemsT_take_le f l k)
  clear hcl hr hS hm h hl hl'
  go_enter Tryz.func87, Tryz.ntmps87
  go_wp2_with fail
  refine S1.out.mono ?_
  rintro e w0 ⟨rfl, hw⟩
  have HW := Lib.hid hw
  clear hw S1
  go_wp2
  go_loopw [10, 19] (fun _ i wr => ∃ k : Nat, k ≤ l.length ∧ i = .int .i64 k ∧ Hid (WB wr B b (bs ++ sf.toList ++ itemsT f 0 (l.take k))) ∧ Hid (WK B b w wr)) (fun _ i _ => l.length - (intOf i).toNat)
  case atStart => exact ⟨0, by omega, rfl, Lib.hid (by simpa [itemsT] using HW.out.1), Lib.hid HW.out.2⟩
  case round =>
    obtain ⟨k, hk, rfl, hWB, hK⟩ := hrel
    by_cases hlt : k < l.length
    · obtain ⟨b0, off, x, rfl, _, hb0, hx, q, rx⟩ := (HR.out.keep (Kept.of_below hK.out.1 (Nat.le_refl _))).elem hlt
      skip
      obtain ⟨q0, q1, q2⟩ := q
      have NX := Lib.hid (itemsT_next f l k hx)
      have TN := Lib.hid (TK.out (k + 1))
      have SX := Lib.hid (HS.out _ (List.mem_of_getElem? hx))
      have RX := Lib.hid rx
      clear rx hx
      have hxb := heap_alloc_new wr (.cells #[.int .i64 x.t.k, .slice x.A x.t.v.length x.c, .slice x.A' x.t.p.length x.c'] 42)
      have b0 := below_new wr (.cells #[.int .i64 x.t.k, .slice x.A x.t.v.length x.c, .slice x.A' x.t.p.length x.c'] 42)
      go_upto_region 4 with fail
      generalize hW : World.alloc wr _ = W at b0 hxb ⊢
      clear hW q0 q1 q2
      have WB0 := Lib.hid (hWB.out.next b0)
      have K0 := Lib.hid (WK.below (b := b) b0 hWB.out.2)
      have hgb := Lib.hid (show wr.heap.size ≠ b by have := hWB.out.lt; omega)
      have HXB := Lib.hid hxb
      clear b0 hxb
      obtain ⟨sep, hsep⟩ : ∃ sep : Bs, sep = cm k := ⟨_, rfl⟩
      by_cases hk0 : k = 0
      · subst hk0
        obtain rfl : sep = [] := hsep
        have hx2 : W.heap[wr.heap.size]? = some (.cells #[.int .i64 x.t.k, .slice x.A x.t.v.length x.c, .slice x.A' x.t.p.length x.c'] 42 (0, 0)) := HXB.out
        have a0 : W.cell? ⟨wr.heap.size, 0, none⟩ = some (.int .i64 x.t.k) := by rw [Lib.cell_of_heap hx2]; rfl
        have a1 : W.cell? ⟨wr.heap.size, 1, none⟩ = some (.slice x.A x.t.v.length x.c) := by rw [Lib.cell_of_heap hx2]; rfl
        have a2 : W.cell? ⟨wr.heap.size, 2, none⟩ = some (.slice x.A' x.t.p.length x.c') := by rw [Lib.cell_of_heap hx2]; rfl
        have CT := HC.out W (bs ++ sf.toList ++ itemsT f 0 (l.take 0) ++ []) x (HM.out.kept ((hK.out.1.trans K0.out.1).block 0 hB)) (by simpa using WB0.out) (RX.out.keep (Kept.of_below K0.out.1 (Nat.le_refl _))) SX.out (by
          have h1 := TN.out
          have h2 := HL.out
          rw [NX.out] at h1
          simp only [List.length_append, cm] at h1 ⊢
          simp at h1 ⊢; omega)
        go_wp2_with fail
        refine CT.mono ?_
        rintro e w3 ⟨rfl, hw3⟩
        have HW3 := Lib.hid hw3
        clear hw3 CT a0 a1 a2 hx2
        go_wp2
        go_roundw
        case rel => exact ⟨1, by omega, by go_num, Lib.hid (by rw [NX.out]; have := HW3.out.1; simpa [cm] using this), Lib.hid ((hK.out.trans K0.out).trans HW3.out.2)⟩
        case measure => simp [intOf]; omega
      · have hkp : (0 : Int) < (k : Int) := by omega
        have S2 := Lib.hid (str_lit W B b (bs ++ sf.toList ++ itemsT f 0 (l.take k)) [44, 32] WB0.out (by
          have h1 := TN.out
          have h2 := HL.out
          rw [NX.out] at h1
          rw [show cm k = [44, 32] from by unfold cm; rw [if_pos (by omega)]] at h1
          simp only [List.length_append] at h1 ⊢
          unfold MX at h2; omega))
        go_wp2_with fail
        refine S2.out.mono ?_
        rintro e w2 ⟨rfl, hw2⟩
        have HW2 := Lib.hid hw2
        clear hw2 S2
        have hx2 : w2.heap[wr.heap.size]? = some (.cells #[.int .i64 x.t.k, .slice x.A x.t.v.length x.c, .slice x.A' x.t.p.length x.c'] 42 (0, 0)) := (HW2.out.2.stay HXB.out (by decide) hgb.out).trans HXB.out
        have a0 : w2.cell? ⟨wr.heap.size, 0, none⟩ = some (.int .i64 x.t.k) := by rw [Lib.cell_of_heap hx2]; rfl
        have a1 : w2.cell? ⟨wr.heap.size, 1, none⟩ = some (.slice x.A x.t.v.length x.c) := by rw [Lib.cell_of_heap hx2]; rfl
        have a2 : w2.cell? ⟨wr.heap.size, 2, none⟩ = some (.slice x.A' x.t.p.length x.c') := by rw [Lib.cell_of_heap hx2]; rfl
        have CT := HC.out w2 (bs ++ sf.toList ++ itemsT f 0 (l.take k) ++ [44, 32]) x (HM.out.kept (((hK.out.1.trans K0.out.1).trans HW2.out.2.1).block 0 hB)) HW2.out.1 (RX.out.keep (Kept.of_below (K0.out.1.trans HW2.out.2.1) (Nat.le_refl _))) SX.out (by
          have h1 := TN.out
          have h2 := HL.out
          rw [NX.out] at h1
          simp only [List.length_append, cm] at h1 ⊢
          rw [if_pos (by omega)] at h1; omega)
        go_wp2_with fail
        refine CT.mono ?_
        rintro e w3 ⟨rfl, hw3⟩
        have HW3 := Lib.hid hw3
        clear hw3 CT a0 a1 a2 hx2
        go_wp2
        go_roundw
        case rel => exact ⟨k + 1, by omega, by go_num, Lib.hid (by rw [NX.out, show cm k = [44, 32] from by unfold cm; rw [if_pos (by omega)]]; have := HW3.out.1; simpa [cm] using this), Lib.hid (((hK.out.trans K0.out).trans HW2.out.2).trans HW3.out.2)⟩
        case measure => simp [intOf]; omega
    · have ALL := Lib.hid (show l.take k = l from List.take_of_length_le (by omega))
      have S3 := Lib.hid (str_any wr B b _ sl hWB.out (by
        have h2 := HL.out
        rw [ALL.out, ← toList_size]
        simp only [List.length_append]
        unfold MX at h2; omega))
      rw [ALL.out] at S3
      go_wp2_with fail
      refine S3.out.mono ?_
      rintro e w2 ⟨rfl, hw2⟩
      have HW2 := Lib.hid hw2
      clear hw2 S3
      go_wp2
      go_end0
      exact ⟨rfl, by have := HW2.out.1; simpa using this, hK.out.trans HW2.out.2⟩

set_option maxHeartbeats 3200000 in
theorem writeRowA (f : Ag → Bs) (S : Ag → Prop) (B b d : Nat) (hcl : ∀ (W : World) (bs : Bs) (x : Gt), NM W → WB W B b bs → GOk W 0 B (Ch W 0 B d) x → S x.t → bs.length + (f x.t).length ≤ MX → Calls Tryz.prog 37 #[.pointer (some ⟨b, 0, none⟩), x.val] W (WPost B b (bs ++ f x.t) W))
    (w : World) (hm : NM w) (hB : 0 < B) (bs first last : Bs) (sf sl : ByteArray) (hsf : sf.toList = first) (hsl : sl.toList = last) (A : Option Addr) (c : Nat) (l : List Ag) (h : WB w B b bs) (hr : GRowA w 0 B (GOk w 0 B (Ch w 0 B d)) A c l) (hS : ∀ x ∈ l, S x) (hl : bs.length + (first ++ (itemsT f 0 l ++ last)).length ≤ MX) :
    Calls Tryz.prog 36 #[.pointer (some ⟨b, 0, none⟩), .string sf, .slice A l.length c, .func (.func 37) #[.pointer (some ⟨b, 0, none⟩)] #[], .string sl] w (WPost B b (bs ++ (first ++ (itemsT f 0 l ++ last))) w) := by
  have HC := Lib.hid hcl
  have HR := Lib.hid hr
  have HS := Lib.hid hS
  have HM := Lib.hid hm
  have hbig := hr.big
  subst hsf hsl
  have hl' : bs.length + (sf.toList.length + ((itemsT f 0 l).length + sl.toList.length)) ≤ MX := by simpa using hl
  have S1 := Lib.hid (str_any w B b bs sf h (by rw [← toList_size]; unfold MX at hl'; omega))
  have HL := Lib.hid hl'
  have TK := Lib.hid (fun k => itemsT_take_le f l k)
  clear hcl hr hS hm h hl hl'
  go_enter Tryz.func36, Tryz.ntmps36
  go_wp2_with fail
  refine S1.out.mono ?_
  rintro e w0 ⟨rfl, hw⟩
  have HW := Lib.hid hw
  clear hw S1
  go_wp2
  go_loopw [10, 19] (fun _ i wr => ∃ k : Nat, k ≤ l.length ∧ i = .int .i64 k ∧ Hid (WB wr B b (bs ++ sf.toList ++ itemsT f 0 (l.take k))) ∧ Hid (WK B b w wr)) (fun _ i _ => l.length - (intOf i).toNat)
  case atStart => exact ⟨0, by omega, rfl, Lib.hid (by simpa [itemsT] using HW.out.1), Lib.hid HW.out.2⟩
  case round =>
    obtain ⟨k, hk, rfl, hWB, hK⟩ := hrel
    by_cases hlt : k < l.length
    · obtain ⟨b0, off, x, rfl, _, hb0, hx, q, rx⟩ := GRow.elem (GRow.imp HR.out (Kept.of_below hK.out.1 (Nat.le_refl _)) (Nat.le_refl _) (Nat.le_refl _) (fun _ => GOk.imp (Kept.of_below hK.out.1 (Nat.le_refl _)) (Nat.le_refl _) (Nat.le_refl _) (fun _ _ _ h => h.keep (Kept.of_below hK.out.1 (Nat.le_refl _))))) hlt
      replace q := cellsG.of q
      obtain ⟨q0, q1, q2, q3, q4, q5, q6, q7, q8, q9, q10⟩ := q
      have NX := Lib.hid (itemsT_next f l k hx)
      have TN := Lib.hid (TK.out (k + 1))
      have SX := Lib.hid (HS.out _ (List.mem_of_getElem? hx))
      have RX := Lib.hid rx
      clear rx hx
      have hxb := heap_alloc_new wr (.cells #[.int .i64 x.k, .int .i64 x.x.t.k, .int .i64 x.x.t.n, .string x.x.t.s, .slice x.x.A x.x.t.l.length x.x.c, .slice x.x.A' x.x.t.m.length x.x.c', .int .i64 x.q.t.k, .slice x.q.A x.q.t.v.length x.q.c, .slice x.q.A' x.q.t.p.length x.q.c', .slice x.A x.l.length x.c, .string x.s] 44)
      have b0 := below_new wr (.cells #[.int .i64 x.k, .int .i64 x.x.t.k, .int .i64 x.x.t.n, .string x.x.t.s, .slice x.x.A x.x.t.l.length x.x.c, .slice x.x.A' x.x.t.m.length x.x.c', .int .i64 x.q.t.k, .slice x.q.A x.q.t.v.length x.q.c, .slice x.q.A' x.q.t.p.length x.q.c', .slice x.A x.l.length x.c, .string x.s] 44)
      go_upto_region 4 with fail
      generalize hW : World.alloc wr _ = W at b0 hxb ⊢
      clear hW q0 q1 q2 q3 q4 q5 q6 q7 q8 q9 q10
      have WB0 := Lib.hid (hWB.out.next b0)
      have K0 := Lib.hid (WK.below (b := b) b0 hWB.out.2)
      have hgb := Lib.hid (show wr.heap.size ≠ b by have := hWB.out.lt; omega)
      have HXB := Lib.hid hxb
      clear b0 hxb
      obtain ⟨sep, hsep⟩ : ∃ sep : Bs, sep = cm k := ⟨_, rfl⟩
      by_cases hk0 : k = 0
      · subst hk0
        obtain rfl : sep = [] := hsep
        have hx2 : W.heap[wr.heap.size]? = some (.cells #[.int .i64 x.k, .int .i64 x.x.t.k, .int .i64 x.x.t.n, .string x.x.t.s, .slice x.x.A x.x.t.l.length x.x.c, .slice x.x.A' x.x.t.m.length x.x.c', .int .i64 x.q.t.k, .slice x.q.A x.q.t.v.length x.q.c, .slice x.q.A' x.q.t.p.length x.q.c', .slice x.A x.l.length x.c, .string x.s] 44 (0, 0)) := HXB.out
        have a0 : W.cell? ⟨wr.heap.size, 0, none⟩ = some (.int .i64 x.k) := by rw [Lib.cell_of_heap hx2]; rfl
        have a1 : W.cell? ⟨wr.heap.size, 1, none⟩ = some (.int .i64 x.x.t.k) := by rw [Lib.cell_of_heap hx2]; rfl
        have a2 : W.cell? ⟨wr.heap.size, 2, none⟩ = some (.int .i64 x.x.t.n) := by rw [Lib.cell_of_heap hx2]; rfl
        have a3 : W.cell? ⟨wr.heap.size, 3, none⟩ = some (.string x.x.t.s) := by rw [Lib.cell_of_heap hx2]; rfl
        have a4 : W.cell? ⟨wr.heap.size, 4, none⟩ = some (.slice x.x.A x.x.t.l.length x.x.c) := by rw [Lib.cell_of_heap hx2]; rfl
        have a5 : W.cell? ⟨wr.heap.size, 5, none⟩ = some (.slice x.x.A' x.x.t.m.length x.x.c') := by rw [Lib.cell_of_heap hx2]; rfl
        have a6 : W.cell? ⟨wr.heap.size, 6, none⟩ = some (.int .i64 x.q.t.k) := by rw [Lib.cell_of_heap hx2]; rfl
        have a7 : W.cell? ⟨wr.heap.size, 7, none⟩ = some (.slice x.q.A x.q.t.v.length x.q.c) := by rw [Lib.cell_of_heap hx2]; rfl
        have a8 : W.cell? ⟨wr.heap.size, 8, none⟩ = some (.slice x.q.A' x.q.t.p.length x.q.c') := by rw [Lib.cell_of_heap hx2]; rfl
        have a9 : W.cell? ⟨wr.heap.size, 9, none⟩ = some (.slice x.A x.l.length x.c) := by rw [Lib.cell_of_heap hx2]; rfl
        have a10 : W.cell? ⟨wr.heap.size, 10, none⟩ = some (.string x.s) := by rw [Lib.cell_of_heap hx2]; rfl
        have CT := HC.out W (bs ++ sf.toList ++ itemsT f 0 (l.take 0) ++ []) x (HM.out.kept ((hK.out.1.trans K0.out.1).block 0 hB)) (by simpa using WB0.out) (GOk.imp (Kept.of_below K0.out.1 (Nat.le_refl _)) (Nat.le_refl _) (Nat.le_refl _) (fun _ _ _ h => h.keep (Kept.of_below K0.out.1 (Nat.le_refl _))) RX.out) SX.out (by
          have h1 := TN.out
          have h2 := HL.out
          rw [NX.out] at h1
          simp only [List.length_append, cm] at h1 ⊢
          simp at h1 ⊢; omega)
        go_wp2_with fail
        refine CT.mono ?_
        rintro e w3 ⟨rfl, hw3⟩
        have HW3 := Lib.hid hw3
        clear hw3 CT a0 a1 a2 a3 a4 a5 a6 a7 a8 a9 a10 hx2
        go_wp2
        go_roundw
        case rel => exact ⟨1, by omega, by go_num, Lib.hid (by rw [NX.out]; have := HW3.out.1; simpa [cm] using this), Lib.hid ((hK.out.trans K0.out).trans HW3.out.2)⟩
        case measure => simp [intOf]; omega
      · have hkp : (0 : Int) < (k : Int) := by omega
        have S2 := Lib.hid (str_lit W B b (bs ++ sf.toList ++ itemsT f 0 (l.take k)) [44, 32] WB0.out (by
          have h1 := TN.out
          have h2 := HL.out
          rw [NX.out] at h1
          rw [show cm k = [44, 32] from by unfold cm; rw [if_pos (by omega)]] at h1
          simp only [List.length_append] at h1 ⊢
          unfold MX at h2; omega))
        go_wp2_with fail
        refine S2.out.mono ?_
        rintro e w2 ⟨rfl, hw2⟩
        have HW2 := Lib.hid hw2
        clear hw2 S2
        have hx2 : w2.heap[wr.heap.size]? = some (.cells #[.int .i64 x.k, .int .i64 x.x.t.k, .int .i64 x.x.t.n, .string x.x.t.s, .slice x.x.A x.x.t.l.length x.x.c, .slice x.x.A' x.x.t.m.length x.x.c', .int .i64 x.q.t.k, .slice x.q.A x.q.t.v.length x.q.c, .slice x.q.A' x.q.t.p.length x.q.c', .slice x.A x.l.length x.c, .string x.s] 44 (0, 0)) := (HW2.out.2.stay HXB.out (by decide) hgb.out).trans HXB.out
        have a0 : w2.cell? ⟨wr.heap.size, 0, none⟩ = some (.int .i64 x.k) := by rw [Lib.cell_of_heap hx2]; rfl
        have a1 : w2.cell? ⟨wr.heap.size, 1, none⟩ = some (.int .i64 x.x.t.k) := by rw [Lib.cell_of_heap hx2]; rfl
        have a2 : w2.cell? ⟨wr.heap.size, 2, none⟩ = some (.int .i64 x.x.t.n) := by rw [Lib.cell_of_heap hx2]; rfl
        have a3 : w2.cell? ⟨wr.heap.size, 3, none⟩ = some (.string x.x.t.s) := by rw [Lib.cell_of_heap hx2]; rfl
        have a4 : w2.cell? ⟨wr.heap.size, 4, none⟩ = some (.slice x.x.A x.x.t.l.length x.x.c) := by rw [Lib.cell_of_heap hx2]; rfl
        have a5 : w2.cell? ⟨wr.heap.size, 5, none⟩ = some (.slice x.x.A' x.x.t.m.length x.x.c') := by rw [Lib.cell_of_heap hx2]; rfl
        have a6 : w2.cell? ⟨wr.heap.size, 6, none⟩ = some (.int .i64 x.q.t.k) := by rw [Lib.cell_of_heap hx2]; rfl
        have a7 : w2.cell? ⟨wr.heap.size, 7, none⟩ = some (.slice x.q.A x.q.t.v.length x.q.c) := by rw [Lib.cell_of_heap hx2]; rfl
        have a8 : w2.cell? ⟨wr.heap.size, 8, none⟩ = some (.slice x.q.A' x.q.t.p.length x.q.c') := by rw [Lib.cell_of_heap hx2]; rfl
        have a9 : w2.cell? ⟨wr.heap.size, 9, none⟩ = some (.slice x.A x.l.length x.c) := by rw [Lib.cell_of_heap hx2]; rfl
        have a10 : w2.cell? ⟨wr.heap.size, 10, none⟩ = some (.string x.s) := by rw [Lib.cell_of_heap hx2]; rfl
        have CT := HC.out w2 (bs ++ sf.toList ++ itemsT f 0 (l.take k) ++ [44, 32]) x (HM.out.kept (((hK.out.1.trans K0.out.1).trans HW2.out.2.1).block 0 hB)) HW2.out.1 (GOk.imp (Kept.of_below (K0.out.1.trans HW2.out.2.1) (Nat.le_refl _)) (Nat.le_refl _) (Nat.le_refl _) (fun _ _ _ h => h.keep (Kept.of_below (K0.out.1.trans HW2.out.2.1) (Nat.le_refl _))) RX.out) SX.out (by
          have h1 := TN.out
          have h2 := HL.out
          rw [NX.out] at h1
          simp only [List.length_append, cm] at h1 ⊢
          rw [if_pos (by omega)] at h1; omega)
        go_wp2_with fail
        refine CT.mono ?_
        rintro e w3 ⟨rfl, hw3⟩
        have HW3 := Lib.hid hw3
        clear hw3 CT a0 a1 a2 a3 a4 a5 a6 a7 a8 a9 a10 hx2
        go_wp2
        go_roundw
        case rel => exact ⟨k + 1, by omega, by go_num, Lib.hid (by rw [NX.out, show cm k = [44, 32] from by unfold cm; rw [if_pos (by omega)]]; have := HW3.out.1; simpa [cm] using this), Lib.hid (((hK.out.trans K0.out).trans HW2.out.2).trans HW3.out.2)⟩
        case measure => simp [intOf]; omega
    · have ALL := Lib.hid (show l.take k = l from List.take_of_length_le (by omega))
      have S3 := Lib.hid (str_any wr B b _ sl hWB.out (by
        have h2 := HL.out
        rw [ALL.out, ← toList_size]
        simp only [List.length_append]
        unfold MX at h2; omega))
      rw [ALL.out] at S3
      go_wp2_with fail
      refine S3.out.mono ?_
      rintro e w2 ⟨rfl, hw2⟩
      have HW2 := Lib.hid hw2
      clear hw2 S3
      go_wp2
      go_end0
      exact ⟨rfl, by have := HW2.out.1; simpa using this, hK.out.trans HW2.out.2⟩
end Go.Proofs.YtiiopbcihieblaaGreatDoor

