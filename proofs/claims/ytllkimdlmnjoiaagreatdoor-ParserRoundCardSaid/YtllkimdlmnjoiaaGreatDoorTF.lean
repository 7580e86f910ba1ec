/- Carried over from an earlier seat. -/
import Derived.Test.YtllkimdlmnjoiaaGreatDoorTD
namespace Go.Proofs.YtllkimdlmnjoiaaGreatDoor
set_option maxRecDepth 100000
set_option maxRecDepth 100000
set_option maxRecDepth 100000
open Go.RowKit Go.Sort

/-- One by one the same. -/
def eqL {α : Type} (f : α → α → Bool) : List α → List α → Bool
  | [], [] => true
  | x :: l, y :: m => f x y && eqL f l m
  | _, _ => false
theorem eqL_len {α : Type} (f : α → α → Bool) : ∀ (l m : List α), l.length ≠ m.length → eqL f l m = false
  | [], [], h => absurd rfl h
  | [], _ :: _, _ => rfl
  | _ :: _, [], _ => rfl
  | x :: l, y :: m, h => by simp only [eqL]; rw [eqL_len f l m (by simpa using h), Bool.and_false]
theorem eqL_step {α : Type} (f : α → α → Bool) (l m : List α) (k : Nat) {x y : α} (hx : l[k]? = some x) (hy : m[k]? = some y) : eqL f (l.drop k) (m.drop k) = (f x y && eqL f (l.drop (k + 1)) (m.drop (k + 1))) := by
  obtain ⟨h1, e1⟩ := List.getElem?_eq_some_iff.1 hx
  obtain ⟨h2, e2⟩ := List.getElem?_eq_some_iff.1 hy
  rw [List.drop_eq_getElem_cons h1, List.drop_eq_getElem_cons h2, e1, e2]; rfl
theorem eqL_end {α : Type} (f : α → α → Bool) (l m : List α) (k : Nat) (h1 : l.length ≤ k) (h2 : m.length ≤ k) : eqL f (l.drop k) (m.drop k) = true := by
  rw [List.drop_eq_nil_of_le h1, List.drop_eq_nil_of_le h2]; rfl

/-- A function value that asks p of an element of which S holds, in every world in which all that lay in w lies unturned. -/
def PredsS (F : Nat) (caps : Array Value) (w : World) (S : V → Prop) (p : V → Bool) : Prop :=
  ∀ (W : World) (d : Nat) (x : At), S x.t → Below w.heap.size w W → x.In W d → Calls Tryz.prog F (#[x.v] ++ caps) W fun e w' => e = .returned (.bool (p x.t)) ∧ Below W.heap.size W w'
def PredsA (F : Nat) (caps : Array Value) (w : World) (d : Nat) (S : Ag → Prop) (p : Ag → Bool) : Prop :=
  ∀ (W : World) (x : Gt), S x.t → Below w.heap.size w W → x.In W d → Calls Tryz.prog F (#[x.val] ++ caps) W fun e w' => e = .returned (.bool (p x.t)) ∧ Below W.heap.size W w'
def PredsC (F : Nat) (caps : Array Value) (w : World) (d : Nat) (S : C → Prop) (p : C → Bool) : Prop :=
  ∀ (W : World) (x : Ct), S x.t → Below w.heap.size w W → x.In W d → Calls Tryz.prog F (#[x.val] ++ caps) W fun e w' => e = .returned (.bool (p x.t)) ∧ Below W.heap.size W w'
def EqsV (F : Nat) (caps : Array Value) (w : World) (f : V → V → Bool) : Prop :=
  ∀ (W : World) (d : Nat) (x y : At), Below w.heap.size w W → x.In W d → y.In W d → Calls Tryz.prog F (#[x.v, y.v] ++ caps) W fun e w' => e = .returned (.bool (f x.t y.t)) ∧ Below W.heap.size W w'
def EqsA (F : Nat) (caps : Array Value) (w : World) (d : Nat) (S : Ag → Prop) (f : Ag → Ag → Bool) : Prop :=
  ∀ (W : World) (x y : Gt), S y.t → Below w.heap.size w W → x.In W d → y.In W d → Calls Tryz.prog F (#[x.val, y.val] ++ caps) W fun e w' => e = .returned (.bool (f x.t y.t)) ∧ Below W.heap.size W w'
def EqsC (F : Nat) (caps : Array Value) (w : World) (d : Nat) (S : C → Prop) (f : C → C → Bool) : Prop :=
  ∀ (W : World) (x y : Ct), S y.t → Below w.heap.size w W → x.In W d → y.In W d → Calls Tryz.prog F (#[x.val, y.val] ++ caps) W fun e w' => e = .returned (.bool (f x.t y.t)) ∧ Below W.heap.size W w'

set_option maxHeartbeats 1600000 in
theorem indexVS (F : Nat) (hE : Enters F) (caps : Array Value) (S : V → Prop) (p : V → Bool) (w : World) (d : Nat) (hcl : PredsS F caps w S p) (A : Option Addr) (c : Nat) (l : List V) (hS : ∀ x ∈ l, S x) (h : Rw w 0 w.heap.size d A c l) :
    Calls Tryz.prog 163 #[.slice A l.length c, .func (.func F) #[] caps] w fun e w' => e = .returned (.int .i64 (idxT p l 0)) ∧ Below w.heap.size w w' := by
  have HC := Lib.hid hcl
  have H1 := Lib.hid h
  have HS := Lib.hid hS
  have b1 := h.big
  clear hcl h hS
  go_enter Tryz.func163, Tryz.ntmps163
  go_wp2
  go_loopw [8] (fun i wr => ∃ k : Nat, k ≤ l.length ∧ i = .int .i64 k ∧ Hid (Below w.heap.size w wr) ∧ Hid (idxT p (l.drop k) k = idxT p l 0)) (fun i _ => l.length - (intOf i).toNat)
  case atStart => exact ⟨0, by omega, rfl, Lib.hid (Below.refl _ _), Lib.hid (by simp)⟩
  case round =>
    obtain ⟨k, hk, rfl, hbel, hr⟩ := hrel
    by_cases hlt : k < l.length
    · obtain ⟨b, off, x0, A1, c1, A2, c2, rfl, _, hb, hx, q, rx⟩ := (H1.out.next hbel.out).elem hlt
      obtain ⟨q0, q1, q2, q3, q4⟩ := q
      have RX := Lib.hid rx
      have SX := Lib.hid (HS.out _ (List.mem_of_getElem? hx))
      have Y := Lib.hid (idxT_yes p l k hx)
      have N := Lib.hid (idxT_no p l k hx)
      clear rx hx
      go_wp2_with fail
      rw [hE, Oper.upon_enter]
      refine (HC.out _ _ (⟨x0, A1, c1, A2, c2⟩ : At) SX.out hbel.out RX.out).mono ?_
      rintro e w1 ⟨rfl, hb1⟩
      have HB := Lib.hid (bnext hbel.out hb1)
      clear hb1
      cases hp : p x0
      · go_wp2
        go_roundw
        case rel => exact ⟨k + 1, by omega, by go_num, HB, Lib.hid (by rw [← hr.out, N.out hp])⟩
        case measure => simp [intOf]; omega
      · go_wp2
        go_ret
        exact ⟨by rw [← hr.out, Y.out hp]; rfl, HB.out⟩
    · have OUT := Lib.hid (idxT_out p l k k (by omega))
      go_wp2
      go_ret
      exact ⟨by rw [← hr.out, OUT.out]; rfl, hbel.out⟩
set_option maxHeartbeats 800000 in
theorem containsVS (F : Nat) (hE : Enters F) (caps : Array Value) (S : V → Prop) (p : V → Bool) (w : World) (d : Nat) (hcl : PredsS F caps w S p) (A : Option Addr) (c : Nat) (l : List V) (hS : ∀ x ∈ l, S x) (h : Rw w 0 w.heap.size d A c l) :
    Calls Tryz.prog 146 #[.slice A l.length c, .func (.func F) #[] caps] w fun e w' => e = .returned (.bool (l.any p)) ∧ Below w.heap.size w w' := by
  have CT := Lib.hid (indexVS F hE caps S p w d hcl A c l hS h)
  have R := Lib.hid (idxT_range p l 0)
  clear hcl h hS
  go_enter Tryz.func146, Tryz.ntmps146
  go_wp2_with fail
  refine CT.out.mono ?_
  rintro e w1 ⟨rfl, hb1⟩
  have HB := Lib.hid hb1
  clear hb1
  go_wp2
  go_ret
  refine ⟨?_, HB.out⟩
  show Ending.returned (.bool (decide (0 ≤ idxT p l 0))) = _
  rcases R.out with ⟨e, a⟩ | ⟨e1, e2, a⟩
  · rw [a, e]; rfl
  · rw [a, decide_eq_true (by omega)]

set_option maxHeartbeats 1600000 in
theorem indexAS (F : Nat) (hE : Enters F) (caps : Array Value) (S : Ag → Prop) (p : Ag → Bool) (w : World) (d : Nat) (hcl : PredsA F caps w d S p) (A : Option Addr) (c : Nat) (l : List Ag) (hS : ∀ x ∈ l, S x) (h : Aw w d A c l) :
    Calls Tryz.prog 107 #[.slice A l.length c, .func (.func F) #[] caps] w fun e w' => e = .returned (.int .i64 (idxT p l 0)) ∧ Below w.heap.size w w' := by
  have HC := Lib.hid hcl
  have H1 := Lib.hid h
  have HS := Lib.hid hS
  have b1 := h.big
  clear hcl h hS
  go_enter Tryz.func107, Tryz.ntmps107
  go_wp2
  go_loopw [8] (fun i wr => ∃ k : Nat, k ≤ l.length ∧ i = .int .i64 k ∧ Hid (Below w.heap.size w wr) ∧ Hid (idxT p (l.drop k) k = idxT p l 0)) (fun i _ => l.length - (intOf i).toNat)
  case atStart => exact ⟨0, by omega, rfl, Lib.hid (Below.refl _ _), Lib.hid (by simp)⟩
  case round =>
    obtain ⟨k, hk, rfl, hbel, hr⟩ := hrel
    by_cases hlt : k < l.length
    · obtain ⟨b, off, x, rfl, hb, hx, q, rx⟩ := (H1.out.next hbel.out).elem hlt
      obtain ⟨q0, q1, q2, q3, q4, q5, q6, q7, q8, q9, q10⟩ := q
      have RX := Lib.hid rx
      have SX := Lib.hid (HS.out _ (List.mem_of_getElem? hx))
      have Y := Lib.hid (idxT_yes p l k hx)
      have N := Lib.hid (idxT_no p l k hx)
      clear rx hx
      go_wp2_with fail
      rw [hE, Oper.upon_enter]
      refine (HC.out _ x SX.out hbel.out RX.out).mono ?_
      rintro e w1 ⟨rfl, hb1⟩
      have HB := Lib.hid (bnext hbel.out hb1)
      clear hb1
      cases hp : p x.t
      · go_wp2
        go_roundw
        case rel => exact ⟨k + 1, by omega, by go_num, HB, Lib.hid (by rw [← hr.out, N.out hp])⟩
        case measure => simp [intOf]; omega
      · go_wp2
        go_ret
        exact ⟨by rw [← hr.out, Y.out hp]; rfl, HB.out⟩
    · have OUT := Lib.hid (idxT_out p l k k (by omega))
      go_wp2
      go_ret
      exact ⟨by rw [← hr.out, OUT.out]; rfl, hbel.out⟩
set_option maxHeartbeats 800000 in
theorem containsAS (F : Nat) (hE : Enters F) (caps : Array Value) (S : Ag → Prop) (p : Ag → Bool) (w : World) (d : Nat) (hcl : PredsA F caps w d S p) (A : Option Addr) (c : Nat) (l : List Ag) (hS : ∀ x ∈ l, S x) (h : Aw w d A c l) :
    Calls Tryz.prog 71 #[.slice A l.length c, .func (.func F) #[] caps] w fun e w' => e = .returned (.bool (l.any p)) ∧ Below w.heap.size w w' := by
  have CT := Lib.hid (indexAS F hE caps S p w d hcl A c l hS h)
  have R := Lib.hid (idxT_range p l 0)
  clear hcl h hS
  go_enter Tryz.func71, Tryz.ntmps71
  go_wp2_with fail
  refine CT.out.mono ?_
  rintro e w1 ⟨rfl, hb1⟩
  have HB := Lib.hid hb1
  clear hb1
  go_wp2
  go_ret
  refine ⟨?_, HB.out⟩
  show Ending.returned (.bool (decide (0 ≤ idxT p l 0))) = _
  rcases R.out with ⟨e, a⟩ | ⟨e1, e2, a⟩
  · rw [a, e]; rfl
  · rw [a, decide_eq_true (by omega)]

set_option maxHeartbeats 1600000 in
theorem indexCS (F : Nat) (hE : Enters F) (caps : Array Value) (S : C → Prop) (p : C → Bool) (w : World) (d : Nat) (hcl : PredsC F caps w d S p) (A : Option Addr) (c : Nat) (l : List C) (hS : ∀ x ∈ l, S x) (h : Ch w 0 w.heap.size (d + 1) A c l) :
    Calls Tryz.prog 72 #[.slice A l.length c, .func (.func F) #[] caps] w fun e w' => e = .returned (.int .i64 (idxT p l 0)) ∧ Below w.heap.size w w' := by
  have HC := Lib.hid hcl
  have H1 := Lib.hid h
  have HS := Lib.hid hS
  have b1 := h.big
  clear hcl h hS
  go_enter Tryz.func72, Tryz.ntmps72
  go_wp2
  go_loopw [8] (fun i wr => ∃ k : Nat, k ≤ l.length ∧ i = .int .i64 k ∧ Hid (Below w.heap.size w wr) ∧ Hid (idxT p (l.drop k) k = idxT p l 0)) (fun i _ => l.length - (intOf i).toNat)
  case atStart => exact ⟨0, by omega, rfl, Lib.hid (Below.refl _ _), Lib.hid (by simp)⟩
  case round =>
    obtain ⟨k, hk, rfl, hbel, hr⟩ := hrel
    by_cases hlt : k < l.length
    · obtain ⟨b, off, x, e, he, rfl, hb, hx, q, hn, ra⟩ := (H1.out.next hbel.out).elem hlt
      obtain ⟨q0, q1⟩ := q
      have RX := Lib.hid (show x.In wr d by cases he; exact ⟨hn, ra⟩)
      have SX := Lib.hid (HS.out _ (List.mem_of_getElem? hx))
      have Y := Lib.hid (idxT_yes p l k hx)
      have N := Lib.hid (idxT_no p l k hx)
      clear ra hn hx
      go_wp2_with fail
      rw [hE, Oper.upon_enter]
      refine (HC.out _ x SX.out hbel.out RX.out).mono ?_
      rintro e w1 ⟨rfl, hb1⟩
      have HB := Lib.hid (bnext hbel.out hb1)
      clear hb1
      cases hp : p x.t
      · go_wp2
        go_roundw
        case rel => exact ⟨k + 1, by omega, by go_num, HB, Lib.hid (by rw [← hr.out, N.out hp])⟩
        case measure => simp [intOf]; omega
      · go_wp2
        go_ret
        exact ⟨by rw [← hr.out, Y.out hp]; rfl, HB.out⟩
    · have OUT := Lib.hid (idxT_out p l k k (by omega))
      go_wp2
      go_ret
      exact ⟨by rw [← hr.out, OUT.out]; rfl, hbel.out⟩
set_option maxHeartbeats 800000 in
theorem containsCS (F : Nat) (hE : Enters F) (caps : Array Value) (S : C → Prop) (p : C → Bool) (w : World) (d : Nat) (hcl : PredsC F caps w d S p) (A : Option Addr) (c : Nat) (l : List C) (hS : ∀ x ∈ l, S x) (h : Ch w 0 w.heap.size (d + 1) A c l) :
    Calls Tryz.prog 51 #[.slice A l.length c, .func (.func F) #[] caps] w fun e w' => e = .returned (.bool (l.any p)) ∧ Below w.heap.size w w' := by
  have CT := Lib.hid (indexCS F hE caps S p w d hcl A c l hS h)
  have R := Lib.hid (idxT_range p l 0)
  clear hcl h hS
  go_enter Tryz.func51, Tryz.ntmps51
  go_wp2_with fail
  refine CT.out.mono ?_
  rintro e w1 ⟨rfl, hb1⟩
  have HB := Lib.hid hb1
  clear hb1
  go_wp2
  go_ret
  refine ⟨?_, HB.out⟩
  show Ending.returned (.bool (decide (0 ≤ idxT p l 0))) = _
  rcases R.out with ⟨e, a⟩ | ⟨e1, e2, a⟩
  · rw [a, e]; rfl
  · rw [a, decide_eq_true (by omega)]

set_option maxHeartbeats 1600000 in
theorem equalVs (F : Nat) (hE : Enters F) (caps : Array Value) (f : V → V → Bool) (w : World) (d : Nat) (hcl : EqsV F caps w f) (A : Option Addr) (c : Nat) (l : List V) (A' : Option Addr) (c' : Nat) (m : List V) (h : Rw w 0 w.heap.size d A c l) (h' : Rw w 0 w.heap.size d A' c' m) :
    Calls Tryz.prog 161 #[.slice A l.length c, .slice A' m.length c', .func (.func F) #[] caps] w fun e w' => e = .returned (.bool (eqL f l m)) ∧ Below w.heap.size w w' := by
  have HC := Lib.hid hcl
  have H1 := Lib.hid h
  have H2 := Lib.hid h'
  have b1 := h.big
  have b2 := h'.big
  clear hcl h h'
  skip
  skip
  by_cases hl : l.length = m.length
  · have hl' : ((l.length : Int) != (m.length : Int)) = false := by rw [hl]; simp
    have HL := Lib.hid hl
    clear hl
    go_enter Tryz.func161, Tryz.ntmps161
    go_wp2
    go_loopw [7, 17] (fun _ i wr => ∃ k : Nat, k ≤ l.length ∧ i = .int .i64 k ∧ Hid (Below w.heap.size w wr) ∧ Hid (eqL f (l.drop k) (m.drop k) = eqL f l m)) (fun _ i _ => l.length - (intOf i).toNat)
    case atStart => exact ⟨0, by omega, rfl, Lib.hid (Below.refl _ _), Lib.hid (by simp)⟩
    case round =>
      obtain ⟨k, hk, rfl, hbel, hr⟩ := hrel
      by_cases hlt : k < l.length
      · have hltm : k < m.length := by have := HL.out; omega
        have hltm' : (k : Int) < (m.length : Int) := by omega
        have hltl' : (k : Int) < (l.length : Int) := by omega
        have k0 : (0 : Int) ≤ (k : Int) := by omega
        obtain ⟨b, off, x0, A1, c1, A2, c2, rfl, _, hb, hx, q, rx⟩ := (H1.out.next hbel.out).elem hlt
        obtain ⟨b2, off2, y0, B1, e1, B2, e2, eB, _, hb2, hy, qq, ry⟩ := (H2.out.next hbel.out).elem hltm
        rw [eB]
        obtain ⟨q0, q1, q2, q3, q4⟩ := q
        obtain ⟨p0, p1, p2, p3, p4⟩ := qq
        have RX0 := Lib.hid rx
        have RY0 := Lib.hid ry
        have ST := Lib.hid (eqL_step f l m k hx hy)
        skip
        clear rx ry hx hy eB
        go_wp2_with fail
        rw [hE, Oper.upon_enter]
        refine (HC.out _ d (⟨x0, A1, c1, A2, c2⟩ : At) (⟨y0, B1, e1, B2, e2⟩ : At) (hbel.out.trans ((below_new2 _ _ _).mono hbel.out.size)) (RX0.out.next (below_new2 _ _ _)) (RY0.out.next (below_new2 _ _ _))).mono ?_
        rintro e w1 ⟨rfl, hb1⟩
        have HB := Lib.hid (bnext hbel.out (bnext (below_new2 _ _ _) hb1))
        clear hb1
        cases hp : f x0 y0
        · have FIN := Lib.hid (show eqL f l m = false by rw [← hr.out, ST.out, hp]; rfl)
          go_wp2
          go_ret
          exact ⟨by rw [FIN.out]; rfl, HB.out⟩
        · have NX := Lib.hid (show eqL f (l.drop (k + 1)) (m.drop (k + 1)) = eqL f l m by rw [← hr.out, ST.out, hp]; rfl)
          go_wp2
          go_roundw
          case rel => exact ⟨k + 1, by omega, by go_num, HB, NX⟩
          case measure => simp [intOf]; omega
      · have FIN := Lib.hid (eqL_end f l m k (by omega) (by have := HL.out; omega))
        go_wp2
        go_ret
        exact ⟨by rw [← hr.out, FIN.out]; rfl, hbel.out⟩
  · have FIN := Lib.hid (eqL_len f l m hl)
    have hl' : ((l.length : Int) != (m.length : Int)) = true := by simp; omega
    go_enter Tryz.func161, Tryz.ntmps161
    go_wp2
    go_ret
    exact ⟨by rw [FIN.out]; rfl, Below.refl _ _⟩

end Go.Proofs.YtllkimdlmnjoiaaGreatDoor



/- Carried over from an earlier seat. -/
namespace Go.Proofs.YtllkimdlmnjoiaaGreatDoor
set_option maxRecDepth 100000
set_option maxRecDepth 100000
set_option maxRecDepth 100000
open Go.RowKit Go.Sort

theorem same_at (w : World) (d e : Nat) (x y : At) (hx : x.In w d) (hy : y.In w e) : Calls Tryz.prog 122 #[x.v, y.v] w fun a w' => a = .returned (.bool (cmpV 12 x.t y.t == 0)) ∧ Below w.heap.size w w' := by
  have b0 := below_new2 w (.cells #[.int .i64 x.t.k, .int .i64 x.t.n, .string x.t.s, .slice x.A x.t.l.length x.c, .slice x.A' x.t.m.length x.c'] 77) (.cells #[.int .i64 y.t.k, .int .i64 y.t.n, .string y.t.s, .slice y.A y.t.l.length y.c, .slice y.A' y.t.m.length y.c'] 77)
  have CT := Lib.hid (cmp_any _ d e x.t y.t _ _ _ _ _ _ _ _ (Rd.next hx b0) (Rd.next hy b0))
  have B0 := Lib.hid b0
  clear hx hy b0
  unfold At.v
  go_enter Tryz.func122, Tryz.ntmps122
  go_wp2_with fail
  refine CT.out.mono ?_
  rintro a w1 ⟨rfl, hb⟩
  have HB := Lib.hid (bnext B0.out hb)
  clear hb CT
  go_wp2
  go_ret
  exact ⟨by rfl, HB.out⟩
def eqV (x y : V) : Bool := cmpV 12 x y == 0
theorem entWrV : Enters 148 := fun _ _ => by kernel_rfl
theorem entWrP : Enters 128 := fun _ _ => by kernel_rfl
theorem entSame : Enters 122 := fun _ _ => by kernel_rfl

/-- tree.isWritten of a value that may be. -/
def WrOk (r : Nat) : Prop := ∀ (w : World) (d : Nat) (x : At), okV r x.t = true → x.In w d →
  Calls Tryz.prog 103 #[x.v] w fun e w' => e = .returned (.bool (wrV r x.t)) ∧ Below w.heap.size w w'
set_option maxHeartbeats 800000 in
theorem closure_wr (r : Nat) (ih : WrOk r) (w : World) : PredsS 148 #[] w (fun t => okV r t = true) (fun t => !wrV r t) := by
  intro W d x ho _ hx
  have b0 := below_new W (.cells #[.int .i64 x.t.k, .int .i64 x.t.n, .string x.t.s, .slice x.A x.t.l.length x.c, .slice x.A' x.t.m.length x.c'] 77)
  have CK := Lib.hid (ih _ d x ho (hx.next b0))
  have B0 := Lib.hid b0
  clear hx b0 ih ho
  show Calls Tryz.prog 148 #[x.v] W fun e w' => e = .returned (.bool (!wrV r x.t)) ∧ Below W.heap.size W w'
  generalize wrV r x.t = b at *
  unfold At.v at *
  go_enter Tryz.func148, Tryz.ntmps148
  go_wp2_with fail
  refine CK.out.mono ?_
  rintro e w1 ⟨rfl, hb⟩
  have HB := Lib.hid (bnext B0.out hb)
  clear hb CK
  go_wp2
  go_ret
  exact ⟨rfl, HB.out⟩
set_option maxHeartbeats 800000 in
theorem areWr (r : Nat) (ih : WrOk r) (w : World) (d : Nat) (A : Option Addr) (c : Nat) (l : List V) (ho : ∀ x ∈ l, okV r x = true) (h : Rw w 0 w.heap.size d A c l) :
    Calls Tryz.prog 126 #[.slice A l.length c] w fun e w' => e = .returned (.bool (l.all (wrV r))) ∧ Below w.heap.size w w' := by
  have CK := Lib.hid (containsVS 148 entWrV #[] (fun t => okV r t = true) (fun t => !wrV r t) w d (closure_wr r ih w) A c l ho h)
  have e0 : (!l.any (fun t => !wrV r t)) = l.all (wrV r) := by rw [any_notT, Bool.not_not]
  rw [← e0]
  generalize l.any (fun t => !wrV r t) = b at *
  clear ih ho h e0
  go_enter Tryz.func126, Tryz.ntmps126
  go_wp2_with fail
  refine CK.out.mono ?_
  rintro e w1 ⟨rfl, hb⟩
  have HB := Lib.hid hb
  clear hb CK
  go_wp2
  go_ret
  exact ⟨rfl, HB.out⟩
theorem wrV_12 (r : Nat) (t : V) (h : (t.k == 1) = true ∨ (t.k == 2) = true) : wrV (r + 1) t = true := by
  have h' : t.k = 1 ∨ t.k = 2 := by simpa using h
  unfold wrV; rw [if_pos h']
theorem wrV_3 (r : Nat) (t : V) (h : (t.k == 3) = true) : wrV (r + 1) t = t.s.toList.all (fun c => decide (32 ≤ c.toNat)) := by
  have h' : t.k = 3 := by simpa using h
  unfold wrV; rw [if_neg (by omega), if_pos h']
theorem wrV_6 (r : Nat) (t : V) (h : (t.k == 6) = true) : wrV (r + 1) t = t.l.all (wrV r) := by
  have h' : t.k = 6 := by simpa using h
  show (if _ then _ else _) = _
  rw [if_neg (by omega), if_neg (by omega), if_pos h']
theorem wrV_no (r : Nat) (t : V) (h1 : (t.k == 1) = false) (h2 : (t.k == 2) = false) (h3 : (t.k == 3) = false) (h6 : (t.k == 6) = false) : wrV (r + 1) t = false := by
  have h1' : ¬ t.k = 1 := by simpa using h1
  have h2' : ¬ t.k = 2 := by simpa using h2
  have h3' : ¬ t.k = 3 := by simpa using h3
  have h6' : ¬ t.k = 6 := by simpa using h6
  unfold wrV; rw [if_neg (by omega), if_neg h3', if_neg h6']
set_option maxHeartbeats 1600000 in
theorem wr_succ (r : Nat) (ih : WrOk r) : WrOk (r + 1) := by
  intro w d x ho hx
  obtain ⟨d', rfl⟩ := hx.pos
  have RL := Lib.hid hx.2.1
  have OL := Lib.hid ((ok_parts r x.t).1 ho).2.1
  have SZ := hx.1.s1
  have IH := Lib.hid ih
  have W12 := Lib.hid (wrV_12 r x.t)
  have W3 := Lib.hid (wrV_3 r x.t)
  have W6 := Lib.hid (wrV_6 r x.t)
  have WN := Lib.hid (wrV_no r x.t)
  obtain ⟨ans, hans⟩ : ∃ b, b = wrV (r + 1) x.t := ⟨_, rfl⟩
  rw [← hans] at W12 W3 W6 WN ⊢
  clear hx ih ho hans
  unfold At.v
  go_enter Tryz.func103, Tryz.ntmps103
  go_upto_region 1 with fail
  have k1 := Bx.new w x
  generalize hW : World.alloc w _ = W
  have K1 : Hid (Bx W w.heap.size x) := Lib.hid (by rw [← hW]; exact k1)
  have HB : Hid (Below w.heap.size w W) := Lib.hid (by rw [← hW]; exact below_new _ _)
  obtain ⟨a0, a1, a2, a3, a4, _⟩ := K1.out
  clear hW k1
  cases n1 : (x.t.k == 1)
  case true =>
    have FIN := Lib.hid (W12.out (.inl n1))
    go_wp2
    go_ret
    exact ⟨by rw [FIN.out]; rfl, HB.out⟩
  cases n2 : (x.t.k == 2)
  case true =>
    have FIN := Lib.hid (W12.out (.inr n2))
    go_wp2
    go_ret
    exact ⟨by rw [FIN.out]; rfl, HB.out⟩
  cases n3 : (x.t.k == 3)
  case true =>
    have FIN := Lib.hid (W3.out n3)
    have CT := Lib.hid (wtext_any x.t.s W SZ)
    generalize x.t.s.toList.all (fun c => decide (32 ≤ c.toNat)) = b at *
    go_wp2_with fail
    refine CT.out.mono ?_
    rintro e w1 ⟨rfl, rfl⟩
    go_wp2
    go_ret
    exact ⟨by rw [FIN.out]; rfl, HB.out⟩
  cases n6 : (x.t.k == 6)
  case true =>
    have FIN := Lib.hid (W6.out n6)
    have CT := Lib.hid (areWr r IH.out W d' x.A x.c x.t.l OL.out (RL.out.next HB.out))
    generalize x.t.l.all (wrV r) = b at *
    go_wp2_with fail
    refine CT.out.mono ?_
    rintro e w1 ⟨rfl, hb⟩
    have HB1 := Lib.hid (bnext HB.out hb)
    clear hb
    go_wp2
    go_ret
    exact ⟨by rw [FIN.out]; rfl, HB1.out⟩
  have FIN := Lib.hid (WN.out n1 n2 n3 n6)
  go_wp2
  go_ret
  exact ⟨by rw [FIN.out]; rfl, HB.out⟩
theorem wr_any : ∀ r, WrOk r
  | 0 => fun _ _ _ h => by cases h
  | r + 1 => wr_succ r (wr_any r)

/-- tree.isWrittenPred of a predicate that may be. -/
def WrPOk (r : Nat) : Prop := ∀ (w : World) (d : Nat) (x : Pt), okP r x.t = true → x.In w d →
  Calls Tryz.prog 105 #[x.val] w fun e w' => e = .returned (.bool (wrP r x.t)) ∧ Below w.heap.size w w'
set_option maxHeartbeats 800000 in
theorem closure_wrP (r : Nat) (ih : WrPOk r) (w : World) : PredsP 128 #[] w (fun t => okP r t = true) (fun t => !wrP r t) := by
  intro W d x ho _ hx
  have b0 := below_new W (.cells #[.int .i64 x.t.k, .slice x.A x.t.v.length x.c, .slice x.A' x.t.p.length x.c'] 80)
  have CK := Lib.hid (ih _ d x ho (hx.next b0))
  have B0 := Lib.hid b0
  clear hx b0 ih ho
  show Calls Tryz.prog 128 #[x.val] W fun e w' => e = .returned (.bool (!wrP r x.t)) ∧ Below W.heap.size W w'
  generalize wrP r x.t = b at *
  unfold Pt.val at *
  go_enter Tryz.func128, Tryz.ntmps128
  go_wp2_with fail
  refine CK.out.mono ?_
  rintro e w1 ⟨rfl, hb⟩
  have HB := Lib.hid (bnext B0.out hb)
  clear hb CK
  go_wp2
  go_ret
  exact ⟨rfl, HB.out⟩
theorem okP_parts (r : Nat) (t : P) : okP (r + 1) t = true ↔ fitsP t = true ∧ (∀ x ∈ t.v, okV 12 x = true) ∧ (∀ x ∈ t.p, okP r x = true) := by
  show (fitsP t && t.v.all (okV 12) && t.p.all (okP r)) = true ↔ _
  rw [Bool.and_eq_true, Bool.and_eq_true, List.all_eq_true, List.all_eq_true, and_assoc]
set_option maxHeartbeats 1600000 in
theorem wrP_succ (r : Nat) (ih : WrPOk r) : WrPOk (r + 1) := by
  intro w d x ho hx
  obtain ⟨d', rfl⟩ := hx.pos
  obtain ⟨n, rv⟩ := hx.2.1
  obtain ⟨_, ov, op⟩ := (okP_parts r x.t).1 ho
  have RV := Lib.hid rv
  have RP := Lib.hid hx.2.2
  have OV := Lib.hid ov
  have OP := Lib.hid op
  have IH := Lib.hid ih
  have FIN := Lib.hid (show wrP (r + 1) x.t = (x.t.v.all (wrV 12) && !x.t.p.any (fun t => !wrP r t)) by rw [any_notT, Bool.not_not]; rfl)
  obtain ⟨ans, hans⟩ : ∃ b, b = wrP (r + 1) x.t := ⟨_, rfl⟩
  rw [← hans] at FIN ⊢
  clear hx ih ho hans rv ov op
  unfold Pt.val
  go_enter Tryz.func105, Tryz.ntmps105
  go_upto_region 1 with fail
  have k1 := BP.new w x
  generalize hW : World.alloc w _ = W
  have K1 : Hid (BP W w.heap.size x) := Lib.hid (by rw [← hW]; exact k1)
  have HB : Hid (Below w.heap.size w W) := Lib.hid (by rw [← hW]; exact below_new _ _)
  obtain ⟨a0, a1, a2, _⟩ := K1.out
  clear hW k1
  have CT := Lib.hid (areWr 12 (wr_any 12) W n x.A x.c x.t.v OV.out (RV.out.next HB.out))
  generalize x.t.v.all (wrV 12) = b at *
  go_wp2_with fail
  refine CT.out.mono ?_
  rintro e w1 ⟨rfl, hb⟩
  have HB1 := Lib.hid (bnext HB.out hb)
  have K2 := Lib.hid (K1.out.next hb)
  clear hb CT a0 a1 a2
  obtain ⟨a0, a1, a2, _⟩ := K2.out
  cases b
  · go_wp2_with fail
    go_ret
    exact ⟨by rw [FIN.out]; rfl, HB1.out⟩
  · have CP := Lib.hid (containsPs 128 entWrP #[] _ _ w1 (closure_wrP r IH.out w1) d' x.A' x.c' x.t.p OP.out (RP.out.next HB1.out))
    generalize x.t.p.any (fun t => !wrP r t) = b2 at *
    go_wp2_with fail
    refine CP.out.mono ?_
    rintro e w2 ⟨rfl, hb⟩
    have HB2 := Lib.hid (bnext HB1.out hb)
    clear hb CP
    go_wp2
    go_ret
    exact ⟨by rw [FIN.out]; rfl, HB2.out⟩
theorem wrP_any : ∀ r, WrPOk r
  | 0 => fun _ _ _ h => by cases h
  | r + 1 => wrP_succ r (wrP_any r)

/-- How many levels a predicate has. -/
noncomputable def hP : P → Nat := @P.rec (fun _ => Nat) (fun _ => Nat) (fun _ _ _ ih => ih + 1) 0 (fun _ _ a b => max a b)
noncomputable def hPs : List P → Nat := @P.rec_1 (fun _ => Nat) (fun _ => Nat) (fun _ _ _ ih => ih + 1) 0 (fun _ _ a b => max a b)
theorem hP_eq (p : P) : hP p = hPs p.p + 1 := by cases p; rfl
theorem hPs_mem : ∀ (l : List P) (x : P), x ∈ l → hP x ≤ hPs l
  | y :: l, x, h => by
    have e : hPs (y :: l) = max (hP y) (hPs l) := rfl
    rcases List.mem_cons.1 h with rfl | h
    · omega
    · have := hPs_mem l x h
      omega
/-- Two predicates the same, so many levels down. -/
def sameQ : Nat → P → P → Bool
  | 0, _, _ => true
  | r + 1, p, q => p.k == q.k && (eqL eqV p.v q.v && eqL (sameQ r) p.p q.p)
theorem eqL_congr {α : Type} (f g : α → α → Bool) : ∀ (l m : List α), (∀ x ∈ l, ∀ y, f x y = g x y) → eqL f l m = eqL g l m
  | [], [], _ => rfl
  | [], _ :: _, _ => rfl
  | _ :: _, [], _ => rfl
  | x :: l, y :: m, h => by
    simp only [eqL]
    rw [h x (by simp), eqL_congr f g l m (fun z hz => h z (by simp [hz]))]
theorem sameQ_top : ∀ (n m : Nat) (p q : P), hP p ≤ n → hP p ≤ m → sameQ n p q = sameQ m p q
  | 0, _, p, _, h, _ => by rw [hP_eq] at h; omega
  | _, 0, p, _, _, h => by rw [hP_eq] at h; omega
  | n + 1, m + 1, p, q, h1, h2 => by
    rw [hP_eq] at h1 h2
    simp only [sameQ]
    rw [eqL_congr (sameQ n) (sameQ m) p.p q.p (fun x hx y => by
      have := hPs_mem _ _ hx
      exact sameQ_top n m x y (by omega) (by omega))]
/-- Two predicates the same, however deep they are. -/
noncomputable def sameP (p q : P) : Bool := sameQ (hP p) p q
theorem eqL_nil' {α : Type} (f g : α → α → Bool) (l : List α) : eqL f l [] = eqL g l [] := by cases l <;> rfl
theorem sameP_leaf (p q : P) (h : q.p = []) : sameP p q = (p.k == q.k && (eqL eqV p.v q.v && eqL (fun _ _ => true) p.p [])) := by
  unfold sameP
  rw [hP_eq]
  simp only [sameQ]
  rw [h, eqL_nil' _ (fun _ _ => true)]
end Go.Proofs.YtllkimdlmnjoiaaGreatDoor



