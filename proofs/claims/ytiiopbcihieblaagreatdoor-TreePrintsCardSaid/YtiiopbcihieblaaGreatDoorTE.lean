/- Carried over from an earlier seat. -/
import Derived.Test.YtiiopbcihieblaaGreatDoorTD
namespace Go.Proofs.YtiiopbcihieblaaGreatDoor
set_option maxRecDepth 100000
set_option maxRecDepth 100000
open Go.RowKit Go.Sort

/-- One by one the same. -/
def eqL {α : Type} (f : α → α → Bool) : List α → List α → Bool
  | [], [] => true
  | x :: l, y :: m => f x y && eqL f l m
  | _, _ => false
theorem eqL_len {α : Type} (f : α → α → Bool) : ∀ (l m : List α), l.length ≠ m.length → eqL f l m = false
  | [], [], h => absurd rfl h
  | [], _ :: _, _ => rfl
  | _ :: _, [], _ => rfl
  | x :: l, y :: m, h => by simp only [eqL]; rw [eqL_len f l m (by simpa using h), Bool.and_false]
theorem eqL_step {α : Type} (f : α → α → Bool) (l m : List α) (k : Nat) {x y : α} (hx : l[k]? = some x) (hy : m[k]? = some y) : eqL f (l.drop k) (m.drop k) = (f x y && eqL f (l.drop (k + 1)) (m.drop (k + 1))) := by
  obtain ⟨h1, e1⟩ := List.getElem?_eq_some_iff.1 hx
  obtain ⟨h2, e2⟩ := List.getElem?_eq_some_iff.1 hy
  rw [List.drop_eq_getElem_cons h1, List.drop_eq_getElem_cons h2, e1, e2]; rfl
theorem eqL_end {α : Type} (f : α → α → Bool) (l m : List α) (k : Nat) (h1 : l.length ≤ k) (h2 : m.length ≤ k) : eqL f (l.drop k) (m.drop k) = true := by
  rw [List.drop_eq_nil_of_le h1, List.drop_eq_nil_of_le h2]; rfl

/-- A function value that asks p of an element of which S holds, in every world in which all that lay in w lies unturned. -/
def PredsS (F : Nat) (caps : Array Value) (w : World) (S : V → Prop) (p : V → Bool) : Prop :=
  ∀ (W : World) (d : Nat) (x : At), S x.t → Below w.heap.size w W → x.In W d → Calls Tryz.prog F (#[x.v] ++ caps) W fun e w' => e = .returned (.bool (p x.t)) ∧ Below W.heap.size W w'
def PredsA (F : Nat) (caps : Array Value) (w : World) (d : Nat) (S : Ag → Prop) (p : Ag → Bool) : Prop :=
  ∀ (W : World) (x : Gt), S x.t → Below w.heap.size w W → x.In W d → Calls Tryz.prog F (#[x.val] ++ caps) W fun e w' => e = .returned (.bool (p x.t)) ∧ Below W.heap.size W w'
def PredsC (F : Nat) (caps : Array Value) (w : World) (d : Nat) (S : C → Prop) (p : C → Bool) : Prop :=
  ∀ (W : World) (x : Ct), S x.t → Below w.heap.size w W → x.In W d → Calls Tryz.prog F (#[x.val] ++ caps) W fun e w' => e = .returned (.bool (p x.t)) ∧ Below W.heap.size W w'
def EqsV (F : Nat) (caps : Array Value) (w : World) (f : V → V → Bool) : Prop :=
  ∀ (W : World) (d : Nat) (x y : At), Below w.heap.size w W → x.In W d → y.In W d → Calls Tryz.prog F (#[x.v, y.v] ++ caps) W fun e w' => e = .returned (.bool (f x.t y.t)) ∧ Below W.heap.size W w'
def EqsA (F : Nat) (caps : Array Value) (w : World) (d : Nat) (S : Ag → Prop) (f : Ag → Ag → Bool) : Prop :=
  ∀ (W : World) (x y : Gt), S y.t → Below w.heap.size w W → x.In W d → y.In W d → Calls Tryz.prog F (#[x.val, y.val] ++ caps) W fun e w' => e = .returned (.bool (f x.t y.t)) ∧ Below W.heap.size W w'
def EqsC (F : Nat) (caps : Array Value) (w : World) (d : Nat) (S : C → Prop) (f : C → C → Bool) : Prop :=
  ∀ (W : World) (x y : Ct), S y.t → Below w.heap.size w W → x.In W d → y.In W d → Calls Tryz.prog F (#[x.val, y.val] ++ caps) W fun e w' => e = .returned (.bool (f x.t y.t)) ∧ Below W.heap.size W w'

set_option maxHeartbeats 1600000 in
theorem indexVS (F : Nat) (hE : Enters F) (caps : Array Value) (S : V → Prop) (p : V → Bool) (w : World) (d : Nat) (hcl : PredsS F caps w S p) (A : Option Addr) (c : Nat) (l : List V) (hS : ∀ x ∈ l, S x) (h : Rw w 0 w.heap.size d A c l) :
    Calls Tryz.prog 139 #[.slice A l.length c, .func (.func F) #[] caps] w fun e w' => e = .returned (.int .i64 (idxT p l 0)) ∧ Below w.heap.size w w' := by
  have HC := Lib.hid hcl
  have H1 := Lib.hid h
  have HS := Lib.hid hS
  have b1 := h.big
  clear hcl h hS
  go_enter Tryz.func139, Tryz.ntmps139
  go_wp2
  go_loopw [8] (fun i wr => ∃ k : Nat, k ≤ l.length ∧ i = .int .i64 k ∧ Hid (Below w.heap.size w wr) ∧ Hid (idxT p (l.drop k) k = idxT p l 0)) (fun i _ => l.length - (intOf i).toNat)
  case atStart => exact ⟨0, by omega, rfl, Lib.hid (Below.refl _ _), Lib.hid (by simp)⟩
  case round =>
    obtain ⟨k, hk, rfl, hbel, hr⟩ := hrel
    by_cases hlt : k < l.length
    · obtain ⟨b, off, x0, A1, c1, A2, c2, rfl, _, hb, hx, q, rx⟩ := (H1.out.next hbel.out).elem hlt
      obtain ⟨q0, q1, q2, q3, q4⟩ := q
      have RX := Lib.hid rx
      have SX := Lib.hid (HS.out _ (List.mem_of_getElem? hx))
      have Y := Lib.hid (idxT_yes p l k hx)
      have N := Lib.hid (idxT_no p l k hx)
      clear rx hx
      go_wp2_with fail
      rw [hE, Oper.upon_enter]
      refine (HC.out _ _ (⟨x0, A1, c1, A2, c2⟩ : At) SX.out hbel.out RX.out).mono ?_
      rintro e w1 ⟨rfl, hb1⟩
      have HB := Lib.hid (bnext hbel.out hb1)
      clear hb1
      cases hp : p x0
      · go_wp2
        go_roundw
        case rel => exact ⟨k + 1, by omega, by go_num, HB, Lib.hid (by rw [← hr.out, N.out hp])⟩
        case measure => simp [intOf]; omega
      · go_wp2
        go_ret
        exact ⟨by rw [← hr.out, Y.out hp]; rfl, HB.out⟩
    · have OUT := Lib.hid (idxT_out p l k k (by omega))
      go_wp2
      go_ret
      exact ⟨by rw [← hr.out, OUT.out]; rfl, hbel.out⟩
set_option maxHeartbeats 800000 in
theorem containsVS (F : Nat) (hE : Enters F) (caps : Array Value) (S : V → Prop) (p : V → Bool) (w : World) (d : Nat) (hcl : PredsS F caps w S p) (A : Option Addr) (c : Nat) (l : List V) (hS : ∀ x ∈ l, S x) (h : Rw w 0 w.heap.size d A c l) :
    Calls Tryz.prog 128 #[.slice A l.length c, .func (.func F) #[] caps] w fun e w' => e = .returned (.bool (l.any p)) ∧ Below w.heap.size w w' := by
  have CT := Lib.hid (indexVS F hE caps S p w d hcl A c l hS h)
  have R := Lib.hid (idxT_range p l 0)
  clear hcl h hS
  go_enter Tryz.func128, Tryz.ntmps128
  go_wp2_with fail
  refine CT.out.mono ?_
  rintro e w1 ⟨rfl, hb1⟩
  have HB := Lib.hid hb1
  clear hb1
  go_wp2
  go_ret
  refine ⟨?_, HB.out⟩
  show Ending.returned (.bool (decide (0 ≤ idxT p l 0))) = _
  rcases R.out with ⟨e, a⟩ | ⟨e1, e2, a⟩
  · rw [a, e]; rfl
  · rw [a, decide_eq_true (by omega)]

set_option maxHeartbeats 1600000 in
theorem indexAS (F : Nat) (hE : Enters F) (caps : Array Value) (S : Ag → Prop) (p : Ag → Bool) (w : World) (d : Nat) (hcl : PredsA F caps w d S p) (A : Option Addr) (c : Nat) (l : List Ag) (hS : ∀ x ∈ l, S x) (h : Aw w d A c l) :
    Calls Tryz.prog 96 #[.slice A l.length c, .func (.func F) #[] caps] w fun e w' => e = .returned (.int .i64 (idxT p l 0)) ∧ Below w.heap.size w w' := by
  have HC := Lib.hid hcl
  have H1 := Lib.hid h
  have HS := Lib.hid hS
  have b1 := h.big
  clear hcl h hS
  go_enter Tryz.func96, Tryz.ntmps96
  go_wp2
  go_loopw [8] (fun i wr => ∃ k : Nat, k ≤ l.length ∧ i = .int .i64 k ∧ Hid (Below w.heap.size w wr) ∧ Hid (idxT p (l.drop k) k = idxT p l 0)) (fun i _ => l.length - (intOf i).toNat)
  case atStart => exact ⟨0, by omega, rfl, Lib.hid (Below.refl _ _), Lib.hid (by simp)⟩
  case round =>
    obtain ⟨k, hk, rfl, hbel, hr⟩ := hrel
    by_cases hlt : k < l.length
    · obtain ⟨b, off, x, rfl, hb, hx, q, rx⟩ := (H1.out.next hbel.out).elem hlt
      obtain ⟨q0, q1, q2, q3, q4, q5, q6, q7, q8, q9, q10⟩ := q
      have RX := Lib.hid rx
      have SX := Lib.hid (HS.out _ (List.mem_of_getElem? hx))
      have Y := Lib.hid (idxT_yes p l k hx)
      have N := Lib.hid (idxT_no p l k hx)
      clear rx hx
      go_wp2_with fail
      rw [hE, Oper.upon_enter]
      refine (HC.out _ x SX.out hbel.out RX.out).mono ?_
      rintro e w1 ⟨rfl, hb1⟩
      have HB := Lib.hid (bnext hbel.out hb1)
      clear hb1
      cases hp : p x.t
      · go_wp2
        go_roundw
        case rel => exact ⟨k + 1, by omega, by go_num, HB, Lib.hid (by rw [← hr.out, N.out hp])⟩
        case measure => simp [intOf]; omega
      · go_wp2
        go_ret
        exact ⟨by rw [← hr.out, Y.out hp]; rfl, HB.out⟩
    · have OUT := Lib.hid (idxT_out p l k k (by omega))
      go_wp2
      go_ret
      exact ⟨by rw [← hr.out, OUT.out]; rfl, hbel.out⟩
set_option maxHeartbeats 800000 in
theorem containsAS (F : Nat) (hE : Enters F) (caps : Array Value) (S : Ag → Prop) (p : Ag → Bool) (w : World) (d : Nat) (hcl : PredsA F caps w d S p) (A : Option Addr) (c : Nat) (l : List Ag) (hS : ∀ x ∈ l, S x) (h : Aw w d A c l) :
    Calls Tryz.prog 69 #[.slice A l.length c, .func (.func F) #[] caps] w fun e w' => e = .returned (.bool (l.any p)) ∧ Below w.heap.size w w' := by
  have CT := Lib.hid (indexAS F hE caps S p w d hcl A c l hS h)
  have R := Lib.hid (idxT_range p l 0)
  clear hcl h hS
  go_enter Tryz.func69, Tryz.ntmps69
  go_wp2_with fail
  refine CT.out.mono ?_
  rintro e w1 ⟨rfl, hb1⟩
  have HB := Lib.hid hb1
  clear hb1
  go_wp2
  go_ret
  refine ⟨?_, HB.out⟩
  show Ending.returned (.bool (decide (0 ≤ idxT p l 0))) = _
  rcases R.out with ⟨e, a⟩ | ⟨e1, e2, a⟩
  · rw [a, e]; rfl
  · rw [a, decide_eq_true (by omega)]

set_option maxHeartbeats 1600000 in
theorem indexCS (F : Nat) (hE : Enters F) (caps : Array Value) (S : C → Prop) (p : C → Bool) (w : World) (d : Nat) (hcl : PredsC F caps w d S p) (A : Option Addr) (c : Nat) (l : List C) (hS : ∀ x ∈ l, S x) (h : Ch w 0 w.heap.size (d + 1) A c l) :
    Calls Tryz.prog 70 #[.slice A l.length c, .func (.func F) #[] caps] w fun e w' => e = .returned (.int .i64 (idxT p l 0)) ∧ Below w.heap.size w w' := by
  have HC := Lib.hid hcl
  have H1 := Lib.hid h
  have HS := Lib.hid hS
  have b1 := h.big
  clear hcl h hS
  go_enter Tryz.func70, Tryz.ntmps70
  go_wp2
  go_loopw [8] (fun i wr => ∃ k : Nat, k ≤ l.length ∧ i = .int .i64 k ∧ Hid (Below w.heap.size w wr) ∧ Hid (idxT p (l.drop k) k = idxT p l 0)) (fun i _ => l.length - (intOf i).toNat)
  case atStart => exact ⟨0, by omega, rfl, Lib.hid (Below.refl _ _), Lib.hid (by simp)⟩
  case round =>
    obtain ⟨k, hk, rfl, hbel, hr⟩ := hrel
    by_cases hlt : k < l.length
    · obtain ⟨b, off, x, e, he, rfl, hb, hx, q, hn, ra⟩ := (H1.out.next hbel.out).elem hlt
      obtain ⟨q0, q1⟩ := q
      have RX := Lib.hid (show x.In wr d by cases he; exact ⟨hn, ra⟩)
      have SX := Lib.hid (HS.out _ (List.mem_of_getElem? hx))
      have Y := Lib.hid (idxT_yes p l k hx)
      have N := Lib.hid (idxT_no p l k hx)
      clear ra hn hx
      go_wp2_with fail
      rw [hE, Oper.upon_enter]
      refine (HC.out _ x SX.out hbel.out RX.out).mono ?_
      rintro e w1 ⟨rfl, hb1⟩
      have HB := Lib.hid (bnext hbel.out hb1)
      clear hb1
      cases hp : p x.t
      · go_wp2
        go_roundw
        case rel => exact ⟨k + 1, by omega, by go_num, HB, Lib.hid (by rw [← hr.out, N.out hp])⟩
        case measure => simp [intOf]; omega
      · go_wp2
        go_ret
        exact ⟨by rw [← hr.out, Y.out hp]; rfl, HB.out⟩
    · have OUT := Lib.hid (idxT_out p l k k (by omega))
      go_wp2
      go_ret
      exact ⟨by rw [← hr.out, OUT.out]; rfl, hbel.out⟩
set_option maxHeartbeats 800000 in
theorem containsCS (F : Nat) (hE : Enters F) (caps : Array Value) (S : C → Prop) (p : C → Bool) (w : World) (d : Nat) (hcl : PredsC F caps w d S p) (A : Option Addr) (c : Nat) (l : List C) (hS : ∀ x ∈ l, S x) (h : Ch w 0 w.heap.size (d + 1) A c l) :
    Calls Tryz.prog 43 #[.slice A l.length c, .func (.func F) #[] caps] w fun e w' => e = .returned (.bool (l.any p)) ∧ Below w.heap.size w w' := by
  have CT := Lib.hid (indexCS F hE caps S p w d hcl A c l hS h)
  have R := Lib.hid (idxT_range p l 0)
  clear hcl h hS
  go_enter Tryz.func43, Tryz.ntmps43
  go_wp2_with fail
  refine CT.out.mono ?_
  rintro e w1 ⟨rfl, hb1⟩
  have HB := Lib.hid hb1
  clear hb1
  go_wp2
  go_ret
  refine ⟨?_, HB.out⟩
  show Ending.returned (.bool (decide (0 ≤ idxT p l 0))) = _
  rcases R.out with ⟨e, a⟩ | ⟨e1, e2, a⟩
  · rw [a, e]; rfl
  · rw [a, decide_eq_true (by omega)]

set_option maxHeartbeats 1600000 in
theorem equalVs (F : Nat) (hE : Enters F) (caps : Array Value) (f : V → V → Bool) (w : World) (d : Nat) (hcl : EqsV F caps w f) (A : Option Addr) (c : Nat) (l : List V) (A' : Option Addr) (c' : Nat) (m : List V) (h : Rw w 0 w.heap.size d A c l) (h' : Rw w 0 w.heap.size d A' c' m) :
    Calls Tryz.prog 100 #[.slice A l.length c, .slice A' m.length c', .func (.func F) #[] caps] w fun e w' => e = .returned (.bool (eqL f l m)) ∧ Below w.heap.size w w' := by
  have HC := Lib.hid hcl
  have H1 := Lib.hid h
  have H2 := Lib.hid h'
  have b1 := h.big
  have b2 := h'.big
  clear hcl h h'
  skip
  skip
  by_cases hl : l.length = m.length
  · have hl' : ((l.length : Int) != (m.length : Int)) = false := by rw [hl]; simp
    have HL := Lib.hid hl
    clear hl
    go_enter Tryz.func100, Tryz.ntmps100
    go_wp2
    go_loopw [7, 17] (fun _ i wr => ∃ k : Nat, k ≤ l.length ∧ i = .int .i64 k ∧ Hid (Below w.heap.size w wr) ∧ Hid (eqL f (l.drop k) (m.drop k) = eqL f l m)) (fun _ i _ => l.length - (intOf i).toNat)
    case atStart => exact ⟨0, by omega, rfl, Lib.hid (Below.refl _ _), Lib.hid (by simp)⟩
    case round =>
      obtain ⟨k, hk, rfl, hbel, hr⟩ := hrel
      by_cases hlt : k < l.length
      · have hltm : k < m.length := by have := HL.out; omega
        have hltm' : (k : Int) < (m.length : Int) := by omega
        have hltl' : (k : Int) < (l.length : Int) := by omega
        have k0 : (0 : Int) ≤ (k : Int) := by omega
        obtain ⟨b, off, x0, A1, c1, A2, c2, rfl, _, hb, hx, q, rx⟩ := (H1.out.next hbel.out).elem hlt
        obtain ⟨b2, off2, y0, B1, e1, B2, e2, eB, _, hb2, hy, qq, ry⟩ := (H2.out.next hbel.out).elem hltm
        rw [eB]
        obtain ⟨q0, q1, q2, q3, q4⟩ := q
        obtain ⟨p0, p1, p2, p3, p4⟩ := qq
        have RX0 := Lib.hid rx
        have RY0 := Lib.hid ry
        have ST := Lib.hid (eqL_step f l m k hx hy)
        skip
        clear rx ry hx hy eB
        go_wp2_with fail
        rw [hE, Oper.upon_enter]
        refine (HC.out _ d (⟨x0, A1, c1, A2, c2⟩ : At) (⟨y0, B1, e1, B2, e2⟩ : At) (hbel.out.trans ((below_new2 _ _ _).mono hbel.out.size)) (RX0.out.next (below_new2 _ _ _)) (RY0.out.next (below_new2 _ _ _))).mono ?_
        rintro e w1 ⟨rfl, hb1⟩
        have HB := Lib.hid (bnext hbel.out (bnext (below_new2 _ _ _) hb1))
        clear hb1
        cases hp : f x0 y0
        · have FIN := Lib.hid (show eqL f l m = false by rw [← hr.out, ST.out, hp]; rfl)
          go_wp2
          go_ret
          exact ⟨by rw [FIN.out]; rfl, HB.out⟩
        · have NX := Lib.hid (show eqL f (l.drop (k + 1)) (m.drop (k + 1)) = eqL f l m by rw [← hr.out, ST.out, hp]; rfl)
          go_wp2
          go_roundw
          case rel => exact ⟨k + 1, by omega, by go_num, HB, NX⟩
          case measure => simp [intOf]; omega
      · have FIN := Lib.hid (eqL_end f l m k (by omega) (by have := HL.out; omega))
        go_wp2
        go_ret
        exact ⟨by rw [← hr.out, FIN.out]; rfl, hbel.out⟩
  · have FIN := Lib.hid (eqL_len f l m hl)
    have hl' : ((l.length : Int) != (m.length : Int)) = true := by simp; omega
    go_enter Tryz.func100, Tryz.ntmps100
    go_wp2
    go_ret
    exact ⟨by rw [FIN.out]; rfl, Below.refl _ _⟩

set_option maxHeartbeats 1600000 in
theorem equalAs (F : Nat) (hE : Enters F) (caps : Array Value) (S : Ag → Prop) (f : Ag → Ag → Bool) (w : World) (d : Nat) (hcl : EqsA F caps w d S f) (A : Option Addr) (c : Nat) (l : List Ag) (A' : Option Addr) (c' : Nat) (m : List Ag) (hS : ∀ y ∈ m, S y) (h : Aw w d A c l) (h' : Aw w d A' c' m) :
    Calls Tryz.prog 50 #[.slice A l.length c, .slice A' m.length c', .func (.func F) #[] caps] w fun e w' => e = .returned (.bool (eqL f l m)) ∧ Below w.heap.size w w' := by
  have HC := Lib.hid hcl
  have H1 := Lib.hid h
  have H2 := Lib.hid h'
  have b1 := h.big
  have b2 := h'.big
  clear hcl h h'
  have HS := Lib.hid hS
  clear hS
  by_cases hl : l.length = m.length
  · have hl' : ((l.length : Int) != (m.length : Int)) = false := by rw [hl]; simp
    have HL := Lib.hid hl
    clear hl
    go_enter Tryz.func50, Tryz.ntmps50
    go_wp2
    go_loopw [7, 17] (fun _ i wr => ∃ k : Nat, k ≤ l.length ∧ i = .int .i64 k ∧ Hid (Below w.heap.size w wr) ∧ Hid (eqL f (l.drop k) (m.drop k) = eqL f l m)) (fun _ i _ => l.length - (intOf i).toNat)
    case atStart => exact ⟨0, by omega, rfl, Lib.hid (Below.refl _ _), Lib.hid (by simp)⟩
    case round =>
      obtain ⟨k, hk, rfl, hbel, hr⟩ := hrel
      by_cases hlt : k < l.length
      · have hltm : k < m.length := by have := HL.out; omega
        have hltm' : (k : Int) < (m.length : Int) := by omega
        have hltl' : (k : Int) < (l.length : Int) := by omega
        have k0 : (0 : Int) ≤ (k : Int) := by omega
        obtain ⟨b, off, x, rfl, hb, hx, q, rx⟩ := (H1.out.next hbel.out).elem hlt
        obtain ⟨b2, off2, y, eB, hb2, hy, qq, ry⟩ := (H2.out.next hbel.out).elem hltm
        rw [eB]
        obtain ⟨q0, q1, q2, q3, q4, q5, q6, q7, q8, q9, q10⟩ := q
        obtain ⟨p0, p1, p2, p3, p4, p5, p6, p7, p8, p9, p10⟩ := qq
        have RX0 := Lib.hid rx
        have RY0 := Lib.hid ry
        have ST := Lib.hid (eqL_step f l m k hx hy)
        have SY := Lib.hid (HS.out _ (List.mem_of_getElem? hy))
        clear rx ry hx hy eB
        go_wp2_with fail
        rw [hE, Oper.upon_enter]
        refine (HC.out _ x y SY.out (hbel.out.trans ((below_new2 _ _ _).mono hbel.out.size)) (RX0.out.next (below_new2 _ _ _)) (RY0.out.next (below_new2 _ _ _))).mono ?_
        rintro e w1 ⟨rfl, hb1⟩
        have HB := Lib.hid (bnext hbel.out (bnext (below_new2 _ _ _) hb1))
        clear hb1
        cases hp : f x.t y.t
        · have FIN := Lib.hid (show eqL f l m = false by rw [← hr.out, ST.out, hp]; rfl)
          go_wp2
          go_ret
          exact ⟨by rw [FIN.out]; rfl, HB.out⟩
        · have NX := Lib.hid (show eqL f (l.drop (k + 1)) (m.drop (k + 1)) = eqL f l m by rw [← hr.out, ST.out, hp]; rfl)
          go_wp2
          go_roundw
          case rel => exact ⟨k + 1, by omega, by go_num, HB, NX⟩
          case measure => simp [intOf]; omega
      · have FIN := Lib.hid (eqL_end f l m k (by omega) (by have := HL.out; omega))
        go_wp2
        go_ret
        exact ⟨by rw [← hr.out, FIN.out]; rfl, hbel.out⟩
  · have FIN := Lib.hid (eqL_len f l m hl)
    have hl' : ((l.length : Int) != (m.length : Int)) = true := by simp; omega
    go_enter Tryz.func50, Tryz.ntmps50
    go_wp2
    go_ret
    exact ⟨by rw [FIN.out]; rfl, Below.refl _ _⟩

set_option maxHeartbeats 1600000 in
theorem equalCs (F : Nat) (hE : Enters F) (caps : Array Value) (S : C → Prop) (f : C → C → Bool) (w : World) (d : Nat) (hcl : EqsC F caps w d S f) (A : Option Addr) (c : Nat) (l : List C) (A' : Option Addr) (c' : Nat) (m : List C) (hS : ∀ y ∈ m, S y) (h : Ch w 0 w.heap.size (d + 1) A c l) (h' : Ch w 0 w.heap.size (d + 1) A' c' m) :
    Calls Tryz.prog 51 #[.slice A l.length c, .slice A' m.length c', .func (.func F) #[] caps] w fun e w' => e = .returned (.bool (eqL f l m)) ∧ Below w.heap.size w w' := by
  have HC := Lib.hid hcl
  have H1 := Lib.hid h
  have H2 := Lib.hid h'
  have b1 := h.big
  have b2 := h'.big
  clear hcl h h'
  have HS := Lib.hid hS
  clear hS
  by_cases hl : l.length = m.length
  · have hl' : ((l.length : Int) != (m.length : Int)) = false := by rw [hl]; simp
    have HL := Lib.hid hl
    clear hl
    go_enter Tryz.func51, Tryz.ntmps51
    go_wp2
    go_loopw [7, 17] (fun _ i wr => ∃ k : Nat, k ≤ l.length ∧ i = .int .i64 k ∧ Hid (Below w.heap.size w wr) ∧ Hid (eqL f (l.drop k) (m.drop k) = eqL f l m)) (fun _ i _ => l.length - (intOf i).toNat)
    case atStart => exact ⟨0, by omega, rfl, Lib.hid (Below.refl _ _), Lib.hid (by simp)⟩
    case round =>
      obtain ⟨k, hk, rfl, hbel, hr⟩ := hrel
      by_cases hlt : k < l.length
      · have hltm : k < m.length := by have := HL.out; omega
        have hltm' : (k : Int) < (m.length : Int) := by omega
        have hltl' : (k : Int) < (l.length : Int) := by omega
        have k0 : (0 : Int) ≤ (k : Int) := by omega
        obtain ⟨b, off, x, e, he, rfl, hb, hx, q, hn, ra⟩ := (H1.out.next hbel.out).elem hlt
        obtain ⟨b2, off2, y, e2, he2, eB, hb2, hy, qq, hn2, ra2⟩ := (H2.out.next hbel.out).elem hltm
        rw [eB]
        obtain ⟨q0, q1⟩ := q
        obtain ⟨p0, p1⟩ := qq
        have RX0 := Lib.hid (show x.In wr d by cases he; exact ⟨hn, ra⟩)
        have RY0 := Lib.hid (show y.In wr d by cases he2; exact ⟨hn2, ra2⟩)
        have ST := Lib.hid (eqL_step f l m k hx hy)
        have SY := Lib.hid (HS.out _ (List.mem_of_getElem? hy))
        clear ra hn ra2 hn2 hx hy eB
        go_wp2_with fail
        rw [hE, Oper.upon_enter]
        refine (HC.out _ x y SY.out (hbel.out.trans ((below_new2 _ _ _).mono hbel.out.size)) (RX0.out.next (below_new2 _ _ _)) (RY0.out.next (below_new2 _ _ _))).mono ?_
        rintro e w1 ⟨rfl, hb1⟩
        have HB := Lib.hid (bnext hbel.out (bnext (below_new2 _ _ _) hb1))
        clear hb1
        cases hp : f x.t y.t
        · have FIN := Lib.hid (show eqL f l m = false by rw [← hr.out, ST.out, hp]; rfl)
          go_wp2
          go_ret
          exact ⟨by rw [FIN.out]; rfl, HB.out⟩
        · have NX := Lib.hid (show eqL f (l.drop (k + 1)) (m.drop (k + 1)) = eqL f l m by rw [← hr.out, ST.out, hp]; rfl)
          go_wp2
          go_roundw
          case rel => exact ⟨k + 1, by omega, by go_num, HB, NX⟩
          case measure => simp [intOf]; omega
      · have FIN := Lib.hid (eqL_end f l m k (by omega) (by have := HL.out; omega))
        go_wp2
        go_ret
        exact ⟨by rw [← hr.out, FIN.out]; rfl, hbel.out⟩
  · have FIN := Lib.hid (eqL_len f l m hl)
    have hl' : ((l.length : Int) != (m.length : Int)) = true := by simp; omega
    go_enter Tryz.func51, Tryz.ntmps51
    go_wp2
    go_ret
    exact ⟨by rw [FIN.out]; rfl, Below.refl _ _⟩
end Go.Proofs.YtiiopbcihieblaaGreatDoor

