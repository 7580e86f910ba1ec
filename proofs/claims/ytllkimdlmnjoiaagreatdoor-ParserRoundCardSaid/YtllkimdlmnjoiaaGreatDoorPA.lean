/- Carried over from an earlier seat. -/
import Derived.Test.YtllkimdlmnjoiaaGreatDoorVVb
import Derived.Test.YtllkimdlmnjoiaaGreatDoorVJ
namespace Go.Proofs.YtllkimdlmnjoiaaGreatDoor
set_option maxRecDepth 100000
set_option maxRecDepth 100000
set_option maxRecDepth 100000
set_option maxRecDepth 100000
open Go.RowKit Go.Sort

/-- A predicate: its kind, its values, its predicates. -/
inductive P where
  | mk (k : Int) (v : List V) (p : List P)
def P.k : P → Int | .mk k _ _ => k
def P.v : P → List V | .mk _ v _ => v
def P.p : P → List P | .mk _ _ p => p

abbrev pl (t : P) (A : Option Addr) (c : Nat) (A' : Option Addr) (c' : Nat) : Value :=
  .agg #[.int .i64 t.k, .slice A t.v.length c, .slice A' t.p.length c']

/-- The three cells of a predicate. -/
structure cells3 (w : World) (b o : Nat) (t : P) (A : Option Addr) (c : Nat) (A' : Option Addr) (c' : Nat) : Prop where
  c0 : w.cell? ⟨b, o, none⟩ = some (.int .i64 t.k)
  c1 : w.cell? ⟨b, o + 1, none⟩ = some (.slice A t.v.length c)
  c2 : w.cell? ⟨b, o + 2, none⟩ = some (.slice A' t.p.length c')

/-- A row of predicates. -/
structure PRow (w : World) (lo B : Nat) (R : P → Option Addr → Nat → Option Addr → Nat → Prop) (A : Option Addr) (c : Nat) (l : List P) : Prop where
  le : l.length ≤ c
  cap : c ≤ maxLen
  big : l.length ≤ 2513169434843
  nil : A = none → c = 0
  at_ : 0 < l.length → ∃ b off, A = some ⟨b, off, none⟩ ∧ lo ≤ b ∧ b < B ∧ ∀ j t, l[j]? = some t → ∃ A1 c1 A2 c2, cells3 w b (off + j * 3) t A1 c1 A2 c2 ∧ R t A1 c1 A2 c2

/-- Its kind is a machine's. -/
structure Knd (t : P) : Prop where
  k0 : -9223372036854775808 ≤ t.k
  k1 : t.k ≤ 9223372036854775807

/-- A predicate, at most so deep. -/
def Pd (w : World) (lo B : Nat) : Nat → P → Option Addr → Nat → Option Addr → Nat → Prop
  | 0, _, _, _, _, _ => False
  | d + 1, t, A, c, A', c' => Knd t ∧ (∃ n, Rw w lo B n A c t.v) ∧ PRow w lo B (Pd w lo B d) A' c' t.p
abbrev Pw (w : World) (lo B d : Nat) (A : Option Addr) (c : Nat) (l : List P) : Prop := PRow w lo B (Pd w lo B d) A c l

theorem cells3.keep {w w' : World} {lo B b o : Nat} {t : P} {A A' : Option Addr} {c c' : Nat} (h : cells3 w b o t A c A' c') (hk : Kept lo B w w') (h1 : lo ≤ b) (h2 : b < B) : cells3 w' b o t A c A' c' :=
  ⟨(hk.cell h1 h2).trans h.c0, (hk.cell h1 h2).trans h.c1, (hk.cell h1 h2).trans h.c2⟩
theorem PRow.imp {w w' : World} {lo B lo' B' : Nat} {R R' : P → Option Addr → Nat → Option Addr → Nat → Prop} {A : Option Addr} {c : Nat} {l : List P} (h : PRow w lo B R A c l)
    (hk : Kept lo B w w') (h1 : lo' ≤ lo) (h2 : B ≤ B') (hR : ∀ t A1 c1 A2 c2, R t A1 c1 A2 c2 → R' t A1 c1 A2 c2) : PRow w' lo' B' R' A c l :=
  ⟨h.le, h.cap, h.big, h.nil, fun h0 => by
    obtain ⟨b, off, e, b1, b2, hc⟩ := h.at_ h0
    refine ⟨b, off, e, by omega, by omega, fun j t hj => ?_⟩
    obtain ⟨A1, c1, A2, c2, q1, q2⟩ := hc j t hj
    exact ⟨A1, c1, A2, c2, q1.keep hk b1 b2, hR _ _ _ _ _ q2⟩⟩
theorem Pd.imp {w w' : World} {lo B lo' B' : Nat} (hk : Kept lo B w w') (h1 : lo' ≤ lo) (h2 : B ≤ B') : ∀ {d d' : Nat} {t : P} {A A' : Option Addr} {c c' : Nat}, d ≤ d' → Pd w lo B d t A c A' c' → Pd w' lo' B' d' t A c A' c'
  | 0, _, _, _, _, _, _, _, h => h.elim
  | d + 1, 0, _, _, _, _, _, hd, _ => absurd hd (by omega)
  | d + 1, d' + 1, _, _, _, _, _, hd, h => ⟨h.1, h.2.1.imp fun n hn => hn.imp hk h1 h2 (fun _ _ _ _ _ => Rd.imp hk h1 h2 (Nat.le_refl _)), h.2.2.imp hk h1 h2 (fun _ _ _ _ _ => Pd.imp hk h1 h2 (by omega))⟩
theorem Pd.keep {w w' : World} {lo B d : Nat} {t : P} {A A' : Option Addr} {c c' : Nat} (h : Pd w lo B d t A c A' c') (hk : Kept lo B w w') : Pd w' lo B d t A c A' c' := Pd.imp hk (Nat.le_refl _) (Nat.le_refl _) (Nat.le_refl _) h
theorem PRow.keep {w w' : World} {lo B d : Nat} {A : Option Addr} {c : Nat} {l : List P} (h : Pw w lo B d A c l) (hk : Kept lo B w w') : Pw w' lo B d A c l := h.imp hk (Nat.le_refl _) (Nat.le_refl _) (fun _ _ _ _ _ h => h.keep hk)
theorem Pd.more {w : World} {lo lo' B B' d d' : Nat} {t : P} {A A' : Option Addr} {c c' : Nat} (h : Pd w lo B d t A c A' c') (h1 : lo' ≤ lo) (h2 : B ≤ B') (h3 : d ≤ d') : Pd w lo' B' d' t A c A' c' := Pd.imp (Kept.refl _ _ _) h1 h2 h3 h
theorem PRow.more {w : World} {lo lo' B B' d d' : Nat} {A : Option Addr} {c : Nat} {l : List P} (h : Pw w lo B d A c l) (h1 : lo' ≤ lo) (h2 : B ≤ B') (h3 : d ≤ d') : Pw w lo' B' d' A c l := h.imp (Kept.refl _ _ _) h1 h2 (fun _ _ _ _ _ h => h.more h1 h2 h3)
theorem Pd.next {w w' : World} {d : Nat} {t : P} {A A' : Option Addr} {c c' : Nat} (h : Pd w 0 w.heap.size d t A c A' c') (hb : Below w.heap.size w w') : Pd w' 0 w'.heap.size d t A c A' c' :=
  Pd.imp (Kept.of_below hb (Nat.le_refl _)) (Nat.le_refl _) hb.size (Nat.le_refl _) h
theorem PRow.next {w w' : World} {d : Nat} {A : Option Addr} {c : Nat} {l : List P} (h : Pw w 0 w.heap.size d A c l) (hb : Below w.heap.size w w') : Pw w' 0 w'.heap.size d A c l :=
  h.imp (Kept.of_below hb (Nat.le_refl _)) (Nat.le_refl _) hb.size (fun _ _ _ _ _ h => h.next hb)
theorem Pd.pos {w : World} {lo B d : Nat} {t : P} {A A' : Option Addr} {c c' : Nat} (h : Pd w lo B d t A c A' c') : ∃ e, d = e + 1 := by
  cases d with
  | zero => exact h.elim
  | succ e => exact ⟨e, rfl⟩
theorem pw_nil (w : World) (lo B d : Nat) : Pw w lo B d none 0 [] := ⟨by simp, by unfold maxLen; omega, by simp, fun _ => rfl, fun h => absurd h (by simp)⟩

/-- A predicate with where its rows lie. -/
structure Pt where
  t : P
  A : Option Addr
  c : Nat
  A' : Option Addr
  c' : Nat
abbrev Pt.val (x : Pt) : Value := .agg #[.int .i64 x.t.k, .slice x.A x.t.v.length x.c, .slice x.A' x.t.p.length x.c']
def Pt.cs (x : Pt) : List Value := [.int .i64 x.t.k, .slice x.A x.t.v.length x.c, .slice x.A' x.t.p.length x.c']
def Pt.In (x : Pt) (w : World) (d : Nat) : Prop := Pd w 0 w.heap.size d x.t x.A x.c x.A' x.c'
theorem Pt.In.next {x : Pt} {a b : World} {d : Nat} (h : x.In a d) (hb : Below a.heap.size a b) : x.In b d := Pd.next h hb
/-- One element of a row. -/
theorem PRow.elem {w : World} {lo B : Nat} {R : P → Option Addr → Nat → Option Addr → Nat → Prop} {A : Option Addr} {c : Nat} {l : List P} (h : PRow w lo B R A c l) {k : Nat} (hk : k < l.length) :
    ∃ (b off : Nat) (x : Pt), A = some ⟨b, off, none⟩ ∧ lo ≤ b ∧ b < B ∧ l[k]? = some x.t ∧ cells3 w b (off + k * 3) x.t x.A x.c x.A' x.c' ∧ R x.t x.A x.c x.A' x.c' := by
  obtain ⟨b, off, e, b1, b2, hc⟩ := h.at_ (by omega)
  have hj : l[k]? = some l[k] := List.getElem?_eq_getElem hk
  obtain ⟨A1, c1, A2, c2, q1, q2⟩ := hc k _ hj
  exact ⟨b, off, ⟨l[k], A1, c1, A2, c2⟩, e, b1, b2, hj, q1, q2⟩

/-- A predicate's box. -/
structure BP (w : World) (g : Nat) (x : Pt) : Prop where
  c0 : w.cell? ⟨g, 0, none⟩ = some (.int .i64 x.t.k)
  c1 : w.cell? ⟨g, 1, none⟩ = some (.slice x.A x.t.v.length x.c)
  c2 : w.cell? ⟨g, 2, none⟩ = some (.slice x.A' x.t.p.length x.c')
  lt : g < w.heap.size
theorem BP.new (w : World) (x : Pt) : BP (w.alloc (.cells #[.int .i64 x.t.k, .slice x.A x.t.v.length x.c, .slice x.A' x.t.p.length x.c'] 80)) w.heap.size x := by
  constructor <;> first | (simp; done) | (rw [World.cell?_alloc_at _ _ _ _ rfl]; rfl)
theorem BP.next {w w' : World} {g : Nat} {x : Pt} (h : BP w g x) (hb : Below w.heap.size w w') : BP w' g x :=
  ⟨(hb.cell h.lt).trans h.c0, (hb.cell h.lt).trans h.c1, (hb.cell h.lt).trans h.c2, Nat.lt_of_lt_of_le h.lt hb.size⟩

/-- Where the first is of which p holds, or -1. -/
def idxT {α : Type} (p : α → Bool) : List α → Nat → Int
  | [], _ => -1
  | x :: r, k => if p x then k else idxT p r (k + 1)
theorem idxT_yes {α : Type} (p : α → Bool) (l : List α) (k : Nat) {x : α} (hx : l[k]? = some x) (h : p x = true) : idxT p (l.drop k) k = k := by
  obtain ⟨h1, e1⟩ := List.getElem?_eq_some_iff.1 hx
  rw [List.drop_eq_getElem_cons h1, e1]; simp [idxT, h]
theorem idxT_no {α : Type} (p : α → Bool) (l : List α) (k : Nat) {x : α} (hx : l[k]? = some x) (h : p x = false) : idxT p (l.drop k) k = idxT p (l.drop (k + 1)) (k + 1) := by
  obtain ⟨h1, e1⟩ := List.getElem?_eq_some_iff.1 hx
  rw [List.drop_eq_getElem_cons h1, e1]; simp [idxT, h]
theorem idxT_out {α : Type} (p : α → Bool) (l : List α) (k j : Nat) (h : l.length ≤ k) : idxT p (l.drop k) j = -1 := by rw [List.drop_eq_nil_of_le h]; rfl
theorem idxT_range {α : Type} (p : α → Bool) : ∀ (l : List α) (k : Nat), idxT p l k = -1 ∧ l.any p = false ∨ ((k : Int) ≤ idxT p l k ∧ idxT p l k < (k : Int) + l.length ∧ l.any p = true)
  | [], _ => .inl ⟨rfl, rfl⟩
  | x :: r, k => by
    by_cases h : p x = true
    · right; simp [idxT, h]; omega
    · have h' : p x = false := by simpa using h
      rcases idxT_range p r (k + 1) with ⟨e, a⟩ | ⟨e1, e2, a⟩
      · left; simp [idxT, h', e, a]
      · right; simp only [idxT, h', List.any_cons, a, List.length_cons]; simp; omega

/-- A function of that number is entered when it is called. -/
def Enters (F : Nat) : Prop := ∀ (args : Array Value) (w : World), Sem.run Tryz.prog (callFunc F args) w = .ok (.enter F args) w
theorem enters39 : Enters 150 := fun _ _ => by kernel_rfl
theorem enters41 : Enters 151 := fun _ _ => rfl

/-- A function value that asks p of a predicate of which S holds, in every world in which all that lay in w lies unturned. -/
def PredsP (F : Nat) (caps : Array Value) (w : World) (S : P → Prop) (p : P → Bool) : Prop :=
  ∀ (W : World) (d : Nat) (x : Pt), S x.t → Below w.heap.size w W → x.In W d →
    Calls Tryz.prog F (#[x.val] ++ caps) W fun e w' => e = .returned (.bool (p x.t)) ∧ Below W.heap.size W w'
/-- The same of a value. -/
def PredsV (F : Nat) (caps : Array Value) (w : World) (p : V → Bool) : Prop :=
  ∀ (W : World) (d : Nat) (x : At), Below w.heap.size w W → x.In W d →
    Calls Tryz.prog F (#[x.v] ++ caps) W fun e w' => e = .returned (.bool (p x.t)) ∧ Below W.heap.size W w'

set_option maxHeartbeats 1600000 in
theorem indexPs (F : Nat) (hE : Enters F) (caps : Array Value) (S : P → Prop) (p : P → Bool) (w : World) (hcl : PredsP F caps w S p) (d : Nat) (A : Option Addr) (c : Nat) (l : List P) (hS : ∀ x ∈ l, S x) (h : Pw w 0 w.heap.size d A c l) :
    Calls Tryz.prog 152 #[.slice A l.length c, .func (.func F) #[] caps] w fun e w' => e = .returned (.int .i64 (idxT p l 0)) ∧ Below w.heap.size w w' := by
  have HC := Lib.hid hcl
  have H1 := Lib.hid h
  have HS := Lib.hid hS
  have b1 := h.big
  clear hcl h hS
  go_enter Tryz.func152, Tryz.ntmps152
  go_wp2
  go_loopw [8] (fun i wr => ∃ k : Nat, k ≤ l.length ∧ i = .int .i64 k ∧ Hid (Below w.heap.size w wr) ∧ Hid (idxT p (l.drop k) k = idxT p l 0)) (fun i _ => l.length - (intOf i).toNat)
  case atStart => exact ⟨0, by omega, rfl, Lib.hid (Below.refl _ _), Lib.hid (by simp)⟩
  case round =>
    obtain ⟨k, hk, rfl, hbel, hr⟩ := hrel
    by_cases hlt : k < l.length
    · obtain ⟨b, off, x, rfl, _, hb, hx, q, rx⟩ := (H1.out.next hbel.out).elem hlt
      obtain ⟨q0, q1, q2⟩ := q
      have RX := Lib.hid rx
      have SX := Lib.hid (HS.out _ (List.mem_of_getElem? hx))
      have Y := Lib.hid (idxT_yes p l k hx)
      have N := Lib.hid (idxT_no p l k hx)
      clear rx hx
      go_wp2_with fail
      rw [hE, Oper.upon_enter]
      refine (HC.out _ _ x SX.out hbel.out RX.out).mono ?_
      rintro e w1 ⟨rfl, hb1⟩
      have HB := Lib.hid (bnext hbel.out hb1)
      clear hb1
      cases hp : p x.t
      · go_wp2
        go_roundw
        case rel => exact ⟨k + 1, by omega, by go_num, HB, Lib.hid (by rw [← hr.out, N.out hp])⟩
        case measure => simp [intOf]; omega
      · go_wp2
        go_ret
        exact ⟨by rw [← hr.out, Y.out hp]; rfl, HB.out⟩
    · have OUT := Lib.hid (idxT_out p l k k (by omega))
      go_wp2
      go_ret
      exact ⟨by rw [← hr.out, OUT.out]; rfl, hbel.out⟩

set_option maxHeartbeats 1600000 in
theorem indexVs (F : Nat) (hE : Enters F) (caps : Array Value) (p : V → Bool) (w : World) (hcl : PredsV F caps w p) (d : Nat) (A : Option Addr) (c : Nat) (l : List V) (h : Rw w 0 w.heap.size d A c l) :
    Calls Tryz.prog 163 #[.slice A l.length c, .func (.func F) #[] caps] w fun e w' => e = .returned (.int .i64 (idxT p l 0)) ∧ Below w.heap.size w w' := by
  have HC := Lib.hid hcl
  have H1 := Lib.hid h
  have b1 := h.big
  clear hcl h
  go_enter Tryz.func163, Tryz.ntmps163
  go_wp2
  go_loopw [8] (fun i wr => ∃ k : Nat, k ≤ l.length ∧ i = .int .i64 k ∧ Hid (Below w.heap.size w wr) ∧ Hid (idxT p (l.drop k) k = idxT p l 0)) (fun i _ => l.length - (intOf i).toNat)
  case atStart => exact ⟨0, by omega, rfl, Lib.hid (Below.refl _ _), Lib.hid (by simp)⟩
  case round =>
    obtain ⟨k, hk, rfl, hbel, hr⟩ := hrel
    by_cases hlt : k < l.length
    · obtain ⟨b, off, x, A1, c1, A2, c2, rfl, _, hb, hx, q, rx⟩ := (H1.out.next hbel.out).elem hlt
      obtain ⟨q0, q1, q2, q3, q4⟩ := q
      have RX := Lib.hid rx
      have Y := Lib.hid (idxT_yes p l k hx)
      have N := Lib.hid (idxT_no p l k hx)
      clear rx hx
      go_wp2_with fail
      rw [hE, Oper.upon_enter]
      refine (HC.out _ _ ⟨x, A1, c1, A2, c2⟩ hbel.out RX.out).mono ?_
      rintro e w1 ⟨rfl, hb1⟩
      have HB := Lib.hid (bnext hbel.out hb1)
      clear hb1
      cases hp : p x
      · go_wp2
        go_roundw
        case rel => exact ⟨k + 1, by omega, by go_num, HB, Lib.hid (by rw [← hr.out, N.out hp])⟩
        case measure => simp [intOf]; omega
      · go_wp2
        go_ret
        exact ⟨by rw [← hr.out, Y.out hp]; rfl, HB.out⟩
    · have OUT := Lib.hid (idxT_out p l k k (by omega))
      go_wp2
      go_ret
      exact ⟨by rw [← hr.out, OUT.out]; rfl, hbel.out⟩

set_option maxHeartbeats 800000 in
theorem containsPs (F : Nat) (hE : Enters F) (caps : Array Value) (S : P → Prop) (p : P → Bool) (w : World) (hcl : PredsP F caps w S p) (d : Nat) (A : Option Addr) (c : Nat) (l : List P) (hS : ∀ x ∈ l, S x) (h : Pw w 0 w.heap.size d A c l) :
    Calls Tryz.prog 129 #[.slice A l.length c, .func (.func F) #[] caps] w fun e w' => e = .returned (.bool (l.any p)) ∧ Below w.heap.size w w' := by
  have CT := Lib.hid (indexPs F hE caps S p w hcl d A c l hS h)
  have R := Lib.hid (idxT_range p l 0)
  clear hcl h hS
  go_enter Tryz.func129, Tryz.ntmps129
  go_wp2_with fail
  refine CT.out.mono ?_
  rintro e w1 ⟨rfl, hb1⟩
  have HB := Lib.hid hb1
  clear hb1
  go_wp2
  go_ret
  refine ⟨?_, HB.out⟩
  show Ending.returned (.bool (decide (0 ≤ idxT p l 0))) = _
  rcases R.out with ⟨e, a⟩ | ⟨e1, e2, a⟩
  · rw [a, e]; rfl
  · rw [a, decide_eq_true (by omega)]

set_option maxHeartbeats 800000 in
theorem containsVs (F : Nat) (hE : Enters F) (caps : Array Value) (p : V → Bool) (w : World) (hcl : PredsV F caps w p) (d : Nat) (A : Option Addr) (c : Nat) (l : List V) (h : Rw w 0 w.heap.size d A c l) :
    Calls Tryz.prog 146 #[.slice A l.length c, .func (.func F) #[] caps] w fun e w' => e = .returned (.bool (l.any p)) ∧ Below w.heap.size w w' := by
  have CT := Lib.hid (indexVs F hE caps p w hcl d A c l h)
  have R := Lib.hid (idxT_range p l 0)
  clear hcl h
  go_enter Tryz.func146, Tryz.ntmps146
  go_wp2_with fail
  refine CT.out.mono ?_
  rintro e w1 ⟨rfl, hb1⟩
  have HB := Lib.hid hb1
  clear hb1
  go_wp2
  go_ret
  refine ⟨?_, HB.out⟩
  show Ending.returned (.bool (decide (0 ≤ idxT p l 0))) = _
  rcases R.out with ⟨e, a⟩ | ⟨e1, e2, a⟩
  · rw [a, e]; rfl
  · rw [a, decide_eq_true (by omega)]
end Go.Proofs.YtllkimdlmnjoiaaGreatDoor




