/- Carried over from an earlier seat. -/
import Derived.Test.YtllkimdlmnjoiaaGreatDoorPA
namespace Go.Proofs.YtllkimdlmnjoiaaGreatDoor
set_option maxRecDepth 100000
set_option maxRecDepth 100000
set_option maxRecDepth 100000
open Go.RowKit Go.Sort

/-- An argument; the calls of its chain are of that type. -/
structure Ar (α : Type) where
  k : Int
  v : V
  p : P
  c : List α
  s : ByteArray
/-- A call. -/
inductive C where
  | mk (n : ByteArray) (a : List (Ar C))
abbrev Ag := Ar C
def C.n : C → ByteArray | .mk n _ => n
def C.a : C → List Ag | .mk _ a => a

/-- An argument with where its rows lie. -/
structure Gt where
  k : Int
  x : At
  q : Pt
  l : List C
  A : Option Addr
  c : Nat
  s : ByteArray
def Gt.t (g : Gt) : Ag := ⟨g.k, g.x.t, g.q.t, g.l, g.s⟩
def Gt.cs (g : Gt) : List Value := [.int .i64 g.k, .int .i64 g.x.t.k, .int .i64 g.x.t.n, .string g.x.t.s, .slice g.x.A g.x.t.l.length g.x.c, .slice g.x.A' g.x.t.m.length g.x.c', .int .i64 g.q.t.k, .slice g.q.A g.q.t.v.length g.q.c, .slice g.q.A' g.q.t.p.length g.q.c', .slice g.A g.l.length g.c, .string g.s]
abbrev Gt.val (g : Gt) : Value := .agg #[.int .i64 g.k, .int .i64 g.x.t.k, .int .i64 g.x.t.n, .string g.x.t.s, .slice g.x.A g.x.t.l.length g.x.c, .slice g.x.A' g.x.t.m.length g.x.c', .int .i64 g.q.t.k, .slice g.q.A g.q.t.v.length g.q.c, .slice g.q.A' g.q.t.p.length g.q.c', .slice g.A g.l.length g.c, .string g.s]
/-- A call with where its row lies. -/
structure Ct where
  n : ByteArray
  l : List Ag
  A : Option Addr
  c : Nat
def Ct.t (x : Ct) : C := .mk x.n x.l
def Ct.cs (x : Ct) : List Value := [.string x.n, .slice x.A x.l.length x.c]
abbrev Ct.val (x : Ct) : Value := .agg #[.string x.n, .slice x.A x.l.length x.c]

/-- These cells, one behind the other. -/
def Cs (w : World) (b o : Nat) (l : List Value) : Prop := ∀ i v, l[i]? = some v → w.cell? ⟨b, o + i, none⟩ = some v
theorem Cs.keep {w w' : World} {lo B b o : Nat} {l : List Value} (h : Cs w b o l) (hk : Kept lo B w w') (h1 : lo ≤ b) (h2 : b < B) : Cs w' b o l :=
  fun i v hi => (hk.cell (p := ⟨b, o + i, none⟩) h1 h2).trans (h i v hi)
structure cellsG (w : World) (b o : Nat) (g : Gt) : Prop where
  c0 : w.cell? ⟨b, o, none⟩ = some (.int .i64 g.k)
  c1 : w.cell? ⟨b, o + 1, none⟩ = some (.int .i64 g.x.t.k)
  c2 : w.cell? ⟨b, o + 2, none⟩ = some (.int .i64 g.x.t.n)
  c3 : w.cell? ⟨b, o + 3, none⟩ = some (.string g.x.t.s)
  c4 : w.cell? ⟨b, o + 4, none⟩ = some (.slice g.x.A g.x.t.l.length g.x.c)
  c5 : w.cell? ⟨b, o + 5, none⟩ = some (.slice g.x.A' g.x.t.m.length g.x.c')
  c6 : w.cell? ⟨b, o + 6, none⟩ = some (.int .i64 g.q.t.k)
  c7 : w.cell? ⟨b, o + 7, none⟩ = some (.slice g.q.A g.q.t.v.length g.q.c)
  c8 : w.cell? ⟨b, o + 8, none⟩ = some (.slice g.q.A' g.q.t.p.length g.q.c')
  c9 : w.cell? ⟨b, o + 9, none⟩ = some (.slice g.A g.l.length g.c)
  c10 : w.cell? ⟨b, o + 10, none⟩ = some (.string g.s)
theorem cellsG.of {w : World} {b o : Nat} {g : Gt} (h : Cs w b o g.cs) : cellsG w b o g :=
  ⟨h 0 _ rfl, h 1 _ rfl, h 2 _ rfl, h 3 _ rfl, h 4 _ rfl, h 5 _ rfl, h 6 _ rfl, h 7 _ rfl, h 8 _ rfl, h 9 _ rfl, h 10 _ rfl⟩
structure cellsC (w : World) (b o : Nat) (x : Ct) : Prop where
  c0 : w.cell? ⟨b, o, none⟩ = some (.string x.n)
  c1 : w.cell? ⟨b, o + 1, none⟩ = some (.slice x.A x.l.length x.c)
theorem cellsC.of {w : World} {b o : Nat} {x : Ct} (h : Cs w b o x.cs) : cellsC w b o x := ⟨h 0 _ rfl, h 1 _ rfl⟩

/-- A row in memory, n cells an element. -/
structure GRow {X τ : Type} (tr : X → τ) (cs : X → List Value) (n M : Nat) (w : World) (lo B : Nat) (R : X → Prop) (A : Option Addr) (c : Nat) (l : List τ) : Prop where
  le : l.length ≤ c
  cap : c ≤ maxLen
  big : l.length ≤ M
  nil : A = none → c = 0
  at_ : 0 < l.length → ∃ b off, A = some ⟨b, off, none⟩ ∧ lo ≤ b ∧ b < B ∧ ∀ j t, l[j]? = some t → ∃ x : X, tr x = t ∧ Cs w b (off + j * n) (cs x) ∧ R x
section
variable {X τ : Type} {tr : X → τ} {cs : X → List Value} {n M : Nat}
theorem GRow.imp {w w' : World} {lo B lo' B' : Nat} {R R' : X → Prop} {A : Option Addr} {c : Nat} {l : List τ} (h : GRow tr cs n M w lo B R A c l)
    (hk : Kept lo B w w') (h1 : lo' ≤ lo) (h2 : B ≤ B') (hR : ∀ x, R x → R' x) : GRow tr cs n M w' lo' B' R' A c l :=
  ⟨h.le, h.cap, h.big, h.nil, fun h0 => by
    obtain ⟨b, off, e, b1, b2, hc⟩ := h.at_ h0
    refine ⟨b, off, e, by omega, by omega, fun j t hj => ?_⟩
    obtain ⟨x, q0, q1, q2⟩ := hc j t hj
    exact ⟨x, q0, q1.keep hk b1 b2, hR _ q2⟩⟩
theorem GRow.elem {w : World} {lo B : Nat} {R : X → Prop} {A : Option Addr} {c : Nat} {l : List τ} (h : GRow tr cs n M w lo B R A c l) {k : Nat} (hk : k < l.length) :
    ∃ (b off : Nat) (x : X), A = some ⟨b, off, none⟩ ∧ lo ≤ b ∧ b < B ∧ l[k]? = some (tr x) ∧ Cs w b (off + k * n) (cs x) ∧ R x := by
  obtain ⟨b, off, e, b1, b2, hc⟩ := h.at_ (by omega)
  have hj : l[k]? = some l[k] := List.getElem?_eq_getElem hk
  obtain ⟨x, q0, q1, q2⟩ := hc k _ hj
  exact ⟨b, off, x, e, b1, b2, by rw [hj, q0], q1, q2⟩
theorem grow_none (w : World) (lo B : Nat) (R : X → Prop) : GRow tr cs n M w lo B R none 0 [] := ⟨by simp, by unfold maxLen; omega, by simp, fun _ => rfl, fun h => absurd h (by simp)⟩
end

/-- An argument that lies in memory; f says what its chain is. -/
structure GOk (w : World) (lo B : Nat) (f : Option Addr → Nat → List C → Prop) (g : Gt) : Prop where
  k0 : -9223372036854775808 ≤ g.k
  k1 : g.k ≤ 9223372036854775807
  s1 : g.s.size ≤ 140737488355328
  v : ∃ n, Rd w lo B n g.x.t g.x.A g.x.c g.x.A' g.x.c'
  p : ∃ n, Pd w lo B n g.q.t g.q.A g.q.c g.q.A' g.q.c'
  c : f g.A g.c g.l
abbrev GRowA (w : World) (lo B : Nat) (R : Gt → Prop) (A : Option Addr) (c : Nat) (l : List Ag) : Prop := GRow Gt.t Gt.cs 11 764877654082 w lo B R A c l
abbrev GRowC (w : World) (lo B : Nat) (R : Ct → Prop) (A : Option Addr) (c : Nat) (l : List C) : Prop := GRow Ct.t Ct.cs 2 3518437208780 w lo B R A c l
/-- A call that lies in memory. -/
structure COk (w : World) (lo B : Nat) (f : Option Addr → Nat → List C → Prop) (x : Ct) : Prop where
  n1 : x.n.size ≤ 140737488355328
  a : GRowA w lo B (GOk w lo B f) x.A x.c x.l
/-- Calls, with at most so many chains within one another. -/
def Ch (w : World) (lo B : Nat) : Nat → Option Addr → Nat → List C → Prop
  | 0, A, c, l => GRowC w lo B (fun _ => False) A c l
  | d + 1, A, c, l => GRowC w lo B (COk w lo B (Ch w lo B d)) A c l
theorem GOk.imp {w w' : World} {lo B lo' B' : Nat} (hk : Kept lo B w w') (h1 : lo' ≤ lo) (h2 : B ≤ B') {f f' : Option Addr → Nat → List C → Prop} (hf : ∀ A c l, f A c l → f' A c l) {g : Gt} (h : GOk w lo B f g) : GOk w' lo' B' f' g :=
  ⟨h.k0, h.k1, h.s1, h.v.imp fun _ hn => Rd.imp hk h1 h2 (Nat.le_refl _) hn, h.p.imp fun _ hn => Pd.imp hk h1 h2 (Nat.le_refl _) hn, hf _ _ _ h.c⟩
theorem COk.imp {w w' : World} {lo B lo' B' : Nat} (hk : Kept lo B w w') (h1 : lo' ≤ lo) (h2 : B ≤ B') {f f' : Option Addr → Nat → List C → Prop} (hf : ∀ A c l, f A c l → f' A c l) {x : Ct} (h : COk w lo B f x) : COk w' lo' B' f' x :=
  ⟨h.n1, h.a.imp hk h1 h2 fun _ => GOk.imp hk h1 h2 hf⟩
theorem Ch.imp {w w' : World} {lo B lo' B' : Nat} (hk : Kept lo B w w') (h1 : lo' ≤ lo) (h2 : B ≤ B') : ∀ {d d' : Nat} {A : Option Addr} {c : Nat} {l : List C}, d ≤ d' → Ch w lo B d A c l → Ch w' lo' B' d' A c l
  | 0, 0, _, _, _, _, h => GRow.imp h hk h1 h2 (fun _ h => h)
  | 0, _ + 1, _, _, _, _, h => GRow.imp h hk h1 h2 (fun _ h => h.elim)
  | _ + 1, 0, _, _, _, hd, _ => absurd hd (by omega)
  | _ + 1, _ + 1, _, _, _, hd, h => GRow.imp h hk h1 h2 (fun _ => COk.imp hk h1 h2 (fun _ _ _ => Ch.imp hk h1 h2 (by omega)))
theorem Ch.keep {w w' : World} {lo B d : Nat} {A : Option Addr} {c : Nat} {l : List C} (h : Ch w lo B d A c l) (hk : Kept lo B w w') : Ch w' lo B d A c l := Ch.imp hk (Nat.le_refl _) (Nat.le_refl _) (Nat.le_refl _) h
theorem Ch.more {w : World} {lo lo' B B' d d' : Nat} {A : Option Addr} {c : Nat} {l : List C} (h : Ch w lo B d A c l) (h1 : lo' ≤ lo) (h2 : B ≤ B') (h3 : d ≤ d') : Ch w lo' B' d' A c l := Ch.imp (Kept.refl _ _ _) h1 h2 h3 h
theorem Ch.next {w w' : World} {d : Nat} {A : Option Addr} {c : Nat} {l : List C} (h : Ch w 0 w.heap.size d A c l) (hb : Below w.heap.size w w') : Ch w' 0 w'.heap.size d A c l :=
  Ch.imp (Kept.of_below hb (Nat.le_refl _)) (Nat.le_refl _) hb.size (Nat.le_refl _) h
theorem Ch.up {w : World} {lo B d d' : Nat} {A : Option Addr} {c : Nat} {l : List C} (h : Ch w lo B d A c l) (h3 : d ≤ d') : Ch w lo B d' A c l := h.more (Nat.le_refl _) (Nat.le_refl _) h3
theorem Ch.big {w : World} {lo B : Nat} : ∀ {d : Nat} {A : Option Addr} {c : Nat} {l : List C}, Ch w lo B d A c l → l.length ≤ 3518437208780
  | 0, _, _, _, h => GRow.big h
  | _ + 1, _, _, _, h => GRow.big h
theorem ch_none (w : World) (lo B : Nat) : ∀ d, Ch w lo B d none 0 []
  | 0 => grow_none _ _ _ _
  | _ + 1 => grow_none _ _ _ _
/-- A located call, a located argument, as they are handed on. -/
def Ct.In (x : Ct) (w : World) (d : Nat) : Prop := COk w 0 w.heap.size (Ch w 0 w.heap.size d) x
def Gt.In (g : Gt) (w : World) (d : Nat) : Prop := GOk w 0 w.heap.size (Ch w 0 w.heap.size d) g
theorem Ct.In.next {x : Ct} {a b : World} {d : Nat} (h : x.In a d) (hb : Below a.heap.size a b) : x.In b d :=
  COk.imp (Kept.of_below hb (Nat.le_refl _)) (Nat.le_refl _) hb.size (fun _ _ _ h => h.next hb) h
theorem Gt.In.next {g : Gt} {a b : World} {d : Nat} (h : g.In a d) (hb : Below a.heap.size a b) : g.In b d :=
  GOk.imp (Kept.of_below hb (Nat.le_refl _)) (Nat.le_refl _) hb.size (fun _ _ _ h => h.next hb) h
abbrev Aw (w : World) (d : Nat) (A : Option Addr) (c : Nat) (l : List Ag) : Prop := GRowA w 0 w.heap.size (fun g => g.In w d) A c l
theorem Aw.next {a b : World} {d : Nat} {A : Option Addr} {c : Nat} {l : List Ag} (h : Aw a d A c l) (hb : Below a.heap.size a b) : Aw b d A c l :=
  GRow.imp h (Kept.of_below hb (Nat.le_refl _)) (Nat.le_refl _) hb.size (fun _ h => h.next hb)
theorem Ch.elem {w : World} {d : Nat} {A : Option Addr} {c : Nat} {l : List C} (h : Ch w 0 w.heap.size d A c l) {k : Nat} (hk : k < l.length) :
    ∃ (b off : Nat) (x : Ct) (e : Nat), d = e + 1 ∧ A = some ⟨b, off, none⟩ ∧ b < w.heap.size ∧ l[k]? = some x.t ∧ cellsC w b (off + k * 2) x ∧ x.n.size ≤ 140737488355328 ∧ Aw w e x.A x.c x.l := by
  cases d with
  | zero =>
    obtain ⟨_, _, _, _, _, _, _, _, h⟩ := GRow.elem h hk
    exact h.elim
  | succ e =>
    obtain ⟨b, off, x, e1, _, e2, e3, e4, e5⟩ := GRow.elem h hk
    exact ⟨b, off, x, e, rfl, e1, e2, e3, .of e4, e5.n1, e5.a⟩
theorem Aw.elem {w : World} {d : Nat} {A : Option Addr} {c : Nat} {l : List Ag} (h : Aw w d A c l) {k : Nat} (hk : k < l.length) :
    ∃ (b off : Nat) (g : Gt), A = some ⟨b, off, none⟩ ∧ b < w.heap.size ∧ l[k]? = some g.t ∧ cellsG w b (off + k * 11) g ∧ g.In w d := by
  obtain ⟨b, off, x, e1, _, e2, e3, e4, e5⟩ := GRow.elem h hk
  exact ⟨b, off, x, e1, e2, e3, .of e4, e5⟩
end Go.Proofs.YtllkimdlmnjoiaaGreatDoor



