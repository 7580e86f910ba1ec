/- Carried over from an earlier seat. -/
import Derived.Test.YtllkimdlmnjoiaaGreatDoorTF
import Derived.Test.YtllkimdlmnjoiaaGreatDoorPJ
namespace Go.Proofs.YtllkimdlmnjoiaaGreatDoor
set_option maxRecDepth 100000
set_option maxRecDepth 100000
open Go.RowKit Go.Sort

/-- A predicate in memory at that place. -/
structure PAt (w : World) (d b o : Nat) (x : Pt) : Prop where
  c0 : w.cell? ⟨b, o, none⟩ = some (.int .i64 x.t.k)
  c1 : w.cell? ⟨b, o + 1, none⟩ = some (.slice x.A x.t.v.length x.c)
  c2 : w.cell? ⟨b, o + 2, none⟩ = some (.slice x.A' x.t.p.length x.c')
  lt : b < w.heap.size
  rd : x.In w d
theorem PAt.next {w w' : World} {d b o : Nat} {x : Pt} (h : PAt w d b o x) (hb : Below w.heap.size w w') : PAt w' d b o x :=
  ⟨(hb.cell h.lt).trans h.c0, (hb.cell h.lt).trans h.c1, (hb.cell h.lt).trans h.c2, Nat.lt_of_lt_of_le h.lt hb.size, h.rd.next hb⟩
theorem BP.at_ {w : World} {g d : Nat} {x : Pt} (h : BP w g x) (hx : x.In w d) : PAt w d g 0 x := ⟨h.c0, h.c1, h.c2, h.lt, hx⟩
/-- Two predicates' places, in a box. -/
structure TW (w : World) (g b o b' o' : Nat) : Prop where
  g0 : w.cell? ⟨g, 0, none⟩ = some (.pointer (some ⟨b, o, none⟩))
  g1 : w.cell? ⟨g, 1, none⟩ = some (.pointer (some ⟨b', o', none⟩))
theorem TW.next {w w' : World} {g b o b' o' : Nat} (h : TW w g b o b' o') (hg : g < w.heap.size) (hb : Below w.heap.size w w') : TW w' g b o b' o' :=
  ⟨(hb.cell hg).trans h.g0, (hb.cell hg).trans h.g1⟩
theorem TW.new (w : World) (b o b' o' : Nat) : TW (w.alloc (.cells #[.pointer (some ⟨b, o, none⟩), .pointer (some ⟨b', o', none⟩)] 194)) w.heap.size b o b' o' := by
  constructor <;> (rw [World.cell?_alloc_at _ _ _ _ rfl]; rfl)
theorem Pt.rows {x y : Pt} {w : World} {d e : Nat} (hx : x.In w d) (hy : y.In w e) : ∃ n, Rw w 0 w.heap.size n x.A x.c x.t.v ∧ Rw w 0 w.heap.size n y.A y.c y.t.v := by
  obtain ⟨d', rfl⟩ := hx.pos
  obtain ⟨e', rfl⟩ := hy.pos
  obtain ⟨n1, v1⟩ := hx.2.1
  obtain ⟨n2, v2⟩ := hy.2.1
  exact ⟨n1 + n2, v1.more (Nat.le_refl _) (Nat.le_refl _) (by omega), v2.more (Nat.le_refl _) (Nat.le_refl _) (by omega)⟩
/-- The same, but for those in them. -/
def likeP (p q : P) : Bool := (p.k == q.k && ((p.p.length : Int) == (q.p.length : Int))) && eqL eqV p.v q.v
def kAD : Nat → Tmp := fun j => [3, 4, 5, 6, 7, 8, 9, 10, 11, 12, 13, 14, 15, 16, 17, 18, 19, 20, 21, 22, 23, 24, 25, 26, 27, 28, 29, 30, 31, 32, 33, 34, 35, 36, 37, 38, 39, 40, 41, 2].getD j 0
def kAE : Nat → List Nat := fun j => [[], [0], [1], [2], [3], [], [5], [6], [7], [8], [4, 9], [10], [11], [11, 12], [11, 13], [11, 14], [11, 15], [11, 16], [11], [11, 18], [11, 19], [11, 20], [11, 21], [11, 22], [11, 17, 23], [11, 24], [25], [26], [26, 27], [26, 28], [26, 29], [26, 30], [26], [26, 32], [26, 33], [26, 34], [26, 35], [26, 31, 36], [26, 37], [38]].getD j []
def kBD : Nat → Tmp := fun j => [3, 4, 5, 6, 7, 8, 9, 10, 11, 12, 13, 14, 15, 16, 17, 18, 19, 20, 21, 22, 23, 24, 25, 26, 27, 28, 29, 30, 31, 32, 33, 34, 35, 36, 37, 38, 39, 40, 41, 2].getD j 0
def kBE : Nat → List Nat := fun j => [[], [0], [1], [2], [3], [], [5], [6], [7], [8], [4, 9], [10], [11], [11, 12], [11, 13], [11, 14], [11, 15], [11, 16], [11], [11, 18], [11, 19], [11, 20], [11, 21], [11, 22], [11, 17, 23], [11, 24], [25], [26], [26, 27], [26, 28], [26, 29], [26, 30], [26], [26, 32], [26, 33], [26, 34], [26, 35], [26, 31, 36], [26, 37], [38]].getD j []
def kCD : Nat → Tmp := fun j => [3, 4, 5, 6, 7, 8, 9, 10, 11, 12, 13, 14, 15, 16, 17, 18, 19, 20, 21, 22, 23, 24, 25, 26, 27, 28, 29, 30, 31, 32, 33, 34, 35, 36, 37, 38, 39, 40, 41, 2].getD j 0
def kCE : Nat → List Nat := fun j => [[], [0], [1], [2], [3], [], [5], [6], [7], [8], [4, 9], [10], [11], [11, 12], [11, 13], [11, 14], [11, 15], [11, 16], [11], [11, 18], [11, 19], [11, 20], [11, 21], [11, 22], [11, 17, 23], [11, 24], [25], [26], [26, 27], [26, 28], [26, 29], [26, 30], [26], [26, 32], [26, 33], [26, 34], [26, 35], [26, 31, 36], [26, 37], [38]].getD j []
set_option maxHeartbeats 6400000 in
theorem alike_any (w : World) (d e b o b' o' : Nat) (x y : Pt) (hx : PAt w d b o x) (hy : PAt w e b' o' y) :
    Calls Tryz.prog 142 #[.agg #[.pointer (some ⟨b, o, none⟩), .pointer (some ⟨b', o', none⟩)]] w fun a w' => a = .returned (.bool (likeP x.t y.t)) ∧ Below w.heap.size w w' := by
  have FIN := Lib.hid (show likeP x.t y.t = ((x.t.k == y.t.k && ((x.t.p.length : Int) == (y.t.p.length : Int))) && eqL eqV x.t.v y.t.v) from rfl)
  obtain ⟨ans, hans⟩ : ∃ q, q = likeP x.t y.t := ⟨_, rfl⟩
  rw [← hans] at FIN ⊢
  have hb0 := below_new w (.cells #[.pointer (some ⟨b, o, none⟩), .pointer (some ⟨b', o', none⟩)] 194)
  have ht0 := TW.new w b o b' o'
  have hx0 := hx.next hb0
  have hy0 := hy.next hb0
  clear hans hx hy
  go_enter Tryz.func142, Tryz.ntmps142
  go_upto_region 1 with fail
  generalize hW : World.alloc w _ = Y at hb0 ht0 hx0 hy0
  have HG := Lib.hid (show w.heap.size < Y.heap.size by rw [← hW]; simp)
  have HB := Lib.hid hb0
  have TG := Lib.hid ht0
  have HX := Lib.hid hx0
  have HY := Lib.hid hy0
  clear hW hb0 ht0 hx0 hy0
  obtain ⟨z, hz⟩ : ∃ z, eqL eqV x.t.v y.t.v = z := ⟨_, rfl⟩
  have HZ := Lib.hid hz
  rw [hz] at FIN
  clear hz
  cases hk : (x.t.k == y.t.k)
  case false =>
    have HK := Lib.hid hk
    rw [hk] at FIN
    clear hk
    refine region_phase_all [0, 1, 2, 3, 4, 5, 6, 7, 8, 9, 10, 11, 12, 13, 14, 15, 16, 17, 18, 19, 20, 21, 22, 23, 24, 25, 26, 27, 28, 29, 30, 31, 32, 33, 34, 35, 36, 37, 38, 39] kCD kCE (fun w' => TW w' w.heap.size b o b' o' ∧ PAt w' d b o x ∧ PAt w' e b' o' y ∧ Below Y.heap.size Y w') (saidOf [Is (.pointer (some ⟨w.heap.size, 0, none⟩)), Is (.pointer (some ⟨b, o, none⟩)), Is (.pointer (some ⟨b, o, none⟩)), Is (.pointer (some ⟨b, o, none⟩)), Is (.int .i64 x.t.k), Is (.pointer (some ⟨w.heap.size, 1, none⟩)), Is (.pointer (some ⟨b', o', none⟩)), Is (.pointer (some ⟨b', o', none⟩)), Is (.pointer (some ⟨b', o', none⟩)), Is (.int .i64 y.t.k), Is (.bool false), Is (.bool false), Is undef, Is undef, Is undef, Is undef, Is undef, Is undef, Is undef, Is undef, Is undef, Is undef, Is undef, Is undef, Is undef, Is (.bool false), Is (.bool false), Is undef, Is undef, Is undef, Is undef, Is undef, Is undef, Is undef, Is undef, Is undef, Is undef, Is undef, Is (.bool false), Is (.bool false)]) 42 (by rfl) (by kernel_rfl) (by kernel_rfl) (by kernel_rfl) (fun _ _ h hb => ⟨h.1.next (Nat.lt_of_lt_of_le HG.out h.2.2.2.size) hb, h.2.1.next hb, h.2.2.1.next hb, bnext h.2.2.2 hb⟩) (stays_said _ (stays_cons (Is.stays _) (stays_cons (Is.stays _) (stays_cons (Is.stays _) (stays_cons (Is.stays _) (stays_cons (Is.stays _) (stays_cons (Is.stays _) (stays_cons (Is.stays _) (stays_cons (Is.stays _) (stays_cons (Is.stays _) (stays_cons (Is.stays _) (stays_cons (Is.stays _) (stays_cons (Is.stays _) (stays_cons (Is.stays _) (stays_cons (Is.stays _) (stays_cons (Is.stays _) (stays_cons (Is.stays _) (stays_cons (Is.stays _) (stays_cons (Is.stays _) (stays_cons (Is.stays _) (stays_cons (Is.stays _) (stays_cons (Is.stays _) (stays_cons (Is.stays _) (stays_cons (Is.stays _) (stays_cons (Is.stays _) (stays_cons (Is.stays _) (stays_cons (Is.stays _) (stays_cons (Is.stays _) (stays_cons (Is.stays _) (stays_cons (Is.stays _) (stays_cons (Is.stays _) (stays_cons (Is.stays _) (stays_cons (Is.stays _) (stays_cons (Is.stays _) (stays_cons (Is.stays _) (stays_cons (Is.stays _) (stays_cons (Is.stays _) (stays_cons (Is.stays _) (stays_cons (Is.stays _) (stays_cons (Is.stays _) (stays_cons (Is.stays _) stays_nil))))))))))))))))))))))))))))))))))))))))) ⟨TG.out.next HG.out (below_drewN _ _ 1), HX.out.next (below_drewN _ _ 1), HY.out.next (below_drewN _ _ 1), below_drewN _ _ 1⟩ (by kernel_rfl) ?_ ?_
    · skip
      refine owes_cons (Owes.mk (o := ({ dst := some 3, op := .fieldAddr 194 (.tmp 1) 0, type := 0, pos := "twins.go:17", after := #[], guard := none } : Oper)) rfl (fun v wk hj hD K hK => ?_)) ?_
      · simp only [kCD, kCE, putAll, Act.put, List.getD_cons_zero, List.setIfInBounds_toArray, List.set_cons_zero, List.set_cons_succ] at hK ⊢
        go_simp
        exact hK.out _ _ (Below.refl _ _) rfl
      refine owes_cons (Owes.mk (o := ({ dst := some 4, op := .load 192 (.tmp 3), type := 192, pos := "twins.go:17", after := #[{ on := 0, ground := .data }], guard := none } : Oper)) rfl (fun v wk hj hD K hK => ?_)) ?_
      · have h0 : v 0 = (.pointer (some ⟨w.heap.size, 0, none⟩)) := hD 0 (by decide)
        simp only [kCD, kCE, putAll, Act.put, List.getD_cons_succ, List.getD_cons_zero, List.setIfInBounds_toArray, List.set_cons_zero, List.set_cons_succ, h0] at hK ⊢
        obtain ⟨⟨g0, g1⟩, ⟨x0, x1, x2, _, _⟩, ⟨y0, y1, y2, _, _⟩, _⟩ := hj
        go_simp
        exact hK.out _ _ (Below.refl _ _) rfl
      refine owes_cons (Owes.mk (o := ({ dst := some 5, op := .nilCheck (.tmp 4), type := 0, pos := "twins.go:17", after := #[{ on := 1, ground := .data }], guard := none } : Oper)) rfl (fun v wk hj hD K hK => ?_)) ?_
      · have h1 : v 1 = (.pointer (some ⟨b, o, none⟩)) := hD 1 (by decide)
        simp only [kCD, kCE, putAll, Act.put, List.getD_cons_succ, List.getD_cons_zero, List.setIfInBounds_toArray, List.set_cons_zero, List.set_cons_succ, h1] at hK ⊢
        go_simp
        exact hK.out _ _ (Below.refl _ _) rfl
      refine owes_cons (Owes.mk (o := ({ dst := some 6, op := .fieldAddr 80 (.tmp 5) 0, type := 0, pos := "twins.go:17", after := #[{ on := 2, ground := .data }], guard := none } : Oper)) rfl (fun v wk hj hD K hK => ?_)) ?_
      · have h2 : v 2 = (.pointer (some ⟨b, o, none⟩)) := hD 2 (by decide)
        simp only [kCD, kCE, putAll, Act.put, List.getD_cons_succ, List.getD_cons_zero, List.setIfInBounds_toArray, List.set_cons_zero, List.set_cons_succ, h2] at hK ⊢
        go_simp
        exact hK.out _ _ (Below.refl _ _) rfl
      refine owes_cons (Owes.mk (o := ({ dst := some 7, op := .load 3 (.tmp 6), type := 3, pos := "twins.go:17", after := #[{ on := 3, ground := .data }], guard := none } : Oper)) rfl (fun v wk hj hD K hK => ?_)) ?_
      · have h3 : v 3 = (.pointer (some ⟨b, o, none⟩)) := hD 3 (by decide)
        simp only [kCD, kCE, putAll, Act.put, List.getD_cons_succ, List.getD_cons_zero, List.setIfInBounds_toArray, List.set_cons_zero, List.set_cons_succ, h3] at hK ⊢
        obtain ⟨⟨g0, g1⟩, ⟨x0, x1, x2, _, _⟩, ⟨y0, y1, y2, _, _⟩, _⟩ := hj
        go_simp
        exact hK.out _ _ (Below.refl _ _) rfl
      refine owes_cons (Owes.mk (o := ({ dst := some 8, op := .fieldAddr 194 (.tmp 1) 1, type := 0, pos := "twins.go:17", after := #[], guard := none } : Oper)) rfl (fun v wk hj hD K hK => ?_)) ?_
      · simp only [kCD, kCE, putAll, Act.put, List.getD_cons_succ, List.getD_cons_zero, List.setIfInBounds_toArray, List.set_cons_zero, List.set_cons_succ] at hK ⊢
        go_simp
        exact hK.out _ _ (Below.refl _ _) rfl
      refine owes_cons (Owes.mk (o := ({ dst := some 9, op := .load 192 (.tmp 8), type := 192, pos := "twins.go:17", after := #[{ on := 5, ground := .data }], guard := none } : Oper)) rfl (fun v wk hj hD K hK => ?_)) ?_
      · have h5 : v 5 = (.pointer (some ⟨w.heap.size, 1, none⟩)) := hD 5 (by decide)
        simp only [kCD, kCE, putAll, Act.put, List.getD_cons_succ, List.getD_cons_zero, List.setIfInBounds_toArray, List.set_cons_zero, List.set_cons_succ, h5] at hK ⊢
        obtain ⟨⟨g0, g1⟩, ⟨x0, x1, x2, _, _⟩, ⟨y0, y1, y2, _, _⟩, _⟩ := hj
        go_simp
        exact hK.out _ _ (Below.refl _ _) rfl
      refine owes_cons (Owes.mk (o := ({ dst := some 10, op := .nilCheck (.tmp 9), type := 0, pos := "twins.go:17", after := #[{ on := 6, ground := .data }], guard := none } : Oper)) rfl (fun v wk hj hD K hK => ?_)) ?_
      · have h6 : v 6 = (.pointer (some ⟨b', o', none⟩)) := hD 6 (by decide)
        simp only [kCD, kCE, putAll, Act.put, List.getD_cons_succ, List.getD_cons_zero, List.setIfInBounds_toArray, List.set_cons_zero, List.set_cons_succ, h6] at hK ⊢
        go_simp
        exact hK.out _ _ (Below.refl _ _) rfl
      refine owes_cons (Owes.mk (o := ({ dst := some 11, op := .fieldAddr 80 (.tmp 10) 0, type := 0, pos := "twins.go:17", after := #[{ on := 7, ground := .data }], guard := none } : Oper)) rfl (fun v wk hj hD K hK => ?_)) ?_
      · have h7 : v 7 = (.pointer (some ⟨b', o', none⟩)) := hD 7 (by decide)
        simp only [kCD, kCE, putAll, Act.put, List.getD_cons_succ, List.getD_cons_zero, List.setIfInBounds_toArray, List.set_cons_zero, List.set_cons_succ, h7] at hK ⊢
        go_simp
        exact hK.out _ _ (Below.refl _ _) rfl
      refine owes_cons (Owes.mk (o := ({ dst := some 12, op := .load 3 (.tmp 11), type := 3, pos := "twins.go:17", after := #[{ on := 8, ground := .data }], guard := none } : Oper)) rfl (fun v wk hj hD K hK => ?_)) ?_
      · have h8 : v 8 = (.pointer (some ⟨b', o', none⟩)) := hD 8 (by decide)
        simp only [kCD, kCE, putAll, Act.put, List.getD_cons_succ, List.getD_cons_zero, List.setIfInBounds_toArray, List.set_cons_zero, List.set_cons_succ, h8] at hK ⊢
        obtain ⟨⟨g0, g1⟩, ⟨x0, x1, x2, _, _⟩, ⟨y0, y1, y2, _, _⟩, _⟩ := hj
        go_simp
        exact hK.out _ _ (Below.refl _ _) rfl
      refine owes_cons (Owes.mk (o := ({ dst := some 13, op := .binOp .eql 3 (.tmp 7) (.tmp 12) 3, type := 4, pos := "twins.go:17", after := #[{ on := 4, ground := .data }, { on := 9, ground := .data }], guard := none } : Oper)) rfl (fun v wk hj hD K hK => ?_)) ?_
      · have h4 : v 4 = (.int .i64 x.t.k) := hD 4 (by decide)
        have h9 : v 9 = (.int .i64 y.t.k) := hD 9 (by decide)
        simp only [kCD, kCE, putAll, Act.put, List.getD_cons_succ, List.getD_cons_zero, List.setIfInBounds_toArray, List.set_cons_zero, List.set_cons_succ, h4, h9] at hK ⊢
        go_simp
        exact hK.out _ _ (Below.refl _ _) (show Value.bool _ = _ by rw [HK.out])
      refine owes_cons (Owes.mk (o := ({ dst := some 14, op := .move (.tmp 13), type := 4, pos := "twins.go:17", after := #[{ on := 10, ground := .data }], guard := none } : Oper)) rfl (fun v wk hj hD K hK => ?_)) ?_
      · have h10 : v 10 = (.bool false) := hD 10 (by decide)
        simp only [kCD, kCE, putAll, Act.put, List.getD_cons_succ, List.getD_cons_zero, List.setIfInBounds_toArray, List.set_cons_zero, List.set_cons_succ, h10] at hK ⊢
        go_simp
        exact hK.out _ _ (Below.refl _ _) rfl
      refine owes_cons (Owes.mk (o := ({ dst := some 15, op := .fieldAddr 194 (.tmp 1) 0, type := 0, pos := "twins.go:17", after := #[{ on := 11, ground := .guard }], guard := some (11, true) } : Oper)) rfl (fun v wk hj hD K hK => ?_)) ?_
      · have h11 : v 11 = (.bool false) := hD 11 (by decide)
        simp only [kCD, kCE, putAll, Act.put, List.getD_cons_succ, List.getD_cons_zero, List.setIfInBounds_toArray, List.set_cons_zero, List.set_cons_succ, h11] at hK ⊢
        go_simp
        exact hK.out _ _ (Below.refl _ _) rfl
      refine owes_cons (Owes.mk (o := ({ dst := some 16, op := .load 192 (.tmp 15), type := 192, pos := "twins.go:17", after := #[{ on := 12, ground := .data }, { on := 11, ground := .guard }], guard := some (11, true) } : Oper)) rfl (fun v wk hj hD K hK => ?_)) ?_
      · have h11 : v 11 = (.bool false) := hD 11 (by decide)
        have h12 : v 12 = undef := hD 12 (by decide)
        simp only [kCD, kCE, putAll, Act.put, List.getD_cons_succ, List.getD_cons_zero, List.setIfInBounds_toArray, List.set_cons_zero, List.set_cons_succ, h11, h12] at hK ⊢
        go_simp
        exact hK.out _ _ (Below.refl _ _) rfl
      refine owes_cons (Owes.mk (o := ({ dst := some 17, op := .nilCheck (.tmp 16), type := 0, pos := "twins.go:17", after := #[{ on := 13, ground := .data }, { on := 11, ground := .guard }], guard := some (11, true) } : Oper)) rfl (fun v wk hj hD K hK => ?_)) ?_
      · have h11 : v 11 = (.bool false) := hD 11 (by decide)
        have h13 : v 13 = undef := hD 13 (by decide)
        simp only [kCD, kCE, putAll, Act.put, List.getD_cons_succ, List.getD_cons_zero, List.setIfInBounds_toArray, List.set_cons_zero, List.set_cons_succ, h11, h13] at hK ⊢
        go_simp
        exact hK.out _ _ (Below.refl _ _) rfl
      refine owes_cons (Owes.mk (o := ({ dst := some 18, op := .fieldAddr 80 (.tmp 17) 2, type := 0, pos := "twins.go:17", after := #[{ on := 14, ground := .data }, { on := 11, ground := .guard }], guard := some (11, true) } : Oper)) rfl (fun v wk hj hD K hK => ?_)) ?_
      · have h11 : v 11 = (.bool false) := hD 11 (by decide)
        have h14 : v 14 = undef := hD 14 (by decide)
        simp only [kCD, kCE, putAll, Act.put, List.getD_cons_succ, List.getD_cons_zero, List.setIfInBounds_toArray, List.set_cons_zero, List.set_cons_succ, h11, h14] at hK ⊢
        go_simp
        exact hK.out _ _ (Below.refl _ _) rfl
      refine owes_cons (Owes.mk (o := ({ dst := some 19, op := .load 78 (.tmp 18), type := 78, pos := "twins.go:17", after := #[{ on := 15, ground := .data }, { on := 11, ground := .guard }], guard := some (11, true) } : Oper)) rfl (fun v wk hj hD K hK => ?_)) ?_
      · have h11 : v 11 = (.bool false) := hD 11 (by decide)
        have h15 : v 15 = undef := hD 15 (by decide)
        simp only [kCD, kCE, putAll, Act.put, List.getD_cons_succ, List.getD_cons_zero, List.setIfInBounds_toArray, List.set_cons_zero, List.set_cons_succ, h11, h15] at hK ⊢
        go_simp
        exact hK.out _ _ (Below.refl _ _) rfl
      refine owes_cons (Owes.mk (o := ({ dst := some 20, op := .call { callee := .builtin .len, args := #[.tmp 19], argTypes := #[78] }, type := 3, pos := "twins.go:17", after := #[{ on := 16, ground := .data }, { on := 11, ground := .guard }], guard := some (11, true) } : Oper)) rfl (fun v wk hj hD K hK => ?_)) ?_
      · have h11 : v 11 = (.bool false) := hD 11 (by decide)
        have h16 : v 16 = undef := hD 16 (by decide)
        simp only [kCD, kCE, putAll, Act.put, List.getD_cons_succ, List.getD_cons_zero, List.setIfInBounds_toArray, List.set_cons_zero, List.set_cons_succ, h11, h16] at hK ⊢
        go_simp
        exact hK.out _ _ (Below.refl _ _) rfl
      refine owes_cons (Owes.mk (o := ({ dst := some 21, op := .fieldAddr 194 (.tmp 1) 1, type := 0, pos := "twins.go:17", after := #[{ on := 11, ground := .guard }], guard := some (11, true) } : Oper)) rfl (fun v wk hj hD K hK => ?_)) ?_
      · have h11 : v 11 = (.bool false) := hD 11 (by decide)
        simp only [kCD, kCE, putAll, Act.put, List.getD_cons_succ, List.getD_cons_zero, List.setIfInBounds_toArray, List.set_cons_zero, List.set_cons_succ, h11] at hK ⊢
        go_simp
        exact hK.out _ _ (Below.refl _ _) rfl
      refine owes_cons (Owes.mk (o := ({ dst := some 22, op := .load 192 (.tmp 21), type := 192, pos := "twins.go:17", after := #[{ on := 18, ground := .data }, { on := 11, ground := .guard }], guard := some (11, true) } : Oper)) rfl (fun v wk hj hD K hK => ?_)) ?_
      · have h11 : v 11 = (.bool false) := hD 11 (by decide)
        have h18 : v 18 = undef := hD 18 (by decide)
        simp only [kCD, kCE, putAll, Act.put, List.getD_cons_succ, List.getD_cons_zero, List.setIfInBounds_toArray, List.set_cons_zero, List.set_cons_succ, h11, h18] at hK ⊢
        go_simp
        exact hK.out _ _ (Below.refl _ _) rfl
      refine owes_cons (Owes.mk (o := ({ dst := some 23, op := .nilCheck (.tmp 22), type := 0, pos := "twins.go:17", after := #[{ on := 19, ground := .data }, { on := 11, ground := .guard }], guard := some (11, true) } : Oper)) rfl (fun v wk hj hD K hK => ?_)) ?_
      · have h11 : v 11 = (.bool false) := hD 11 (by decide)
        have h19 : v 19 = undef := hD 19 (by decide)
        simp only [kCD, kCE, putAll, Act.put, List.getD_cons_succ, List.getD_cons_zero, List.setIfInBounds_toArray, List.set_cons_zero, List.set_cons_succ, h11, h19] at hK ⊢
        go_simp
        exact hK.out _ _ (Below.refl _ _) rfl
      refine owes_cons (Owes.mk (o := ({ dst := some 24, op := .fieldAddr 80 (.tmp 23) 2, type := 0, pos := "twins.go:17", after := #[{ on := 20, ground := .data }, { on := 11, ground := .guard }], guard := some (11, true) } : Oper)) rfl (fun v wk hj hD K hK => ?_)) ?_
      · have h11 : v 11 = (.bool false) := hD 11 (by decide)
        have h20 : v 20 = undef := hD 20 (by decide)
        simp only [kCD, kCE, putAll, Act.put, List.getD_cons_succ, List.getD_cons_zero, List.setIfInBounds_toArray, List.set_cons_zero, List.set_cons_succ, h11, h20] at hK ⊢
        go_simp
        exact hK.out _ _ (Below.refl _ _) rfl
      refine owes_cons (Owes.mk (o := ({ dst := some 25, op := .load 78 (.tmp 24), type := 78, pos := "twins.go:17", after := #[{ on := 21, ground := .data }, { on := 11, ground := .guard }], guard := some (11, true) } : Oper)) rfl (fun v wk hj hD K hK => ?_)) ?_
      · have h11 : v 11 = (.bool false) := hD 11 (by decide)
        have h21 : v 21 = undef := hD 21 (by decide)
        simp only [kCD, kCE, putAll, Act.put, List.getD_cons_succ, List.getD_cons_zero, List.setIfInBounds_toArray, List.set_cons_zero, List.set_cons_succ, h11, h21] at hK ⊢
        go_simp
        exact hK.out _ _ (Below.refl _ _) rfl
      refine owes_cons (Owes.mk (o := ({ dst := some 26, op := .call { callee := .builtin .len, args := #[.tmp 25], argTypes := #[78] }, type := 3, pos := "twins.go:17", after := #[{ on := 22, ground := .data }, { on := 11, ground := .guard }], guard := some (11, true) } : Oper)) rfl (fun v wk hj hD K hK => ?_)) ?_
      · have h11 : v 11 = (.bool false) := hD 11 (by decide)
        have h22 : v 22 = undef := hD 22 (by decide)
        simp only [kCD, kCE, putAll, Act.put, List.getD_cons_succ, List.getD_cons_zero, List.setIfInBounds_toArray, List.set_cons_zero, List.set_cons_succ, h11, h22] at hK ⊢
        go_simp
        exact hK.out _ _ (Below.refl _ _) rfl
      refine owes_cons (Owes.mk (o := ({ dst := some 27, op := .binOp .eql 3 (.tmp 20) (.tmp 26) 3, type := 4, pos := "twins.go:17", after := #[{ on := 17, ground := .data }, { on := 23, ground := .data }, { on := 11, ground := .guard }], guard := some (11, true) } : Oper)) rfl (fun v wk hj hD K hK => ?_)) ?_
      · have h11 : v 11 = (.bool false) := hD 11 (by decide)
        have h17 : v 17 = undef := hD 17 (by decide)
        have h23 : v 23 = undef := hD 23 (by decide)
        simp only [kCD, kCE, putAll, Act.put, List.getD_cons_succ, List.getD_cons_zero, List.setIfInBounds_toArray, List.set_cons_zero, List.set_cons_succ, h11, h17, h23] at hK ⊢
        go_simp
        exact hK.out _ _ (Below.refl _ _) rfl
      refine owes_cons (Owes.mk (o := ({ dst := some 28, op := .pick (.tmp 14) (.tmp 27) (.const (.bool false)), type := 4, pos := "twins.go:17", after := #[{ on := 11, ground := .data }, { on := 24, ground := .data }], guard := none } : Oper)) rfl (fun v wk hj hD K hK => ?_)) ?_
      · have h11 : v 11 = (.bool false) := hD 11 (by decide)
        have h24 : v 24 = undef := hD 24 (by decide)
        simp only [kCD, kCE, putAll, Act.put, List.getD_cons_succ, List.getD_cons_zero, List.setIfInBounds_toArray, List.set_cons_zero, List.set_cons_succ, h11, h24] at hK ⊢
        go_simp
        exact hK.out _ _ (Below.refl _ _) rfl
      refine owes_cons (Owes.mk (o := ({ dst := some 29, op := .move (.tmp 28), type := 4, pos := "twins.go:17", after := #[{ on := 25, ground := .data }, { on := 11, ground := .chain }], guard := none } : Oper)) rfl (fun v wk hj hD K hK => ?_)) ?_
      · have h25 : v 25 = (.bool false) := hD 25 (by decide)
        simp only [kCD, kCE, putAll, Act.put, List.getD_cons_succ, List.getD_cons_zero, List.setIfInBounds_toArray, List.set_cons_zero, List.set_cons_succ, h25] at hK ⊢
        go_simp
        exact hK.out _ _ (Below.refl _ _) rfl
      refine owes_cons (Owes.mk (o := ({ dst := some 30, op := .fieldAddr 194 (.tmp 1) 0, type := 0, pos := "twins.go:17", after := #[{ on := 26, ground := .guard }], guard := some (26, true) } : Oper)) rfl (fun v wk hj hD K hK => ?_)) ?_
      · have h26 : v 26 = (.bool false) := hD 26 (by decide)
        simp only [kCD, kCE, putAll, Act.put, List.getD_cons_succ, List.getD_cons_zero, List.setIfInBounds_toArray, List.set_cons_zero, List.set_cons_succ, h26] at hK ⊢
        go_simp
        exact hK.out _ _ (Below.refl _ _) rfl
      refine owes_cons (Owes.mk (o := ({ dst := some 31, op := .load 192 (.tmp 30), type := 192, pos := "twins.go:17", after := #[{ on := 27, ground := .data }, { on := 26, ground := .guard }], guard := some (26, true) } : Oper)) rfl (fun v wk hj hD K hK => ?_)) ?_
      · have h26 : v 26 = (.bool false) := hD 26 (by decide)
        have h27 : v 27 = undef := hD 27 (by decide)
        simp only [kCD, kCE, putAll, Act.put, List.getD_cons_succ, List.getD_cons_zero, List.setIfInBounds_toArray, List.set_cons_zero, List.set_cons_succ, h26, h27] at hK ⊢
        go_simp
        exact hK.out _ _ (Below.refl _ _) rfl
      refine owes_cons (Owes.mk (o := ({ dst := some 32, op := .nilCheck (.tmp 31), type := 0, pos := "twins.go:17", after := #[{ on := 28, ground := .data }, { on := 26, ground := .guard }], guard := some (26, true) } : Oper)) rfl (fun v wk hj hD K hK => ?_)) ?_
      · have h26 : v 26 = (.bool false) := hD 26 (by decide)
        have h28 : v 28 = undef := hD 28 (by decide)
        simp only [kCD, kCE, putAll, Act.put, List.getD_cons_succ, List.getD_cons_zero, List.setIfInBounds_toArray, List.set_cons_zero, List.set_cons_succ, h26, h28] at hK ⊢
        go_simp
        exact hK.out _ _ (Below.refl _ _) rfl
      refine owes_cons (Owes.mk (o := ({ dst := some 33, op := .fieldAddr 80 (.tmp 32) 1, type := 0, pos := "twins.go:17", after := #[{ on := 29, ground := .data }, { on := 26, ground := .guard }], guard := some (26, true) } : Oper)) rfl (fun v wk hj hD K hK => ?_)) ?_
      · have h26 : v 26 = (.bool false) := hD 26 (by decide)
        have h29 : v 29 = undef := hD 29 (by decide)
        simp only [kCD, kCE, putAll, Act.put, List.getD_cons_succ, List.getD_cons_zero, List.setIfInBounds_toArray, List.set_cons_zero, List.set_cons_succ, h26, h29] at hK ⊢
        go_simp
        exact hK.out _ _ (Below.refl _ _) rfl
      refine owes_cons (Owes.mk (o := ({ dst := some 34, op := .load 75 (.tmp 33), type := 75, pos := "twins.go:17", after := #[{ on := 30, ground := .data }, { on := 26, ground := .guard }], guard := some (26, true) } : Oper)) rfl (fun v wk hj hD K hK => ?_)) ?_
      · have h26 : v 26 = (.bool false) := hD 26 (by decide)
        have h30 : v 30 = undef := hD 30 (by decide)
        simp only [kCD, kCE, putAll, Act.put, List.getD_cons_succ, List.getD_cons_zero, List.setIfInBounds_toArray, List.set_cons_zero, List.set_cons_succ, h26, h30] at hK ⊢
        go_simp
        exact hK.out _ _ (Below.refl _ _) rfl
      refine owes_cons (Owes.mk (o := ({ dst := some 35, op := .fieldAddr 194 (.tmp 1) 1, type := 0, pos := "twins.go:17", after := #[{ on := 26, ground := .guard }], guard := some (26, true) } : Oper)) rfl (fun v wk hj hD K hK => ?_)) ?_
      · have h26 : v 26 = (.bool false) := hD 26 (by decide)
        simp only [kCD, kCE, putAll, Act.put, List.getD_cons_succ, List.getD_cons_zero, List.setIfInBounds_toArray, List.set_cons_zero, List.set_cons_succ, h26] at hK ⊢
        go_simp
        exact hK.out _ _ (Below.refl _ _) rfl
      refine owes_cons (Owes.mk (o := ({ dst := some 36, op := .load 192 (.tmp 35), type := 192, pos := "twins.go:17", after := #[{ on := 32, ground := .data }, { on := 26, ground := .guard }], guard := some (26, true) } : Oper)) rfl (fun v wk hj hD K hK => ?_)) ?_
      · have h26 : v 26 = (.bool false) := hD 26 (by decide)
        have h32 : v 32 = undef := hD 32 (by decide)
        simp only [kCD, kCE, putAll, Act.put, List.getD_cons_succ, List.getD_cons_zero, List.setIfInBounds_toArray, List.set_cons_zero, List.set_cons_succ, h26, h32] at hK ⊢
        go_simp
        exact hK.out _ _ (Below.refl _ _) rfl
      refine owes_cons (Owes.mk (o := ({ dst := some 37, op := .nilCheck (.tmp 36), type := 0, pos := "twins.go:17", after := #[{ on := 33, ground := .data }, { on := 26, ground := .guard }], guard := some (26, true) } : Oper)) rfl (fun v wk hj hD K hK => ?_)) ?_
      · have h26 : v 26 = (.bool false) := hD 26 (by decide)
        have h33 : v 33 = undef := hD 33 (by decide)
        simp only [kCD, kCE, putAll, Act.put, List.getD_cons_succ, List.getD_cons_zero, List.setIfInBounds_toArray, List.set_cons_zero, List.set_cons_succ, h26, h33] at hK ⊢
        go_simp
        exact hK.out _ _ (Below.refl _ _) rfl
      refine owes_cons (Owes.mk (o := ({ dst := some 38, op := .fieldAddr 80 (.tmp 37) 1, type := 0, pos := "twins.go:17", after := #[{ on := 34, ground := .data }, { on := 26, ground := .guard }], guard := some (26, true) } : Oper)) rfl (fun v wk hj hD K hK => ?_)) ?_
      · have h26 : v 26 = (.bool false) := hD 26 (by decide)
        have h34 : v 34 = undef := hD 34 (by decide)
        simp only [kCD, kCE, putAll, Act.put, List.getD_cons_succ, List.getD_cons_zero, List.setIfInBounds_toArray, List.set_cons_zero, List.set_cons_succ, h26, h34] at hK ⊢
        go_simp
        exact hK.out _ _ (Below.refl _ _) rfl
      refine owes_cons (Owes.mk (o := ({ dst := some 39, op := .load 75 (.tmp 38), type := 75, pos := "twins.go:17", after := #[{ on := 35, ground := .data }, { on := 26, ground := .guard }], guard := some (26, true) } : Oper)) rfl (fun v wk hj hD K hK => ?_)) ?_
      · have h26 : v 26 = (.bool false) := hD 26 (by decide)
        have h35 : v 35 = undef := hD 35 (by decide)
        simp only [kCD, kCE, putAll, Act.put, List.getD_cons_succ, List.getD_cons_zero, List.setIfInBounds_toArray, List.set_cons_zero, List.set_cons_succ, h26, h35] at hK ⊢
        go_simp
        exact hK.out _ _ (Below.refl _ _) rfl
      refine owes_cons (Owes.mk (o := ({ dst := some 40, op := .call { callee := .value (.func 161), args := #[.tmp 34, .tmp 39, .func 122], argTypes := #[75, 75, 100] }, type := 4, pos := "twins.go:17", after := #[{ on := 31, ground := .data }, { on := 36, ground := .data }, { on := 26, ground := .chain }, { on := 26, ground := .guard }], guard := some (26, true) } : Oper)) rfl (fun v wk hj hD K hK => ?_)) ?_
      · have h26 : v 26 = (.bool false) := hD 26 (by decide)
        have h31 : v 31 = undef := hD 31 (by decide)
        have h36 : v 36 = undef := hD 36 (by decide)
        simp only [kCD, kCE, putAll, Act.put, List.getD_cons_succ, List.getD_cons_zero, List.setIfInBounds_toArray, List.set_cons_zero, List.set_cons_succ, h26, h31, h36] at hK ⊢
        go_simp
        exact hK.out _ _ (Below.refl _ _) rfl
      refine owes_cons (Owes.mk (o := ({ dst := some 41, op := .pick (.tmp 29) (.tmp 40) (.const (.bool false)), type := 4, pos := "twins.go:17", after := #[{ on := 26, ground := .data }, { on := 37, ground := .data }], guard := none } : Oper)) rfl (fun v wk hj hD K hK => ?_)) ?_
      · have h26 : v 26 = (.bool false) := hD 26 (by decide)
        have h37 : v 37 = undef := hD 37 (by decide)
        simp only [kCD, kCE, putAll, Act.put, List.getD_cons_succ, List.getD_cons_zero, List.setIfInBounds_toArray, List.set_cons_zero, List.set_cons_succ, h26, h37] at hK ⊢
        go_simp
        exact hK.out _ _ (Below.refl _ _) rfl
      refine owes_cons (Owes.mk (o := ({ dst := some 2, op := .assign (.tmp 41), type := 4, pos := "twins.go:17", after := #[{ on := 38, ground := .data }, { on := 37, ground := .chain }, { on := 0, ground := .phase }, { on := 1, ground := .phase }, { on := 2, ground := .phase }, { on := 3, ground := .phase }, { on := 4, ground := .phase }, { on := 5, ground := .phase }, { on := 6, ground := .phase }, { on := 7, ground := .phase }, { on := 8, ground := .phase }, { on := 9, ground := .phase }, { on := 10, ground := .phase }, { on := 11, ground := .phase }, { on := 12, ground := .phase }, { on := 13, ground := .phase }, { on := 14, ground := .phase }, { on := 15, ground := .phase }, { on := 16, ground := .phase }, { on := 17, ground := .phase }, { on := 18, ground := .phase }, { on := 19, ground := .phase }, { on := 20, ground := .phase }, { on := 21, ground := .phase }, { on := 22, ground := .phase }, { on := 23, ground := .phase }, { on := 24, ground := .phase }, { on := 25, ground := .phase }, { on := 26, ground := .phase }, { on := 27, ground := .phase }, { on := 28, ground := .phase }, { on := 29, ground := .phase }, { on := 30, ground := .phase }, { on := 31, ground := .phase }, { on := 32, ground := .phase }, { on := 33, ground := .phase }, { on := 34, ground := .phase }, { on := 35, ground := .phase }, { on := 36, ground := .phase }, { on := 37, ground := .phase }, { on := 38, ground := .phase }], guard := none } : Oper)) rfl (fun v wk hj hD K hK => ?_)) ?_
      · have h38 : v 38 = (.bool false) := hD 38 (by decide)
        simp only [kCD, kCE, putAll, Act.put, List.getD_cons_succ, List.getD_cons_zero, List.setIfInBounds_toArray, List.set_cons_zero, List.set_cons_succ, h38] at hK ⊢
        go_simp
        exact hK.out _ _ (Below.refl _ _) rfl
      exact owes_nil
    · intro v wf hj hr
      have hl : v 39 = (.bool false) := hr 39 (by decide)
      simp only [kCD, putAll, Act.put, List.getD_cons_succ, List.getD_cons_zero, List.setIfInBounds_toArray, List.set_cons_zero, List.set_cons_succ, hl]
      have HJ := Lib.hid (bnext HB.out hj.2.2.2)
      clear hl hr hj
      go_wp2
      go_ret
      exact ⟨by rw [FIN.out]; rfl, HJ.out⟩
  case true =>
    have HK := Lib.hid hk
    rw [hk] at FIN
    clear hk
    cases hl : ((x.t.p.length : Int) == (y.t.p.length : Int))
    case false =>
      have HLN := Lib.hid hl
      rw [hl] at FIN
      clear hl
      refine region_phase_all [0, 1, 2, 3, 4, 5, 6, 7, 8, 9, 10, 11, 12, 13, 14, 15, 16, 17, 18, 19, 20, 21, 22, 23, 24, 25, 26, 27, 28, 29, 30, 31, 32, 33, 34, 35, 36, 37, 38, 39] kBD kBE (fun w' => TW w' w.heap.size b o b' o' ∧ PAt w' d b o x ∧ PAt w' e b' o' y ∧ Below Y.heap.size Y w') (saidOf [Is (.pointer (some ⟨w.heap.size, 0, none⟩)), Is (.pointer (some ⟨b, o, none⟩)), Is (.pointer (some ⟨b, o, none⟩)), Is (.pointer (some ⟨b, o, none⟩)), Is (.int .i64 x.t.k), Is (.pointer (some ⟨w.heap.size, 1, none⟩)), Is (.pointer (some ⟨b', o', none⟩)), Is (.pointer (some ⟨b', o', none⟩)), Is (.pointer (some ⟨b', o', none⟩)), Is (.int .i64 y.t.k), Is (.bool true), Is (.bool true), Is (.pointer (some ⟨w.heap.size, 0, none⟩)), Is (.pointer (some ⟨b, o, none⟩)), Is (.pointer (some ⟨b, o, none⟩)), Is (.pointer (some ⟨b, o + 2, none⟩)), Is (.slice x.A' x.t.p.length x.c'), Is (.int .i64 (x.t.p.length : Int)), Is (.pointer (some ⟨w.heap.size, 1, none⟩)), Is (.pointer (some ⟨b', o', none⟩)), Is (.pointer (some ⟨b', o', none⟩)), Is (.pointer (some ⟨b', o' + 2, none⟩)), Is (.slice y.A' y.t.p.length y.c'), Is (.int .i64 (y.t.p.length : Int)), Is (.bool false), Is (.bool false), Is (.bool false), Is undef, Is undef, Is undef, Is undef, Is undef, Is undef, Is undef, Is undef, Is undef, Is undef, Is undef, Is (.bool false), Is (.bool false)]) 42 (by rfl) (by kernel_rfl) (by kernel_rfl) (by kernel_rfl) (fun _ _ h hb => ⟨h.1.next (Nat.lt_of_lt_of_le HG.out h.2.2.2.size) hb, h.2.1.next hb, h.2.2.1.next hb, bnext h.2.2.2 hb⟩) (stays_said _ (stays_cons (Is.stays _) (stays_cons (Is.stays _) (stays_cons (Is.stays _) (stays_cons (Is.stays _) (stays_cons (Is.stays _) (stays_cons (Is.stays _) (stays_cons (Is.stays _) (stays_cons (Is.stays _) (stays_cons (Is.stays _) (stays_cons (Is.stays _) (stays_cons (Is.stays _) (stays_cons (Is.stays _) (stays_cons (Is.stays _) (stays_cons (Is.stays _) (stays_cons (Is.stays _) (stays_cons (Is.stays _) (stays_cons (Is.stays _) (stays_cons (Is.stays _) (stays_cons (Is.stays _) (stays_cons (Is.stays _) (stays_cons (Is.stays _) (stays_cons (Is.stays _) (stays_cons (Is.stays _) (stays_cons (Is.stays _) (stays_cons (Is.stays _) (stays_cons (Is.stays _) (stays_cons (Is.stays _) (stays_cons (Is.stays _) (stays_cons (Is.stays _) (stays_cons (Is.stays _) (stays_cons (Is.stays _) (stays_cons (Is.stays _) (stays_cons (Is.stays _) (stays_cons (Is.stays _) (stays_cons (Is.stays _) (stays_cons (Is.stays _) (stays_cons (Is.stays _) (stays_cons (Is.stays _) (stays_cons (Is.stays _) (stays_cons (Is.stays _) stays_nil))))))))))))))))))))))))))))))))))))))))) ⟨TG.out.next HG.out (below_drewN _ _ 1), HX.out.next (below_drewN _ _ 1), HY.out.next (below_drewN _ _ 1), below_drewN _ _ 1⟩ (by kernel_rfl) ?_ ?_
      · skip
        refine owes_cons (Owes.mk (o := ({ dst := some 3, op := .fieldAddr 194 (.tmp 1) 0, type := 0, pos := "twins.go:17", after := #[], guard := none } : Oper)) rfl (fun v wk hj hD K hK => ?_)) ?_
        · simp only [kBD, kBE, putAll, Act.put, List.getD_cons_zero, List.setIfInBounds_toArray, List.set_cons_zero, List.set_cons_succ] at hK ⊢
          go_simp
          exact hK.out _ _ (Below.refl _ _) rfl
        refine owes_cons (Owes.mk (o := ({ dst := some 4, op := .load 192 (.tmp 3), type := 192, pos := "twins.go:17", after := #[{ on := 0, ground := .data }], guard := none } : Oper)) rfl (fun v wk hj hD K hK => ?_)) ?_
        · have h0 : v 0 = (.pointer (some ⟨w.heap.size, 0, none⟩)) := hD 0 (by decide)
          simp only [kBD, kBE, putAll, Act.put, List.getD_cons_succ, List.getD_cons_zero, List.setIfInBounds_toArray, List.set_cons_zero, List.set_cons_succ, h0] at hK ⊢
          obtain ⟨⟨g0, g1⟩, ⟨x0, x1, x2, _, _⟩, ⟨y0, y1, y2, _, _⟩, _⟩ := hj
          go_simp
          exact hK.out _ _ (Below.refl _ _) rfl
        refine owes_cons (Owes.mk (o := ({ dst := some 5, op := .nilCheck (.tmp 4), type := 0, pos := "twins.go:17", after := #[{ on := 1, ground := .data }], guard := none } : Oper)) rfl (fun v wk hj hD K hK => ?_)) ?_
        · have h1 : v 1 = (.pointer (some ⟨b, o, none⟩)) := hD 1 (by decide)
          simp only [kBD, kBE, putAll, Act.put, List.getD_cons_succ, List.getD_cons_zero, List.setIfInBounds_toArray, List.set_cons_zero, List.set_cons_succ, h1] at hK ⊢
          go_simp
          exact hK.out _ _ (Below.refl _ _) rfl
        refine owes_cons (Owes.mk (o := ({ dst := some 6, op := .fieldAddr 80 (.tmp 5) 0, type := 0, pos := "twins.go:17", after := #[{ on := 2, ground := .data }], guard := none } : Oper)) rfl (fun v wk hj hD K hK => ?_)) ?_
        · have h2 : v 2 = (.pointer (some ⟨b, o, none⟩)) := hD 2 (by decide)
          simp only [kBD, kBE, putAll, Act.put, List.getD_cons_succ, List.getD_cons_zero, List.setIfInBounds_toArray, List.set_cons_zero, List.set_cons_succ, h2] at hK ⊢
          go_simp
          exact hK.out _ _ (Below.refl _ _) rfl
        refine owes_cons (Owes.mk (o := ({ dst := some 7, op := .load 3 (.tmp 6), type := 3, pos := "twins.go:17", after := #[{ on := 3, ground := .data }], guard := none } : Oper)) rfl (fun v wk hj hD K hK => ?_)) ?_
        · have h3 : v 3 = (.pointer (some ⟨b, o, none⟩)) := hD 3 (by decide)
          simp only [kBD, kBE, putAll, Act.put, List.getD_cons_succ, List.getD_cons_zero, List.setIfInBounds_toArray, List.set_cons_zero, List.set_cons_succ, h3] at hK ⊢
          obtain ⟨⟨g0, g1⟩, ⟨x0, x1, x2, _, _⟩, ⟨y0, y1, y2, _, _⟩, _⟩ := hj
          go_simp
          exact hK.out _ _ (Below.refl _ _) rfl
        refine owes_cons (Owes.mk (o := ({ dst := some 8, op := .fieldAddr 194 (.tmp 1) 1, type := 0, pos := "twins.go:17", after := #[], guard := none } : Oper)) rfl (fun v wk hj hD K hK => ?_)) ?_
        · simp only [kBD, kBE, putAll, Act.put, List.getD_cons_succ, List.getD_cons_zero, List.setIfInBounds_toArray, List.set_cons_zero, List.set_cons_succ] at hK ⊢
          go_simp
          exact hK.out _ _ (Below.refl _ _) rfl
        refine owes_cons (Owes.mk (o := ({ dst := some 9, op := .load 192 (.tmp 8), type := 192, pos := "twins.go:17", after := #[{ on := 5, ground := .data }], guard := none } : Oper)) rfl (fun v wk hj hD K hK => ?_)) ?_
        · have h5 : v 5 = (.pointer (some ⟨w.heap.size, 1, none⟩)) := hD 5 (by decide)
          simp only [kBD, kBE, putAll, Act.put, List.getD_cons_succ, List.getD_cons_zero, List.setIfInBounds_toArray, List.set_cons_zero, List.set_cons_succ, h5] at hK ⊢
          obtain ⟨⟨g0, g1⟩, ⟨x0, x1, x2, _, _⟩, ⟨y0, y1, y2, _, _⟩, _⟩ := hj
          go_simp
          exact hK.out _ _ (Below.refl _ _) rfl
        refine owes_cons (Owes.mk (o := ({ dst := some 10, op := .nilCheck (.tmp 9), type := 0, pos := "twins.go:17", after := #[{ on := 6, ground := .data }], guard := none } : Oper)) rfl (fun v wk hj hD K hK => ?_)) ?_
        · have h6 : v 6 = (.pointer (some ⟨b', o', none⟩)) := hD 6 (by decide)
          simp only [kBD, kBE, putAll, Act.put, List.getD_cons_succ, List.getD_cons_zero, List.setIfInBounds_toArray, List.set_cons_zero, List.set_cons_succ, h6] at hK ⊢
          go_simp
          exact hK.out _ _ (Below.refl _ _) rfl
        refine owes_cons (Owes.mk (o := ({ dst := some 11, op := .fieldAddr 80 (.tmp 10) 0, type := 0, pos := "twins.go:17", after := #[{ on := 7, ground := .data }], guard := none } : Oper)) rfl (fun v wk hj hD K hK => ?_)) ?_
        · have h7 : v 7 = (.pointer (some ⟨b', o', none⟩)) := hD 7 (by decide)
          simp only [kBD, kBE, putAll, Act.put, List.getD_cons_succ, List.getD_cons_zero, List.setIfInBounds_toArray, List.set_cons_zero, List.set_cons_succ, h7] at hK ⊢
          go_simp
          exact hK.out _ _ (Below.refl _ _) rfl
        refine owes_cons (Owes.mk (o := ({ dst := some 12, op := .load 3 (.tmp 11), type := 3, pos := "twins.go:17", after := #[{ on := 8, ground := .data }], guard := none } : Oper)) rfl (fun v wk hj hD K hK => ?_)) ?_
        · have h8 : v 8 = (.pointer (some ⟨b', o', none⟩)) := hD 8 (by decide)
          simp only [kBD, kBE, putAll, Act.put, List.getD_cons_succ, List.getD_cons_zero, List.setIfInBounds_toArray, List.set_cons_zero, List.set_cons_succ, h8] at hK ⊢
          obtain ⟨⟨g0, g1⟩, ⟨x0, x1, x2, _, _⟩, ⟨y0, y1, y2, _, _⟩, _⟩ := hj
          go_simp
          exact hK.out _ _ (Below.refl _ _) rfl
        refine owes_cons (Owes.mk (o := ({ dst := some 13, op := .binOp .eql 3 (.tmp 7) (.tmp 12) 3, type := 4, pos := "twins.go:17", after := #[{ on := 4, ground := .data }, { on := 9, ground := .data }], guard := none } : Oper)) rfl (fun v wk hj hD K hK => ?_)) ?_
        · have h4 : v 4 = (.int .i64 x.t.k) := hD 4 (by decide)
          have h9 : v 9 = (.int .i64 y.t.k) := hD 9 (by decide)
          simp only [kBD, kBE, putAll, Act.put, List.getD_cons_succ, List.getD_cons_zero, List.setIfInBounds_toArray, List.set_cons_zero, List.set_cons_succ, h4, h9] at hK ⊢
          go_simp
          exact hK.out _ _ (Below.refl _ _) (show Value.bool _ = _ by rw [HK.out])
        refine owes_cons (Owes.mk (o := ({ dst := some 14, op := .move (.tmp 13), type := 4, pos := "twins.go:17", after := #[{ on := 10, ground := .data }], guard := none } : Oper)) rfl (fun v wk hj hD K hK => ?_)) ?_
        · have h10 : v 10 = (.bool true) := hD 10 (by decide)
          simp only [kBD, kBE, putAll, Act.put, List.getD_cons_succ, List.getD_cons_zero, List.setIfInBounds_toArray, List.set_cons_zero, List.set_cons_succ, h10] at hK ⊢
          go_simp
          exact hK.out _ _ (Below.refl _ _) rfl
        refine owes_cons (Owes.mk (o := ({ dst := some 15, op := .fieldAddr 194 (.tmp 1) 0, type := 0, pos := "twins.go:17", after := #[{ on := 11, ground := .guard }], guard := some (11, true) } : Oper)) rfl (fun v wk hj hD K hK => ?_)) ?_
        · have h11 : v 11 = (.bool true) := hD 11 (by decide)
          simp only [kBD, kBE, putAll, Act.put, List.getD_cons_succ, List.getD_cons_zero, List.setIfInBounds_toArray, List.set_cons_zero, List.set_cons_succ, h11] at hK ⊢
          go_simp
          exact hK.out _ _ (Below.refl _ _) rfl
        refine owes_cons (Owes.mk (o := ({ dst := some 16, op := .load 192 (.tmp 15), type := 192, pos := "twins.go:17", after := #[{ on := 12, ground := .data }, { on := 11, ground := .guard }], guard := some (11, true) } : Oper)) rfl (fun v wk hj hD K hK => ?_)) ?_
        · have h11 : v 11 = (.bool true) := hD 11 (by decide)
          have h12 : v 12 = (.pointer (some ⟨w.heap.size, 0, none⟩)) := hD 12 (by decide)
          simp only [kBD, kBE, putAll, Act.put, List.getD_cons_succ, List.getD_cons_zero, List.setIfInBounds_toArray, List.set_cons_zero, List.set_cons_succ, h11, h12] at hK ⊢
          obtain ⟨⟨g0, g1⟩, ⟨x0, x1, x2, _, _⟩, ⟨y0, y1, y2, _, _⟩, _⟩ := hj
          go_simp
          exact hK.out _ _ (Below.refl _ _) rfl
        refine owes_cons (Owes.mk (o := ({ dst := some 17, op := .nilCheck (.tmp 16), type := 0, pos := "twins.go:17", after := #[{ on := 13, ground := .data }, { on := 11, ground := .guard }], guard := some (11, true) } : Oper)) rfl (fun v wk hj hD K hK => ?_)) ?_
        · have h11 : v 11 = (.bool true) := hD 11 (by decide)
          have h13 : v 13 = (.pointer (some ⟨b, o, none⟩)) := hD 13 (by decide)
          simp only [kBD, kBE, putAll, Act.put, List.getD_cons_succ, List.getD_cons_zero, List.setIfInBounds_toArray, List.set_cons_zero, List.set_cons_succ, h11, h13] at hK ⊢
          go_simp
          exact hK.out _ _ (Below.refl _ _) rfl
        refine owes_cons (Owes.mk (o := ({ dst := some 18, op := .fieldAddr 80 (.tmp 17) 2, type := 0, pos := "twins.go:17", after := #[{ on := 14, ground := .data }, { on := 11, ground := .guard }], guard := some (11, true) } : Oper)) rfl (fun v wk hj hD K hK => ?_)) ?_
        · have h11 : v 11 = (.bool true) := hD 11 (by decide)
          have h14 : v 14 = (.pointer (some ⟨b, o, none⟩)) := hD 14 (by decide)
          simp only [kBD, kBE, putAll, Act.put, List.getD_cons_succ, List.getD_cons_zero, List.setIfInBounds_toArray, List.set_cons_zero, List.set_cons_succ, h11, h14] at hK ⊢
          go_simp
          exact hK.out _ _ (Below.refl _ _) rfl
        refine owes_cons (Owes.mk (o := ({ dst := some 19, op := .load 78 (.tmp 18), type := 78, pos := "twins.go:17", after := #[{ on := 15, ground := .data }, { on := 11, ground := .guard }], guard := some (11, true) } : Oper)) rfl (fun v wk hj hD K hK => ?_)) ?_
        · have h11 : v 11 = (.bool true) := hD 11 (by decide)
          have h15 : v 15 = (.pointer (some ⟨b, o + 2, none⟩)) := hD 15 (by decide)
          simp only [kBD, kBE, putAll, Act.put, List.getD_cons_succ, List.getD_cons_zero, List.setIfInBounds_toArray, List.set_cons_zero, List.set_cons_succ, h11, h15] at hK ⊢
          obtain ⟨⟨g0, g1⟩, ⟨x0, x1, x2, _, _⟩, ⟨y0, y1, y2, _, _⟩, _⟩ := hj
          go_simp
          exact hK.out _ _ (Below.refl _ _) rfl
        refine owes_cons (Owes.mk (o := ({ dst := some 20, op := .call { callee := .builtin .len, args := #[.tmp 19], argTypes := #[78] }, type := 3, pos := "twins.go:17", after := #[{ on := 16, ground := .data }, { on := 11, ground := .guard }], guard := some (11, true) } : Oper)) rfl (fun v wk hj hD K hK => ?_)) ?_
        · have h11 : v 11 = (.bool true) := hD 11 (by decide)
          have h16 : v 16 = (.slice x.A' x.t.p.length x.c') := hD 16 (by decide)
          simp only [kBD, kBE, putAll, Act.put, List.getD_cons_succ, List.getD_cons_zero, List.setIfInBounds_toArray, List.set_cons_zero, List.set_cons_succ, h11, h16] at hK ⊢
          go_simp
          exact hK.out _ _ (Below.refl _ _) rfl
        refine owes_cons (Owes.mk (o := ({ dst := some 21, op := .fieldAddr 194 (.tmp 1) 1, type := 0, pos := "twins.go:17", after := #[{ on := 11, ground := .guard }], guard := some (11, true) } : Oper)) rfl (fun v wk hj hD K hK => ?_)) ?_
        · have h11 : v 11 = (.bool true) := hD 11 (by decide)
          simp only [kBD, kBE, putAll, Act.put, List.getD_cons_succ, List.getD_cons_zero, List.setIfInBounds_toArray, List.set_cons_zero, List.set_cons_succ, h11] at hK ⊢
          go_simp
          exact hK.out _ _ (Below.refl _ _) rfl
        refine owes_cons (Owes.mk (o := ({ dst := some 22, op := .load 192 (.tmp 21), type := 192, pos := "twins.go:17", after := #[{ on := 18, ground := .data }, { on := 11, ground := .guard }], guard := some (11, true) } : Oper)) rfl (fun v wk hj hD K hK => ?_)) ?_
        · have h11 : v 11 = (.bool true) := hD 11 (by decide)
          have h18 : v 18 = (.pointer (some ⟨w.heap.size, 1, none⟩)) := hD 18 (by decide)
          simp only [kBD, kBE, putAll, Act.put, List.getD_cons_succ, List.getD_cons_zero, List.setIfInBounds_toArray, List.set_cons_zero, List.set_cons_succ, h11, h18] at hK ⊢
          obtain ⟨⟨g0, g1⟩, ⟨x0, x1, x2, _, _⟩, ⟨y0, y1, y2, _, _⟩, _⟩ := hj
          go_simp
          exact hK.out _ _ (Below.refl _ _) rfl
        refine owes_cons (Owes.mk (o := ({ dst := some 23, op := .nilCheck (.tmp 22), type := 0, pos := "twins.go:17", after := #[{ on := 19, ground := .data }, { on := 11, ground := .guard }], guard := some (11, true) } : Oper)) rfl (fun v wk hj hD K hK => ?_)) ?_
        · have h11 : v 11 = (.bool true) := hD 11 (by decide)
          have h19 : v 19 = (.pointer (some ⟨b', o', none⟩)) := hD 19 (by decide)
          simp only [kBD, kBE, putAll, Act.put, List.getD_cons_succ, List.getD_cons_zero, List.setIfInBounds_toArray, List.set_cons_zero, List.set_cons_succ, h11, h19] at hK ⊢
          go_simp
          exact hK.out _ _ (Below.refl _ _) rfl
        refine owes_cons (Owes.mk (o := ({ dst := some 24, op := .fieldAddr 80 (.tmp 23) 2, type := 0, pos := "twins.go:17", after := #[{ on := 20, ground := .data }, { on := 11, ground := .guard }], guard := some (11, true) } : Oper)) rfl (fun v wk hj hD K hK => ?_)) ?_
        · have h11 : v 11 = (.bool true) := hD 11 (by decide)
          have h20 : v 20 = (.pointer (some ⟨b', o', none⟩)) := hD 20 (by decide)
          simp only [kBD, kBE, putAll, Act.put, List.getD_cons_succ, List.getD_cons_zero, List.setIfInBounds_toArray, List.set_cons_zero, List.set_cons_succ, h11, h20] at hK ⊢
          go_simp
          exact hK.out _ _ (Below.refl _ _) rfl
        refine owes_cons (Owes.mk (o := ({ dst := some 25, op := .load 78 (.tmp 24), type := 78, pos := "twins.go:17", after := #[{ on := 21, ground := .data }, { on := 11, ground := .guard }], guard := some (11, true) } : Oper)) rfl (fun v wk hj hD K hK => ?_)) ?_
        · have h11 : v 11 = (.bool true) := hD 11 (by decide)
          have h21 : v 21 = (.pointer (some ⟨b', o' + 2, none⟩)) := hD 21 (by decide)
          simp only [kBD, kBE, putAll, Act.put, List.getD_cons_succ, List.getD_cons_zero, List.setIfInBounds_toArray, List.set_cons_zero, List.set_cons_succ, h11, h21] at hK ⊢
          obtain ⟨⟨g0, g1⟩, ⟨x0, x1, x2, _, _⟩, ⟨y0, y1, y2, _, _⟩, _⟩ := hj
          go_simp
          exact hK.out _ _ (Below.refl _ _) rfl
        refine owes_cons (Owes.mk (o := ({ dst := some 26, op := .call { callee := .builtin .len, args := #[.tmp 25], argTypes := #[78] }, type := 3, pos := "twins.go:17", after := #[{ on := 22, ground := .data }, { on := 11, ground := .guard }], guard := some (11, true) } : Oper)) rfl (fun v wk hj hD K hK => ?_)) ?_
        · have h11 : v 11 = (.bool true) := hD 11 (by decide)
          have h22 : v 22 = (.slice y.A' y.t.p.length y.c') := hD 22 (by decide)
          simp only [kBD, kBE, putAll, Act.put, List.getD_cons_succ, List.getD_cons_zero, List.setIfInBounds_toArray, List.set_cons_zero, List.set_cons_succ, h11, h22] at hK ⊢
          go_simp
          exact hK.out _ _ (Below.refl _ _) rfl
        refine owes_cons (Owes.mk (o := ({ dst := some 27, op := .binOp .eql 3 (.tmp 20) (.tmp 26) 3, type := 4, pos := "twins.go:17", after := #[{ on := 17, ground := .data }, { on := 23, ground := .data }, { on := 11, ground := .guard }], guard := some (11, true) } : Oper)) rfl (fun v wk hj hD K hK => ?_)) ?_
        · have h11 : v 11 = (.bool true) := hD 11 (by decide)
          have h17 : v 17 = (.int .i64 (x.t.p.length : Int)) := hD 17 (by decide)
          have h23 : v 23 = (.int .i64 (y.t.p.length : Int)) := hD 23 (by decide)
          simp only [kBD, kBE, putAll, Act.put, List.getD_cons_succ, List.getD_cons_zero, List.setIfInBounds_toArray, List.set_cons_zero, List.set_cons_succ, h11, h17, h23] at hK ⊢
          go_simp
          exact hK.out _ _ (Below.refl _ _) (show Value.bool _ = _ by rw [HLN.out])
        refine owes_cons (Owes.mk (o := ({ dst := some 28, op := .pick (.tmp 14) (.tmp 27) (.const (.bool false)), type := 4, pos := "twins.go:17", after := #[{ on := 11, ground := .data }, { on := 24, ground := .data }], guard := none } : Oper)) rfl (fun v wk hj hD K hK => ?_)) ?_
        · have h11 : v 11 = (.bool true) := hD 11 (by decide)
          have h24 : v 24 = (.bool false) := hD 24 (by decide)
          simp only [kBD, kBE, putAll, Act.put, List.getD_cons_succ, List.getD_cons_zero, List.setIfInBounds_toArray, List.set_cons_zero, List.set_cons_succ, h11, h24] at hK ⊢
          go_simp
          exact hK.out _ _ (Below.refl _ _) rfl
        refine owes_cons (Owes.mk (o := ({ dst := some 29, op := .move (.tmp 28), type := 4, pos := "twins.go:17", after := #[{ on := 25, ground := .data }, { on := 11, ground := .chain }], guard := none } : Oper)) rfl (fun v wk hj hD K hK => ?_)) ?_
        · have h25 : v 25 = (.bool false) := hD 25 (by decide)
          simp only [kBD, kBE, putAll, Act.put, List.getD_cons_succ, List.getD_cons_zero, List.setIfInBounds_toArray, List.set_cons_zero, List.set_cons_succ, h25] at hK ⊢
          go_simp
          exact hK.out _ _ (Below.refl _ _) rfl
        refine owes_cons (Owes.mk (o := ({ dst := some 30, op := .fieldAddr 194 (.tmp 1) 0, type := 0, pos := "twins.go:17", after := #[{ on := 26, ground := .guard }], guard := some (26, true) } : Oper)) rfl (fun v wk hj hD K hK => ?_)) ?_
        · have h26 : v 26 = (.bool false) := hD 26 (by decide)
          simp only [kBD, kBE, putAll, Act.put, List.getD_cons_succ, List.getD_cons_zero, List.setIfInBounds_toArray, List.set_cons_zero, List.set_cons_succ, h26] at hK ⊢
          go_simp
          exact hK.out _ _ (Below.refl _ _) rfl
        refine owes_cons (Owes.mk (o := ({ dst := some 31, op := .load 192 (.tmp 30), type := 192, pos := "twins.go:17", after := #[{ on := 27, ground := .data }, { on := 26, ground := .guard }], guard := some (26, true) } : Oper)) rfl (fun v wk hj hD K hK => ?_)) ?_
        · have h26 : v 26 = (.bool false) := hD 26 (by decide)
          have h27 : v 27 = undef := hD 27 (by decide)
          simp only [kBD, kBE, putAll, Act.put, List.getD_cons_succ, List.getD_cons_zero, List.setIfInBounds_toArray, List.set_cons_zero, List.set_cons_succ, h26, h27] at hK ⊢
          go_simp
          exact hK.out _ _ (Below.refl _ _) rfl
        refine owes_cons (Owes.mk (o := ({ dst := some 32, op := .nilCheck (.tmp 31), type := 0, pos := "twins.go:17", after := #[{ on := 28, ground := .data }, { on := 26, ground := .guard }], guard := some (26, true) } : Oper)) rfl (fun v wk hj hD K hK => ?_)) ?_
        · have h26 : v 26 = (.bool false) := hD 26 (by decide)
          have h28 : v 28 = undef := hD 28 (by decide)
          simp only [kBD, kBE, putAll, Act.put, List.getD_cons_succ, List.getD_cons_zero, List.setIfInBounds_toArray, List.set_cons_zero, List.set_cons_succ, h26, h28] at hK ⊢
          go_simp
          exact hK.out _ _ (Below.refl _ _) rfl
        refine owes_cons (Owes.mk (o := ({ dst := some 33, op := .fieldAddr 80 (.tmp 32) 1, type := 0, pos := "twins.go:17", after := #[{ on := 29, ground := .data }, { on := 26, ground := .guard }], guard := some (26, true) } : Oper)) rfl (fun v wk hj hD K hK => ?_)) ?_
        · have h26 : v 26 = (.bool false) := hD 26 (by decide)
          have h29 : v 29 = undef := hD 29 (by decide)
          simp only [kBD, kBE, putAll, Act.put, List.getD_cons_succ, List.getD_cons_zero, List.setIfInBounds_toArray, List.set_cons_zero, List.set_cons_succ, h26, h29] at hK ⊢
          go_simp
          exact hK.out _ _ (Below.refl _ _) rfl
        refine owes_cons (Owes.mk (o := ({ dst := some 34, op := .load 75 (.tmp 33), type := 75, pos := "twins.go:17", after := #[{ on := 30, ground := .data }, { on := 26, ground := .guard }], guard := some (26, true) } : Oper)) rfl (fun v wk hj hD K hK => ?_)) ?_
        · have h26 : v 26 = (.bool false) := hD 26 (by decide)
          have h30 : v 30 = undef := hD 30 (by decide)
          simp only [kBD, kBE, putAll, Act.put, List.getD_cons_succ, List.getD_cons_zero, List.setIfInBounds_toArray, List.set_cons_zero, List.set_cons_succ, h26, h30] at hK ⊢
          go_simp
          exact hK.out _ _ (Below.refl _ _) rfl
        refine owes_cons (Owes.mk (o := ({ dst := some 35, op := .fieldAddr 194 (.tmp 1) 1, type := 0, pos := "twins.go:17", after := #[{ on := 26, ground := .guard }], guard := some (26, true) } : Oper)) rfl (fun v wk hj hD K hK => ?_)) ?_
        · have h26 : v 26 = (.bool false) := hD 26 (by decide)
          simp only [kBD, kBE, putAll, Act.put, List.getD_cons_succ, List.getD_cons_zero, List.setIfInBounds_toArray, List.set_cons_zero, List.set_cons_succ, h26] at hK ⊢
          go_simp
          exact hK.out _ _ (Below.refl _ _) rfl
        refine owes_cons (Owes.mk (o := ({ dst := some 36, op := .load 192 (.tmp 35), type := 192, pos := "twins.go:17", after := #[{ on := 32, ground := .data }, { on := 26, ground := .guard }], guard := some (26, true) } : Oper)) rfl (fun v wk hj hD K hK => ?_)) ?_
        · have h26 : v 26 = (.bool false) := hD 26 (by decide)
          have h32 : v 32 = undef := hD 32 (by decide)
          simp only [kBD, kBE, putAll, Act.put, List.getD_cons_succ, List.getD_cons_zero, List.setIfInBounds_toArray, List.set_cons_zero, List.set_cons_succ, h26, h32] at hK ⊢
          go_simp
          exact hK.out _ _ (Below.refl _ _) rfl
        refine owes_cons (Owes.mk (o := ({ dst := some 37, op := .nilCheck (.tmp 36), type := 0, pos := "twins.go:17", after := #[{ on := 33, ground := .data }, { on := 26, ground := .guard }], guard := some (26, true) } : Oper)) rfl (fun v wk hj hD K hK => ?_)) ?_
        · have h26 : v 26 = (.bool false) := hD 26 (by decide)
          have h33 : v 33 = undef := hD 33 (by decide)
          simp only [kBD, kBE, putAll, Act.put, List.getD_cons_succ, List.getD_cons_zero, List.setIfInBounds_toArray, List.set_cons_zero, List.set_cons_succ, h26, h33] at hK ⊢
          go_simp
          exact hK.out _ _ (Below.refl _ _) rfl
        refine owes_cons (Owes.mk (o := ({ dst := some 38, op := .fieldAddr 80 (.tmp 37) 1, type := 0, pos := "twins.go:17", after := #[{ on := 34, ground := .data }, { on := 26, ground := .guard }], guard := some (26, true) } : Oper)) rfl (fun v wk hj hD K hK => ?_)) ?_
        · have h26 : v 26 = (.bool false) := hD 26 (by decide)
          have h34 : v 34 = undef := hD 34 (by decide)
          simp only [kBD, kBE, putAll, Act.put, List.getD_cons_succ, List.getD_cons_zero, List.setIfInBounds_toArray, List.set_cons_zero, List.set_cons_succ, h26, h34] at hK ⊢
          go_simp
          exact hK.out _ _ (Below.refl _ _) rfl
        refine owes_cons (Owes.mk (o := ({ dst := some 39, op := .load 75 (.tmp 38), type := 75, pos := "twins.go:17", after := #[{ on := 35, ground := .data }, { on := 26, ground := .guard }], guard := some (26, true) } : Oper)) rfl (fun v wk hj hD K hK => ?_)) ?_
        · have h26 : v 26 = (.bool false) := hD 26 (by decide)
          have h35 : v 35 = undef := hD 35 (by decide)
          simp only [kBD, kBE, putAll, Act.put, List.getD_cons_succ, List.getD_cons_zero, List.setIfInBounds_toArray, List.set_cons_zero, List.set_cons_succ, h26, h35] at hK ⊢
          go_simp
          exact hK.out _ _ (Below.refl _ _) rfl
        refine owes_cons (Owes.mk (o := ({ dst := some 40, op := .call { callee := .value (.func 161), args := #[.tmp 34, .tmp 39, .func 122], argTypes := #[75, 75, 100] }, type := 4, pos := "twins.go:17", after := #[{ on := 31, ground := .data }, { on := 36, ground := .data }, { on := 26, ground := .chain }, { on := 26, ground := .guard }], guard := some (26, true) } : Oper)) rfl (fun v wk hj hD K hK => ?_)) ?_
        · have h26 : v 26 = (.bool false) := hD 26 (by decide)
          have h31 : v 31 = undef := hD 31 (by decide)
          have h36 : v 36 = undef := hD 36 (by decide)
          simp only [kBD, kBE, putAll, Act.put, List.getD_cons_succ, List.getD_cons_zero, List.setIfInBounds_toArray, List.set_cons_zero, List.set_cons_succ, h26, h31, h36] at hK ⊢
          go_simp
          exact hK.out _ _ (Below.refl _ _) rfl
        refine owes_cons (Owes.mk (o := ({ dst := some 41, op := .pick (.tmp 29) (.tmp 40) (.const (.bool false)), type := 4, pos := "twins.go:17", after := #[{ on := 26, ground := .data }, { on := 37, ground := .data }], guard := none } : Oper)) rfl (fun v wk hj hD K hK => ?_)) ?_
        · have h26 : v 26 = (.bool false) := hD 26 (by decide)
          have h37 : v 37 = undef := hD 37 (by decide)
          simp only [kBD, kBE, putAll, Act.put, List.getD_cons_succ, List.getD_cons_zero, List.setIfInBounds_toArray, List.set_cons_zero, List.set_cons_succ, h26, h37] at hK ⊢
          go_simp
          exact hK.out _ _ (Below.refl _ _) rfl
        refine owes_cons (Owes.mk (o := ({ dst := some 2, op := .assign (.tmp 41), type := 4, pos := "twins.go:17", after := #[{ on := 38, ground := .data }, { on := 37, ground := .chain }, { on := 0, ground := .phase }, { on := 1, ground := .phase }, { on := 2, ground := .phase }, { on := 3, ground := .phase }, { on := 4, ground := .phase }, { on := 5, ground := .phase }, { on := 6, ground := .phase }, { on := 7, ground := .phase }, { on := 8, ground := .phase }, { on := 9, ground := .phase }, { on := 10, ground := .phase }, { on := 11, ground := .phase }, { on := 12, ground := .phase }, { on := 13, ground := .phase }, { on := 14, ground := .phase }, { on := 15, ground := .phase }, { on := 16, ground := .phase }, { on := 17, ground := .phase }, { on := 18, ground := .phase }, { on := 19, ground := .phase }, { on := 20, ground := .phase }, { on := 21, ground := .phase }, { on := 22, ground := .phase }, { on := 23, ground := .phase }, { on := 24, ground := .phase }, { on := 25, ground := .phase }, { on := 26, ground := .phase }, { on := 27, ground := .phase }, { on := 28, ground := .phase }, { on := 29, ground := .phase }, { on := 30, ground := .phase }, { on := 31, ground := .phase }, { on := 32, ground := .phase }, { on := 33, ground := .phase }, { on := 34, ground := .phase }, { on := 35, ground := .phase }, { on := 36, ground := .phase }, { on := 37, ground := .phase }, { on := 38, ground := .phase }], guard := none } : Oper)) rfl (fun v wk hj hD K hK => ?_)) ?_
        · have h38 : v 38 = (.bool false) := hD 38 (by decide)
          simp only [kBD, kBE, putAll, Act.put, List.getD_cons_succ, List.getD_cons_zero, List.setIfInBounds_toArray, List.set_cons_zero, List.set_cons_succ, h38] at hK ⊢
          go_simp
          exact hK.out _ _ (Below.refl _ _) rfl
        exact owes_nil
      · intro v wf hj hr
        have hl : v 39 = (.bool false) := hr 39 (by decide)
        simp only [kBD, putAll, Act.put, List.getD_cons_succ, List.getD_cons_zero, List.setIfInBounds_toArray, List.set_cons_zero, List.set_cons_succ, hl]
        have HJ := Lib.hid (bnext HB.out hj.2.2.2)
        clear hl hr hj
        go_wp2
        go_ret
        exact ⟨by rw [FIN.out]; rfl, HJ.out⟩
    case true =>
      have HLN := Lib.hid hl
      rw [hl] at FIN
      clear hl
      refine region_phase_all [0, 1, 2, 3, 4, 5, 6, 7, 8, 9, 10, 11, 12, 13, 14, 15, 16, 17, 18, 19, 20, 21, 22, 23, 24, 25, 26, 27, 28, 29, 30, 31, 32, 33, 34, 35, 36, 37, 38, 39] kAD kAE (fun w' => TW w' w.heap.size b o b' o' ∧ PAt w' d b o x ∧ PAt w' e b' o' y ∧ Below Y.heap.size Y w') (saidOf [Is (.pointer (some ⟨w.heap.size, 0, none⟩)), Is (.pointer (some ⟨b, o, none⟩)), Is (.pointer (some ⟨b, o, none⟩)), Is (.pointer (some ⟨b, o, none⟩)), Is (.int .i64 x.t.k), Is (.pointer (some ⟨w.heap.size, 1, none⟩)), Is (.pointer (some ⟨b', o', none⟩)), Is (.pointer (some ⟨b', o', none⟩)), Is (.pointer (some ⟨b', o', none⟩)), Is (.int .i64 y.t.k), Is (.bool true), Is (.bool true), Is (.pointer (some ⟨w.heap.size, 0, none⟩)), Is (.pointer (some ⟨b, o, none⟩)), Is (.pointer (some ⟨b, o, none⟩)), Is (.pointer (some ⟨b, o + 2, none⟩)), Is (.slice x.A' x.t.p.length x.c'), Is (.int .i64 (x.t.p.length : Int)), Is (.pointer (some ⟨w.heap.size, 1, none⟩)), Is (.pointer (some ⟨b', o', none⟩)), Is (.pointer (some ⟨b', o', none⟩)), Is (.pointer (some ⟨b', o' + 2, none⟩)), Is (.slice y.A' y.t.p.length y.c'), Is (.int .i64 (y.t.p.length : Int)), Is (.bool true), Is (.bool true), Is (.bool true), Is (.pointer (some ⟨w.heap.size, 0, none⟩)), Is (.pointer (some ⟨b, o, none⟩)), Is (.pointer (some ⟨b, o, none⟩)), Is (.pointer (some ⟨b, o + 1, none⟩)), Is (.slice x.A x.t.v.length x.c), Is (.pointer (some ⟨w.heap.size, 1, none⟩)), Is (.pointer (some ⟨b', o', none⟩)), Is (.pointer (some ⟨b', o', none⟩)), Is (.pointer (some ⟨b', o' + 1, none⟩)), Is (.slice y.A y.t.v.length y.c), Is (.bool z), Is (.bool z), Is (.bool z)]) 42 (by rfl) (by kernel_rfl) (by kernel_rfl) (by kernel_rfl) (fun _ _ h hb => ⟨h.1.next (Nat.lt_of_lt_of_le HG.out h.2.2.2.size) hb, h.2.1.next hb, h.2.2.1.next hb, bnext h.2.2.2 hb⟩) (stays_said _ (stays_cons (Is.stays _) (stays_cons (Is.stays _) (stays_cons (Is.stays _) (stays_cons (Is.stays _) (stays_cons (Is.stays _) (stays_cons (Is.stays _) (stays_cons (Is.stays _) (stays_cons (Is.stays _) (stays_cons (Is.stays _) (stays_cons (Is.stays _) (stays_cons (Is.stays _) (stays_cons (Is.stays _) (stays_cons (Is.stays _) (stays_cons (Is.stays _) (stays_cons (Is.stays _) (stays_cons (Is.stays _) (stays_cons (Is.stays _) (stays_cons (Is.stays _) (stays_cons (Is.stays _) (stays_cons (Is.stays _) (stays_cons (Is.stays _) (stays_cons (Is.stays _) (stays_cons (Is.stays _) (stays_cons (Is.stays _) (stays_cons (Is.stays _) (stays_cons (Is.stays _) (stays_cons (Is.stays _) (stays_cons (Is.stays _) (stays_cons (Is.stays _) (stays_cons (Is.stays _) (stays_cons (Is.stays _) (stays_cons (Is.stays _) (stays_cons (Is.stays _) (stays_cons (Is.stays _) (stays_cons (Is.stays _) (stays_cons (Is.stays _) (stays_cons (Is.stays _) (stays_cons (Is.stays _) (stays_cons (Is.stays _) (stays_cons (Is.stays _) stays_nil))))))))))))))))))))))))))))))))))))))))) ⟨TG.out.next HG.out (below_drewN _ _ 1), HX.out.next (below_drewN _ _ 1), HY.out.next (below_drewN _ _ 1), below_drewN _ _ 1⟩ (by kernel_rfl) ?_ ?_
      · skip
        refine owes_cons (Owes.mk (o := ({ dst := some 3, op := .fieldAddr 194 (.tmp 1) 0, type := 0, pos := "twins.go:17", after := #[], guard := none } : Oper)) rfl (fun v wk hj hD K hK => ?_)) ?_
        · simp only [kAD, kAE, putAll, Act.put, List.getD_cons_zero, List.setIfInBounds_toArray, List.set_cons_zero, List.set_cons_succ] at hK ⊢
          go_simp
          exact hK.out _ _ (Below.refl _ _) rfl
        refine owes_cons (Owes.mk (o := ({ dst := some 4, op := .load 192 (.tmp 3), type := 192, pos := "twins.go:17", after := #[{ on := 0, ground := .data }], guard := none } : Oper)) rfl (fun v wk hj hD K hK => ?_)) ?_
        · have h0 : v 0 = (.pointer (some ⟨w.heap.size, 0, none⟩)) := hD 0 (by decide)
          simp only [kAD, kAE, putAll, Act.put, List.getD_cons_succ, List.getD_cons_zero, List.setIfInBounds_toArray, List.set_cons_zero, List.set_cons_succ, h0] at hK ⊢
          obtain ⟨⟨g0, g1⟩, ⟨x0, x1, x2, _, _⟩, ⟨y0, y1, y2, _, _⟩, _⟩ := hj
          go_simp
          exact hK.out _ _ (Below.refl _ _) rfl
        refine owes_cons (Owes.mk (o := ({ dst := some 5, op := .nilCheck (.tmp 4), type := 0, pos := "twins.go:17", after := #[{ on := 1, ground := .data }], guard := none } : Oper)) rfl (fun v wk hj hD K hK => ?_)) ?_
        · have h1 : v 1 = (.pointer (some ⟨b, o, none⟩)) := hD 1 (by decide)
          simp only [kAD, kAE, putAll, Act.put, List.getD_cons_succ, List.getD_cons_zero, List.setIfInBounds_toArray, List.set_cons_zero, List.set_cons_succ, h1] at hK ⊢
          go_simp
          exact hK.out _ _ (Below.refl _ _) rfl
        refine owes_cons (Owes.mk (o := ({ dst := some 6, op := .fieldAddr 80 (.tmp 5) 0, type := 0, pos := "twins.go:17", after := #[{ on := 2, ground := .data }], guard := none } : Oper)) rfl (fun v wk hj hD K hK => ?_)) ?_
        · have h2 : v 2 = (.pointer (some ⟨b, o, none⟩)) := hD 2 (by decide)
          simp only [kAD, kAE, putAll, Act.put, List.getD_cons_succ, List.getD_cons_zero, List.setIfInBounds_toArray, List.set_cons_zero, List.set_cons_succ, h2] at hK ⊢
          go_simp
          exact hK.out _ _ (Below.refl _ _) rfl
        refine owes_cons (Owes.mk (o := ({ dst := some 7, op := .load 3 (.tmp 6), type := 3, pos := "twins.go:17", after := #[{ on := 3, ground := .data }], guard := none } : Oper)) rfl (fun v wk hj hD K hK => ?_)) ?_
        · have h3 : v 3 = (.pointer (some ⟨b, o, none⟩)) := hD 3 (by decide)
          simp only [kAD, kAE, putAll, Act.put, List.getD_cons_succ, List.getD_cons_zero, List.setIfInBounds_toArray, List.set_cons_zero, List.set_cons_succ, h3] at hK ⊢
          obtain ⟨⟨g0, g1⟩, ⟨x0, x1, x2, _, _⟩, ⟨y0, y1, y2, _, _⟩, _⟩ := hj
          go_simp
          exact hK.out _ _ (Below.refl _ _) rfl
        refine owes_cons (Owes.mk (o := ({ dst := some 8, op := .fieldAddr 194 (.tmp 1) 1, type := 0, pos := "twins.go:17", after := #[], guard := none } : Oper)) rfl (fun v wk hj hD K hK => ?_)) ?_
        · simp only [kAD, kAE, putAll, Act.put, List.getD_cons_succ, List.getD_cons_zero, List.setIfInBounds_toArray, List.set_cons_zero, List.set_cons_succ] at hK ⊢
          go_simp
          exact hK.out _ _ (Below.refl _ _) rfl
        refine owes_cons (Owes.mk (o := ({ dst := some 9, op := .load 192 (.tmp 8), type := 192, pos := "twins.go:17", after := #[{ on := 5, ground := .data }], guard := none } : Oper)) rfl (fun v wk hj hD K hK => ?_)) ?_
        · have h5 : v 5 = (.pointer (some ⟨w.heap.size, 1, none⟩)) := hD 5 (by decide)
          simp only [kAD, kAE, putAll, Act.put, List.getD_cons_succ, List.getD_cons_zero, List.setIfInBounds_toArray, List.set_cons_zero, List.set_cons_succ, h5] at hK ⊢
          obtain ⟨⟨g0, g1⟩, ⟨x0, x1, x2, _, _⟩, ⟨y0, y1, y2, _, _⟩, _⟩ := hj
          go_simp
          exact hK.out _ _ (Below.refl _ _) rfl
        refine owes_cons (Owes.mk (o := ({ dst := some 10, op := .nilCheck (.tmp 9), type := 0, pos := "twins.go:17", after := #[{ on := 6, ground := .data }], guard := none } : Oper)) rfl (fun v wk hj hD K hK => ?_)) ?_
        · have h6 : v 6 = (.pointer (some ⟨b', o', none⟩)) := hD 6 (by decide)
          simp only [kAD, kAE, putAll, Act.put, List.getD_cons_succ, List.getD_cons_zero, List.setIfInBounds_toArray, List.set_cons_zero, List.set_cons_succ, h6] at hK ⊢
          go_simp
          exact hK.out _ _ (Below.refl _ _) rfl
        refine owes_cons (Owes.mk (o := ({ dst := some 11, op := .fieldAddr 80 (.tmp 10) 0, type := 0, pos := "twins.go:17", after := #[{ on := 7, ground := .data }], guard := none } : Oper)) rfl (fun v wk hj hD K hK => ?_)) ?_
        · have h7 : v 7 = (.pointer (some ⟨b', o', none⟩)) := hD 7 (by decide)
          simp only [kAD, kAE, putAll, Act.put, List.getD_cons_succ, List.getD_cons_zero, List.setIfInBounds_toArray, List.set_cons_zero, List.set_cons_succ, h7] at hK ⊢
          go_simp
          exact hK.out _ _ (Below.refl _ _) rfl
        refine owes_cons (Owes.mk (o := ({ dst := some 12, op := .load 3 (.tmp 11), type := 3, pos := "twins.go:17", after := #[{ on := 8, ground := .data }], guard := none } : Oper)) rfl (fun v wk hj hD K hK => ?_)) ?_
        · have h8 : v 8 = (.pointer (some ⟨b', o', none⟩)) := hD 8 (by decide)
          simp only [kAD, kAE, putAll, Act.put, List.getD_cons_succ, List.getD_cons_zero, List.setIfInBounds_toArray, List.set_cons_zero, List.set_cons_succ, h8] at hK ⊢
          obtain ⟨⟨g0, g1⟩, ⟨x0, x1, x2, _, _⟩, ⟨y0, y1, y2, _, _⟩, _⟩ := hj
          go_simp
          exact hK.out _ _ (Below.refl _ _) rfl
        refine owes_cons (Owes.mk (o := ({ dst := some 13, op := .binOp .eql 3 (.tmp 7) (.tmp 12) 3, type := 4, pos := "twins.go:17", after := #[{ on := 4, ground := .data }, { on := 9, ground := .data }], guard := none } : Oper)) rfl (fun v wk hj hD K hK => ?_)) ?_
        · have h4 : v 4 = (.int .i64 x.t.k) := hD 4 (by decide)
          have h9 : v 9 = (.int .i64 y.t.k) := hD 9 (by decide)
          simp only [kAD, kAE, putAll, Act.put, List.getD_cons_succ, List.getD_cons_zero, List.setIfInBounds_toArray, List.set_cons_zero, List.set_cons_succ, h4, h9] at hK ⊢
          go_simp
          exact hK.out _ _ (Below.refl _ _) (show Value.bool _ = _ by rw [HK.out])
        refine owes_cons (Owes.mk (o := ({ dst := some 14, op := .move (.tmp 13), type := 4, pos := "twins.go:17", after := #[{ on := 10, ground := .data }], guard := none } : Oper)) rfl (fun v wk hj hD K hK => ?_)) ?_
        · have h10 : v 10 = (.bool true) := hD 10 (by decide)
          simp only [kAD, kAE, putAll, Act.put, List.getD_cons_succ, List.getD_cons_zero, List.setIfInBounds_toArray, List.set_cons_zero, List.set_cons_succ, h10] at hK ⊢
          go_simp
          exact hK.out _ _ (Below.refl _ _) rfl
        refine owes_cons (Owes.mk (o := ({ dst := some 15, op := .fieldAddr 194 (.tmp 1) 0, type := 0, pos := "twins.go:17", after := #[{ on := 11, ground := .guard }], guard := some (11, true) } : Oper)) rfl (fun v wk hj hD K hK => ?_)) ?_
        · have h11 : v 11 = (.bool true) := hD 11 (by decide)
          simp only [kAD, kAE, putAll, Act.put, List.getD_cons_succ, List.getD_cons_zero, List.setIfInBounds_toArray, List.set_cons_zero, List.set_cons_succ, h11] at hK ⊢
          go_simp
          exact hK.out _ _ (Below.refl _ _) rfl
        refine owes_cons (Owes.mk (o := ({ dst := some 16, op := .load 192 (.tmp 15), type := 192, pos := "twins.go:17", after := #[{ on := 12, ground := .data }, { on := 11, ground := .guard }], guard := some (11, true) } : Oper)) rfl (fun v wk hj hD K hK => ?_)) ?_
        · have h11 : v 11 = (.bool true) := hD 11 (by decide)
          have h12 : v 12 = (.pointer (some ⟨w.heap.size, 0, none⟩)) := hD 12 (by decide)
          simp only [kAD, kAE, putAll, Act.put, List.getD_cons_succ, List.getD_cons_zero, List.setIfInBounds_toArray, List.set_cons_zero, List.set_cons_succ, h11, h12] at hK ⊢
          obtain ⟨⟨g0, g1⟩, ⟨x0, x1, x2, _, _⟩, ⟨y0, y1, y2, _, _⟩, _⟩ := hj
          go_simp
          exact hK.out _ _ (Below.refl _ _) rfl
        refine owes_cons (Owes.mk (o := ({ dst := some 17, op := .nilCheck (.tmp 16), type := 0, pos := "twins.go:17", after := #[{ on := 13, ground := .data }, { on := 11, ground := .guard }], guard := some (11, true) } : Oper)) rfl (fun v wk hj hD K hK => ?_)) ?_
        · have h11 : v 11 = (.bool true) := hD 11 (by decide)
          have h13 : v 13 = (.pointer (some ⟨b, o, none⟩)) := hD 13 (by decide)
          simp only [kAD, kAE, putAll, Act.put, List.getD_cons_succ, List.getD_cons_zero, List.setIfInBounds_toArray, List.set_cons_zero, List.set_cons_succ, h11, h13] at hK ⊢
          go_simp
          exact hK.out _ _ (Below.refl _ _) rfl
        refine owes_cons (Owes.mk (o := ({ dst := some 18, op := .fieldAddr 80 (.tmp 17) 2, type := 0, pos := "twins.go:17", after := #[{ on := 14, ground := .data }, { on := 11, ground := .guard }], guard := some (11, true) } : Oper)) rfl (fun v wk hj hD K hK => ?_)) ?_
        · have h11 : v 11 = (.bool true) := hD 11 (by decide)
          have h14 : v 14 = (.pointer (some ⟨b, o, none⟩)) := hD 14 (by decide)
          simp only [kAD, kAE, putAll, Act.put, List.getD_cons_succ, List.getD_cons_zero, List.setIfInBounds_toArray, List.set_cons_zero, List.set_cons_succ, h11, h14] at hK ⊢
          go_simp
          exact hK.out _ _ (Below.refl _ _) rfl
        refine owes_cons (Owes.mk (o := ({ dst := some 19, op := .load 78 (.tmp 18), type := 78, pos := "twins.go:17", after := #[{ on := 15, ground := .data }, { on := 11, ground := .guard }], guard := some (11, true) } : Oper)) rfl (fun v wk hj hD K hK => ?_)) ?_
        · have h11 : v 11 = (.bool true) := hD 11 (by decide)
          have h15 : v 15 = (.pointer (some ⟨b, o + 2, none⟩)) := hD 15 (by decide)
          simp only [kAD, kAE, putAll, Act.put, List.getD_cons_succ, List.getD_cons_zero, List.setIfInBounds_toArray, List.set_cons_zero, List.set_cons_succ, h11, h15] at hK ⊢
          obtain ⟨⟨g0, g1⟩, ⟨x0, x1, x2, _, _⟩, ⟨y0, y1, y2, _, _⟩, _⟩ := hj
          go_simp
          exact hK.out _ _ (Below.refl _ _) rfl
        refine owes_cons (Owes.mk (o := ({ dst := some 20, op := .call { callee := .builtin .len, args := #[.tmp 19], argTypes := #[78] }, type := 3, pos := "twins.go:17", after := #[{ on := 16, ground := .data }, { on := 11, ground := .guard }], guard := some (11, true) } : Oper)) rfl (fun v wk hj hD K hK => ?_)) ?_
        · have h11 : v 11 = (.bool true) := hD 11 (by decide)
          have h16 : v 16 = (.slice x.A' x.t.p.length x.c') := hD 16 (by decide)
          simp only [kAD, kAE, putAll, Act.put, List.getD_cons_succ, List.getD_cons_zero, List.setIfInBounds_toArray, List.set_cons_zero, List.set_cons_succ, h11, h16] at hK ⊢
          go_simp
          exact hK.out _ _ (Below.refl _ _) rfl
        refine owes_cons (Owes.mk (o := ({ dst := some 21, op := .fieldAddr 194 (.tmp 1) 1, type := 0, pos := "twins.go:17", after := #[{ on := 11, ground := .guard }], guard := some (11, true) } : Oper)) rfl (fun v wk hj hD K hK => ?_)) ?_
        · have h11 : v 11 = (.bool true) := hD 11 (by decide)
          simp only [kAD, kAE, putAll, Act.put, List.getD_cons_succ, List.getD_cons_zero, List.setIfInBounds_toArray, List.set_cons_zero, List.set_cons_succ, h11] at hK ⊢
          go_simp
          exact hK.out _ _ (Below.refl _ _) rfl
        refine owes_cons (Owes.mk (o := ({ dst := some 22, op := .load 192 (.tmp 21), type := 192, pos := "twins.go:17", after := #[{ on := 18, ground := .data }, { on := 11, ground := .guard }], guard := some (11, true) } : Oper)) rfl (fun v wk hj hD K hK => ?_)) ?_
        · have h11 : v 11 = (.bool true) := hD 11 (by decide)
          have h18 : v 18 = (.pointer (some ⟨w.heap.size, 1, none⟩)) := hD 18 (by decide)
          simp only [kAD, kAE, putAll, Act.put, List.getD_cons_succ, List.getD_cons_zero, List.setIfInBounds_toArray, List.set_cons_zero, List.set_cons_succ, h11, h18] at hK ⊢
          obtain ⟨⟨g0, g1⟩, ⟨x0, x1, x2, _, _⟩, ⟨y0, y1, y2, _, _⟩, _⟩ := hj
          go_simp
          exact hK.out _ _ (Below.refl _ _) rfl
        refine owes_cons (Owes.mk (o := ({ dst := some 23, op := .nilCheck (.tmp 22), type := 0, pos := "twins.go:17", after := #[{ on := 19, ground := .data }, { on := 11, ground := .guard }], guard := some (11, true) } : Oper)) rfl (fun v wk hj hD K hK => ?_)) ?_
        · have h11 : v 11 = (.bool true) := hD 11 (by decide)
          have h19 : v 19 = (.pointer (some ⟨b', o', none⟩)) := hD 19 (by decide)
          simp only [kAD, kAE, putAll, Act.put, List.getD_cons_succ, List.getD_cons_zero, List.setIfInBounds_toArray, List.set_cons_zero, List.set_cons_succ, h11, h19] at hK ⊢
          go_simp
          exact hK.out _ _ (Below.refl _ _) rfl
        refine owes_cons (Owes.mk (o := ({ dst := some 24, op := .fieldAddr 80 (.tmp 23) 2, type := 0, pos := "twins.go:17", after := #[{ on := 20, ground := .data }, { on := 11, ground := .guard }], guard := some (11, true) } : Oper)) rfl (fun v wk hj hD K hK => ?_)) ?_
        · have h11 : v 11 = (.bool true) := hD 11 (by decide)
          have h20 : v 20 = (.pointer (some ⟨b', o', none⟩)) := hD 20 (by decide)
          simp only [kAD, kAE, putAll, Act.put, List.getD_cons_succ, List.getD_cons_zero, List.setIfInBounds_toArray, List.set_cons_zero, List.set_cons_succ, h11, h20] at hK ⊢
          go_simp
          exact hK.out _ _ (Below.refl _ _) rfl
        refine owes_cons (Owes.mk (o := ({ dst := some 25, op := .load 78 (.tmp 24), type := 78, pos := "twins.go:17", after := #[{ on := 21, ground := .data }, { on := 11, ground := .guard }], guard := some (11, true) } : Oper)) rfl (fun v wk hj hD K hK => ?_)) ?_
        · have h11 : v 11 = (.bool true) := hD 11 (by decide)
          have h21 : v 21 = (.pointer (some ⟨b', o' + 2, none⟩)) := hD 21 (by decide)
          simp only [kAD, kAE, putAll, Act.put, List.getD_cons_succ, List.getD_cons_zero, List.setIfInBounds_toArray, List.set_cons_zero, List.set_cons_succ, h11, h21] at hK ⊢
          obtain ⟨⟨g0, g1⟩, ⟨x0, x1, x2, _, _⟩, ⟨y0, y1, y2, _, _⟩, _⟩ := hj
          go_simp
          exact hK.out _ _ (Below.refl _ _) rfl
        refine owes_cons (Owes.mk (o := ({ dst := some 26, op := .call { callee := .builtin .len, args := #[.tmp 25], argTypes := #[78] }, type := 3, pos := "twins.go:17", after := #[{ on := 22, ground := .data }, { on := 11, ground := .guard }], guard := some (11, true) } : Oper)) rfl (fun v wk hj hD K hK => ?_)) ?_
        · have h11 : v 11 = (.bool true) := hD 11 (by decide)
          have h22 : v 22 = (.slice y.A' y.t.p.length y.c') := hD 22 (by decide)
          simp only [kAD, kAE, putAll, Act.put, List.getD_cons_succ, List.getD_cons_zero, List.setIfInBounds_toArray, List.set_cons_zero, List.set_cons_succ, h11, h22] at hK ⊢
          go_simp
          exact hK.out _ _ (Below.refl _ _) rfl
        refine owes_cons (Owes.mk (o := ({ dst := some 27, op := .binOp .eql 3 (.tmp 20) (.tmp 26) 3, type := 4, pos := "twins.go:17", after := #[{ on := 17, ground := .data }, { on := 23, ground := .data }, { on := 11, ground := .guard }], guard := some (11, true) } : Oper)) rfl (fun v wk hj hD K hK => ?_)) ?_
        · have h11 : v 11 = (.bool true) := hD 11 (by decide)
          have h17 : v 17 = (.int .i64 (x.t.p.length : Int)) := hD 17 (by decide)
          have h23 : v 23 = (.int .i64 (y.t.p.length : Int)) := hD 23 (by decide)
          simp only [kAD, kAE, putAll, Act.put, List.getD_cons_succ, List.getD_cons_zero, List.setIfInBounds_toArray, List.set_cons_zero, List.set_cons_succ, h11, h17, h23] at hK ⊢
          go_simp
          exact hK.out _ _ (Below.refl _ _) (show Value.bool _ = _ by rw [HLN.out])
        refine owes_cons (Owes.mk (o := ({ dst := some 28, op := .pick (.tmp 14) (.tmp 27) (.const (.bool false)), type := 4, pos := "twins.go:17", after := #[{ on := 11, ground := .data }, { on := 24, ground := .data }], guard := none } : Oper)) rfl (fun v wk hj hD K hK => ?_)) ?_
        · have h11 : v 11 = (.bool true) := hD 11 (by decide)
          have h24 : v 24 = (.bool true) := hD 24 (by decide)
          simp only [kAD, kAE, putAll, Act.put, List.getD_cons_succ, List.getD_cons_zero, List.setIfInBounds_toArray, List.set_cons_zero, List.set_cons_succ, h11, h24] at hK ⊢
          go_simp
          exact hK.out _ _ (Below.refl _ _) rfl
        refine owes_cons (Owes.mk (o := ({ dst := some 29, op := .move (.tmp 28), type := 4, pos := "twins.go:17", after := #[{ on := 25, ground := .data }, { on := 11, ground := .chain }], guard := none } : Oper)) rfl (fun v wk hj hD K hK => ?_)) ?_
        · have h25 : v 25 = (.bool true) := hD 25 (by decide)
          simp only [kAD, kAE, putAll, Act.put, List.getD_cons_succ, List.getD_cons_zero, List.setIfInBounds_toArray, List.set_cons_zero, List.set_cons_succ, h25] at hK ⊢
          go_simp
          exact hK.out _ _ (Below.refl _ _) rfl
        refine owes_cons (Owes.mk (o := ({ dst := some 30, op := .fieldAddr 194 (.tmp 1) 0, type := 0, pos := "twins.go:17", after := #[{ on := 26, ground := .guard }], guard := some (26, true) } : Oper)) rfl (fun v wk hj hD K hK => ?_)) ?_
        · have h26 : v 26 = (.bool true) := hD 26 (by decide)
          simp only [kAD, kAE, putAll, Act.put, List.getD_cons_succ, List.getD_cons_zero, List.setIfInBounds_toArray, List.set_cons_zero, List.set_cons_succ, h26] at hK ⊢
          go_simp
          exact hK.out _ _ (Below.refl _ _) rfl
        refine owes_cons (Owes.mk (o := ({ dst := some 31, op := .load 192 (.tmp 30), type := 192, pos := "twins.go:17", after := #[{ on := 27, ground := .data }, { on := 26, ground := .guard }], guard := some (26, true) } : Oper)) rfl (fun v wk hj hD K hK => ?_)) ?_
        · have h26 : v 26 = (.bool true) := hD 26 (by decide)
          have h27 : v 27 = (.pointer (some ⟨w.heap.size, 0, none⟩)) := hD 27 (by decide)
          simp only [kAD, kAE, putAll, Act.put, List.getD_cons_succ, List.getD_cons_zero, List.setIfInBounds_toArray, List.set_cons_zero, List.set_cons_succ, h26, h27] at hK ⊢
          obtain ⟨⟨g0, g1⟩, ⟨x0, x1, x2, _, _⟩, ⟨y0, y1, y2, _, _⟩, _⟩ := hj
          go_simp
          exact hK.out _ _ (Below.refl _ _) rfl
        refine owes_cons (Owes.mk (o := ({ dst := some 32, op := .nilCheck (.tmp 31), type := 0, pos := "twins.go:17", after := #[{ on := 28, ground := .data }, { on := 26, ground := .guard }], guard := some (26, true) } : Oper)) rfl (fun v wk hj hD K hK => ?_)) ?_
        · have h26 : v 26 = (.bool true) := hD 26 (by decide)
          have h28 : v 28 = (.pointer (some ⟨b, o, none⟩)) := hD 28 (by decide)
          simp only [kAD, kAE, putAll, Act.put, List.getD_cons_succ, List.getD_cons_zero, List.setIfInBounds_toArray, List.set_cons_zero, List.set_cons_succ, h26, h28] at hK ⊢
          go_simp
          exact hK.out _ _ (Below.refl _ _) rfl
        refine owes_cons (Owes.mk (o := ({ dst := some 33, op := .fieldAddr 80 (.tmp 32) 1, type := 0, pos := "twins.go:17", after := #[{ on := 29, ground := .data }, { on := 26, ground := .guard }], guard := some (26, true) } : Oper)) rfl (fun v wk hj hD K hK => ?_)) ?_
        · have h26 : v 26 = (.bool true) := hD 26 (by decide)
          have h29 : v 29 = (.pointer (some ⟨b, o, none⟩)) := hD 29 (by decide)
          simp only [kAD, kAE, putAll, Act.put, List.getD_cons_succ, List.getD_cons_zero, List.setIfInBounds_toArray, List.set_cons_zero, List.set_cons_succ, h26, h29] at hK ⊢
          go_simp
          exact hK.out _ _ (Below.refl _ _) rfl
        refine owes_cons (Owes.mk (o := ({ dst := some 34, op := .load 75 (.tmp 33), type := 75, pos := "twins.go:17", after := #[{ on := 30, ground := .data }, { on := 26, ground := .guard }], guard := some (26, true) } : Oper)) rfl (fun v wk hj hD K hK => ?_)) ?_
        · have h26 : v 26 = (.bool true) := hD 26 (by decide)
          have h30 : v 30 = (.pointer (some ⟨b, o + 1, none⟩)) := hD 30 (by decide)
          simp only [kAD, kAE, putAll, Act.put, List.getD_cons_succ, List.getD_cons_zero, List.setIfInBounds_toArray, List.set_cons_zero, List.set_cons_succ, h26, h30] at hK ⊢
          obtain ⟨⟨g0, g1⟩, ⟨x0, x1, x2, _, _⟩, ⟨y0, y1, y2, _, _⟩, _⟩ := hj
          go_simp
          exact hK.out _ _ (Below.refl _ _) rfl
        refine owes_cons (Owes.mk (o := ({ dst := some 35, op := .fieldAddr 194 (.tmp 1) 1, type := 0, pos := "twins.go:17", after := #[{ on := 26, ground := .guard }], guard := some (26, true) } : Oper)) rfl (fun v wk hj hD K hK => ?_)) ?_
        · have h26 : v 26 = (.bool true) := hD 26 (by decide)
          simp only [kAD, kAE, putAll, Act.put, List.getD_cons_succ, List.getD_cons_zero, List.setIfInBounds_toArray, List.set_cons_zero, List.set_cons_succ, h26] at hK ⊢
          go_simp
          exact hK.out _ _ (Below.refl _ _) rfl
        refine owes_cons (Owes.mk (o := ({ dst := some 36, op := .load 192 (.tmp 35), type := 192, pos := "twins.go:17", after := #[{ on := 32, ground := .data }, { on := 26, ground := .guard }], guard := some (26, true) } : Oper)) rfl (fun v wk hj hD K hK => ?_)) ?_
        · have h26 : v 26 = (.bool true) := hD 26 (by decide)
          have h32 : v 32 = (.pointer (some ⟨w.heap.size, 1, none⟩)) := hD 32 (by decide)
          simp only [kAD, kAE, putAll, Act.put, List.getD_cons_succ, List.getD_cons_zero, List.setIfInBounds_toArray, List.set_cons_zero, List.set_cons_succ, h26, h32] at hK ⊢
          obtain ⟨⟨g0, g1⟩, ⟨x0, x1, x2, _, _⟩, ⟨y0, y1, y2, _, _⟩, _⟩ := hj
          go_simp
          exact hK.out _ _ (Below.refl _ _) rfl
        refine owes_cons (Owes.mk (o := ({ dst := some 37, op := .nilCheck (.tmp 36), type := 0, pos := "twins.go:17", after := #[{ on := 33, ground := .data }, { on := 26, ground := .guard }], guard := some (26, true) } : Oper)) rfl (fun v wk hj hD K hK => ?_)) ?_
        · have h26 : v 26 = (.bool true) := hD 26 (by decide)
          have h33 : v 33 = (.pointer (some ⟨b', o', none⟩)) := hD 33 (by decide)
          simp only [kAD, kAE, putAll, Act.put, List.getD_cons_succ, List.getD_cons_zero, List.setIfInBounds_toArray, List.set_cons_zero, List.set_cons_succ, h26, h33] at hK ⊢
          go_simp
          exact hK.out _ _ (Below.refl _ _) rfl
        refine owes_cons (Owes.mk (o := ({ dst := some 38, op := .fieldAddr 80 (.tmp 37) 1, type := 0, pos := "twins.go:17", after := #[{ on := 34, ground := .data }, { on := 26, ground := .guard }], guard := some (26, true) } : Oper)) rfl (fun v wk hj hD K hK => ?_)) ?_
        · have h26 : v 26 = (.bool true) := hD 26 (by decide)
          have h34 : v 34 = (.pointer (some ⟨b', o', none⟩)) := hD 34 (by decide)
          simp only [kAD, kAE, putAll, Act.put, List.getD_cons_succ, List.getD_cons_zero, List.setIfInBounds_toArray, List.set_cons_zero, List.set_cons_succ, h26, h34] at hK ⊢
          go_simp
          exact hK.out _ _ (Below.refl _ _) rfl
        refine owes_cons (Owes.mk (o := ({ dst := some 39, op := .load 75 (.tmp 38), type := 75, pos := "twins.go:17", after := #[{ on := 35, ground := .data }, { on := 26, ground := .guard }], guard := some (26, true) } : Oper)) rfl (fun v wk hj hD K hK => ?_)) ?_
        · have h26 : v 26 = (.bool true) := hD 26 (by decide)
          have h35 : v 35 = (.pointer (some ⟨b', o' + 1, none⟩)) := hD 35 (by decide)
          simp only [kAD, kAE, putAll, Act.put, List.getD_cons_succ, List.getD_cons_zero, List.setIfInBounds_toArray, List.set_cons_zero, List.set_cons_succ, h26, h35] at hK ⊢
          obtain ⟨⟨g0, g1⟩, ⟨x0, x1, x2, _, _⟩, ⟨y0, y1, y2, _, _⟩, _⟩ := hj
          go_simp
          exact hK.out _ _ (Below.refl _ _) rfl
        refine owes_cons (Owes.mk (o := ({ dst := some 40, op := .call { callee := .value (.func 161), args := #[.tmp 34, .tmp 39, .func 122], argTypes := #[75, 75, 100] }, type := 4, pos := "twins.go:17", after := #[{ on := 31, ground := .data }, { on := 36, ground := .data }, { on := 26, ground := .chain }, { on := 26, ground := .guard }], guard := some (26, true) } : Oper)) rfl (fun v wk hj hD K hK => ?_)) ?_
        · have h26 : v 26 = (.bool true) := hD 26 (by decide)
          have h31 : v 31 = (.slice x.A x.t.v.length x.c) := hD 31 (by decide)
          have h36 : v 36 = (.slice y.A y.t.v.length y.c) := hD 36 (by decide)
          simp only [kAD, kAE, putAll, Act.put, List.getD_cons_succ, List.getD_cons_zero, List.setIfInBounds_toArray, List.set_cons_zero, List.set_cons_succ, h26, h31, h36] at hK ⊢
          obtain ⟨_, ⟨_, _, _, _, hx⟩, ⟨_, _, _, _, hy⟩, _⟩ := hj
          obtain ⟨n, v1, v2⟩ := Pt.rows hx hy
          go_simp
          refine (equalVs 122 entSame #[] eqV wk n (fun X d a b _ ha hb => same_at X d d a b ha hb) x.A x.c x.t.v y.A y.c y.t.v v1 v2).mono ?_
          rintro e w2 ⟨rfl, hb⟩
          exact hK.out _ _ hb (show Value.bool _ = _ by rw [HZ.out])
        refine owes_cons (Owes.mk (o := ({ dst := some 41, op := .pick (.tmp 29) (.tmp 40) (.const (.bool false)), type := 4, pos := "twins.go:17", after := #[{ on := 26, ground := .data }, { on := 37, ground := .data }], guard := none } : Oper)) rfl (fun v wk hj hD K hK => ?_)) ?_
        · have h26 : v 26 = (.bool true) := hD 26 (by decide)
          have h37 : v 37 = (.bool z) := hD 37 (by decide)
          simp only [kAD, kAE, putAll, Act.put, List.getD_cons_succ, List.getD_cons_zero, List.setIfInBounds_toArray, List.set_cons_zero, List.set_cons_succ, h26, h37] at hK ⊢
          go_simp
          exact hK.out _ _ (Below.refl _ _) rfl
        refine owes_cons (Owes.mk (o := ({ dst := some 2, op := .assign (.tmp 41), type := 4, pos := "twins.go:17", after := #[{ on := 38, ground := .data }, { on := 37, ground := .chain }, { on := 0, ground := .phase }, { on := 1, ground := .phase }, { on := 2, ground := .phase }, { on := 3, ground := .phase }, { on := 4, ground := .phase }, { on := 5, ground := .phase }, { on := 6, ground := .phase }, { on := 7, ground := .phase }, { on := 8, ground := .phase }, { on := 9, ground := .phase }, { on := 10, ground := .phase }, { on := 11, ground := .phase }, { on := 12, ground := .phase }, { on := 13, ground := .phase }, { on := 14, ground := .phase }, { on := 15, ground := .phase }, { on := 16, ground := .phase }, { on := 17, ground := .phase }, { on := 18, ground := .phase }, { on := 19, ground := .phase }, { on := 20, ground := .phase }, { on := 21, ground := .phase }, { on := 22, ground := .phase }, { on := 23, ground := .phase }, { on := 24, ground := .phase }, { on := 25, ground := .phase }, { on := 26, ground := .phase }, { on := 27, ground := .phase }, { on := 28, ground := .phase }, { on := 29, ground := .phase }, { on := 30, ground := .phase }, { on := 31, ground := .phase }, { on := 32, ground := .phase }, { on := 33, ground := .phase }, { on := 34, ground := .phase }, { on := 35, ground := .phase }, { on := 36, ground := .phase }, { on := 37, ground := .phase }, { on := 38, ground := .phase }], guard := none } : Oper)) rfl (fun v wk hj hD K hK => ?_)) ?_
        · have h38 : v 38 = (.bool z) := hD 38 (by decide)
          simp only [kAD, kAE, putAll, Act.put, List.getD_cons_succ, List.getD_cons_zero, List.setIfInBounds_toArray, List.set_cons_zero, List.set_cons_succ, h38] at hK ⊢
          go_simp
          exact hK.out _ _ (Below.refl _ _) rfl
        exact owes_nil
      · intro v wf hj hr
        have hl : v 39 = (.bool z) := hr 39 (by decide)
        simp only [kAD, putAll, Act.put, List.getD_cons_succ, List.getD_cons_zero, List.setIfInBounds_toArray, List.set_cons_zero, List.set_cons_succ, hl]
        have HJ := Lib.hid (bnext HB.out hj.2.2.2)
        clear hl hr hj
        go_wp2
        go_ret
        exact ⟨by rw [FIN.out]; rfl, HJ.out⟩
theorem make_kin (w : World) : (Instr.makeMap 191 none).run Tryz.prog w = .ok (.map (some w.heap.size)) (w.alloc (.map #[] 0)) := by
  simp [Instr.makeMap, Result.andThen]
def slLen : Value → Nat
  | .slice _ n _ => n
  | _ => 0
set_option maxHeartbeats 3200000 in
theorem samePred_flat (w : World) (d : Nat) (x y : Pt) (hf : y.t.p = []) (hx : x.In w d) (hy : y.In w d) :
    Calls Tryz.prog 123 #[x.val, y.val] w fun e w' => e = .returned (.bool (sameP x.t y.t)) ∧ Below w.heap.size w w' := by
  have FIN := Lib.hid (show sameP x.t y.t = likeP x.t y.t by
    rw [sameP_leaf x.t y.t hf]
    unfold likeP
    rw [hf]
    cases x.t.k == y.t.k <;> cases eqL eqV x.t.v y.t.v <;> cases x.t.p <;> rfl)
  have HF := Lib.hid (show likeP x.t y.t = true → x.t.p.length = 0 by
    unfold likeP
    rw [hf]
    simp only [Bool.and_eq_true, beq_iff_eq, List.length_nil]
    omega)
  have HX := Lib.hid hx
  have HY := Lib.hid hy
  have hbx : (x.t.p.length : Int) ≤ 2513169434843 := by obtain ⟨e, rfl⟩ := hx.pos; have := hx.2.2.big; omega
  clear hx hy hf
  obtain ⟨ans, hans⟩ : ∃ q, q = sameP x.t y.t := ⟨_, rfl⟩
  rw [← hans] at FIN ⊢
  clear hans
  unfold Pt.val
  go_enter Tryz.func123, Tryz.ntmps123
  go_upto_region 1 with fail
  generalize hW : World.alloc (World.alloc _ _) _ = W
  obtain ⟨k1, k2, hz, hb⟩ := boxesPP _ _ _ _ hW
  have K1 := Lib.hid (k1.at_ (HX.out.next hb))
  have K2 := Lib.hid (k2.at_ (HY.out.next hb))
  have HB := Lib.hid hb
  clear hW k1 k2 hz hb HX HY
  have hmk := make_kin
  go_wp2_with fail
  generalize hV : World.alloc (World.alloc W _) _ = V
  obtain ⟨ob, hob⟩ : ∃ q, q = (W.alloc (.map #[] 0)).heap.size := ⟨_, rfl⟩
  have hbV : Below W.heap.size W V := by rw [← hV]; exact below_new2 _ _ _
  have c0 : V.cell? ⟨ob, 0, none⟩ = some (.pointer (some ⟨w.heap.size, 0, none⟩)) := by rw [← hV, hob, World.cell?_alloc_at _ _ _ _ rfl]; rfl
  have c1 : V.cell? ⟨ob, 1, none⟩ = some (.pointer (some ⟨w.heap.size + 1, 0, none⟩)) := by rw [← hV, hob, World.cell?_alloc_at _ _ _ _ rfl]; rfl
  have hobV : ob < V.heap.size := by rw [← hV, hob]; simp
  have hob1 : W.heap.size + 1 = ob := by rw [hob]; simp
  rw [hob1]
  have C0 := Lib.hid c0
  have C1 := Lib.hid c1
  have HOB := Lib.hid hobV
  have HV := Lib.hid (bnext HB.out hbV)
  have X1 := Lib.hid (K1.out.next hbV)
  have X2 := Lib.hid (K2.out.next hbV)
  clear hV hob hbV c0 c1 hobV hob1 hmk K1 K2 HB
  go_loopw [6] (fun v wr => ∃ n : Nat, n ≤ 1 ∧ v = .slice (some ⟨ob, 0, none⟩) n 1 ∧ Hid (Below w.heap.size w wr) ∧ Hid (Below V.heap.size V wr) ∧ Hid (n = 0 → ans = true)) (fun v _ => slLen v)
  case atStart => exact ⟨1, by omega, rfl, HV, Lib.hid (Below.refl _ _), Lib.hid (by omega)⟩
  case round =>
    obtain ⟨n, hn, rfl, hbel, hbv, hr⟩ := hrel
    obtain rfl | rfl : n = 0 ∨ n = 1 := by omega
    · have FT := Lib.hid (hr.out rfl)
      go_wp2
      go_ret
      exact ⟨by rw [FT.out]; rfl, hbel.out⟩
    · have c0 := cell_below hbv.out C0.out HOB.out
      have c1 := cell_below hbv.out C1.out HOB.out
      go_upto_region 7 with fail
      have t1 := TW.new wr w.heap.size 0 (w.heap.size + 1) 0
      have b1 := below_new wr (.cells #[.pointer (some ⟨w.heap.size, 0, none⟩), .pointer (some ⟨w.heap.size + 1, 0, none⟩)] 194)
      obtain ⟨U, hU⟩ : ∃ U, U = wr.alloc (.cells #[.pointer (some ⟨w.heap.size, 0, none⟩), .pointer (some ⟨w.heap.size + 1, 0, none⟩)] 194) := ⟨_, rfl⟩
      rw [← hU] at t1 b1 ⊢
      obtain ⟨g0, g1⟩ := t1
      have HBU := Lib.hid (bnext hbel.out b1)
      have Y1 := Lib.hid ((X1.out.next hbv.out).next b1)
      have Y2 := Lib.hid ((X2.out.next hbv.out).next b1)
      have GU := Lib.hid (show wr.heap.size < U.heap.size by rw [hU]; simp)
      have G0 := Lib.hid g0
      have CT := Lib.hid (alike_any U d d _ _ _ _ x y Y1.out Y2.out)
      rw [← FIN.out] at CT
      have HBV := Lib.hid (bnext hbv.out b1)
      clear hU b1 c0 c1
      go_wp2_with fail
      refine CT.out.mono ?_
      rintro e w2 ⟨rfl, hb⟩
      have HB2 := Lib.hid (bnext HBU.out hb)
      have HV2 := Lib.hid (bnext HBV.out hb)
      have g2 := cell_below hb G0.out GU.out
      have Y3 := Lib.hid (Y1.out.next hb)
      clear hb CT g0 g1
      cases ans
      · go_wp2
        go_ret
        exact ⟨rfl, HB2.out⟩
      · have hl := HF.out FIN.out.symm
        obtain ⟨_, _, y2, _, _⟩ := Y3.out
        rw [hl] at y2
        clear hl
        go_wp2
        go_roundw
        case rel => exact ⟨0, by omega, rfl, HB2, HV2, Lib.hid (fun _ => trivial)⟩
        case measure => simp [slLen]
end Go.Proofs.YtllkimdlmnjoiaaGreatDoor


