/- Rows of things; what graph.Check asks of things and properties. -/
import Derived.Test.YtciipggccjiaiaaNI
namespace Go.Proofs.Ytciipggccjiaiaa
open Go.RowKit Go.Sort
set_option maxRecDepth 100000

theorem any_notG {α : Type} (l : List α) (p : α → Bool) : l.any (fun x => !p x) = !l.all p := by rw [List.any_eq_not_all_not]; simp
/-- A thing, with where its properties lie. -/
structure TA where
  id : Int
  label : ByteArray
  o : Int
  i : Int
  A : Option Addr
  c : Nat
  l : List PA
abbrev TA.v (t : TA) : Value := tv t.id t.label t.o t.i t.A t.l.length t.c
/-- The five cells of a thing. -/
structure cellsT (w : World) (b o : Nat) (t : TA) : Prop where
  c0 : w.cell? ⟨b, o, none⟩ = some (.int .i64 t.id)
  c1 : w.cell? ⟨b, o + 1, none⟩ = some (.string t.label)
  c2 : w.cell? ⟨b, o + 2, none⟩ = some (.int .i64 t.o)
  c3 : w.cell? ⟨b, o + 3, none⟩ = some (.int .i64 t.i)
  c4 : w.cell? ⟨b, o + 4, none⟩ = some (.slice t.A t.l.length t.c)
theorem cellsT.next {a b : World} {g o : Nat} {t : TA} (h : cellsT a g o t) (hb : Below a.heap.size a b) (hg : g < a.heap.size) : cellsT b g o t :=
  ⟨cell_below hb h.c0 hg, cell_below hb h.c1 hg, cell_below hb h.c2 hg, cell_below hb h.c3 hg, cell_below hb h.c4 hg⟩
/-- A row of things. -/
structure TRow (w : World) (d : Nat) (A : Option Addr) (c : Nat) (l : List TA) : Prop where
  le : l.length ≤ c
  big : l.length ≤ 2199023255488
  at_ : 0 < l.length → ∃ b off, A = some ⟨b, off, none⟩ ∧ b < w.heap.size ∧ ∀ j t, l[j]? = some t → cellsT w b (off + j * 5) t
  vals : ∀ t ∈ l, PRow w 0 d t.A t.c t.l
theorem TRow.next {a b : World} {d c : Nat} {A : Option Addr} {l : List TA} (h : TRow a d A c l) (hb : Below a.heap.size a b) : TRow b d A c l :=
  ⟨h.le, h.big, fun h0 => by
    obtain ⟨g, off, e, hg, hc⟩ := h.at_ h0
    exact ⟨g, off, e, Nat.lt_of_lt_of_le hg hb.size, fun j t hj => (hc j t hj).next hb hg⟩, fun t ht => (h.vals t ht).next hb⟩
theorem trow_nil (w : World) (d : Nat) : TRow w d none 0 [] := ⟨by simp, by simp, fun h => absurd h (by simp), fun p hp => by cases hp⟩
theorem TRow.elem {w : World} {d c : Nat} {A : Option Addr} {l : List TA} (h : TRow w d A c l) {k : Nat} (hk : k < l.length) : ∃ b off t, A = some ⟨b, off, none⟩ ∧ b < w.heap.size ∧ l[k]? = some t ∧ cellsT w b (off + k * 5) t ∧ PRow w 0 d t.A t.c t.l := by
  obtain ⟨b, off, e, hb, hc⟩ := h.at_ (by omega)
  have hj : l[k]? = some l[k] := List.getElem?_eq_getElem hk
  exact ⟨b, off, l[k], e, hb, hj, hc k _ hj, h.vals _ (List.getElem_mem _)⟩

def okPr (p : PA) : Bool := nameB p.key && plainB p.x.t
set_option maxHeartbeats 1600000 in
theorem notProp_any (w : World) (d : Nat) (p : PA) (hx : p.x.In w d) : Calls Try.prog 80 #[p.v] w fun e w' => e = .returned (.bool (!okPr p)) ∧ Below w.heap.size w w' := by
  have HX := Lib.hid hx
  clear hx
  go_enter Try.func80, Try.ntmps80
  go_upto_region 1 with fail
  generalize hW : World.alloc w _ = W
  obtain ⟨⟨z0, z1, z2, z3, z4, z5⟩, hbW, hsW⟩ := box39 w p W hW
  have HB := Lib.hid hbW
  clear hW hbW hsW
  go_wp2_with fail
  refine (name_any p.key W).mono ?_
  rintro e w1 ⟨rfl, rfl⟩
  cases hn : nameB p.key
  · have HV : Hid (okPr p = false) := Lib.hid (by unfold okPr; rw [hn]; rfl)
    go_wp2
    go_ret
    exact ⟨by rw [HV.out]; rfl, HB.out⟩
  · go_wp2_with fail
    refine (plain_any W d p.x (HX.out.next HB.out)).mono ?_
    rintro e w2 ⟨rfl, hb2⟩
    have B2 := Lib.hid (bnext HB.out hb2)
    have HV : Hid (okPr p = plainB p.x.t) := Lib.hid (by unfold okPr; rw [hn]; rfl)
    clear hb2 hn z0 z1 z2 z3 z4 z5
    generalize plainB p.x.t = o at HV
    cases o
    all_goals
      go_wp2
      go_ret
      exact ⟨by rw [HV.out]; rfl, B2.out⟩

set_option maxHeartbeats 1600000 in
theorem indexP80 (w : World) (d : Nat) (A : Option Addr) (c : Nat) (l : List PA) (h : PRow w 0 d A c l) (q : PA → Bool) (HC : Hid (∀ (W : World) (p : PA), Below w.heap.size w W → p ∈ l → p.x.In W d → Calls Try.prog 80 #[p.v] W fun e w' => e = .returned (.bool (q p)) ∧ Below W.heap.size W w')) :
    Calls Try.prog 44 #[.slice A l.length c, .func (.func 80) #[] #[]] w fun e w' => e = .returned (.int .i64 (idxG q l 0)) ∧ Below w.heap.size w w' := by
  have H1 := Lib.hid h
  have b1 := h.big
  clear h
  go_enter Try.func44, Try.ntmps44
  go_wp2
  go_loopw [8] (fun i wr => ∃ k : Nat, k ≤ l.length ∧ i = .int .i64 k ∧ Hid (Below w.heap.size w wr) ∧ Hid (idxG q (l.drop k) k = idxG q l 0)) (fun i _ => l.length - (intOf i).toNat)
  case atStart => exact ⟨0, by omega, rfl, Lib.hid (Below.refl _ _), Lib.hid (by simp)⟩
  case round =>
    obtain ⟨k, hk, rfl, hbel, hr⟩ := hrel
    by_cases hlt : k < l.length
    · obtain ⟨b, off, x, rfl, hb, hx, q6, rx⟩ := (H1.out.next hbel.out).elem hlt
      obtain ⟨q0, q1, q2, q3, q4, q5⟩ := q6
      have Y := Lib.hid (idxG_yes q l k hx)
      have N := Lib.hid (idxG_no q l k hx)
      have XM := Lib.hid (List.mem_of_getElem? hx)
      have RX := Lib.hid rx
      clear rx hx
      go_wp2_with fail
      refine (HC.out _ x hbel.out XM.out RX.out).mono ?_
      rintro e w1 ⟨rfl, hb1⟩
      have HB := Lib.hid (bnext hbel.out hb1)
      clear hb1
      cases hp : q x
      · go_wp2
        go_roundw
        case rel => exact ⟨k + 1, by omega, by go_num, HB, Lib.hid (by rw [← hr.out, N.out hp])⟩
        case measure => simp [intOf]; omega
      · go_wp2
        go_ret
        exact ⟨by rw [← hr.out, Y.out hp]; rfl, HB.out⟩
    · have OUT := Lib.hid (idxG_out q l k k (by omega))
      go_wp2
      go_ret
      exact ⟨by rw [← hr.out, OUT.out]; rfl, hbel.out⟩

set_option maxHeartbeats 800000 in
theorem containsP80 (w : World) (d : Nat) (A : Option Addr) (c : Nat) (l : List PA) (h : PRow w 0 d A c l) (q : PA → Bool) (HC : Hid (∀ (W : World) (p : PA), Below w.heap.size w W → p ∈ l → p.x.In W d → Calls Try.prog 80 #[p.v] W fun e w' => e = .returned (.bool (q p)) ∧ Below W.heap.size W w')) :
    Calls Try.prog 82 #[.slice A l.length c, .func (.func 80) #[] #[]] w fun e w' => e = .returned (.bool (l.any q)) ∧ Below w.heap.size w w' := by
  have CT := Lib.hid (indexP80 w d A c l h q HC)
  have R := Lib.hid (idxG_range q l 0)
  clear h HC
  go_enter Try.func82, Try.ntmps82
  go_wp2_with fail
  refine CT.out.mono ?_
  rintro e w1 ⟨rfl, hb1⟩
  have HB := Lib.hid hb1
  clear hb1
  go_wp2
  go_ret
  refine ⟨?_, HB.out⟩
  show Ending.returned (.bool (decide (0 ≤ idxG q l 0))) = _
  rcases R.out with ⟨e, a⟩ | ⟨e1, e2, a⟩
  · rw [a, e]; rfl
  · rw [a, decide_eq_true (by omega)]

set_option maxHeartbeats 800000 in
theorem risesP_few (w : World) (A : Option Addr) (c : Nat) (l : List PA) (hl : l.length ≤ 1) (f : Value) : Calls Try.prog 83 #[.slice A l.length c, f] w fun e w' => e = .returned (.bool true) ∧ w = w' := by
  have h1 : ¬ (1 : Int) < (l.length : Int) := by omega
  go_enter Try.func83, Try.ntmps83
  go_wp2
  go_loopw [5] (fun i wr => i = .int .i64 1 ∧ wr = w) (fun _ _ => 0)
  case atStart => exact ⟨rfl, rfl⟩
  case round =>
    obtain ⟨rfl, rfl⟩ := hrel
    go_wp2
    go_ret
    exact ⟨rfl, rfl⟩
set_option maxHeartbeats 800000 in
theorem risesT_few (w : World) (A : Option Addr) (c : Nat) (l : List TA) (hl : l.length ≤ 1) (f : Value) : Calls Try.prog 70 #[.slice A l.length c, f] w fun e w' => e = .returned (.bool true) ∧ w = w' := by
  have h1 : ¬ (1 : Int) < (l.length : Int) := by omega
  go_enter Try.func70, Try.ntmps70
  go_wp2
  go_loopw [5] (fun i wr => i = .int .i64 1 ∧ wr = w) (fun _ _ => 0)
  case atStart => exact ⟨rfl, rfl⟩
  case round =>
    obtain ⟨rfl, rfl⟩ := hrel
    go_wp2
    go_ret
    exact ⟨rfl, rfl⟩
set_option maxHeartbeats 1600000 in
theorem areProps_few (w : World) (d : Nat) (A : Option Addr) (c : Nat) (l : List PA) (h : PRow w 0 d A c l) (hl : l.length ≤ 1) : Calls Try.prog 78 #[.slice A l.length c] w fun e w' => e = .returned (.bool (l.all okPr)) ∧ Below w.heap.size w w' := by
  have CT := Lib.hid (containsP80 w d A c l h (fun p => !okPr p) (Lib.hid (fun W p hb _ hx => notProp_any W d p hx)))
  have h1 : (l.length : Int) ≤ 30 := by omega
  clear h
  go_enter Try.func78, Try.ntmps78
  go_wp2_with fail
  refine CT.out.mono ?_
  rintro e w1 ⟨rfl, hb1⟩
  rw [any_notG]
  have HB := Lib.hid hb1
  clear hb1
  cases hq : l.all okPr
  · go_wp2
    go_ret
    exact ⟨by rw [hq]; rfl, HB.out⟩
  · go_wp2_with fail
    refine (risesP_few w1 A c l hl _).mono ?_
    rintro e w2 ⟨rfl, rfl⟩
    go_wp2
    go_ret
    exact ⟨by rw [hq]; rfl, HB.out⟩
def okT (t : TA) : Bool := decide (0 ≤ t.id) && nameB t.label && t.l.all okPr
set_option maxHeartbeats 1600000 in
theorem isThing_few (w : World) (d : Nat) (t : TA) (h : PRow w 0 d t.A t.c t.l) (hl : t.l.length ≤ 1) : Calls Try.prog 68 #[t.v] w fun e w' => e = .returned (.bool (okT t)) ∧ Below w.heap.size w w' := by
  have H := Lib.hid h
  clear h
  go_enter Try.func68, Try.ntmps68
  go_upto_region 1 with fail
  have k1 := CellT.new w (.int .i64 t.id) (.string t.label) (.int .i64 t.o) (.int .i64 t.i) (.slice t.A t.l.length t.c)
  generalize hW : World.alloc w _ = W at k1
  have HB : Hid (Below w.heap.size w W) := Lib.hid (by rw [← hW]; exact below_new _ _)
  clear hW
  obtain ⟨c0, c1, c2, c3, c4, _⟩ := k1
  by_cases h0 : 0 ≤ t.id
  · go_wp2_with fail
    refine (name_any t.label W).mono ?_
    rintro e w1 ⟨rfl, rfl⟩
    cases hn : nameB t.label
    · have HV : Hid (okT t = false) := Lib.hid (by unfold okT; rw [hn]; simp)
      go_wp2
      go_ret
      exact ⟨by rw [HV.out]; rfl, HB.out⟩
    · have HV : Hid (okT t = t.l.all okPr) := Lib.hid (by unfold okT; rw [hn]; simp [h0])
      go_wp2_with fail
      refine (areProps_few W d t.A t.c t.l (H.out.next HB.out) hl).mono ?_
      rintro e w2 ⟨rfl, hb2⟩
      have B2 := Lib.hid (bnext HB.out hb2)
      clear hb2 c0 c1 c2 c3 c4
      go_wp2
      go_ret
      exact ⟨by rw [HV.out]; rfl, B2.out⟩
  · have HV : Hid (okT t = false) := Lib.hid (by unfold okT; simp [h0])
    go_wp2
    go_ret
    exact ⟨by rw [HV.out]; rfl, HB.out⟩
set_option maxHeartbeats 1600000 in
theorem notThing_few (w : World) (d : Nat) (t : TA) (h : PRow w 0 d t.A t.c t.l) (hl : t.l.length ≤ 1) : Calls Try.prog 67 #[t.v] w fun e w' => e = .returned (.bool (!okT t)) ∧ Below w.heap.size w w' := by
  have H := Lib.hid h
  clear h
  go_enter Try.func67, Try.ntmps67
  go_upto_region 1 with fail
  have k1 := CellT.new w (.int .i64 t.id) (.string t.label) (.int .i64 t.o) (.int .i64 t.i) (.slice t.A t.l.length t.c)
  generalize hW : World.alloc w _ = W at k1
  have HB : Hid (Below w.heap.size w W) := Lib.hid (by rw [← hW]; exact below_new _ _)
  clear hW
  obtain ⟨c0, c1, c2, c3, c4, _⟩ := k1
  go_wp2_with fail
  refine (isThing_few W d t (H.out.next HB.out) hl).mono ?_
  rintro e w2 ⟨rfl, hb2⟩
  have B2 := Lib.hid (bnext HB.out hb2)
  clear hb2 c0 c1 c2 c3 c4
  go_wp2
  go_ret
  exact ⟨by rfl, B2.out⟩
def endT (t : TA) : Bool := decide (t.o ≠ 0) || decide (t.i ≠ 0)
set_option maxHeartbeats 1600000 in
theorem ended_any (w : World) (t : TA) : Calls Try.prog 50 #[t.v] w fun e w' => e = .returned (.bool (endT t)) ∧ Below w.heap.size w w' := by
  have HE : Hid (endT t = (decide (t.o ≠ 0) || decide (t.i ≠ 0))) := Lib.hid rfl
  by_cases h1 : t.o = 0
  · by_cases h2 : t.i = 0
    · have b1 : (t.o != 0) = false := by simp [h1]
      have b2 : (t.i != 0) = false := by simp [h2]
      have HV : Hid (endT t = false) := Lib.hid (by rw [HE.out]; simp [h1, h2])
      clear h1 h2
      go_enter Try.func50, Try.ntmps50
      go_wp2
      go_ret
      exact ⟨by rw [HV.out]; rfl, below_new _ _⟩
    · have b1 : (t.o != 0) = false := by simp [h1]
      have b2 : (t.i != 0) = true := by simp [h2]
      have HV : Hid (endT t = true) := Lib.hid (by rw [HE.out]; simp [h1, h2])
      clear h1 h2
      go_enter Try.func50, Try.ntmps50
      go_wp2
      go_ret
      exact ⟨by rw [HV.out]; rfl, below_new _ _⟩
  · have b1 : (t.o != 0) = true := by simp [h1]
    have HV : Hid (endT t = true) := Lib.hid (by rw [HE.out]; simp [h1])
    clear h1
    go_enter Try.func50, Try.ntmps50
    go_wp2
    go_ret
    exact ⟨by rw [HV.out]; rfl, below_new _ _⟩

set_option maxHeartbeats 1600000 in
theorem indexT67 (w : World) (d : Nat) (A : Option Addr) (c : Nat) (l : List TA) (h : TRow w d A c l) (q : TA → Bool) (HC : Hid (∀ (W : World) (p : TA), Below w.heap.size w W → p ∈ l → PRow W 0 d p.A p.c p.l → Calls Try.prog 67 #[p.v] W fun e w' => e = .returned (.bool (q p)) ∧ Below W.heap.size W w')) :
    Calls Try.prog 41 #[.slice A l.length c, .func (.func 67) #[] #[]] w fun e w' => e = .returned (.int .i64 (idxG q l 0)) ∧ Below w.heap.size w w' := by
  have H1 := Lib.hid h
  have b1 := h.big
  clear h
  go_enter Try.func41, Try.ntmps41
  go_wp2
  go_loopw [8] (fun i wr => ∃ k : Nat, k ≤ l.length ∧ i = .int .i64 k ∧ Hid (Below w.heap.size w wr) ∧ Hid (idxG q (l.drop k) k = idxG q l 0)) (fun i _ => l.length - (intOf i).toNat)
  case atStart => exact ⟨0, by omega, rfl, Lib.hid (Below.refl _ _), Lib.hid (by simp)⟩
  case round =>
    obtain ⟨k, hk, rfl, hbel, hr⟩ := hrel
    by_cases hlt : k < l.length
    · obtain ⟨b, off, x, rfl, hb, hx, q6, rx⟩ := (H1.out.next hbel.out).elem hlt
      obtain ⟨q0, q1, q2, q3, q4⟩ := q6
      have Y := Lib.hid (idxG_yes q l k hx)
      have N := Lib.hid (idxG_no q l k hx)
      have XM := Lib.hid (List.mem_of_getElem? hx)
      have RX := Lib.hid rx
      clear rx hx
      go_wp2_with fail
      refine (HC.out _ x hbel.out XM.out RX.out).mono ?_
      rintro e w1 ⟨rfl, hb1⟩
      have HB := Lib.hid (bnext hbel.out hb1)
      clear hb1
      cases hp : q x
      · go_wp2
        go_roundw
        case rel => exact ⟨k + 1, by omega, by go_num, HB, Lib.hid (by rw [← hr.out, N.out hp])⟩
        case measure => simp [intOf]; omega
      · go_wp2
        go_ret
        exact ⟨by rw [← hr.out, Y.out hp]; rfl, HB.out⟩
    · have OUT := Lib.hid (idxG_out q l k k (by omega))
      go_wp2
      go_ret
      exact ⟨by rw [← hr.out, OUT.out]; rfl, hbel.out⟩

set_option maxHeartbeats 800000 in
theorem containsT67 (w : World) (d : Nat) (A : Option Addr) (c : Nat) (l : List TA) (h : TRow w d A c l) (q : TA → Bool) (HC : Hid (∀ (W : World) (p : TA), Below w.heap.size w W → p ∈ l → PRow W 0 d p.A p.c p.l → Calls Try.prog 67 #[p.v] W fun e w' => e = .returned (.bool (q p)) ∧ Below W.heap.size W w')) :
    Calls Try.prog 52 #[.slice A l.length c, .func (.func 67) #[] #[]] w fun e w' => e = .returned (.bool (l.any q)) ∧ Below w.heap.size w w' := by
  have CT := Lib.hid (indexT67 w d A c l h q HC)
  have R := Lib.hid (idxG_range q l 0)
  clear h HC
  go_enter Try.func52, Try.ntmps52
  go_wp2_with fail
  refine CT.out.mono ?_
  rintro e w1 ⟨rfl, hb1⟩
  have HB := Lib.hid hb1
  clear hb1
  go_wp2
  go_ret
  refine ⟨?_, HB.out⟩
  show Ending.returned (.bool (decide (0 ≤ idxG q l 0))) = _
  rcases R.out with ⟨e, a⟩ | ⟨e1, e2, a⟩
  · rw [a, e]; rfl
  · rw [a, decide_eq_true (by omega)]

set_option maxHeartbeats 1600000 in
theorem indexT50 (w : World) (d : Nat) (A : Option Addr) (c : Nat) (l : List TA) (h : TRow w d A c l) (q : TA → Bool) (HC : Hid (∀ (W : World) (p : TA), Below w.heap.size w W → p ∈ l → PRow W 0 d p.A p.c p.l → Calls Try.prog 50 #[p.v] W fun e w' => e = .returned (.bool (q p)) ∧ Below W.heap.size W w')) :
    Calls Try.prog 41 #[.slice A l.length c, .func (.func 50) #[] #[]] w fun e w' => e = .returned (.int .i64 (idxG q l 0)) ∧ Below w.heap.size w w' := by
  have H1 := Lib.hid h
  have b1 := h.big
  clear h
  go_enter Try.func41, Try.ntmps41
  go_wp2
  go_loopw [8] (fun i wr => ∃ k : Nat, k ≤ l.length ∧ i = .int .i64 k ∧ Hid (Below w.heap.size w wr) ∧ Hid (idxG q (l.drop k) k = idxG q l 0)) (fun i _ => l.length - (intOf i).toNat)
  case atStart => exact ⟨0, by omega, rfl, Lib.hid (Below.refl _ _), Lib.hid (by simp)⟩
  case round =>
    obtain ⟨k, hk, rfl, hbel, hr⟩ := hrel
    by_cases hlt : k < l.length
    · obtain ⟨b, off, x, rfl, hb, hx, q6, rx⟩ := (H1.out.next hbel.out).elem hlt
      obtain ⟨q0, q1, q2, q3, q4⟩ := q6
      have Y := Lib.hid (idxG_yes q l k hx)
      have N := Lib.hid (idxG_no q l k hx)
      have XM := Lib.hid (List.mem_of_getElem? hx)
      have RX := Lib.hid rx
      clear rx hx
      go_wp2_with fail
      refine (HC.out _ x hbel.out XM.out RX.out).mono ?_
      rintro e w1 ⟨rfl, hb1⟩
      have HB := Lib.hid (bnext hbel.out hb1)
      clear hb1
      cases hp : q x
      · go_wp2
        go_roundw
        case rel => exact ⟨k + 1, by omega, by go_num, HB, Lib.hid (by rw [← hr.out, N.out hp])⟩
        case measure => simp [intOf]; omega
      · go_wp2
        go_ret
        exact ⟨by rw [← hr.out, Y.out hp]; rfl, HB.out⟩
    · have OUT := Lib.hid (idxG_out q l k k (by omega))
      go_wp2
      go_ret
      exact ⟨by rw [← hr.out, OUT.out]; rfl, hbel.out⟩

set_option maxHeartbeats 800000 in
theorem containsT50 (w : World) (d : Nat) (A : Option Addr) (c : Nat) (l : List TA) (h : TRow w d A c l) (q : TA → Bool) (HC : Hid (∀ (W : World) (p : TA), Below w.heap.size w W → p ∈ l → PRow W 0 d p.A p.c p.l → Calls Try.prog 50 #[p.v] W fun e w' => e = .returned (.bool (q p)) ∧ Below W.heap.size W w')) :
    Calls Try.prog 52 #[.slice A l.length c, .func (.func 50) #[] #[]] w fun e w' => e = .returned (.bool (l.any q)) ∧ Below w.heap.size w w' := by
  have CT := Lib.hid (indexT50 w d A c l h q HC)
  have R := Lib.hid (idxG_range q l 0)
  clear h HC
  go_enter Try.func52, Try.ntmps52
  go_wp2_with fail
  refine CT.out.mono ?_
  rintro e w1 ⟨rfl, hb1⟩
  have HB := Lib.hid hb1
  clear hb1
  go_wp2
  go_ret
  refine ⟨?_, HB.out⟩
  show Ending.returned (.bool (decide (0 ≤ idxG q l 0))) = _
  rcases R.out with ⟨e, a⟩ | ⟨e1, e2, a⟩
  · rw [a, e]; rfl
  · rw [a, decide_eq_true (by omega)]

set_option maxHeartbeats 1600000 in
theorem indexT53 (w : World) (d : Nat) (A : Option Addr) (c : Nat) (l : List TA) (h : TRow w d A c l) (g : Nat) (q : TA → Bool) (HC : Hid (∀ (W : World) (p : TA), Below w.heap.size w W → p ∈ l → PRow W 0 d p.A p.c p.l → Calls Try.prog 53 #[p.v, .pointer (some ⟨g, 0, none⟩)] W fun e w' => e = .returned (.bool (q p)) ∧ Below W.heap.size W w')) :
    Calls Try.prog 41 #[.slice A l.length c, .func (.func 53) #[] #[.pointer (some ⟨g, 0, none⟩)]] w fun e w' => e = .returned (.int .i64 (idxG q l 0)) ∧ Below w.heap.size w w' := by
  have H1 := Lib.hid h
  have b1 := h.big
  clear h
  go_enter Try.func41, Try.ntmps41
  go_wp2
  go_loopw [8] (fun i wr => ∃ k : Nat, k ≤ l.length ∧ i = .int .i64 k ∧ Hid (Below w.heap.size w wr) ∧ Hid (idxG q (l.drop k) k = idxG q l 0)) (fun i _ => l.length - (intOf i).toNat)
  case atStart => exact ⟨0, by omega, rfl, Lib.hid (Below.refl _ _), Lib.hid (by simp)⟩
  case round =>
    obtain ⟨k, hk, rfl, hbel, hr⟩ := hrel
    by_cases hlt : k < l.length
    · obtain ⟨b, off, x, rfl, hb, hx, q6, rx⟩ := (H1.out.next hbel.out).elem hlt
      obtain ⟨q0, q1, q2, q3, q4⟩ := q6
      have Y := Lib.hid (idxG_yes q l k hx)
      have N := Lib.hid (idxG_no q l k hx)
      have XM := Lib.hid (List.mem_of_getElem? hx)
      have RX := Lib.hid rx
      clear rx hx
      go_wp2_with fail
      refine (HC.out _ x hbel.out XM.out RX.out).mono ?_
      rintro e w1 ⟨rfl, hb1⟩
      have HB := Lib.hid (bnext hbel.out hb1)
      clear hb1
      cases hp : q x
      · go_wp2
        go_roundw
        case rel => exact ⟨k + 1, by omega, by go_num, HB, Lib.hid (by rw [← hr.out, N.out hp])⟩
        case measure => simp [intOf]; omega
      · go_wp2
        go_ret
        exact ⟨by rw [← hr.out, Y.out hp]; rfl, HB.out⟩
    · have OUT := Lib.hid (idxG_out q l k k (by omega))
      go_wp2
      go_ret
      exact ⟨by rw [← hr.out, OUT.out]; rfl, hbel.out⟩

set_option maxHeartbeats 800000 in
theorem containsT53 (w : World) (d : Nat) (A : Option Addr) (c : Nat) (l : List TA) (h : TRow w d A c l) (g : Nat) (q : TA → Bool) (HC : Hid (∀ (W : World) (p : TA), Below w.heap.size w W → p ∈ l → PRow W 0 d p.A p.c p.l → Calls Try.prog 53 #[p.v, .pointer (some ⟨g, 0, none⟩)] W fun e w' => e = .returned (.bool (q p)) ∧ Below W.heap.size W w')) :
    Calls Try.prog 52 #[.slice A l.length c, .func (.func 53) #[] #[.pointer (some ⟨g, 0, none⟩)]] w fun e w' => e = .returned (.bool (l.any q)) ∧ Below w.heap.size w w' := by
  have CT := Lib.hid (indexT53 w d A c l h g q HC)
  have R := Lib.hid (idxG_range q l 0)
  clear h HC
  go_enter Try.func52, Try.ntmps52
  go_wp2_with fail
  refine CT.out.mono ?_
  rintro e w1 ⟨rfl, hb1⟩
  have HB := Lib.hid hb1
  clear hb1
  go_wp2
  go_ret
  refine ⟨?_, HB.out⟩
  show Ending.returned (.bool (decide (0 ≤ idxG q l 0))) = _
  rcases R.out with ⟨e, a⟩ | ⟨e1, e2, a⟩
  · rw [a, e]; rfl
  · rw [a, decide_eq_true (by omega)]
end Go.Proofs.Ytciipggccjiaiaa
