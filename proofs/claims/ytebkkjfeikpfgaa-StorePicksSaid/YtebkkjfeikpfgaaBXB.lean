/- Carried over from an earlier seat. -/
import Derived.Test.YtebkkjfeikpfgaaBNE
import Derived.Laws.AppendOwnNone
import Derived.Test.YtebkkjfeikpfgaaBVN
import Derived.Test.YtebkkjfeikpfgaaBXA
import Derived.Maps.OwnSet
import Derived.Deep.CutBlock
namespace Go.Proofs.Ytebkkjfeikpfgaa
set_option maxRecDepth 100000
open Go.RowKit Go.Sort
set_option maxRecDepth 100000

abbrev tv (id : Int) (label : ByteArray) (o n : Int) (A : Option Addr) (k c : Nat) : Value := .agg #[.int .i64 id, .string label, .int .i64 o, .int .i64 n, .slice A k c]
theorem boxesT2 (w : World) (v0 v1 v2 v3 v4 u0 u1 u2 u3 u4 : Value) (W : World) (hW : (w.alloc (.cells #[v0, v1, v2, v3, v4] 42)).alloc (.cells #[u0, u1, u2, u3, u4] 42) = W) :
    CellT W w.heap.size v0 v1 v2 v3 v4 ∧ CellT W (w.heap.size + 1) u0 u1 u2 u3 u4 ∧ Below w.heap.size w W ∧ W.heap.size = w.heap.size + 2 := by
  subst hW
  refine ⟨(CellT.new w _ _ _ _ _).next (below_new _ _), ?_, below_new2 _ _ _, by simp⟩
  have := CellT.new (w.alloc (.cells #[v0, v1, v2, v3, v4] 42)) u0 u1 u2 u3 u4
  rw [size_alloc] at this
  exact this
/-- A thing whose properties are copies. -/
def CThing (w : World) (id : Int) (label : ByteArray) (o n : Int) (l : List PA) (e : Ending) (w' : World) : Prop :=
  ∃ A c r, e = .returned (tv id label o n A r.length c) ∧ PRow w' w.heap.size 13 A c r ∧ r.map PA.kv = l.map PA.ckv ∧ MineP w' A r.length ∧ Below w.heap.size w w'

set_option maxHeartbeats 3200000 in
theorem copyThing_any (w : World) (d : Nat) (id : Int) (label : ByteArray) (o n : Int) (A : Option Addr) (c : Nat) (l : List PA) (h : PRow w 0 d A c l) : Calls Try.prog 63 #[tv id label o n A l.length c] w (CThing w id label o n l) := by
  have H := Lib.hid h
  clear h
  go_enter Try.func63, Try.ntmps63
  go_upto_region 1 with fail
  generalize hW : World.alloc (World.alloc _ _) _ = W
  obtain ⟨k1, k2, hb, hs⟩ := boxesT2 _ _ _ _ _ _ _ _ _ _ _ _ hW
  have K1 := Lib.hid k1
  have K2 := Lib.hid k2
  have HB := Lib.hid hb
  have hsW : w.heap.size + 1 < W.heap.size := by omega
  obtain ⟨c0, c1, c2, c3, c4, _⟩ := k1
  clear hW k2 hb hs
  go_wp2_with fail
  refine (copyProps_any W d A c l (H.out.next HB.out)).mono ?_
  rintro e w1 ⟨E, e1, r, rfl, hr, hm, hmp, hb1⟩
  have MP := Lib.hid hmp
  have B1 := Lib.hid (bnext HB.out hb1)
  have HR := Lib.hid hr
  have HM := Lib.hid hm
  have S1 := Lib.hid hb1.size
  have K1n := Lib.hid (K1.out.next hb1)
  have K2n := Lib.hid (K2.out.next hb1)
  clear hr hm hmp hb1 c0 c1 c2 c3 c4 K1 K2
  obtain ⟨c0, c1, c2, c3, c4, f0, f1, f2, f3, f4, _⟩ := K1n.out
  obtain ⟨d0, d1, d2, d3, d4, g0, g1, g2, g3, g4, _⟩ := K2n.out
  have hX : BlkT (w1.setCell ⟨w.heap.size, 4, none⟩ (.slice E r.length e1)) (w.heap.size + 1) 1 := K2n.out.blk.kept (Below.heap_setCell _ _ _ _ (by simp))
  have HRT := Lib.hid (retT_box hX (.int .i64 id) (.string label) (.int .i64 o) (.int .i64 n) (.slice E r.length e1))
  clear hX
  go_wp2
  obtain ⟨F, hF, ⟨r0', r1', r2', r3', r4', _⟩, hk, hsz, hbel⟩ := HRT.out
  rw [← hF]
  clear hF
  have hsF : F.heap.size = w1.heap.size := by rw [hsz]; simp [World.setCell]
  have hkF : Kept W.heap.size w1.heap.size w1 F := (Kept.setCell (.inl (by show w.heap.size < W.heap.size; omega)) _).trans (hk W.heap.size w1.heap.size hsW)
  have hbF : Below w.heap.size w F := hbel _ _ (by omega) (B1.out.setCell (p := ⟨w.heap.size, 4, none⟩) (Nat.le_refl _) _)
  exact bodyPost_ret (v := tv id label o n E r.length e1) (by simp [results, Try.results63, go_sem, r0', r1', r2', r3', r4']) rfl ⟨E, e1, r, rfl, HR.out.imp hkF (by omega) (by rw [hsF]; exact Nat.le_refl _), HM.out, MP.out.keep HR.out hkF, hbF⟩

end Go.Proofs.Ytebkkjfeikpfgaa

/- Carried over from an earlier seat. -/
namespace Go.Proofs.Ytebkkjfeikpfgaa
set_option maxRecDepth 100000
open Go.RowKit Go.Sort
set_option maxRecDepth 100000

theorem below_grown {w a b : World} {B g : Nat} (h : Below B w a) (hg : a.grownBy b (some g)) (hB : B ≤ g) (hw : B ≤ w.heap.size) : Below B w b :=
  ⟨hg.os.trans h.os, hg.tape.trans h.tape, hg.output.trans h.output, Nat.le_trans h.size hg.size, fun k hk => (hg.block k (by have := h.size; omega) (fun e => by injection e with e; omega)).trans (h.block k hk)⟩
end Go.Proofs.Ytebkkjfeikpfgaa

/- Carried over from an earlier seat. -/
namespace Go.Proofs.Ytebkkjfeikpfgaa
set_option maxRecDepth 100000
open Go.RowKit Go.Sort
set_option maxRecDepth 100000
attribute [local go_sem ↓] Go.wp_at_zero Go.wp_at_succ

theorem PRow.take {w : World} {lo d c : Nat} {A : Option Addr} {l : List PA} (h : PRow w lo d A c l) {i : Nat} (hi : i ≤ l.length) : PRow w lo d A c (l.take i) :=
  ⟨by have := h.le; simp; omega, h.cap, by have := h.big; simp; omega, h.nil, fun h0 => by
    obtain ⟨b, off, e, h1, h2, hc⟩ := h.at_ (by simp at h0; omega)
    exact ⟨b, off, e, h1, h2, fun j p hj => hc j p (by rw [List.getElem?_take] at hj; split at hj; exact hj; cases hj)⟩, fun p hp => h.vals p (List.mem_of_mem_take hp)⟩
end Go.Proofs.Ytebkkjfeikpfgaa

/- Carried over from an earlier seat. -/
namespace Go.Proofs.Ytebkkjfeikpfgaa
set_option maxRecDepth 100000
open Go.RowKit Go.Sort
set_option maxRecDepth 100000

theorem any_notG {α : Type} (l : List α) (p : α → Bool) : l.any (fun x => !p x) = !l.all p := by rw [List.any_eq_not_all_not]; simp
/-- A thing, with where its properties lie. -/
structure TA where
  id : Int
  label : ByteArray
  o : Int
  i : Int
  A : Option Addr
  c : Nat
  l : List PA
abbrev TA.v (t : TA) : Value := tv t.id t.label t.o t.i t.A t.l.length t.c
/-- The five cells of a thing. -/
structure cellsT (w : World) (b o : Nat) (t : TA) : Prop where
  c0 : w.cell? ⟨b, o, none⟩ = some (.int .i64 t.id)
  c1 : w.cell? ⟨b, o + 1, none⟩ = some (.string t.label)
  c2 : w.cell? ⟨b, o + 2, none⟩ = some (.int .i64 t.o)
  c3 : w.cell? ⟨b, o + 3, none⟩ = some (.int .i64 t.i)
  c4 : w.cell? ⟨b, o + 4, none⟩ = some (.slice t.A t.l.length t.c)
theorem cellsT.next {a b : World} {g o : Nat} {t : TA} (h : cellsT a g o t) (hb : Below a.heap.size a b) (hg : g < a.heap.size) : cellsT b g o t :=
  ⟨cell_below hb h.c0 hg, cell_below hb h.c1 hg, cell_below hb h.c2 hg, cell_below hb h.c3 hg, cell_below hb h.c4 hg⟩
/-- A row of things. -/
structure TRow (w : World) (d : Nat) (A : Option Addr) (c : Nat) (l : List TA) : Prop where
  le : l.length ≤ c
  big : l.length ≤ 2199023255488
  at_ : 0 < l.length → ∃ b off, A = some ⟨b, off, none⟩ ∧ b < w.heap.size ∧ ∀ j t, l[j]? = some t → cellsT w b (off + j * 5) t
  vals : ∀ t ∈ l, PRow w 0 d t.A t.c t.l
theorem TRow.next {a b : World} {d c : Nat} {A : Option Addr} {l : List TA} (h : TRow a d A c l) (hb : Below a.heap.size a b) : TRow b d A c l :=
  ⟨h.le, h.big, fun h0 => by
    obtain ⟨g, off, e, hg, hc⟩ := h.at_ h0
    exact ⟨g, off, e, Nat.lt_of_lt_of_le hg hb.size, fun j t hj => (hc j t hj).next hb hg⟩, fun t ht => (h.vals t ht).next hb⟩
theorem TRow.elem {w : World} {d c : Nat} {A : Option Addr} {l : List TA} (h : TRow w d A c l) {k : Nat} (hk : k < l.length) : ∃ b off t, A = some ⟨b, off, none⟩ ∧ b < w.heap.size ∧ l[k]? = some t ∧ cellsT w b (off + k * 5) t ∧ PRow w 0 d t.A t.c t.l := by
  obtain ⟨b, off, e, hb, hc⟩ := h.at_ (by omega)
  have hj : l[k]? = some l[k] := List.getElem?_eq_getElem hk
  exact ⟨b, off, l[k], e, hb, hj, hc k _ hj, h.vals _ (List.getElem_mem _)⟩

def okPr (p : PA) : Bool := nameB p.key && plainB p.x.t
set_option maxHeartbeats 1600000 in
theorem notProp_any (w : World) (d : Nat) (p : PA) (hx : p.x.In w d) : Calls Try.prog 86 #[p.v] w fun e w' => e = .returned (.bool (!okPr p)) ∧ Below w.heap.size w w' := by
  have HX := Lib.hid hx
  clear hx
  go_enter Try.func86, Try.ntmps86
  go_upto_region 1 with fail
  generalize hW : World.alloc w _ = W
  obtain ⟨⟨z0, z1, z2, z3, z4, z5⟩, hbW, hsW⟩ := box39 w p W hW
  have HB := Lib.hid hbW
  clear hW hbW hsW
  go_wp2_with fail
  refine (name_any p.key W).mono ?_
  rintro e w1 ⟨rfl, rfl⟩
  cases hn : nameB p.key
  · have HV : Hid (okPr p = false) := Lib.hid (by unfold okPr; rw [hn]; rfl)
    go_wp2
    go_ret
    exact ⟨by rw [HV.out]; rfl, HB.out⟩
  · go_wp2_with fail
    refine (plain_any W d p.x (HX.out.next HB.out)).mono ?_
    rintro e w2 ⟨rfl, hb2⟩
    have B2 := Lib.hid (bnext HB.out hb2)
    have HV : Hid (okPr p = plainB p.x.t) := Lib.hid (by unfold okPr; rw [hn]; rfl)
    clear hb2 hn z0 z1 z2 z3 z4 z5
    generalize plainB p.x.t = o at HV
    cases o
    all_goals
      go_wp2
      go_ret
      exact ⟨by rw [HV.out]; rfl, B2.out⟩

set_option maxHeartbeats 1600000 in
theorem indexP80 (w : World) (d : Nat) (A : Option Addr) (c : Nat) (l : List PA) (h : PRow w 0 d A c l) (q : PA → Bool) (HC : Hid (∀ (W : World) (p : PA), Below w.heap.size w W → p ∈ l → p.x.In W d → Calls Try.prog 86 #[p.v] W fun e w' => e = .returned (.bool (q p)) ∧ Below W.heap.size W w')) :
    Calls Try.prog 95 #[.slice A l.length c, .func (.func 86) #[] #[]] w fun e w' => e = .returned (.int .i64 (idxG q l 0)) ∧ Below w.heap.size w w' := by
  have H1 := Lib.hid h
  have b1 := h.big
  clear h
  go_enter Try.func95, Try.ntmps95
  go_wp2
  go_loopw [8] (fun i wr => ∃ k : Nat, k ≤ l.length ∧ i = .int .i64 k ∧ Hid (Below w.heap.size w wr) ∧ Hid (idxG q (l.drop k) k = idxG q l 0)) (fun i _ => l.length - (intOf i).toNat)
  case atStart => exact ⟨0, by omega, rfl, Lib.hid (Below.refl _ _), Lib.hid (by simp)⟩
  case round =>
    obtain ⟨k, hk, rfl, hbel, hr⟩ := hrel
    by_cases hlt : k < l.length
    · obtain ⟨b, off, x, rfl, hb, hx, q6, rx⟩ := (H1.out.next hbel.out).elem hlt
      obtain ⟨q0, q1, q2, q3, q4, q5⟩ := q6
      have Y := Lib.hid (idxG_yes q l k hx)
      have N := Lib.hid (idxG_no q l k hx)
      have XM := Lib.hid (List.mem_of_getElem? hx)
      have RX := Lib.hid rx
      clear rx hx
      go_wp2_with fail
      refine (HC.out _ x hbel.out XM.out RX.out).mono ?_
      rintro e w1 ⟨rfl, hb1⟩
      have HB := Lib.hid (bnext hbel.out hb1)
      clear hb1
      cases hp : q x
      · go_wp2
        go_roundw
        case rel => exact ⟨k + 1, by omega, by go_num, HB, Lib.hid (by rw [← hr.out, N.out hp])⟩
        case measure => simp [intOf]; omega
      · go_wp2
        go_ret
        exact ⟨by rw [← hr.out, Y.out hp]; rfl, HB.out⟩
    · have OUT := Lib.hid (idxG_out q l k k (by omega))
      go_wp2
      go_ret
      exact ⟨by rw [← hr.out, OUT.out]; rfl, hbel.out⟩

set_option maxHeartbeats 800000 in
theorem containsP80 (w : World) (d : Nat) (A : Option Addr) (c : Nat) (l : List PA) (h : PRow w 0 d A c l) (q : PA → Bool) (HC : Hid (∀ (W : World) (p : PA), Below w.heap.size w W → p ∈ l → p.x.In W d → Calls Try.prog 86 #[p.v] W fun e w' => e = .returned (.bool (q p)) ∧ Below W.heap.size W w')) :
    Calls Try.prog 89 #[.slice A l.length c, .func (.func 86) #[] #[]] w fun e w' => e = .returned (.bool (l.any q)) ∧ Below w.heap.size w w' := by
  have CT := Lib.hid (indexP80 w d A c l h q HC)
  have R := Lib.hid (idxG_range q l 0)
  clear h HC
  go_enter Try.func89, Try.ntmps89
  go_wp2_with fail
  refine CT.out.mono ?_
  rintro e w1 ⟨rfl, hb1⟩
  have HB := Lib.hid hb1
  clear hb1
  go_wp2
  go_ret
  refine ⟨?_, HB.out⟩
  show Ending.returned (.bool (decide (0 ≤ idxG q l 0))) = _
  rcases R.out with ⟨e, a⟩ | ⟨e1, e2, a⟩
  · rw [a, e]; rfl
  · rw [a, decide_eq_true (by omega)]

def endT (t : TA) : Bool := decide (t.o ≠ 0) || decide (t.i ≠ 0)
set_option maxHeartbeats 1600000 in
theorem ended_any (w : World) (t : TA) : Calls Try.prog 58 #[t.v] w fun e w' => e = .returned (.bool (endT t)) ∧ Below w.heap.size w w' := by
  have HE : Hid (endT t = (decide (t.o ≠ 0) || decide (t.i ≠ 0))) := Lib.hid rfl
  by_cases h1 : t.o = 0
  · by_cases h2 : t.i = 0
    · have b1 : (t.o != 0) = false := by simp [h1]
      have b2 : (t.i != 0) = false := by simp [h2]
      have HV : Hid (endT t = false) := Lib.hid (by rw [HE.out]; simp [h1, h2])
      clear h1 h2
      go_enter Try.func58, Try.ntmps58
      go_wp2
      go_ret
      exact ⟨by rw [HV.out]; rfl, below_new _ _⟩
    · have b1 : (t.o != 0) = false := by simp [h1]
      have b2 : (t.i != 0) = true := by simp [h2]
      have HV : Hid (endT t = true) := Lib.hid (by rw [HE.out]; simp [h1, h2])
      clear h1 h2
      go_enter Try.func58, Try.ntmps58
      go_wp2
      go_ret
      exact ⟨by rw [HV.out]; rfl, below_new _ _⟩
  · have b1 : (t.o != 0) = true := by simp [h1]
    have HV : Hid (endT t = true) := Lib.hid (by rw [HE.out]; simp [h1])
    clear h1
    go_enter Try.func58, Try.ntmps58
    go_wp2
    go_ret
    exact ⟨by rw [HV.out]; rfl, below_new _ _⟩

set_option maxHeartbeats 1600000 in
theorem indexT67 (w : World) (d : Nat) (A : Option Addr) (c : Nat) (l : List TA) (h : TRow w d A c l) (q : TA → Bool) (HC : Hid (∀ (W : World) (p : TA), Below w.heap.size w W → p ∈ l → PRow W 0 d p.A p.c p.l → Calls Try.prog 74 #[p.v] W fun e w' => e = .returned (.bool (q p)) ∧ Below W.heap.size W w')) :
    Calls Try.prog 69 #[.slice A l.length c, .func (.func 74) #[] #[]] w fun e w' => e = .returned (.int .i64 (idxG q l 0)) ∧ Below w.heap.size w w' := by
  have H1 := Lib.hid h
  have b1 := h.big
  clear h
  go_enter Try.func69, Try.ntmps69
  go_wp2
  go_loopw [8] (fun i wr => ∃ k : Nat, k ≤ l.length ∧ i = .int .i64 k ∧ Hid (Below w.heap.size w wr) ∧ Hid (idxG q (l.drop k) k = idxG q l 0)) (fun i _ => l.length - (intOf i).toNat)
  case atStart => exact ⟨0, by omega, rfl, Lib.hid (Below.refl _ _), Lib.hid (by simp)⟩
  case round =>
    obtain ⟨k, hk, rfl, hbel, hr⟩ := hrel
    by_cases hlt : k < l.length
    · obtain ⟨b, off, x, rfl, hb, hx, q6, rx⟩ := (H1.out.next hbel.out).elem hlt
      obtain ⟨q0, q1, q2, q3, q4⟩ := q6
      have Y := Lib.hid (idxG_yes q l k hx)
      have N := Lib.hid (idxG_no q l k hx)
      have XM := Lib.hid (List.mem_of_getElem? hx)
      have RX := Lib.hid rx
      clear rx hx
      go_wp2_with fail
      refine (HC.out _ x hbel.out XM.out RX.out).mono ?_
      rintro e w1 ⟨rfl, hb1⟩
      have HB := Lib.hid (bnext hbel.out hb1)
      clear hb1
      cases hp : q x
      · go_wp2
        go_roundw
        case rel => exact ⟨k + 1, by omega, by go_num, HB, Lib.hid (by rw [← hr.out, N.out hp])⟩
        case measure => simp [intOf]; omega
      · go_wp2
        go_ret
        exact ⟨by rw [← hr.out, Y.out hp]; rfl, HB.out⟩
    · have OUT := Lib.hid (idxG_out q l k k (by omega))
      go_wp2
      go_ret
      exact ⟨by rw [← hr.out, OUT.out]; rfl, hbel.out⟩

set_option maxHeartbeats 800000 in
theorem containsT67 (w : World) (d : Nat) (A : Option Addr) (c : Nat) (l : List TA) (h : TRow w d A c l) (q : TA → Bool) (HC : Hid (∀ (W : World) (p : TA), Below w.heap.size w W → p ∈ l → PRow W 0 d p.A p.c p.l → Calls Try.prog 74 #[p.v] W fun e w' => e = .returned (.bool (q p)) ∧ Below W.heap.size W w')) :
    Calls Try.prog 60 #[.slice A l.length c, .func (.func 74) #[] #[]] w fun e w' => e = .returned (.bool (l.any q)) ∧ Below w.heap.size w w' := by
  have CT := Lib.hid (indexT67 w d A c l h q HC)
  have R := Lib.hid (idxG_range q l 0)
  clear h HC
  go_enter Try.func60, Try.ntmps60
  go_wp2_with fail
  refine CT.out.mono ?_
  rintro e w1 ⟨rfl, hb1⟩
  have HB := Lib.hid hb1
  clear hb1
  go_wp2
  go_ret
  refine ⟨?_, HB.out⟩
  show Ending.returned (.bool (decide (0 ≤ idxG q l 0))) = _
  rcases R.out with ⟨e, a⟩ | ⟨e1, e2, a⟩
  · rw [a, e]; rfl
  · rw [a, decide_eq_true (by omega)]

set_option maxHeartbeats 1600000 in
theorem indexT50 (w : World) (d : Nat) (A : Option Addr) (c : Nat) (l : List TA) (h : TRow w d A c l) (q : TA → Bool) (HC : Hid (∀ (W : World) (p : TA), Below w.heap.size w W → p ∈ l → PRow W 0 d p.A p.c p.l → Calls Try.prog 58 #[p.v] W fun e w' => e = .returned (.bool (q p)) ∧ Below W.heap.size W w')) :
    Calls Try.prog 69 #[.slice A l.length c, .func (.func 58) #[] #[]] w fun e w' => e = .returned (.int .i64 (idxG q l 0)) ∧ Below w.heap.size w w' := by
  have H1 := Lib.hid h
  have b1 := h.big
  clear h
  go_enter Try.func69, Try.ntmps69
  go_wp2
  go_loopw [8] (fun i wr => ∃ k : Nat, k ≤ l.length ∧ i = .int .i64 k ∧ Hid (Below w.heap.size w wr) ∧ Hid (idxG q (l.drop k) k = idxG q l 0)) (fun i _ => l.length - (intOf i).toNat)
  case atStart => exact ⟨0, by omega, rfl, Lib.hid (Below.refl _ _), Lib.hid (by simp)⟩
  case round =>
    obtain ⟨k, hk, rfl, hbel, hr⟩ := hrel
    by_cases hlt : k < l.length
    · obtain ⟨b, off, x, rfl, hb, hx, q6, rx⟩ := (H1.out.next hbel.out).elem hlt
      obtain ⟨q0, q1, q2, q3, q4⟩ := q6
      have Y := Lib.hid (idxG_yes q l k hx)
      have N := Lib.hid (idxG_no q l k hx)
      have XM := Lib.hid (List.mem_of_getElem? hx)
      have RX := Lib.hid rx
      clear rx hx
      go_wp2_with fail
      refine (HC.out _ x hbel.out XM.out RX.out).mono ?_
      rintro e w1 ⟨rfl, hb1⟩
      have HB := Lib.hid (bnext hbel.out hb1)
      clear hb1
      cases hp : q x
      · go_wp2
        go_roundw
        case rel => exact ⟨k + 1, by omega, by go_num, HB, Lib.hid (by rw [← hr.out, N.out hp])⟩
        case measure => simp [intOf]; omega
      · go_wp2
        go_ret
        exact ⟨by rw [← hr.out, Y.out hp]; rfl, HB.out⟩
    · have OUT := Lib.hid (idxG_out q l k k (by omega))
      go_wp2
      go_ret
      exact ⟨by rw [← hr.out, OUT.out]; rfl, hbel.out⟩

set_option maxHeartbeats 800000 in
theorem containsT50 (w : World) (d : Nat) (A : Option Addr) (c : Nat) (l : List TA) (h : TRow w d A c l) (q : TA → Bool) (HC : Hid (∀ (W : World) (p : TA), Below w.heap.size w W → p ∈ l → PRow W 0 d p.A p.c p.l → Calls Try.prog 58 #[p.v] W fun e w' => e = .returned (.bool (q p)) ∧ Below W.heap.size W w')) :
    Calls Try.prog 60 #[.slice A l.length c, .func (.func 58) #[] #[]] w fun e w' => e = .returned (.bool (l.any q)) ∧ Below w.heap.size w w' := by
  have CT := Lib.hid (indexT50 w d A c l h q HC)
  have R := Lib.hid (idxG_range q l 0)
  clear h HC
  go_enter Try.func60, Try.ntmps60
  go_wp2_with fail
  refine CT.out.mono ?_
  rintro e w1 ⟨rfl, hb1⟩
  have HB := Lib.hid hb1
  clear hb1
  go_wp2
  go_ret
  refine ⟨?_, HB.out⟩
  show Ending.returned (.bool (decide (0 ≤ idxG q l 0))) = _
  rcases R.out with ⟨e, a⟩ | ⟨e1, e2, a⟩
  · rw [a, e]; rfl
  · rw [a, decide_eq_true (by omega)]

set_option maxHeartbeats 1600000 in
theorem indexT53 (w : World) (d : Nat) (A : Option Addr) (c : Nat) (l : List TA) (h : TRow w d A c l) (g : Nat) (q : TA → Bool) (HC : Hid (∀ (W : World) (p : TA), Below w.heap.size w W → p ∈ l → PRow W 0 d p.A p.c p.l → Calls Try.prog 61 #[p.v, .pointer (some ⟨g, 0, none⟩)] W fun e w' => e = .returned (.bool (q p)) ∧ Below W.heap.size W w')) :
    Calls Try.prog 69 #[.slice A l.length c, .func (.func 61) #[] #[.pointer (some ⟨g, 0, none⟩)]] w fun e w' => e = .returned (.int .i64 (idxG q l 0)) ∧ Below w.heap.size w w' := by
  have H1 := Lib.hid h
  have b1 := h.big
  clear h
  go_enter Try.func69, Try.ntmps69
  go_wp2
  go_loopw [8] (fun i wr => ∃ k : Nat, k ≤ l.length ∧ i = .int .i64 k ∧ Hid (Below w.heap.size w wr) ∧ Hid (idxG q (l.drop k) k = idxG q l 0)) (fun i _ => l.length - (intOf i).toNat)
  case atStart => exact ⟨0, by omega, rfl, Lib.hid (Below.refl _ _), Lib.hid (by simp)⟩
  case round =>
    obtain ⟨k, hk, rfl, hbel, hr⟩ := hrel
    by_cases hlt : k < l.length
    · obtain ⟨b, off, x, rfl, hb, hx, q6, rx⟩ := (H1.out.next hbel.out).elem hlt
      obtain ⟨q0, q1, q2, q3, q4⟩ := q6
      have Y := Lib.hid (idxG_yes q l k hx)
      have N := Lib.hid (idxG_no q l k hx)
      have XM := Lib.hid (List.mem_of_getElem? hx)
      have RX := Lib.hid rx
      clear rx hx
      go_wp2_with fail
      refine (HC.out _ x hbel.out XM.out RX.out).mono ?_
      rintro e w1 ⟨rfl, hb1⟩
      have HB := Lib.hid (bnext hbel.out hb1)
      clear hb1
      cases hp : q x
      · go_wp2
        go_roundw
        case rel => exact ⟨k + 1, by omega, by go_num, HB, Lib.hid (by rw [← hr.out, N.out hp])⟩
        case measure => simp [intOf]; omega
      · go_wp2
        go_ret
        exact ⟨by rw [← hr.out, Y.out hp]; rfl, HB.out⟩
    · have OUT := Lib.hid (idxG_out q l k k (by omega))
      go_wp2
      go_ret
      exact ⟨by rw [← hr.out, OUT.out]; rfl, hbel.out⟩

set_option maxHeartbeats 800000 in
theorem containsT53 (w : World) (d : Nat) (A : Option Addr) (c : Nat) (l : List TA) (h : TRow w d A c l) (g : Nat) (q : TA → Bool) (HC : Hid (∀ (W : World) (p : TA), Below w.heap.size w W → p ∈ l → PRow W 0 d p.A p.c p.l → Calls Try.prog 61 #[p.v, .pointer (some ⟨g, 0, none⟩)] W fun e w' => e = .returned (.bool (q p)) ∧ Below W.heap.size W w')) :
    Calls Try.prog 60 #[.slice A l.length c, .func (.func 61) #[] #[.pointer (some ⟨g, 0, none⟩)]] w fun e w' => e = .returned (.bool (l.any q)) ∧ Below w.heap.size w w' := by
  have CT := Lib.hid (indexT53 w d A c l h g q HC)
  have R := Lib.hid (idxG_range q l 0)
  clear h HC
  go_enter Try.func60, Try.ntmps60
  go_wp2_with fail
  refine CT.out.mono ?_
  rintro e w1 ⟨rfl, hb1⟩
  have HB := Lib.hid hb1
  clear hb1
  go_wp2
  go_ret
  refine ⟨?_, HB.out⟩
  show Ending.returned (.bool (decide (0 ≤ idxG q l 0))) = _
  rcases R.out with ⟨e, a⟩ | ⟨e1, e2, a⟩
  · rw [a, e]; rfl
  · rw [a, decide_eq_true (by omega)]
end Go.Proofs.Ytebkkjfeikpfgaa

/- Carried over from an earlier seat. -/
namespace Go.Proofs.Ytebkkjfeikpfgaa
set_option maxRecDepth 100000
open Go.RowKit Go.Sort
open Go.Maps (Keyed int_keyed keyOf_int_mk)
set_option maxRecDepth 100000

theorem law3 : Keyed Try.prog 3 := int_keyed Try.underlying3
theorem zero81 (w : World) : (zeroValue 109).run Try.prog w = .ok (.agg #[]) w := by kernel_rfl
theorem make_map (n : Nat) (_hn : n ≤ 1000000) (w : World) : (Instr.makeMap 90 (some (.int .i64 (n : Int)))).run Try.prog w = .ok (.map (some w.heap.size)) (w.alloc (.map #[] 0)) := by
  simp [Instr.makeMap, run_underlying Try.underlying90, asInt, asIntOf, Result.andThen]
set_option maxHeartbeats 1600000 in
theorem has_any (w : World) (m n : Nat) (D : DataW Unit) (hown : w.ownsMap Try.prog 3 (unitElem (H := Unit)) m n D) (id : Int) (hw : (Lit.int .i64 id).wf = true) : Calls Try.prog 62 #[.map (some m), .int .i64 id] w fun e w' => e = .returned (.bool (Maps.has D (.int .i64 id))) ∧ Below w.heap.size w w' := by
  have hkey : keyOf Try.prog 3 (.int .i64 id) = some (.int .i64 id) := keyOf_int_mk Try.underlying3 hw
  have OW := Lib.hid hown
  clear hown
  go_enter Try.func62, Try.ntmps62
  go_wp2_with (at_lookup; refine wpList_lookup_own_unit _ rfl _ _ 90 rfl 3 109 law3 Try.underlying90 (zero81 _) m n D rfl OW.out _ _ rfl hkey ?_)
  go_ret
  exact ⟨rfl, below_new _ _⟩
theorem owns_next {a b : World} {m n : Nat} {D : DataW Unit} (h : a.ownsMap Try.prog 3 (unitElem (H := Unit)) m n D) (hb : Below a.heap.size a b) : b.ownsMap Try.prog 3 (unitElem (H := Unit)) m n D :=
  h.kept (row := none) ⟨hb.os, hb.tape, hb.output, hb.size, fun k hk _ => hb.block k hk⟩ (by simp)
end Go.Proofs.Ytebkkjfeikpfgaa
namespace Go.Proofs.Ytebkkjfeikpfgaa
set_option maxRecDepth 100000
open Go.RowKit Go.Sort
set_option maxRecDepth 100000

theorem box24 (w : World) (v0 v1 : Value) (W : World) (hW : w.alloc (.cells #[v0, v1] 24) = W) : W.cell? ⟨w.heap.size, 0, none⟩ = some v0 ∧ W.cell? ⟨w.heap.size, 1, none⟩ = some v1 ∧ Below w.heap.size w W ∧ W.heap.size = w.heap.size + 1 := by
  subst hW
  refine ⟨?_, ?_, below_new _ _, by simp⟩
  all_goals (rw [World.cell?_alloc_at _ _ _ _ rfl]; rfl)
end Go.Proofs.Ytebkkjfeikpfgaa

/- Carried over from an earlier seat. -/
namespace Go.Proofs.Ytebkkjfeikpfgaa
set_option maxRecDepth 100000
open Go.RowKit Go.Sort
set_option maxRecDepth 100000
attribute [local go_sem ↓] Go.wp_at_zero Go.wp_at_succ

theorem put5_below (B : Nat) (w : World) (g o : Nat) (v0 v1 v2 v3 v4 : Value) (hg : B ≤ g) : Below B w (put5 w g o v0 v1 v2 v3 v4) :=
  (((((Below.refl B w).setCell (p := ⟨g, o, none⟩) hg v0).setCell (p := ⟨g, o + 1, none⟩) hg v1).setCell (p := ⟨g, o + 2, none⟩) hg v2).setCell (p := ⟨g, o + 3, none⟩) hg v3).setCell (p := ⟨g, o + 4, none⟩) hg v4
end Go.Proofs.Ytebkkjfeikpfgaa

