/- All tokens of a query. -/
import Derived.Test.YthjbmlgjlndihaaLF
import Derived.Maps.AppendAt
namespace Go.Proofs.Ythjbmlgjlndihaa
set_option maxRecDepth 100000
open Go.RowKit Go.Shelf Go.Sort
attribute [local go_sem] Oper.semAt_some

/-- A slice that reads as bytes. -/
structure BRow (w : World) (A : Option Addr) (c : Nat) (l : Bs) : Prop where
  le : l.length ≤ c
  cap : c ≤ maxLen
  nil : A = none → c = 0
  at_ : 0 < l.length → ∃ b off, A = some ⟨b, off, none⟩ ∧ b < w.heap.size ∧ ∀ (j : Nat) x, l[j]? = some x → w.cell? ⟨b, off + j, none⟩ = some (u8v x)
theorem BRow.next {a b : World} {A : Option Addr} {c : Nat} {l : Bs} (h : BRow a A c l) (hb : Below a.heap.size a b) : BRow b A c l :=
  ⟨h.le, h.cap, h.nil, fun h0 => by
    obtain ⟨g, off, e, hg, hc⟩ := h.at_ h0
    exact ⟨g, off, e, Nat.lt_of_lt_of_le hg hb.size, fun j x hj => cell_below hb (hc j x hj) hg⟩⟩
theorem BRow.conv {w : World} {A : Option Addr} {c : Nat} {l : Bs} (h : BRow w A c l) (t : Nat) (hu : Try.prog.underlying t = some .string) : (convert 22 t (.slice A l.length c)).run Try.prog w = .ok (.string (bs l)) w := by
  cases A with
  | none =>
    have h0 := h.nil rfl
    have h1 := h.le
    obtain rfl : l = [] := List.eq_nil_of_length_eq_zero (by omega)
    exact run_convert_bytes_nil w 22 5 Try.underlying22 Try.underlying5 0 c t hu
  | some a =>
    refine run_convert_bytes_back w 22 t 5 a c l Try.underlying22 Try.underlying5 hu (fun j hj => ?_)
    obtain ⟨b, off, e, hb, hc⟩ := h.at_ (by omega)
    injection e with e
    subst e
    rw [add_none]
    exact hc j _ (List.getElem?_eq_getElem hj)

/-- What All tells: tokens, a place, an error. -/
def allL (l : Bs) : List TK × Int × Int :=
  if 20000 < l.length then ([], 0, 3)
  else match (itemsL l).find? (fun x => !x.ok) with
    | none => ((itemsL l).map (·.t), 0, 0)
    | some x => ([], x.t.p, 30)
theorem all_long {l : Bs} (h : 20000 < l.length) : allL l = ([], 0, 3) := if_pos h
theorem all_yes {l : Bs} (h : ¬ 20000 < l.length) (hx : ∀ x ∈ itemsL l, x.ok = true) : allL l = ((itemsL l).map (·.t), 0, 0) := by
  unfold allL
  rw [if_neg h, List.find?_eq_none.2 (fun x hm => by simp [hx x hm])]
theorem all_no {l : Bs} (h : ¬ 20000 < l.length) (a b : List IT) (x : IT) (he : itemsL l = a ++ x :: b) (ha : ∀ y ∈ a, y.ok = true) (hx : x.ok = false) : allL l = ([], x.t.p, 30) := by
  unfold allL
  rw [if_neg h, he, List.find?_append, List.find?_eq_none.2 (fun y hm => by simp [ha y hm])]
  simp [hx]
def AllPost (w : World) (l : Bs) (e : Ending) (w' : World) : Prop :=
  ∃ A c, e = .returned (.tuple #[.slice A (allL l).1.length c, .int .i64 (allL l).2.1, .int .i64 (allL l).2.2]) ∧ TOwn w' w.heap.size A (allL l).1.length c (allL l).1 ∧ Below w.heap.size w w'

theorem info32 : (Try.prog.info? 32).map (fun i => (i.zero, i.size, i.bytes)) = some (some (.agg #[.int .i64 0, .int .i64 0, .string ⟨#[]⟩, .int .i64 0]), 4, 40) := by kernel_rfl
theorem flatT_one (t : TK) : flatT [t] = [.int .i64 t.k, .int .i64 t.p, .string (bs t.s), .int .i64 t.n] := rfl
theorem cell_tok_new (w : World) (t : TK) : ∀ j u, (flatT [t])[j]? = some u → (w.alloc (.cells #[.int .i64 t.k, .int .i64 t.p, .string (bs t.s), .int .i64 t.n] 32)).cell? ((⟨w.heap.size, 0, none⟩ : Addr).add j) = some u := by
  intro j u hj
  have hc := (Tok.new w t).cells
  rw [flatT_one] at hj
  rw [add_none]
  match j, hj with
  | 0, hj => injection hj with hj; subst hj; exact hc.c0
  | 1, hj => injection hj with hj; subst hj; exact hc.c1
  | 2, hj => injection hj with hj; subst hj; exact hc.c2
  | 3, hj => injection hj with hj; subst hj; exact hc.c3

/-- What holds between two rounds of All's loop. -/
structure LI (w : World) (g1 g2 g3 : Nat) (pre : List IT) (W : World) : Prop where
  ok : ∀ x ∈ pre, x.ok = true
  l : ∃ A c, Boxed W g3 24 (.slice A pre.length c) ∧ TOwn W w.heap.size A pre.length c (pre.map (·.t))
  r0 : Boxed W w.heap.size 24 (.slice none 0 0)
  r1 : Boxed W g1 3 (.int .i64 0)
  r2 : Boxed W g2 35 (.int .i64 0)
  bel : Below w.heap.size w W
/-- Where a round has returned. -/
structure LX (w : World) (g1 g2 : Nat) (pre : List IT) (W : World) : Prop where
  no : ∃ a x, pre = a ++ [x] ∧ (∀ y ∈ a, y.ok = true) ∧ x.ok = false ∧ Boxed W g1 3 (.int .i64 x.t.p)
  r0 : Boxed W w.heap.size 24 (.slice none 0 0)
  r2 : Boxed W g2 35 (.int .i64 30)
  bel : Below w.heap.size w W
theorem boxed_cells {X Y : World} {row : Option Nat} {g : Nat} {t : TypeId} {v : Value} (h : Boxed X g t v) (hg : X.grownBy Y row) (hr : ∀ r, row = some r → ∃ o : Obj, X.heap[r]? = some o ∧ o.isCells = false) : Boxed Y g t v :=
  h.kept hg (fun e' => by obtain ⟨o, ho, hc⟩ := hr g e'.symm; rw [show X.heap[g]? = _ from h] at ho; cases ho; cases hc)
theorem town_cells {X Y : World} {row : Option Nat} {base n c : Nat} {A : Option Addr} {l : List TK} (h : TOwn X base A n c l) (hg : X.grownBy Y row) (hr : ∀ r, row = some r → ∃ o : Obj, X.heap[r]? = some o ∧ o.isCells = false) : TOwn Y base A n c l := by
  refine ⟨h.1, ?_⟩
  rcases h.2 with e | ⟨g', cap, cur, e, h1, h2, h3⟩
  · exact .inl e
  · exact .inr ⟨g', cap, cur, e, h1, (hg.block g' (Array.getElem?_eq_some_iff.1 h2).1 (fun e' => by obtain ⟨o, ho, hc⟩ := hr g' e'.symm; rw [h2] at ho; cases ho; cases hc)).trans h2, h3⟩
theorem tok_cells {X Y : World} {row : Option Nat} {g : Nat} {t : TK} (h : Tok X g t) (hg : X.grownBy Y row) (hr : ∀ r, row = some r → ∃ o : Obj, X.heap[r]? = some o ∧ o.isCells = false) : Tok Y g t :=
  h.kept (hg.block g h.lt (fun e' => by obtain ⟨o, ho, hc⟩ := hr g e'.symm; rw [show X.heap[g]? = _ from h] at ho; cases ho; cases hc))
theorem LI.own {w : World} {g1 g2 g3 B : Nat} (hB : w.heap.size ≤ B) : OwnFrom B (LI w g1 g2 g3) := fun pre X Y row hs hg hr => by
  have hr' : ∀ r, row = some r → ∃ o : Obj, X.heap[r]? = some o ∧ o.isCells = false := fun r e => (hr r e).2
  obtain ⟨A, c, h1, h2⟩ := hs.l
  exact ⟨hs.ok, ⟨A, c, boxed_cells h1 hg hr', town_cells h2 hg hr'⟩, boxed_cells hs.r0 hg hr', boxed_cells hs.r1 hg hr', boxed_cells hs.r2 hg hr', hs.bel.grown hg hs.bel.size (fun k e => Nat.le_trans hB (hr k e).1)⟩
theorem LX.own {w : World} {g1 g2 B : Nat} (hB : w.heap.size ≤ B) : OwnFrom B (LX w g1 g2) := fun pre X Y row hs hg hr => by
  have hr' : ∀ r, row = some r → ∃ o : Obj, X.heap[r]? = some o ∧ o.isCells = false := fun r e => (hr r e).2
  obtain ⟨a, x, h1, h2, h3, h4⟩ := hs.no
  exact ⟨⟨a, x, h1, h2, h3, boxed_cells h4 hg hr'⟩, boxed_cells hs.r0 hg hr', boxed_cells hs.r2 hg hr', hs.bel.grown hg hs.bel.size (fun k e => Nat.le_trans hB (hr k e).1)⟩

/-- What a row of one's own keeps through a store elsewhere. -/
theorem TOwn.set {w : World} {base n c : Nat} {A : Option Addr} {l : List TK} (h : TOwn w base A n c l) {g : Nat} {t : TypeId} {u : Value} (hb : Boxed w g t u) (ht : t ≠ 32) (v : Value) : TOwn (w.setCell ⟨g, 0, none⟩ v) base A n c l := by
  refine ⟨h.1, ?_⟩
  rcases h.2 with e | ⟨g', cap, cur, e, h1, h2, h3⟩
  · exact .inl e
  · refine .inr ⟨g', cap, cur, e, h1, ?_, h3⟩
    rw [Below.heap_setCell _ _ _ _ (fun e' => ?_)]
    · exact h2
    · simp at e'
      subst e'
      rw [show w.heap[g']? = _ from hb] at h2
      simp at h2
      exact ht h2.2

theorem flatT_cell (t : TK) : ∀ u ∈ flatT [t], u.oneCell' = true := by
  intro u hu
  rw [flatT_one] at hu
  simp at hu
  rcases hu with rfl | rfl | rfl | rfl <;> rfl
theorem Boxed.drew {W : World} {g : Nat} {t : TypeId} {v : Value} (h : Boxed W g t v) : Boxed W.drew g t v := h
theorem lx_end {w W : World} {g1 g2 g3 : Nat} {pre : List IT} {x : IT} (hi : LI w g1 g2 g3 pre W) (h1 : w.heap.size < g1) (h2 : w.heap.size < g2) (h3 : g1 < g2) (hx : x.ok = false) (B : Nat) :
    KeepsFrom B W ((((W.setCell ⟨w.heap.size, 0, none⟩ (.slice none 0 0)).setCell ⟨g1, 0, none⟩ (.int .i64 x.t.p)).setCell ⟨g2, 0, none⟩ (.int .i64 30)).drew) ∧
    LX w g1 g2 (pre ++ [x]) ((((W.setCell ⟨w.heap.size, 0, none⟩ (.slice none 0 0)).setCell ⟨g1, 0, none⟩ (.int .i64 x.t.p)).setCell ⟨g2, 0, none⟩ (.int .i64 30)).drew) := by
  refine ⟨((((KeepsOthers.setCell _ _ _).trans (KeepsOthers.setCell _ _ _)).trans (KeepsOthers.setCell _ _ _)).trans (KeepsOthers.drew _)).from _, ⟨pre, x, rfl, hi.ok, hx, ?_⟩, ?_, ?_, ?_⟩
  · exact Boxed.drew (Boxed.other ((Boxed.other hi.r1 (by omega) _).set _) (by omega) _)
  · exact Boxed.drew (Boxed.other (Boxed.other (hi.r0.set _) (by omega) _) (by omega) _)
  · exact Boxed.drew ((Boxed.other (Boxed.other hi.r2 (by omega) _) (by omega) _).set _)
  · exact (((hi.bel.setCell (p := ⟨w.heap.size, 0, none⟩) (Nat.le_refl _) _).setCell (p := ⟨g1, 0, none⟩) (Nat.le_of_lt h1) _).setCell (p := ⟨g2, 0, none⟩) (Nat.le_of_lt h2) _).drew

theorem li_next {w W w1 : World} {g1 g2 g3 c' c2 : Nat} {pre : List IT} {x : IT} {A' A2 : Option Addr} {tmp : Obj} (hi : LI w g1 g2 g3 pre W)
    (hrow : W.ownsRow w.heap.size 32 4 (.slice A' pre.length c') pre.length (flatT (pre.map (·.t)))) (hgrow : (W.alloc tmp).grownBy w1 (Value.ownBlock (.slice A' pre.length c')))
    (_h1 : w.heap.size < g1) (h2 : w.heap.size < g2) (h3 : g1 < g3) (_h4 : g1 < g2) (hx : x.ok = true)
    (hv2 : Boxed (w1.setCell ⟨g3, 0, none⟩ (.slice A2 (pre.length + 1) c2)) g3 24 (.slice A2 (pre.length + 1) c2))
    (hr2 : (w1.setCell ⟨g3, 0, none⟩ (.slice A2 (pre.length + 1) c2)).ownsRow w.heap.size 32 4 (.slice A2 (pre.length + 1) c2) (pre.length + 1) (flatT (pre.map (·.t)) ++ flatT [x.t]))
    (hb2 : Below w.heap.size W (w1.setCell ⟨g3, 0, none⟩ (.slice A2 (pre.length + 1) c2))) (h5 : g2 < g3 := by omega) :
    LI w g1 g2 g3 (pre ++ [x]) (w1.setCell ⟨g3, 0, none⟩ (.slice A2 (pre.length + 1) c2)) := by
  refine ⟨?_, ⟨A2, c2, ?_, ?_⟩, ?_, ?_, ?_, hi.bel.trans hb2⟩
  · intro y hy
    rcases List.mem_append.1 hy with h | h
    · exact hi.ok y h
    · simp at h; rw [h]; exact hx
  · rw [List.length_append]; exact hv2
  · unfold TOwn
    rw [List.length_append, List.map_append, flatT_app]
    exact hr2
  · exact Boxed.other ((hi.r0.alloc _).kept hgrow (hi.r0.not_row (by decide) hrow)) (by omega) _
  · exact Boxed.other ((hi.r1.alloc _).kept hgrow (hi.r1.not_row (by decide) hrow)) (by omega) _
  · exact Boxed.other ((hi.r2.alloc _).kept hgrow (hi.r2.not_row (by decide) hrow)) (by omega) _

set_option maxHeartbeats 4000000 in
theorem all_short (w : World) (A : Option Addr) (c : Nat) (l : Bs) (h : BRow w A c l) (hl : l.length ≤ 20000) :
    Calls Try.prog 13 #[.slice A l.length c] w (AllPost w l) := by
  refine (callsIn_wide (n := 9)).1 ?_
  refine callsIn_of_wp_marks Try.func13 rfl trivial ?_ rfl
  simp only [Try.ntmps13, List.size_toArray, List.length_cons, List.length_nil, Nat.reduceAdd, Nat.reduceSub, Array.replicate_succ, Array.replicate_zero, List.push_toArray, List.append_toArray, List.nil_append, List.cons_append]
  have HB := Lib.hid h
  have hn : (l.length : Int) ≤ 20000 := by omega
  clear h
  have hcv := fun W (hb : Below w.heap.size w W) => (HB.out.next hb).conv 48 Try.underlying48
  have HH := Lib.hid (each_hands (bs l) (by rw [bs_size]; omega) 8 (by omega))
  rw [bs_toList] at HH
  have LN := items_len l
  have LB : (itemsL l).length ≤ 20001 := by omega
  clear LN
  have AY := Lib.hid (all_yes (l := l) (by omega))
  have AN := Lib.hid (all_no (l := l) (by omega))
  unfold AllPost
  generalize itemsL l = L at HH AY AN LB
  generalize allL l = R at AY AN ⊢
  have hd : decide ((20000 : Int) < (l.length : Int)) = false := by simp; omega
  generalize l.length = n at hcv hn hd ⊢
  have hW : Below w.heap.size w ((((w.alloc (.cells #[.slice none 0 0] 24)).alloc (.cells #[.int .i64 0] 3)).alloc (.cells #[.int .i64 0] 35)).alloc (.cells #[.slice none 0 0] 24)) :=
    ((((Below.refl _ _).alloc (Nat.le_refl _) _).alloc (by simp) _).alloc (by simp; omega) _).alloc (by simp; omega) _
  have hcv1 := hcv _ hW
  clear hcv
  gi_wp2_with fail
  clear hcv1
  have b0 : Boxed ((((w.alloc (.cells #[.slice none 0 0] 24)).alloc (.cells #[.int .i64 0] 3)).alloc (.cells #[.int .i64 0] 35)).alloc (.cells #[.slice none 0 0] 24)) w.heap.size 24 (.slice none 0 0) := (((Boxed.new w 24 (.slice none 0 0)).alloc _).alloc _).alloc _
  have b1 : Boxed ((((w.alloc (.cells #[.slice none 0 0] 24)).alloc (.cells #[.int .i64 0] 3)).alloc (.cells #[.int .i64 0] 35)).alloc (.cells #[.slice none 0 0] 24)) (w.heap.size + 1) 3 (.int .i64 0) := by
    have := (((Boxed.new (w.alloc (.cells #[.slice none 0 0] 24)) 3 (.int .i64 0)).alloc (.cells #[.int .i64 0] 35)).alloc (.cells #[.slice none 0 0] 24))
    simpa using this
  have b2 : Boxed ((((w.alloc (.cells #[.slice none 0 0] 24)).alloc (.cells #[.int .i64 0] 3)).alloc (.cells #[.int .i64 0] 35)).alloc (.cells #[.slice none 0 0] 24)) (w.heap.size + 1 + 1) 35 (.int .i64 0) := by
    have := ((Boxed.new ((w.alloc (.cells #[.slice none 0 0] 24)).alloc (.cells #[.int .i64 0] 3)) 35 (.int .i64 0)).alloc (.cells #[.slice none 0 0] 24))
    simpa using this
  have b3 : Boxed ((((w.alloc (.cells #[.slice none 0 0] 24)).alloc (.cells #[.int .i64 0] 3)).alloc (.cells #[.int .i64 0] 35)).alloc (.cells #[.slice none 0 0] 24)) (w.heap.size + 1 + 1 + 1) 24 (.slice none 0 0) := by
    have := (Boxed.new (((w.alloc (.cells #[.slice none 0 0] 24)).alloc (.cells #[.int .i64 0] 3)).alloc (.cells #[.int .i64 0] 35)) 24 (.slice none 0 0))
    simpa using this
  have hz : ((((w.alloc (.cells #[.slice none 0 0] 24)).alloc (.cells #[.int .i64 0] 3)).alloc (.cells #[.int .i64 0] 35)).alloc (.cells #[.slice none 0 0] 24)).heap.size = w.heap.size + 1 + 1 + 1 + 1 := by simp
  generalize World.alloc _ _ = W0 at b0 b1 b2 b3 hW hz ⊢
  generalize hg1 : w.heap.size + 1 = g1 at b1 b2 b3 hz ⊢
  generalize hg2 : g1 + 1 = g2 at b2 b3 hz ⊢
  generalize hg3 : g2 + 1 = g3 at b3 hz ⊢
  have q1 : w.heap.size < g1 := by omega
  have q2 : g1 < g2 := by omega
  have q3 : g2 < g3 := by omega
  have q4 : g3 < W0.heap.size := by omega
  clear hg1 hg2 hg3 hz
  have I0 : LI w g1 g2 g3 [] W0 := ⟨by simp, ⟨none, 0, b3, town_nil _ _⟩, b0, b1, b2, hW⟩
  clear b0 b1 b2 b3 hW
  refine range_recv (L := L) (encs := encI) (gf := 20) (rv := .string (bs l)) rfl (enters_of Try.func20 (by kernel_rfl) rfl) (fun _ => rfl) HH.out
    (LI w g1 g2 g3) (LX w g1 g2) (LI.own (by omega)) (LX.own (by omega)) I0
    (fun x a' W => ∃ Bx, g3 < Bx ∧ Tok W Bx x.t ∧ a' = { tmps := #[.slice A n c, undef, .pointer (some ⟨w.heap.size, 0, none⟩), .pointer (some ⟨g1, 0, none⟩), .pointer (some ⟨g2, 0, none⟩), .pointer (some ⟨g3, 0, none⟩), .pointer (some ⟨Bx, 0, none⟩), .bool x.ok, .slice A n c, .int .i64 n, .bool false, .slice A n c, .string (bs l), .func (.func 20) #[.string (bs l)] #[], x.t.v, .bool x.ok, undef, undef, undef, undef, undef, undef, undef, undef, undef], defers := [] })
    ?hAx ?assign ?body ?done ?stop
  case hAx =>
    rintro x a' u X Y row ⟨Bx, h1, h2, h3⟩ hg hr
    exact ⟨Bx, h1, tok_cells h2 hg (fun r e => (hr r e).2), h3⟩
  case assign =>
    rintro l0 pre x W K hi hK
    have hlt := (Array.getElem?_eq_some_iff.1 (show W.heap[g3]? = _ from hi.l.choose_spec.choose_spec.1)).1
    rw [show encI x = #[x.t.v, .bool x.ok] from rfl]
    gi_wp2_with fail
    have hb := below_new W (.cells #[.int .i64 x.t.k, .int .i64 x.t.p, .string (bs x.t.s), .int .i64 x.t.n] 32)
    exact hK _ _ ((KeepsOthers.alloc _ _).from _) (OwnFrom.below (LI.own (Nat.le_refl _)) hi hb) ⟨W.heap.size, hlt, Tok.new W x.t, rfl⟩
  case body =>
    rintro l0 pre x a' W hl0 hin hi ⟨Bx, hBx, hT, rfl⟩
    obtain ⟨i0, hi0, hz0, hz1, hz2⟩ := info_parts info32
    obtain ⟨A', c', hbx, hown⟩ := hi.l
    obtain ⟨t0, t1, t2, t3⟩ := hT.cells
    have hlen : pre.length ≤ 20000 := by
      obtain ⟨y, hy⟩ := hin
      have := congrArg List.length hy
      simp at this; omega
    have d0 := hi.r0.cell
    have d1 := hi.r1.cell
    have d2 := hi.r2.cell
    have e0 := hi.r0.frozen
    have e1 := hi.r1.frozen
    have e2 := hi.r2.frozen
    have mixed : Try.prog.follows .mixedOrders = true := by kernel_rfl
    cases hok : x.ok
    · have HO := Lib.hid hok
      clear hok
      simp only [Nat.zero_add] at t0 t1 t2 t3
      have n1 : w.heap.size ≠ g1 := by omega
      have n2 : w.heap.size ≠ g2 := by omega
      have n3 : g1 ≠ g2 := by omega
      have n4 : Bx ≠ w.heap.size := by omega
      have n5 : Bx ≠ g1 := by omega
      have n6 : Bx ≠ g2 := by omega
      gi_wp2_with fail
      gi_region_with_o (fail)
      all_goals gi_wp2_with fail
      all_goals exact lx_end hi q1 (Nat.lt_trans q1 q2) q2 HO.out W0.heap.size
    · have hrow : W.ownsRow w.heap.size 32 4 (.slice A' pre.length c') pre.length (flatT (pre.map (·.t))) := hown
      have HO := Lib.hid hok
      clear hok
      simp only [Nat.zero_add] at t0 t1 t2 t3
      have hcx := hbx.cell
      have hfx := hbx.frozen
      have n7 : g3 ≠ Bx := by omega
      gi_wp2_with (gi_at_builtin; refine wpListIn_append_own _ rfl _ _ 24 rfl w.heap.size 32 i0 (.agg #[.int .i64 0, .int .i64 0, .string ⟨#[]⟩, .int .i64 0]) 4 40 Try.underlying24 hi0 hz0 hz1 hz2 rfl (by decide) _ _ _ rfl (hrow.alloc _) ⟨W.heap.size, 0, none⟩ 1 1 (flatT [x.t]) rfl rfl (cell_tok_new _ _) (flatT_cell x.t) (by unfold maxLen; omega) (by omega) (by have := hi.bel.size; simp; omega) ?_; intro v' w1 hown' hgrow _; obtain ⟨g', cap', rfl⟩ := ownsRow_succ hown'; obtain ⟨hv1, hv2, hr2, hk2, hb2⟩ := hbx.appended (by decide) hrow hi.bel.size (by omega) hown' hgrow; have hc1 := hv1.cell; have hf1 := hv1.frozen)
      exact ⟨hk2.from _, li_next hi hrow hgrow q1 (Nat.lt_trans q1 q2) (Nat.lt_trans q2 q3) q2 HO.out hv2 hr2 hb2⟩
  case done =>
    intro D W hD hi hK
    obtain ⟨A', c', hbx, hown⟩ := hi.l
    have hcx := hbx.cell
    have d0 := hi.r0.cell
    have d1 := hi.r1.cell
    have d2 := hi.r2.cell
    have e0 := hi.r0.frozen
    have e1 := hi.r1.frozen
    have e2 := hi.r2.frozen
    have n1 : w.heap.size ≠ g1 := by omega
    have n2 : w.heap.size ≠ g2 := by omega
    have n3 : g1 ≠ g2 := by omega
    gi_wp2_with fail
    have hR := AY.out (fun x hx => hi.ok x hx)
    have k1 : KeepsOthers W (((W.setCell ⟨w.heap.size, 0, none⟩ (.slice A' L.length c')).setCell ⟨g1, 0, none⟩ (.int .i64 0)).setCell ⟨g2, 0, none⟩ (.int .i64 0)) :=
      ((KeepsOthers.setCell _ _ _).trans (KeepsOthers.setCell _ _ _)).trans (KeepsOthers.setCell _ _ _)
    have hK' := k1.same D _ hK rfl
    have r0 := Boxed.other (Boxed.other (hi.r0.set (.slice A' L.length c')) (by omega : w.heap.size ≠ g1) (.int .i64 0)) (by omega : w.heap.size ≠ g2) (.int .i64 0)
    have r1 := Boxed.other ((Boxed.other hi.r1 (by omega : g1 ≠ w.heap.size) (.slice A' L.length c')).set (.int .i64 0)) (by omega : g1 ≠ g2) (.int .i64 0)
    have r2 := (Boxed.other (Boxed.other hi.r2 (by omega : g2 ≠ w.heap.size) (.slice A' L.length c')) (by omega : g2 ≠ g1) (.int .i64 0)).set (.int .i64 0)
    have hO := ((hown.set hi.r0 (by decide) (.slice A' L.length c')).set (Boxed.other hi.r1 (by omega : g1 ≠ w.heap.size) (.slice A' L.length c')) (by decide) (.int .i64 0)).set (Boxed.other (Boxed.other hi.r2 (by omega : g2 ≠ w.heap.size) (.slice A' L.length c')) (by omega : g2 ≠ g1) (.int .i64 0)) (by decide) (.int .i64 0)
    have hB := ((hi.bel.setCell (p := ⟨w.heap.size, 0, none⟩) (Nat.le_refl _) (.slice A' L.length c')).setCell (p := ⟨g1, 0, none⟩) (by simp; omega) (.int .i64 0)).setCell (p := ⟨g2, 0, none⟩) (by simp; omega) (.int .i64 0)
    generalize World.setCell _ _ _ = WF at hK' r0 r1 r2 hO hB ⊢
    refine ⟨by simp, .inl ⟨_, _, rfl, run_takeDeferred hK', ?_⟩⟩
    have hpt := grownBy_putObj' WF D (.deferred none)
    have hnr : ∀ r, some D = some r → ∃ o : Obj, WF.heap[r]? = some o ∧ o.isCells = false := fun r e => by cases e; exact ⟨_, hK', rfl⟩
    have c0 := (boxed_cells r0 hpt hnr).cell
    have c1 := (boxed_cells r1 hpt hnr).cell
    have c2 := (boxed_cells r2 hpt hnr).cell
    refine ⟨.tuple #[.slice A' L.length c', .int .i64 0, .int .i64 0], by simp [results, Try.results13, go_sem, c0, c1, c2], ?_⟩
    rw [hR]
    refine ⟨A', c', by simp, ?_, hB.trans (belowK_b (w := W0) (by omega) WF D _ _ hD hK' rfl rfl)⟩
    simpa using town_cells hO hpt hnr
  case stop =>
    intro D pre W hD hpre hx hK
    obtain ⟨a, x, rfl, h2, h3, h4⟩ := hx.no
    obtain ⟨rest, hrest⟩ := hpre
    have hR := AN.out a rest x (by rw [← hrest]; simp) h2 h3
    gi_wp2_with fail
    refine ⟨by simp, .inl ⟨_, _, rfl, run_takeDeferred hK, ?_⟩⟩
    have hpt := grownBy_putObj' W D (.deferred none)
    have hnr : ∀ r, some D = some r → ∃ o : Obj, W.heap[r]? = some o ∧ o.isCells = false := fun r e => by cases e; exact ⟨_, hK, rfl⟩
    have c0 := (boxed_cells hx.r0 hpt hnr).cell
    have c1 := (boxed_cells h4 hpt hnr).cell
    have c2 := (boxed_cells hx.r2 hpt hnr).cell
    refine ⟨.tuple #[.slice none 0 0, .int .i64 x.t.p, .int .i64 30], by simp [results, Try.results13, go_sem, c0, c1, c2], ?_⟩
    rw [hR]
    exact ⟨none, 0, rfl, town_nil _ _, hx.bel.trans (belowK_b (w := W0) (by omega) W D _ _ hD hK rfl rfl)⟩
end Go.Proofs.Ythjbmlgjlndihaa
