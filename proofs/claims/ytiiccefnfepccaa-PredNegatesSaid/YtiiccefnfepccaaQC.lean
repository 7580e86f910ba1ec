/- The document's negate: the walk. -/
import Derived.Test.YtiiccefnfepccaaQB
import Derived.Deep.AppendLies
import Derived.Test.YtiiccefnfepccaaYVM
import Derived.Deep.Cut
namespace Go.Proofs.Ytiiccefnfepccaa
set_option maxRecDepth 100000
open Go.RowKit Go.Sort

/-- The document's row of twins. -/
def twins : Array Value := #[.int .i64 0, .int .i64 2, .int .i64 1, .int .i64 0, .int .i64 0, .int .i64 0, .int .i64 0, .int .i64 0, .int .i64 0, .int .i64 0, .int .i64 11, .int .i64 10, .int .i64 0, .int .i64 14, .int .i64 13]
theorem twin_at (k : Int) (h0 : 1 ≤ k) (h1 : k ≤ 14) (w : World) : (w.alloc (.cells twins 3)).cell? ⟨w.heap.size, k.toNat, none⟩ = some (.int .i64 (opp k)) := by
  rw [World.cell?_alloc_at _ _ _ _ rfl]
  obtain h | h | h | h | h | h | h | h | h | h | h | h | h | h : k = 1 ∨ k = 2 ∨ k = 3 ∨ k = 4 ∨ k = 5 ∨ k = 6 ∨ k = 7 ∨ k = 8 ∨ k = 9 ∨ k = 10 ∨ k = 11 ∨ k = 12 ∨ k = 13 ∨ k = 14 := by omega
  all_goals
    subst h
    rfl


theorem append_lieP {w : World} {ops : Array Oper} {rest : List Oper} {o : Oper} {a : Act} {Q : Exit → Act → World → Prop} (hgd : o.guard = none) (s x : Operand)
    (ho : o.op = .call { callee := .builtin .append, args := #[s, x], argTypes := #[23, 23] })
    (base : Nat) {A : Option Addr} {n c : Nat} {l : List Pt} (hown : POwn w base A n c l) (hs : a.eval s = .slice A n c)
    {g cx : Nat} {y : Pt} (hx : a.eval x = .slice (some ⟨g, 0, none⟩) 1 cx) (hc : CellsAt w g 0 [y]) (hlen : n + 1 ≤ 2513169434843) (hbase : base ≤ w.heap.size)
    (h : ∀ g' c' w', POwn w' base (some ⟨g', 0, none⟩) (n + 1) c' (l ++ [y]) → w.grownBy w' (Value.ownBlock (.slice A n c)) → (Value.ownBlock (.slice A n c) = some g' ∨ g' = w.heap.size) → g' < w'.heap.size → wpList Try.prog ops Q rest (a.put o.dst (.slice (some ⟨g', 0, none⟩) (n + 1) c')) w') : wpList Try.prog ops Q (o :: rest) a w := by
  obtain ⟨i0, hi, hz0, hz1, hz2⟩ := info_parts info25
  refine wpList_append_lies w hgd s x 23 ho base 25 i0 _ 3 56 Try.underlying23 hi hz0 hz1 hz2 rfl (by decide) _ _ _ hs hown ⟨g, 0, none⟩ 1 cx (flatP [y]) hx (flatP_len [y]) (flatP_cell hc) (fun u hu => flatP_one hu) (by omega) (by unfold maxLen; omega) (by omega) hbase w.heap.size rfl ?_
  intro g' c' w' h1 h2 h3 h4
  exact h g' c' w' (by unfold POwn; rw [flatP_app]; exact h1) h2 h3 h4
/-- A negated one, as it is handed on; and in a block of its own. -/
def IsNeg (B lo d : Nat) (t : P) : Value → World → Prop := fun v w => ∃ (y : Pt) (S : Nat → Prop), v = y.val ∧ y.t = t ∧ PdS w B S d y.t y.A y.c y.A' y.c' ∧ (∀ b, S b → lo ≤ b ∧ b < w.heap.size) ∧ B ≤ w.heap.size
theorem pds_next {a b : World} {B d : Nat} {S : Nat → Prop} {t : P} {A : Option Addr} {c : Nat} {A' : Option Addr} {c' : Nat} (hB : B ≤ a.heap.size) (hb : Below a.heap.size a b) (h : PdS a B S d t A c A' c') : PdS b B S d t A c A' c' :=
  PdS.keep hb.size (fun k hk => hb.block k (by omega)) (fun k _ hk => hb.block k hk) (fun _ h => h) (Nat.le_refl _) h
theorem IsNeg.stays (B lo d : Nat) (t : P) : Stays (IsNeg B lo d t) := fun _ _ _ ⟨y, S, e, ht, hp, hS, hB⟩ hb => ⟨y, S, e, ht, pds_next hB hb hp, fun b h => ⟨(hS b h).1, Nat.lt_of_lt_of_le (hS b h).2 hb.size⟩, Nat.le_trans hB hb.size⟩
def IsNegRow (B lo d : Nat) (t : P) : Value → World → Prop := fun v w => ∃ (g : Nat) (y : Pt) (S : Nat → Prop), v = .slice (some ⟨g, 0, none⟩) 1 1 ∧ g < w.heap.size ∧ CellsAt w g 0 [y] ∧ y.t = t ∧ PdS w B S d y.t y.A y.c y.A' y.c' ∧ (∀ b, S b → lo ≤ b ∧ b < w.heap.size) ∧ B ≤ w.heap.size
theorem IsNegRow.stays (B lo d : Nat) (t : P) : Stays (IsNegRow B lo d t) := fun _ _ _ ⟨g, y, S, e, hg, hc, ht, hp, hS, hB⟩ hb =>
  ⟨g, y, S, e, Nat.lt_of_lt_of_le hg hb.size, fun j x hj => (hc j x hj).keep (Kept.of_below hb (Nat.le_refl _)) (Nat.zero_le _) hg, ht, pds_next hB hb hp, fun b h => ⟨(hS b h).1, Nat.lt_of_lt_of_le (hS b h).2 hb.size⟩, Nat.le_trans hB hb.size⟩
/-- append of one predicate, at a step of a region that draws its order. -/
theorem step_append_P {ops : Array Oper} {o : Oper} {a : Act} {W : World} {K : Act → World → Prop} {Q : Exit → Act → World → Prop} {E : Prop} (hgd : o.guard = none) (s x : Operand)
    (ho : o.op = .call { callee := .builtin .append, args := #[s, x], argTypes := #[23, 23] })
    (base : Nat) {A : Option Addr} {n c : Nat} {l : List Pt} (hown : POwn W base A n c l) (hs : a.eval s = .slice A n c)
    {g cx : Nat} {y : Pt} (hx : a.eval x = .slice (some ⟨g, 0, none⟩) 1 cx) (hc : CellsAt W g 0 [y]) (hlen : n + 1 ≤ 2513169434843) (hbase : base ≤ W.heap.size)
    (h : ∀ g' c' w', POwn w' base (some ⟨g', 0, none⟩) (n + 1) c' (l ++ [y]) → W.grownBy w' (Value.ownBlock (.slice A n c)) → (Value.ownBlock (.slice A n c) = some g' ∨ g' = W.heap.size) → g' < w'.heap.size → K (a.put o.dst (.slice (some ⟨g', 0, none⟩) (n + 1) c')) w') :
    if Region.wanted o (yielded ops a.tmps) = true then Oper.wp Try.prog o a W K Q else E := by
  obtain ⟨i0, hi, hz0, hz1, hz2⟩ := info_parts info25
  refine step_append_lies W hgd s x 23 ho base 25 i0 _ 3 56 Try.underlying23 hi hz0 hz1 hz2 rfl (by decide) _ _ _ hs hown ⟨g, 0, none⟩ 1 cx (flatP [y]) hx (flatP_len [y]) (flatP_cell hc) (fun u hu => flatP_one hu) (by omega) (by unfold maxLen; omega) (by omega) hbase W.heap.size rfl ?_
  intro g' c' w' h1 h2 h3 h4
  exact h g' c' w' (by unfold POwn; rw [flatP_app]; exact h1) h2 h3 h4
theorem opp_rng (k : Int) : -9223372036854775808 ≤ opp k ∧ opp k ≤ 9223372036854775807 := by
  unfold opp
  repeat' split
  all_goals omega
theorem no_preds {t : P} (h : fitsP t = true) (hk : t.k = 1 ∨ t.k = 2 ∨ t.k = 10 ∨ t.k = 11) : t.p = [] := by
  refine List.eq_nil_of_length_eq_zero ?_
  unfold fitsP fitsN at h
  by_cases q : t.k ≤ 6
  · rw [if_pos (by omega)] at h
    simp at h; simp [h.2]
  · rw [if_neg (by omega), if_neg (by omega), if_pos (by omega)] at h
    simp at h; simp [h.2]
theorem no_vals {t : P} (h : fitsP t = true) (hk : t.k = 13 ∨ t.k = 14) : t.v = [] := by
  refine List.eq_nil_of_length_eq_zero ?_
  unfold fitsP fitsN at h
  rw [if_neg (by omega), if_neg (by omega), if_neg (by omega), if_neg (by omega), if_pos (by omega)] at h
  simp at h; simp [h.1]
theorem POwn.keepOn {w w' : World} {base n c : Nat} {A : Option Addr} {l : List Pt} (h : POwn w base A n c l) (hk : ∀ b, base ≤ b → b < w.heap.size → w'.heap[b]? = w.heap[b]?) (_hs : w'.heap.size = w.heap.size) : POwn w' base A n c l := by
  refine ⟨h.1, ?_⟩
  rcases h.2 with e | ⟨g', cap, cur, e, h1, h2, h3⟩
  · exact .inl e
  · exact .inr ⟨g', cap, cur, e, h1, (hk g' h1 (Array.getElem?_eq_some_iff.1 h2).1).trans h2, h3⟩
theorem bF_low {wr F : World} {g : Nat} (h : ∀ B w0, B ≤ g → Below B w0 wr → Below B w0 F) {b : Nat} (_hb : b ≠ g) (hlt : b < g) : F.heap[b]? = wr.heap[b]? := (h g wr (Nat.le_refl _) (Below.refl _ _)).block b hlt
theorem CellP.set2 {w : World} {g : Nat} {v0 v1 v2 : Value} (h : CellP w g v0 v1 v2) (u : Value) : CellP (w.setCell ⟨g, 2, none⟩ u) g v0 v1 u := by
  have c0 := h.c0
  have c1 := h.c1
  have c2 := h.c2
  have f0 := h.f0
  have f1 := h.f1
  have f2 := h.f2
  refine ⟨?_, ?_, ?_, ?_, ?_, ?_, h.blk.set _ _ rfl⟩
  · simp [go_sem, c0]
  · simp [go_sem, c1]
  · simp [go_sem, c2]
  · simpa [go_sem] using f0
  · simpa [go_sem] using f1
  · simpa [go_sem] using f2
theorem POwn.set_low {w : World} {base n c : Nat} {A : Option Addr} {l : List Pt} (h : POwn w base A n c l) {p : Addr} (hp : p.block < base) (u : Value) : POwn (w.setCell p u) base A n c l := by
  refine ⟨h.1, ?_⟩
  rcases h.2 with e | ⟨g', cap, cur, e, h1, h2, h3⟩
  · exact .inl e
  · exact .inr ⟨g', cap, cur, e, h1, (Below.heap_setCell _ _ _ _ (by omega)).trans h2, h3⟩
section
variable {wr wf w9 : World} {go B k c2 d : Nat} {A2 : Option Addr} {bk : List Pt} {S S1 : Nat → Prop}
theorem neg_all {y : Pt} {u : Value} (hgo : go < wr.heap.size) (hj : Below wr.heap.size wr wf) (hO : POwn wr (go + 1) A2 k c2 bk) (hg : wf.grownBy w9 (Value.ownBlock (.slice A2 k c2))) (hI : ∀ q ∈ bk, PdS wr B S d q.t q.A q.c q.A' q.c')
    (hS : ∀ b, S b → go < b ∧ b < wr.heap.size ∧ Value.ownBlock (.slice A2 k c2) ≠ some b) (hy : PdS wf B S1 d y.t y.A y.c y.A' y.c') (hS1 : ∀ b, S1 b → wr.heap.size ≤ b ∧ b < wf.heap.size) (hB : B ≤ go) :
    ∀ q ∈ bk ++ [y], PdS (w9.setCell ⟨go, 2, none⟩ u) B (fun b => S b ∨ S1 b) d q.t q.A q.c q.A' q.c' := by
  have hown := fun b (h : Value.ownBlock (.slice A2 k c2) = some b) => World.ownsRow.lt hO b h
  have s1 := hj.size
  have s2 := hg.size
  have sz : (w9.setCell ⟨go, 2, none⟩ u).heap.size = w9.heap.size := by simp [World.setCell]
  have step : ∀ b, b < wf.heap.size → b ≠ go → some b ≠ Value.ownBlock (.slice A2 k c2) → (w9.setCell ⟨go, 2, none⟩ u).heap[b]? = wf.heap[b]? := fun b hb hne hno => (Below.heap_setCell _ _ _ _ (by show b ≠ go; exact hne)).trans (hg.block b hb hno)
  intro q hq
  rcases List.mem_append.1 hq with hq | hq
  · refine PdS.keep (by omega) (fun b hb => ?_) (fun b hb _ => ?_) (fun b h => .inl h) (Nat.le_refl _) (hI q hq)
    · exact (step b (by omega) (by omega) (fun e => by have := hown b e.symm; omega)).trans (hj.block b (by omega))
    · have h := hS b hb
      exact (step b (by omega) (by omega) (fun e => h.2.2 e.symm)).trans (hj.block b (by omega))
  · rw [List.mem_singleton.1 hq]
    refine PdS.keep (by omega) (fun b hb => ?_) (fun b hb _ => ?_) (fun b h => .inr h) (Nat.le_refl _) hy
    · exact step b (by omega) (by omega) (fun e => by have := hown b e.symm; omega)
    · have h := hS1 b hb
      exact step b h.2 (by omega) (fun e => by have := hown b e.symm; omega)
theorem neg_sets {gn cn : Nat} {u : Value} (hgo : go < wr.heap.size) (hj : Below wr.heap.size wr wf) (hO : POwn wr (go + 1) A2 k c2 bk) (hg : wf.grownBy w9 (Value.ownBlock (.slice A2 k c2))) (hl : Value.ownBlock (.slice A2 k c2) = some gn ∨ gn = wf.heap.size) (_hlt : gn < w9.heap.size)
    (hS : ∀ b, S b → go < b ∧ b < wr.heap.size ∧ Value.ownBlock (.slice A2 k c2) ≠ some b) (hS1 : ∀ b, S1 b → wr.heap.size ≤ b ∧ b < wf.heap.size) :
    ∀ b, (S b ∨ S1 b) → go < b ∧ b < (w9.setCell ⟨go, 2, none⟩ u).heap.size ∧ Value.ownBlock (.slice (some ⟨gn, 0, none⟩) (k + 1) cn) ≠ some b := by
  have hown := fun b (h : Value.ownBlock (.slice A2 k c2) = some b) => World.ownsRow.lt hO b h
  have s1 := hj.size
  have s2 := hg.size
  have sz : (w9.setCell ⟨go, 2, none⟩ u).heap.size = w9.heap.size := by simp [World.setCell]
  intro b hb
  rcases hb with hb | hb
  · have h := hS b hb
    refine ⟨h.1, by omega, fun e => ?_⟩
    have e' : gn = b := by injection e
    subst e'
    rcases hl with e1 | e1
    · exact h.2.2 e1
    · omega
  · have h := hS1 b hb
    refine ⟨by omega, by omega, fun e => ?_⟩
    have e' : gn = b := by injection e
    subst e'
    rcases hl with e1 | e1
    · have := hown gn e1; omega
    · omega
theorem neg_bel {wc : World} {u : Value} (hgo : go < wr.heap.size) (h : Below go wc wr) (hj : Below wr.heap.size wr wf) (hO : POwn wr (go + 1) A2 k c2 bk) (hg : wf.grownBy w9 (Value.ownBlock (.slice A2 k c2))) : Below go wc (w9.setCell ⟨go, 2, none⟩ u) := by
  have hown := fun b (h : Value.ownBlock (.slice A2 k c2) = some b) => World.ownsRow.lt hO b h
  have hb : Below go wf w9 := ⟨hg.os, hg.tape, hg.output, hg.size, fun k hk => hg.block k (by have := hj.size; omega) (fun e => by have := hown k e.symm; omega)⟩
  exact ((h.trans (hj.mono (by omega))).trans hb).setCell (p := ⟨go, 2, none⟩) (Nat.le_refl _) u
end
theorem grown_cell {X w9 : World} {go n c : Nat} {v0 v1 v2 : Value} {A : Option Addr} {l : List Pt} (h : CellP X go v0 v1 v2) (ho : POwn X (go + 1) A n c l) (hg : X.grownBy w9 (Value.ownBlock (.slice A n c))) (_u : go < X.heap.size ∨ True) : CellP w9 go v0 v1 v2 :=
  h.kept (hg.block go h.blk.lt (fun e => by have := (World.ownsRow.lt ho go e.symm).1; omega))
def ngD : Nat → Tmp := fun j => [37, 38, 39, 40, 41, 42, 43, 44, 45, 46, 47, 0].getD j 0
def ngE : Nat → List Nat := fun j => [[], [0], [], [2], [], [3, 4], [5], [6], [7], [], [], []].getD j []
def NegR (r : Nat) : Prop := ∀ (w : World) (d : Nat) (x : Pt) (B : Nat), okP r x.t = true → Pd w 0 B d x.t x.A x.c x.A' x.c' → B ≤ w.heap.size → Calls Try.prog 34 #[x.val] w (NegPost w B (d + r + 1) (negP r x.t))
theorem opp_zero {k : Int} (h : opp k = 0) : ¬(k = 1 ∨ k = 2 ∨ k = 10 ∨ k = 11) ∧ ¬(k = 13 ∨ k = 14) := by
  unfold opp at h
  repeat' split at h
  all_goals first | omega | cases h
theorem opp_not {k : Int} (_h1 : 1 ≤ k ∧ k ≤ 14) (_h12 : k ≠ 12) (h : opp k ≠ 0) : (k = 1 ∨ k = 2 ∨ k = 10 ∨ k = 11) ∨ (k = 13 ∨ k = 14) := by
  refine Classical.byContradiction (fun q => h ?_)
  unfold opp
  repeat (rw [if_neg (by omega)])

set_option maxHeartbeats 12800000 in
theorem negR_succ (r : Nat) (ih : NegR r) : NegR (r + 1) := by
  intro w d x B hok hx hBw
  obtain ⟨d', rfl⟩ := hx.pos
  obtain ⟨n, rv⟩ := hx.2.1
  have RV := Lib.hid rv
  have RP := Lib.hid hx.2.2
  have HX := Lib.hid hx
  have HBW := Lib.hid hBw
  have hok' : fitsP x.t = true ∧ x.t.v.all (okV 12) = true ∧ x.t.p.all (okP r) = true := by simpa [okP, and_assoc] using hok
  have OP := Lib.hid (show ∀ z ∈ x.t.p, okP r z = true from List.all_eq_true.1 hok'.2.2)
  have FK := Lib.hid (fits_kind hok'.1)
  have FS := Lib.hid hok'.1
  have IH := Lib.hid ih
  clear hx hok hok' rv ih
  unfold Pt.val
  go_enter Try.func34, Try.ntmps34
  go_upto_region 1 with fail
  generalize hY : World.alloc (World.alloc _ _) _ = Y
  obtain ⟨k1, k2, hz, hbY⟩ := boxesR _ _ _ _ _ _ hY
  have K1 := Lib.hid k1
  have K2 := Lib.hid k2
  have HB := Lib.hid hbY
  have hzz : w.heap.size + 1 < Y.heap.size := by rw [hz]; omega
  clear hz hY hbY k1 k2
  go_upto_region 2 with fail
  have z1 := below_new Y (.cells twins 3)
  have tw := twin_at x.t.k FK.out.1 FK.out.2 Y
  have k3 := K1.out.next z1
  have k4 := K2.out.next z1
  have h3 := bnext HB.out z1
  have s1 := size_alloc Y (.cells twins 3)
  obtain ⟨Y1, hY1⟩ : ∃ Y1, Y1 = Y.alloc (.cells twins 3) := ⟨_, rfl⟩
  rw [← hY1] at z1 tw k3 k4 h3 s1
  rw [show Y.alloc (.cells #[.int .i64 0, .int .i64 2, .int .i64 1, .int .i64 0, .int .i64 0, .int .i64 0, .int .i64 0, .int .i64 0, .int .i64 0, .int .i64 0, .int .i64 11, .int .i64 10, .int .i64 0, .int .i64 14, .int .i64 13] 3) = Y1 from hY1.symm]
  clear hY1
  have K3 := Lib.hid k3
  have K4 := Lib.hid k4
  have H3 := Lib.hid h3
  have S1 := Lib.hid s1
  have hz4 : w.heap.size + 1 < Y1.heap.size := by rw [s1]; omega
  have l0 : w.heap.size < Y1.heap.size := by omega
  have l1 : Y.heap.size < Y1.heap.size := by omega
  have e0 : ¬ w.heap.size = Y1.heap.size := by omega
  have e1 : ¬ Y.heap.size = Y1.heap.size := by omega
  clear z1 k3 k4 h3 s1 K1 K2 HB hzz
  obtain ⟨a0, a1, _, _⟩ := K3.out
  have i0 : (0 : Int) ≤ x.t.k := by have := FK.out; omega
  have i1 : x.t.k < 15 := by have := FK.out; omega
  go_cut [4] from 7 (fun s4 wx => s4 = .pointer (some ⟨Y1.heap.size, 0, none⟩) ∧ CellP wx Y1.heap.size (.int .i64 (opp x.t.k)) (.slice x.A x.t.v.length x.c) (.slice none 0 0) ∧ Below Y1.heap.size Y1 wx)
  case first =>
    go_region_with fail
    all_goals
      go_wp2_with fail
      go_meet
      exact ⟨rfl, CellP.kept (CellP.new Y1 _ _ _) rfl, (below_new Y1 _).drew⟩
  case rest =>
    obtain ⟨rfl, kc, hbc⟩ := hcut
    have KC := Lib.hid kc
    have P4 := Lib.hid (K3.out.next hbc)
    have R4 := Lib.hid (K4.out.next hbc)
    have HC := Lib.hid (bnext H3.out hbc)
    have hgo : w.heap.size + 1 < Y1.heap.size := hz4
    have hgc : Y1.heap.size < wc.heap.size := kc.blk.lt
    clear kc hbc a0 a1 i0 i1 tw e0 e1 l0 l1 hz4 K3 K4 H3 S1
    generalize Y1.heap.size = go at *
    have KEEP : ∀ {W : World} {t : P} {A : Option Addr} {c : Nat} {A' : Option Addr} {c' dd dm : Nat}, Below w.heap.size w W → Pd w 0 B dd t A c A' c' → dd ≤ dm → PdS W B (fun _ => False) dm t A c A' c' := fun hW h hd =>
      PdS.of (Nat.le_trans HBW.out hW.size) (Pd.imp (Kept.of_below hW HBW.out) (Nat.le_refl _) (Nat.le_refl _) hd h)
    by_cases h12 : x.t.k = 12
    · have n12 : (x.t.k == 12) = true := beq_iff_eq.2 h12
      have hlen : 0 < x.t.p.length := one_pred FS.out h12
      obtain ⟨b, off, z, eA, _, hb, hz, q, rz⟩ := RP.out.elem (k := 0) hlen
      have FIN := Lib.hid (show negP (r + 1) x.t = z.t by rw [negP, if_neg (by omega), if_neg (by omega), if_pos h12, headD_at hz])
      have q' := q.keep (Kept.of_below HC.out (Nat.le_refl _)) (Nat.zero_le _) (Nat.lt_of_lt_of_le hb HBW.out)
      simp only [Nat.zero_mul, Nat.add_zero] at q'
      obtain ⟨q0, q1, q2⟩ := q'
      obtain ⟨a0, a1, a2, _⟩ := P4.out
      obtain ⟨s0, s1, s2, p0, p1, p2, hblk⟩ := R4.out
      have HR := Lib.hid (ret_boxP hblk (.int .i64 z.t.k) (.slice z.A z.t.v.length z.c) (.slice z.A' z.t.p.length z.c'))
      have h01 : (0 : Int) < (x.t.p.length : Int) := by omega
      rw [eA] at a2
      have RZ := Lib.hid rz
      clear h12 eA hz q rz hblk
      go_wp2
      obtain ⟨F, hF, ⟨r0, r1, r2, _⟩, hk, hs, hbel⟩ := HR.out
      rw [← hF]
      clear hF
      rw [FIN.out]
      have bF := hbel w.heap.size w (by omega) HC.out
      exact bodyPost_ret (v := z.val) (by simp [results, Try.results34, go_sem, r0, r1, r2]) rfl ⟨z, fun _ => False, rfl, rfl, KEEP bF RZ.out (by omega), (fun _ h => h.elim), bF⟩
    · have n12 : (x.t.k == 12) = false := beq_eq_false_iff_ne.2 h12
      by_cases h0 : opp x.t.k = 0
      · have no := opp_zero h0
        have n0 : (opp x.t.k == 0) = true := beq_iff_eq.2 h0
        have FIN := Lib.hid (show negP (r + 1) x.t = .mk 12 [] [x.t] by rw [negP, if_neg no.1, if_neg no.2, if_neg h12])
        obtain ⟨a0, a1, a2, _⟩ := P4.out
        obtain ⟨c0, c1, c2, _⟩ := KC.out
        obtain ⟨s0, s1, s2, p0, p1, p2, hblk⟩ := R4.out
        have HR := Lib.hid (ret_boxP hblk (.int .i64 12) (.slice none 0 0) (.slice (some ⟨wc.heap.size, 0, none⟩) 1 1))
        clear h12 h0 no hblk
        have hzc : w.heap.size + 1 < wc.heap.size := by omega
        have hze : ¬ w.heap.size + 1 = wc.heap.size := by omega
        go_wp2
        obtain ⟨F, hF, ⟨r0, r1, r2, _⟩, hk, hs, hbel⟩ := HR.out
        rw [← hF]
        clear hF
        rw [FIN.out]
        have bF := hbel w.heap.size w (by omega) HC.out
        have hn := below_new F (.cells #[.int .i64 x.t.k, .slice x.A x.t.v.length x.c, .slice x.A' x.t.p.length x.c'] 25)
        have cn := BP.new F x
        have hgF : w.heap.size + 1 < F.heap.size := by omega
        replace r0 := cell_below hn r0 hgF
        replace r1 := cell_below hn r1 hgF
        replace r2 := cell_below hn r2 hgF
        rw [← hs] at r2
        have bG := bnext bF hn
        have hsz := size_alloc F (.cells #[.int .i64 x.t.k, .slice x.A x.t.v.length x.c, .slice x.A' x.t.p.length x.c'] 25)
        refine bodyPost_ret (v := pl (.mk 12 [] [x.t]) none 0 (some ⟨F.heap.size, 0, none⟩) 1) (by simp [results, Try.results34, go_sem, r0, r1, r2]; exact ⟨rfl, rfl, rfl⟩) rfl ⟨⟨.mk 12 [] [x.t], none, 0, some ⟨F.heap.size, 0, none⟩, 1⟩, fun b => b = F.heap.size, rfl, rfl, ?_, (fun b h => by subst h; have := bF.size; omega), bG⟩
        refine PdS.keep (d := d' + 1 + 1) (S := fun b => b = F.heap.size) (c' := 1) (c := 0) (A := none) (A' := some ⟨F.heap.size, 0, none⟩) (t := .mk 12 [] [x.t]) (Nat.le_refl _) (fun _ _ => rfl) (fun _ _ _ => rfl) (fun _ h => h) (by omega) ⟨⟨by show (-9223372036854775808 : Int) ≤ 12; omega, by show (12 : Int) ≤ 9223372036854775807; omega⟩, ⟨0, rw_nil _ _ _ _⟩, ⟨by simp [P.p], by unfold maxLen; omega, by simp [P.p], fun e => by cases e⟩, fun _ => ⟨F.heap.size, 0, rfl, by omega, .inr rfl, fun j u hj => ?_⟩⟩
        match j, hj with
        | 0, hj =>
          injection hj with hj
          subst hj
          refine ⟨x.A, x.c, x.A', x.c', ⟨cn.c0, cn.c1, cn.c2⟩, ?_⟩
          exact PdS.keep (Nat.le_refl _) (fun _ _ => rfl) (fun _ _ _ => rfl) (fun _ h => h.elim) (Nat.le_refl _) (KEEP bG HX.out (Nat.le_refl _))
      · have ne := opp_not FK.out h12 h0
        have n0 : (opp x.t.k == 0) = false := beq_eq_false_iff_ne.2 h0
        have HBIG := Lib.hid (RP.out.big)
        have hbig := RP.out.big
        obtain ⟨a0, a1, a2, _⟩ := P4.out
        obtain ⟨c0, c1, c2, _⟩ := KC.out
        go_upto_region 8 with fail
        clear a0 a1 a2 c0 c1 c2
        go_wp2
        go_loopw [6] (fun i wr => ∃ (k : Nat) (A2 : Option Addr) (c2 : Nat) (bk : List Pt) (S : Nat → Prop), k ≤ x.t.p.length ∧ i = .int .i64 k ∧ Hid (CellP wr go (.int .i64 (opp x.t.k)) (.slice x.A x.t.v.length x.c) (.slice A2 k c2)) ∧ Hid (POwn wr (go + 1) A2 k c2 bk) ∧ Hid (∀ q ∈ bk, PdS wr B S (d' + r + 1) q.t q.A q.c q.A' q.c') ∧ Hid (∀ b, S b → go < b ∧ b < wr.heap.size ∧ Value.ownBlock (.slice A2 k c2) ≠ some b) ∧ Hid (bk.map (·.t) = (x.t.p.take k).map (negP r)) ∧ Hid (Below go wc wr)) (fun i _ => x.t.p.length - (intOf i).toNat)
        case atStart => exact ⟨0, none, 0, [], fun _ => False, by omega, rfl, KC, Lib.hid (pown_nil _ _), Lib.hid (by intro q hq; cases hq), Lib.hid (by intro b h; exact h.elim), Lib.hid (by simp), Lib.hid (Below.refl _ _)⟩
        case round =>
          obtain ⟨k, A2, c2, bk, S, hk, rfl, hC, hO, hI, hS, hM, hbel⟩ := hrel
          have HW := Lib.hid (show Below w.heap.size w wr from HC.out.trans (hbel.out.mono (by omega)))
          have hgr : go < wr.heap.size := hC.out.blk.lt
          obtain ⟨a0, a1, a2, _⟩ : BP wr w.heap.size x := ⟨(hbel.out.cell (show w.heap.size < go by omega)).trans P4.out.c0, (hbel.out.cell (show w.heap.size < go by omega)).trans P4.out.c1, (hbel.out.cell (show w.heap.size < go by omega)).trans P4.out.c2, by omega⟩
          by_cases hlt : k < x.t.p.length
          · obtain ⟨b, off, z, eA, _, hb, hz, q, rz⟩ := RP.out.elem hlt
            have q' := q.keep (Kept.of_below HW.out (Nat.le_refl _)) (Nat.zero_le _) (Nat.lt_of_lt_of_le hb HBW.out)
            obtain ⟨q0, q1, q2⟩ := q'
            have TN := Lib.hid (take_map_next (negP r) x.t.p k hz)
            have NG := Lib.hid (fun (X : World) (hX : Below wr.heap.size wr X) => IH.out X d' z B (OP.out _ (List.mem_of_getElem? hz)) (Pd.imp (Kept.of_below ((bnext HW.out hX)) HBW.out) (Nat.le_refl _) (Nat.le_refl _) (Nat.le_refl _) rz) (Nat.le_trans HBW.out (bnext HW.out hX).size))
            have HQ := Lib.hid (show cells3 wr b (off + k * 3) z.t z.A z.c z.A' z.c' from ⟨q0, q1, q2⟩)
            have HBR := Lib.hid (show b < wr.heap.size from Nat.lt_of_lt_of_le hb (Nat.le_trans HBW.out HW.out.size))
            have HP := Lib.hid (show BP wr w.heap.size x from ⟨a0, a1, a2, by omega⟩)
            have EA := Lib.hid eA
            have hklen : k + 1 ≤ 2513169434843 := by omega
            clear q hz rz eA q0 q1 q2
            go_upto_region 11 with fail
            clear a0 a1 a2
            refine region_phase [0, 1, 2, 3, 4, 5, 6, 7, 8] [] ngD ngE 9 (fun w' => Below wr.heap.size wr w') (saidOf [Is (.pointer (some ⟨go, 2, none⟩)), Is (.slice A2 k c2), Is (.pointer (some ⟨w.heap.size, 2, none⟩)), Is (.slice (some ⟨b, off, none⟩) x.t.p.length x.c'), Is (.int .i64 (k : Int)), Is (.pointer (some ⟨b, off + k * 3, none⟩)), Is (z.val), IsNeg B wr.heap.size (d' + r + 1) (negP r z.t), IsNegRow B wr.heap.size (d' + r + 1) (negP r z.t), fun _ _ => True, fun _ _ => True, fun _ _ => True]) 49 (by rfl) (by kernel_rfl) (by kernel_rfl) (fun _ _ h hb => bnext h hb) (stays_said _ (stays_cons (Is.stays _) (stays_cons (Is.stays _) (stays_cons (Is.stays _) (stays_cons (Is.stays _) (stays_cons (Is.stays _) (stays_cons (Is.stays _) (stays_cons (Is.stays _) (stays_cons (IsNeg.stays _ _ _ _) (stays_cons (IsNegRow.stays _ _ _ _) (stays_cons (fun _ _ _ _ _ => trivial) (stays_cons (fun _ _ _ _ _ => trivial) (stays_cons (fun _ _ _ _ _ => trivial) stays_nil))))))))))))) (below_drewN _ _ 1) (by kernel_rfl) ?_ ?_
            · skip
              refine owes_cons (Owes.mk (o := ({ dst := some 37, op := .fieldAddr 25 (.tmp 4) 2, type := 0, pos := "ref.go:138", after := #[], guard := none } : Oper)) rfl (fun v wk hj hD K hK => ?_)) ?_
              · simp only [ngD, ngE, putAll, Act.put, List.getD_cons_zero, List.setIfInBounds_toArray, List.set_cons_zero, List.set_cons_succ] at hK ⊢
                go_simp
                exact hK.out _ _ (Below.refl _ _) rfl
              refine owes_cons (Owes.mk (o := ({ dst := some 38, op := .load 23 (.tmp 37), type := 23, pos := "ref.go:138", after := #[{ on := 0, ground := .data }], guard := none } : Oper)) rfl (fun v wk hj hD K hK => ?_)) ?_
              · have h0 : v 0 = (.pointer (some ⟨go, 2, none⟩)) := hD 0 (by decide)
                simp only [ngD, ngE, putAll, Act.put, List.getD_cons_succ, List.getD_cons_zero, List.setIfInBounds_toArray, List.set_cons_zero, List.set_cons_succ, h0] at hK ⊢
                obtain ⟨g0, g1, g2, _⟩ := hC.out.next hj
                go_simp
                exact hK.out _ _ (Below.refl _ _) rfl
              refine owes_cons (Owes.mk (o := ({ dst := some 39, op := .fieldAddr 25 (.tmp 1) 2, type := 0, pos := "ref.go:138", after := #[], guard := none } : Oper)) rfl (fun v wk hj hD K hK => ?_)) ?_
              · simp only [ngD, ngE, putAll, Act.put, List.getD_cons_succ, List.getD_cons_zero, List.setIfInBounds_toArray, List.set_cons_zero, List.set_cons_succ] at hK ⊢
                go_simp
                exact hK.out _ _ (Below.refl _ _) rfl
              refine owes_cons (Owes.mk (o := ({ dst := some 40, op := .load 23 (.tmp 39), type := 23, pos := "ref.go:138", after := #[{ on := 2, ground := .data }], guard := none } : Oper)) rfl (fun v wk hj hD K hK => ?_)) ?_
              · have h2 : v 2 = (.pointer (some ⟨w.heap.size, 2, none⟩)) := hD 2 (by decide)
                simp only [ngD, ngE, putAll, Act.put, List.getD_cons_succ, List.getD_cons_zero, List.setIfInBounds_toArray, List.set_cons_zero, List.set_cons_succ, h2] at hK ⊢
                obtain ⟨a0, a1, a2, _⟩ := HP.out.next hj
                rw [EA.out] at a2
                go_simp
                exact hK.out _ _ (Below.refl _ _) rfl
              refine owes_cons (Owes.mk (o := ({ dst := some 41, op := .move (.tmp 6), type := 3, pos := "ref.go:138", after := #[], guard := none } : Oper)) rfl (fun v wk hj hD K hK => ?_)) ?_
              · simp only [ngD, ngE, putAll, Act.put, List.getD_cons_succ, List.getD_cons_zero, List.setIfInBounds_toArray, List.set_cons_zero, List.set_cons_succ] at hK ⊢
                go_simp
                exact hK.out _ _ (Below.refl _ _) rfl
              refine owes_cons (Owes.mk (o := ({ dst := some 42, op := .indexAddr 23 (.tmp 40) (.tmp 41), type := 0, pos := "ref.go:138", after := #[{ on := 3, ground := .data }, { on := 4, ground := .data }], guard := none } : Oper)) rfl (fun v wk hj hD K hK => ?_)) ?_
              · have h3 : v 3 = (.slice (some ⟨b, off, none⟩) x.t.p.length x.c') := hD 3 (by decide)
                have h4 : v 4 = (.int .i64 (k : Int)) := hD 4 (by decide)
                simp only [ngD, ngE, putAll, Act.put, List.getD_cons_succ, List.getD_cons_zero, List.setIfInBounds_toArray, List.set_cons_zero, List.set_cons_succ, h3, h4] at hK ⊢
                have i0 : (0 : Int) ≤ (k : Int) := by omega
                have i2 : (k : Int) < (x.t.p.length : Int) := by omega
                go_simp
                exact hK.out _ _ (Below.refl _ _) rfl
              refine owes_cons (Owes.mk (o := ({ dst := some 43, op := .load 25 (.tmp 42), type := 25, pos := "ref.go:138", after := #[{ on := 5, ground := .data }], guard := none } : Oper)) rfl (fun v wk hj hD K hK => ?_)) ?_
              · have h5 : v 5 = (.pointer (some ⟨b, off + k * 3, none⟩)) := hD 5 (by decide)
                simp only [ngD, ngE, putAll, Act.put, List.getD_cons_succ, List.getD_cons_zero, List.setIfInBounds_toArray, List.set_cons_zero, List.set_cons_succ, h5] at hK ⊢
                obtain ⟨q0, q1, q2⟩ := HQ.out.keep (Kept.of_below hj (Nat.le_refl _)) (Nat.zero_le _) HBR.out
                go_simp
                exact hK.out _ _ (Below.refl _ _) rfl
              refine owes_cons (Owes.mk (o := ({ dst := some 44, op := .call { callee := .value (.func 34), args := #[.tmp 43], argTypes := #[25] }, type := 25, pos := "ref.go:138", after := #[{ on := 6, ground := .data }], guard := none } : Oper)) rfl (fun v wk hj hD K hK => ?_)) ?_
              · have h6 : v 6 = (z.val) := hD 6 (by decide)
                simp only [ngD, ngE, putAll, Act.put, List.getD_cons_succ, List.getD_cons_zero, List.setIfInBounds_toArray, List.set_cons_zero, List.set_cons_succ, h6] at hK ⊢
                go_simp
                refine (NG.out wk hj).mono ?_
                rintro e w2 ⟨y, S1, rfl, ty, py, sy, hb⟩
                exact hK.out _ _ hb ⟨y, S1, rfl, ty, py, fun b h => ⟨Nat.le_trans hj.size (sy b h).1, (sy b h).2⟩, Nat.le_trans (Nat.le_trans HBW.out (bnext HW.out hj).size) hb.size⟩
              refine owes_cons (Owes.mk (o := ({ dst := some 45, op := .buildSlice 23 1 #[(0, .tmp 44)], type := 23, pos := "ref.go:138", after := #[{ on := 7, ground := .data }], guard := none } : Oper)) rfl (fun v wk hj hD K hK => ?_)) ?_
              · obtain ⟨y7, S7, h7, t7, p7, s7, l7⟩ : IsNeg B wr.heap.size (d' + r + 1) (negP r z.t) (v 7) wk := hD 7 (by decide)
                simp only [ngD, ngE, putAll, Act.put, List.getD_cons_succ, List.getD_cons_zero, List.setIfInBounds_toArray, List.set_cons_zero, List.set_cons_succ, h7] at hK ⊢
                replace t7 := Lib.hid t7
                go_simp
                exact hK.out _ _ (below_new _ _) ⟨_, y7, S7, rfl, by simp, cells_one _ y7, t7.out, pds_next l7 (below_new _ _) p7, fun b h => ⟨(s7 b h).1, by have := (s7 b h).2; simp; omega⟩, Nat.le_trans l7 (below_new _ _).size⟩
              exact owes_nil
            · intro p v wf h1 h2 hj hr
              obtain rfl := marks_all h1 (fun m hm => h2 m hm (by simp))
              clear h1 h2
              have h1 : v 1 = .slice A2 k c2 := hr 1 (by decide) (by decide)
              obtain ⟨gr, y, S1, h8, hgr8, hcy, ty, py, sy, ly⟩ : IsNegRow B wr.heap.size (d' + r + 1) (negP r z.t) (v 8) wf := hr 8 (by decide) (by decide)
              rw [show List.filter (fun k => [0, 1, 2, 3, 4, 5, 6, 7, 8].contains k) [0, 1, 2, 3, 4, 5, 6, 7, 8] = [0, 1, 2, 3, 4, 5, 6, 7, 8] from rfl]
              simp only [ngD, putAll, Act.put, List.getD_cons_succ, List.getD_cons_zero, List.setIfInBounds_toArray, List.set_cons_zero, List.set_cons_succ, h1, h8]
              have HJ := Lib.hid hj
              have TY := Lib.hid ty
              have PY := Lib.hid py
              have SY := Lib.hid sy
              have LY := Lib.hid ly
              have HO3 := Lib.hid (hO.out.next hj)
              have HC3 := Lib.hid (hC.out.next hj)
              have hsz := hj.size
              clear h1 h8 hr hj ty py sy ly
              refine anyN_any (S := fun _ => True) (N := []) _ _ _ _ ?_
              refine anyN_one (i := 9) (o := ({ dst := some 46, op := .call { callee := .builtin .append, args := #[.tmp 38, .tmp 45], argTypes := #[23, 23] }, type := 23, pos := "ref.go:138", after := #[{ on := 1, ground := .data }, { on := 8, ground := .data }, { on := 7, ground := .chain }], guard := none } : Oper)) (by kernel_rfl) rfl (fun K hK => ?_)
              refine step_append_P rfl (.tmp 38) (.tmp 45) rfl (go + 1) HO3.out rfl rfl hcy hklen (by omega) ?_
              intro gn cn w9 hown hg9 hlie hlt9
              refine hK.out _ _ (fun _ => trivial) ?_
              clear hK K
              try simp only [Act.put, List.setIfInBounds_toArray, List.set_cons_zero, List.set_cons_succ]
              refine anyN_one (i := 10) (o := ({ dst := some 47, op := .fieldAddr 25 (.tmp 4) 2, type := 0, pos := "ref.go:138", after := #[{ on := 0, ground := .phase }, { on := 1, ground := .phase }, { on := 2, ground := .phase }, { on := 3, ground := .phase }, { on := 4, ground := .phase }, { on := 5, ground := .phase }, { on := 6, ground := .phase }, { on := 7, ground := .phase }, { on := 8, ground := .phase }, { on := 9, ground := .phase }], guard := none } : Oper)) (by kernel_rfl) rfl (fun K hK => ?_)
              go_simp
              refine hK.out _ _ (fun _ => trivial) ?_
              clear hK K
              try simp only [Act.put, List.setIfInBounds_toArray, List.set_cons_zero, List.set_cons_succ]
              have CG := Lib.hid (grown_cell HC3.out HO3.out hg9 (by omega))
              obtain ⟨g0, g1, g2, f0, f1, f2, _⟩ := CG.out
              refine anyN_one (i := 11) (o := ({ dst := none, op := .store 23 (.tmp 47) (.tmp 46), type := 0, pos := "ref.go:138", after := #[{ on := 10, ground := .data }, { on := 9, ground := .data }, { on := 9, ground := .chain }, { on := 0, ground := .phase }, { on := 1, ground := .phase }, { on := 2, ground := .phase }, { on := 3, ground := .phase }, { on := 4, ground := .phase }, { on := 5, ground := .phase }, { on := 6, ground := .phase }, { on := 7, ground := .phase }, { on := 8, ground := .phase }, { on := 9, ground := .phase }], guard := none } : Oper)) (by kernel_rfl) rfl (fun K hK => ?_)
              go_simp
              refine hK.out _ _ (fun _ => trivial) ?_
              clear hK K
              try simp only [Act.put, List.setIfInBounds_toArray, List.set_cons_zero, List.set_cons_succ]
              refine anyN_done (by kernel_rfl) ?_ _
              clear g0 g1 g2 f0 f1 f2
              go_wp2
              go_roundw
              case rel => exact ⟨k + 1, some ⟨gn, 0, none⟩, cn, bk ++ [y], fun b => S b ∨ S1 b, by omega, by go_num, Lib.hid (CG.out.set2 _), Lib.hid (POwn.set_low hown (by show go < go + 1; omega) _), Lib.hid (neg_all hC.out.blk.lt HJ.out hO.out hg9 hI.out hS.out PY.out SY.out (by have := HBW.out; omega)), Lib.hid (neg_sets hC.out.blk.lt HJ.out hO.out hg9 hlie hlt9 hS.out SY.out), Lib.hid (by rw [List.map_append, hM.out, TN.out, List.map_cons, TY.out]; rfl), Lib.hid (neg_bel hC.out.blk.lt hbel.out HJ.out hO.out hg9)⟩
              case measure => simp [intOf]; omega
          · obtain rfl : k = x.t.p.length := by omega
            have HM := Lib.hid (show bk.map (·.t) = x.t.p.map (negP r) by have := hM.out; rwa [List.take_length] at this)
            have HLN := Lib.hid (hO.out.len)
            have FIN := Lib.hid (show negP (r + 1) x.t = .mk (opp x.t.k) x.t.v (bk.map (·.t)) by
              rw [HM.out]
              rcases ne with ne | ne
              · rw [negP, if_pos ne, no_preds FS.out ne]; rfl
              · rw [negP, if_neg (by omega), if_pos ne, no_vals FS.out ne])
            obtain ⟨s0, s1, s2, p0, p1, p2, hblk⟩ := R4.out.below hbel.out (by omega)
            have HR := Lib.hid (ret_boxP hblk (.int .i64 (opp x.t.k)) (.slice x.A x.t.v.length x.c) (.slice A2 x.t.p.length c2))
            obtain ⟨g0, g1, g2, f0, f1, f2, _⟩ := hC.out
            clear hblk hM
            go_wp2
            obtain ⟨F, hF, ⟨r0, r1, r2, _⟩, hkk, hs, hbe⟩ := HR.out
            rw [← hF]
            clear hF
            rw [FIN.out]
            have bF := hbe w.heap.size w (by omega) HW.out
            have hown := fun b (h : Value.ownBlock (.slice A2 x.t.p.length c2) = some b) => World.ownsRow.lt hO.out b h
            have same : ∀ b, b ≠ w.heap.size + 1 → b < wr.heap.size → F.heap[b]? = wr.heap[b]? := fun b hb hlt' => by
              rcases Nat.lt_or_ge b (w.heap.size + 1) with h | h
              · exact (bF_low hbe hb h)
              · exact hkk (w.heap.size + 2) wr.heap.size (by omega) b (by omega) hlt'
            refine bodyPost_ret (v := pl (.mk (opp x.t.k) x.t.v (bk.map (·.t))) x.A x.c A2 c2) (by simp [results, Try.results34, go_sem, r0, r1, r2]; exact ⟨rfl, rfl, by simp [P.p, HLN.out]⟩) rfl ⟨⟨.mk (opp x.t.k) x.t.v (bk.map (·.t)), x.A, x.c, A2, c2⟩, fun b => S b ∨ Value.ownBlock (.slice A2 x.t.p.length c2) = some b, rfl, rfl, ?_, ?_, bF⟩
            · refine PdS.keep (d := d' + r + 1 + 1) (Nat.le_refl _) (fun _ _ => rfl) (fun _ _ _ => rfl) (fun _ h => h) (by omega) (PdS.build (opp_rng _) (RV.out.keep (Kept.of_below bF HBW.out)) (POwn.keepOn hO.out (fun b h1 h2 => same b (by omega) h2) hs) (by omega) (fun q hq => PdS.keep (by omega) (fun b hb => same b (by have := HBW.out; omega) (by have := HBW.out; omega)) (fun b hb h => same b (by have := hS.out b hb; omega) h) (fun _ h => h) (Nat.le_refl _) (hI.out q hq)) (fun b h => .inl h) (fun b o h => .inr (by subst h; rfl)))
            · intro b hb
              rcases hb with hb | hb
              · have := hS.out b hb; omega
              · have := hown b hb; omega
theorem negR_any : ∀ r, NegR r
  | 0 => fun _ _ _ _ h => by simp [okP] at h
  | r + 1 => negR_succ r (negR_any r)
end Go.Proofs.Ytiiccefnfepccaa
