/- Contract of graph.With, where there is a property of that key. -/
import Derived.Test.YtciipggccjiaiaaNH
import Derived.Test.YtciipggccjiaiaaVOrd
namespace Go.Proofs.Ytciipggccjiaiaa
open Go.RowKit Go.Sort
set_option maxRecDepth 100000
attribute [local go_sem ↓] Go.wp_at_zero Go.wp_at_succ

def withL (i : Nat) (l : List PA) (p : PA) : List PA := l.take i ++ ([p] ++ l.drop (i + 1))
theorem withL_len (i : Nat) (l : List PA) (p : PA) (h : i < l.length) : (withL i l p).length = l.length := by unfold withL; simp; omega
theorem box39' (w : World) (p : PA) : cells6 (w.alloc (.cells #[.string p.key, .int .i64 p.x.t.k, .int .i64 p.x.t.n, .string p.x.t.s, .slice p.x.A p.x.t.l.length p.x.c, .slice p.x.A' p.x.t.m.length p.x.c'] 39)) w.heap.size 0 p := (box39 w p _ rfl).1
def IsNewP (d : Nat) (key : ByteArray) (x : At) : Value → World → Prop := fun v w => ∃ g, v = .slice (some ⟨g, 0, none⟩) 1 1 ∧ PRow w 0 d (some ⟨g, 0, none⟩) 1 [⟨key, x⟩]
theorem IsNewP.stays (d : Nat) (key : ByteArray) (x : At) : Stays (IsNewP d key x) := fun _ _ _ ⟨g, e, h⟩ hb => ⟨g, e, h.next hb⟩
def IsRest (d i : Nat) (l : List PA) : Value → World → Prop := fun v w => ∃ X c, v = .slice X (l.length - (i + 1)) c ∧ PRow w 0 d X c (l.drop (i + 1))
theorem IsRest.stays (d i : Nat) (l : List PA) : Stays (IsRest d i l) := fun _ _ _ ⟨X, c, e, h⟩ hb => ⟨X, c, e, h.next hb⟩
theorem prow_one (w : World) (d : Nat) (key : ByteArray) (x : At) (hx : x.In w d) : PRow (w.alloc (.cells #[.string key, .int .i64 x.t.k, .int .i64 x.t.n, .string x.t.s, .slice x.A x.t.l.length x.c, .slice x.A' x.t.m.length x.c'] 39)) 0 d (some ⟨w.heap.size, 0, none⟩) 1 [⟨key, x⟩] :=
  ⟨by simp, by unfold maxLen; omega, by simp, (fun e => by cases e), fun _ => ⟨w.heap.size, 0, rfl, Nat.zero_le _, by simp, fun j p hj => by
    have hj1 := (List.getElem?_eq_some_iff.1 hj).1
    obtain rfl : j = 0 := by simp at hj1; omega
    simp at hj
    subst hj
    exact box39' w ⟨key, x⟩⟩, fun p hp => by
    simp at hp
    subst hp
    exact hx.next (below_new _ _)⟩
theorem PRow.take {w : World} {lo d c : Nat} {A : Option Addr} {l : List PA} (h : PRow w lo d A c l) {i : Nat} (hi : i ≤ l.length) : PRow w lo d A c (l.take i) :=
  ⟨by have := h.le; simp; omega, h.cap, by have := h.big; simp; omega, h.nil, fun h0 => by
    obtain ⟨b, off, e, h1, h2, hc⟩ := h.at_ (by simp at h0; omega)
    exact ⟨b, off, e, h1, h2, fun j p hj => hc j p (by rw [List.getElem?_take] at hj; split at hj; exact hj; cases hj)⟩, fun p hp => h.vals p (List.mem_of_mem_take hp)⟩
theorem prow_rest {w : World} {d b off c : Nat} {l : List PA} (h : PRow w 0 d (some ⟨b, off, none⟩) c l) {i : Nat} (hi : i < l.length) (hc : i + 1 < c) : PRow w 0 d (some ⟨b, off + (i + 1) * 6, none⟩) (c - (i + 1)) (l.drop (i + 1)) :=
  ⟨by have := h.le; simp; omega, by have := h.cap; omega, by have := h.big; simp; omega, (fun e => by cases e), fun h0 => by
    obtain ⟨b', off', e, h1, h2, hcs⟩ := h.at_ (by omega)
    injection e with e
    injection e with e1 e2
    subst e1 e2
    refine ⟨b, off + (i + 1) * 6, rfl, h1, h2, fun j p hj => ?_⟩
    rw [List.getElem?_drop] at hj
    have := hcs _ p hj
    rwa [show off + (i + 1 + j) * 6 = off + (i + 1) * 6 + j * 6 by omega] at this, fun p hp => h.vals p (List.mem_of_mem_drop hp)⟩
theorem prow_end {w : World} {d b off i : Nat} {l : List PA} (h : PRow w 0 d (some ⟨b, off, none⟩) (i + 1) l) (_hi : i < l.length) : PRow w 0 d (some ⟨b, off, none⟩) 0 (l.drop (i + 1)) := by
  have := h.le
  rw [List.drop_eq_nil_of_le (by omega)]
  exact ⟨by simp, by unfold maxLen; omega, by simp, fun e => rfl, fun h => absurd h (by simp), fun p hp => by cases hp⟩
def ps3 (b off c i : Nat) (l : List PA) (g : Nat) (p : PA) (X : Option Addr) (c' : Nat) : List Pt := [⟨some ⟨b, off, none⟩, c, l.take i⟩, ⟨some ⟨g, 0, none⟩, 1, [p]⟩, ⟨X, c', l.drop (i + 1)⟩]
def IsPs (d i : Nat) (l : List PA) (key : ByteArray) (x : At) : Value → World → Prop := fun v w => ∃ z : Nat, ∃ (ps : List Pt) (_ : allOf ps = withL i l ⟨key, x⟩) (_ : ps.length = 3), v = .slice (some ⟨z, 0, none⟩) ps.length ps.length ∧ Parts w d z ps
theorem IsPs.stays (d i : Nat) (l : List PA) (key : ByteArray) (x : At) : Stays (IsPs d i l key x) := fun _ _ _ ⟨z, ps, e1, e2, e, h⟩ hb => ⟨z, ps, e1, e2, e, h.next hb⟩
def IsConc (lo : Nat) (L : List PA) : Value → World → Prop := fun v w => ∃ g c, v = .slice (some ⟨g, 0, none⟩) L.length c ∧ lo ≤ g ∧ g < w.heap.size ∧ L.length ≤ c ∧ c ≤ maxLen ∧ ∀ j p, L[j]? = some p → cells6 w g (j * 6) p
theorem IsConc.stays (lo : Nat) (L : List PA) : Stays (IsConc lo L) := fun _ _ _ ⟨g, c, e, h1, h2, h3, h4, h⟩ hb => ⟨g, c, e, h1, Nat.lt_of_lt_of_le h2 hb.size, h3, h4, fun j p hj => (h j p hj).next hb h2⟩
theorem parts3 {w : World} {d b off c i : Nat} {l : List PA} {key : ByteArray} {x : At} {g : Nat} {X : Option Addr} {c' : Nat} (h : PRow w 0 d (some ⟨b, off, none⟩) c l) (hi : i < l.length) (h7 : PRow w 0 d (some ⟨g, 0, none⟩) 1 [⟨key, x⟩]) (h11 : PRow w 0 d X c' (l.drop (i + 1))) :
    IsPs d i l key x (.slice (some ⟨w.heap.size, 0, none⟩) 3 3) (w.alloc (.cells #[.slice (some ⟨b, off, none⟩) i c, .slice (some ⟨g, 0, none⟩) 1 1, .slice X (l.length - (i + 1)) c'] 32)) := by
  refine ⟨w.heap.size, ps3 b off c i l g ⟨key, x⟩ X c', by simp [allOf, ps3, withL], rfl, rfl, ⟨by simp, fun k p hk => ?_⟩⟩
  have hk1 := (List.getElem?_eq_some_iff.1 hk).1
  have hb := below_new w (.cells #[.slice (some ⟨b, off, none⟩) i c, .slice (some ⟨g, 0, none⟩) 1 1, .slice X (l.length - (i + 1)) c'] 32)
  have hlt : k = 0 ∨ k = 1 ∨ k = 2 := by simp [ps3] at hk1; omega
  rcases hlt with rfl | rfl | rfl
  · simp [ps3] at hk
    subst hk
    exact ⟨by rw [World.cell?_alloc_at _ _ _ _ rfl]; simp; omega, (h.take (Nat.le_of_lt hi)).next hb⟩
  · simp [ps3] at hk
    subst hk
    exact ⟨by rw [World.cell?_alloc_at _ _ _ _ rfl]; rfl, h7.next hb⟩
  · simp [ps3] at hk
    subst hk
    exact ⟨by rw [World.cell?_alloc_at _ _ _ _ rfl]; simp, h11.next hb⟩
theorem flat_cells {w : World} {base g c : Nat} {L : List PA} (h : w.ownsRow base 39 6 (.slice (some ⟨g, 0, none⟩) L.length c) L.length (flatP L)) : base ≤ g ∧ g < w.heap.size ∧ L.length ≤ c ∧ c ≤ maxLen ∧ ∀ j p, L[j]? = some p → cells6 w g (j * 6) p := by
  have hcells := World.ownsRow.cells (g := g) h rfl
  rcases h.2 with ⟨e, _⟩ | ⟨g', cap, cur, e, h1, h2, h3, h4, _⟩
  · cases e
  · injection e with e1 _ e3
    injection e1 with e1
    injection e1 with e1
    subst e1 e3
    refine ⟨h1, (Array.getElem?_eq_some_iff.1 h2).1, h3, h4, fun j p hj => ?_⟩
    have ad : ∀ k, (⟨g, 0, none⟩ : Addr).add k = ⟨g, k, none⟩ := fun k => by unfold Addr.add; split <;> simp_all
    have hc := fun m (hm : m < 6) (u : Value) (hu : p.cs[m]? = some u) => by
      have := hcells (j * 6 + m) u (by rw [flatP_at L j p hj m hm]; exact hu)
      rwa [ad] at this
    exact ⟨hc 0 (by omega) _ rfl, hc 1 (by omega) _ rfl, hc 2 (by omega) _ rfl, hc 3 (by omega) _ rfl, hc 4 (by omega) _ rfl, hc 5 (by omega) _ rfl⟩
theorem conc_is {W wk w2 : World} {z cc : Nat} {L : List PA} (ho : w2.ownsRow wk.heap.size 39 6 (.slice (some ⟨z, 0, none⟩) L.length cc) L.length (flatP L)) (hj : Below W.heap.size W wk) : IsConc W.heap.size L (.slice (some ⟨z, 0, none⟩) L.length cc) w2 := by
  obtain ⟨h1, h2, h3, h4, h5⟩ := flat_cells ho
  exact ⟨z, cc, rfl, Nat.le_trans hj.size h1, h2, h3, h4, h5⟩
theorem boxesW (w : World) (v0 v1 v2 v3 v4 : Value) (x0 x1 x2 x3 x4 u0 u1 u2 u3 u4 : Value) (W : World) (hW : ((w.alloc (.cells #[v0, v1, v2, v3, v4] 34)).alloc (.cells #[x0, x1, x2, x3, x4] 37)).alloc (.cells #[u0, u1, u2, u3, u4] 34) = W) :
    CellT W w.heap.size v0 v1 v2 v3 v4 ∧ Cell W (w.heap.size + 1) x0 x1 x2 x3 x4 ∧ CellT W (w.heap.size + 2) u0 u1 u2 u3 u4 ∧ Below w.heap.size w W ∧ W.heap.size = w.heap.size + 3 := by
  subst hW
  refine ⟨((CellT.new w _ _ _ _ _).next (below_new _ _)).next (below_new _ _), ?_, ?_, below_new3 _ _ _ _, by simp⟩
  · have := Cell.new (w.alloc (.cells #[v0, v1, v2, v3, v4] 34)) x0 x1 x2 x3 x4
    rw [size_alloc] at this
    exact Cell.below this (below_new _ _) (by simp)
  · have := CellT.new ((w.alloc (.cells #[v0, v1, v2, v3, v4] 34)).alloc (.cells #[x0, x1, x2, x3, x4] 37)) u0 u1 u2 u3 u4
    rw [size_alloc, size_alloc] at this
    exact this
theorem CellT.set4 {w : World} {g : Nat} {v0 v1 v2 v3 v4 : Value} (h : CellT w g v0 v1 v2 v3 v4) (u : Value) : CellT (w.setCell ⟨g, 4, none⟩ u) g v0 v1 v2 v3 u := by
  obtain ⟨cs, k1, k2⟩ := h.blk
  have c0 := h.c0
  have c1 := h.c1
  have c2 := h.c2
  have c3 := h.c3
  rw [cell_of_row _ _ _ _ _ _ k1] at c0 c1 c2 c3
  have h1 := setT_heap w g 4 u cs k1
  have hblk := h.blk.set ⟨g, 4, none⟩ u rfl
  refine ⟨?_, ?_, ?_, ?_, ?_, hblk.frozen 0, hblk.frozen 1, hblk.frozen 2, hblk.frozen 3, hblk.frozen 4, hblk⟩
  all_goals (rw [cell_of_row _ _ _ _ _ _ h1]; simp [Array.getElem?_setIfInBounds, c0, c1, c2, c3]; try omega)
theorem withL_mem {i : Nat} {l : List PA} {q p : PA} (h : p ∈ withL i l q) : p ∈ l ∨ p = q := by
  unfold withL at h
  rcases List.mem_append.1 h with h | h
  · exact .inl (List.mem_of_mem_take h)
  · rcases List.mem_append.1 h with h | h
    · exact .inr (by simpa using h)
    · exact .inl (List.mem_of_mem_drop h)
theorem prow_conc {w W wf : World} {d c : Nat} {A : Option Addr} {l : List PA} (h : PRow w 0 d A c l) {key : ByteArray} {x : At} (hx : x.In w d) {i : Nat} (hi : i < l.length) {z c13 : Nat} (hc : W.heap.size ≤ z ∧ z < wf.heap.size ∧ (withL i l ⟨key, x⟩).length ≤ c13 ∧ c13 ≤ maxLen ∧ ∀ j p, (withL i l ⟨key, x⟩)[j]? = some p → cells6 wf z (j * 6) p) (hb : Below w.heap.size w wf) (hw : w.heap.size < W.heap.size) (_hs : W.heap.size ≤ wf.heap.size) (u : Value) :
    PRow (wf.setCell ⟨w.heap.size, 4, none⟩ u) 0 d (some ⟨z, 0, none⟩) c13 (withL i l ⟨key, x⟩) := by
  obtain ⟨h1, h2, h3, h4, h5⟩ := hc
  have sF : (wf.setCell ⟨w.heap.size, 4, none⟩ u).heap.size = wf.heap.size := by simp [World.setCell]
  have bF : Below w.heap.size w (wf.setCell ⟨w.heap.size, 4, none⟩ u) := hb.setCell (p := ⟨w.heap.size, 4, none⟩) (Nat.le_refl _) u
  refine ⟨h3, h4, by rw [withL_len i l _ hi]; exact h.big, (fun e => by cases e), fun _ => ⟨z, 0, rfl, Nat.zero_le _, by rw [sF]; exact h2, fun j p hj => ?_⟩, fun p hp => ?_⟩
  · rw [Nat.zero_add]
    exact (h5 j p hj).keep (Kept.setCell (lo := W.heap.size) (B := wf.heap.size) (.inl hw) u) h1 h2
  · rcases withL_mem hp with hm | rfl
    · exact Rd.next (h.vals p hm) bF
    · exact Rd.next hx bF
def WithPost (w : World) (id : Int) (label : ByteArray) (o n : Int) (L : List PA) (e : Ending) (w' : World) : Prop :=
  ∃ A c r, e = .returned (.tuple #[tv id label o n A r.length c, .int .i64 0]) ∧ PRow w' w.heap.size 13 A c r ∧ r.map PA.kv = L.map PA.ckv ∧ MineP w' A r.length ∧ Below w.heap.size w w'
def w6D : Nat → Tmp := fun j => [36, 37, 38, 39, 40, 41, 42, 43, 44, 45, 46, 47, 48, 49, 50, 0].getD j 0
def w6E : Nat → List Nat := fun j => [[], [0], [], [1, 2], [], [], [4, 5], [6], [], [8], [], [9, 10], [3, 7, 11], [12], [], []].getD j []

set_option maxHeartbeats 3200000 in
theorem with_noName (w : World) (id : Int) (label : ByteArray) (o n : Int) (A : Option Addr) (k c : Nat) (key : ByteArray) (x : At) (hk : nameB key = false) : Calls Try.prog 25 #[tv id label o n A k c, .string key, x.v] w fun e w' => e = .returned (.tuple #[tv 0 ⟨#[]⟩ 0 0 none 0 0, .int .i64 2]) ∧ Below w.heap.size w w' := by
  have HN := Lib.hid hk
  clear hk
  go_enter Try.func25, Try.ntmps25
  go_upto_region 1 with fail
  generalize hW : World.alloc (World.alloc (World.alloc _ _) _) _ = W
  obtain ⟨k3, k5, k6, hb, hs⟩ := boxesW _ _ _ _ _ _ _ _ _ _ _ _ _ _ _ _ _ hW
  have K6 := Lib.hid k6
  have HB := Lib.hid hb
  clear hW k3 k5 hb hs
  obtain ⟨d0, d1, d2, d3, d4, g0, g1, g2, g3, g4, _⟩ := k6
  go_wp2_with fail
  refine (name_any key W).mono ?_
  rintro e w1 ⟨rfl, rfl⟩
  rw [HN.out]
  have HRT := Lib.hid (retT_box K6.out.blk (.int .i64 0) (.string ⟨#[]⟩) (.int .i64 0) (.int .i64 0) (.slice none 0 0))
  go_wp2
  obtain ⟨F, hF, ⟨r0', r1', r2', r3', r4', _⟩, hk, hsz, hbel⟩ := HRT.out
  rw [← hF]
  clear hF
  exact bodyPost_ret (v := .tuple #[tv 0 ⟨#[]⟩ 0 0 none 0 0, .int .i64 2]) (by simp [results, Try.results25, go_sem, r0', r1', r2', r3', r4']) rfl ⟨rfl, hbel _ _ (by omega) HB.out⟩

set_option maxHeartbeats 8000000 in
theorem with_found (w : World) (d : Nat) (id : Int) (label : ByteArray) (o n : Int) (A : Option Addr) (c : Nat) (l : List PA) (h : PRow w 0 d A c l) (key : ByteArray) (x : At) (hx : x.In w d) (hk : nameB key = true) (hp : plainB x.t = true) (i : Nat) (hi : idxG (keyB key) l 0 = i) (hil : i < l.length) :
    Calls Try.prog 25 #[tv id label o n A l.length c, .string key, x.v] w (WithPost w id label o n (withL i l ⟨key, x⟩)) := by
  obtain ⟨b, off, rfl, _, hbw, _⟩ := h.at_ (by omega)
  have H0 := Lib.hid h
  have HN := Lib.hid hk
  have HPL := Lib.hid hp
  have HI := Lib.hid hi
  have HX := Lib.hid hx
  have hbig := h.big
  have hlc := h.le
  have hcm := h.cap
  clear h hk hp hi hx
  go_enter Try.func25, Try.ntmps25
  go_upto_region 1 with fail
  generalize hW : World.alloc (World.alloc (World.alloc _ _) _) _ = W
  obtain ⟨k3, k5, k6, hb, hs⟩ := boxesW _ _ _ _ _ _ _ _ _ _ _ _ _ _ _ _ _ hW
  have K3a := Lib.hid k3
  have K5a := Lib.hid k5
  have K6a := Lib.hid k6
  have HB := Lib.hid hb
  have hsW : w.heap.size + 2 < W.heap.size := by omega
  clear hW k3 k6 hb hs
  obtain ⟨d0, d1, d2, d3, d4, _⟩ := k5
  go_wp2_with fail
  refine (name_any key W).mono ?_
  rintro e w1 ⟨rfl, rfl⟩
  rw [HN.out]
  go_wp2_with fail
  refine (plain_any W d x (HX.out.next HB.out)).mono ?_
  rintro e w1 ⟨rfl, hb1⟩
  rw [HPL.out]
  have K3b := Lib.hid (K3a.out.next hb1)
  have K5b := Lib.hid (Cell.next hb1 K5a.out)
  have K6b := Lib.hid (K6a.out.next hb1)
  have B1 := Lib.hid (bnext HB.out hb1)
  have hsW1 : w.heap.size + 2 < w1.heap.size := by have := hb1.size; omega
  clear hb1 K3a K5a K6a HB hsW d0 d1 d2 d3 d4
  obtain ⟨c0, c1, c2, c3, c4, _⟩ := K3b.out
  go_wp2_with fail
  refine (place_found w1 d (some ⟨b, off, none⟩) c l (H0.out.next B1.out) key i HI.out hil).mono ?_
  rintro e W' ⟨rfl, hb2⟩
  have K3 := Lib.hid (K3b.out.next hb2)
  have K5 := Lib.hid (Cell.next hb2 K5b.out)
  have K6 := Lib.hid (K6b.out.next hb2)
  have B2 := Lib.hid (bnext B1.out hb2)
  have hs2 : w.heap.size + 2 < W'.heap.size := by have := hb2.size; omega
  clear hb2 K3b K5b K6b B1 hsW1 c0 c1 c2 c3 c4
  obtain ⟨W, hW⟩ : ∃ W : World, W = W' := ⟨_, rfl⟩
  subst hW
  have HL := Lib.hid (H0.out.next B2.out)
  have XI := Lib.hid (HX.out.next B2.out)
  obtain ⟨c0, c1, c2, c3, c4, _⟩ := K3.out
  have i0 : (0 : Int) ≤ (i : Int) := by omega
  have i1 : (i : Int) + 1 ≤ (l.length : Int) := by omega
  have i2 : ((i : Int) == (i : Int) + 1) = false := by simp; omega
  have i3 : (i : Int) ≤ (c : Int) := by omega
  go_upto_region 6 with fail
  clear c0 c1 c2 c3 c4
  refine region_phase [0, 1, 2, 3, 4, 5, 6, 7, 8, 9, 10, 11, 12, 13, 14] [] w6D w6E 1 (fun w' => Below W.heap.size W w') (saidOf [Is (.pointer (some ⟨w.heap.size, 4, none⟩)), Is (.slice (some ⟨b, off, none⟩) l.length c), Is (.int .i64 (i : Int)), Is (.slice (some ⟨b, off, none⟩) i c), Is (.string key), Is x.v, Is (PA.v ⟨key, x⟩), IsNewP d key x, Is (.pointer (some ⟨w.heap.size, 4, none⟩)), Is (.slice (some ⟨b, off, none⟩) l.length c), Is (.int .i64 ((i : Int) + 1)), IsRest d i l, IsPs d i l key x, IsConc W.heap.size (withL i l ⟨key, x⟩), Is (.pointer (some ⟨w.heap.size, 4, none⟩)), fun _ _ => True]) 53 rfl (by kernel_rfl) (by kernel_rfl) (fun _ _ h hb => bnext h hb) (stays_said _ (stays_cons (Is.stays _) (stays_cons (Is.stays _) (stays_cons (Is.stays _) (stays_cons (Is.stays _) (stays_cons (Is.stays _) (stays_cons (Is.stays _) (stays_cons (Is.stays _) (stays_cons (IsNewP.stays _ _ _) (stays_cons (Is.stays _) (stays_cons (Is.stays _) (stays_cons (Is.stays _) (stays_cons (IsRest.stays _ _ _) (stays_cons (IsPs.stays _ _ _ _ _) (stays_cons (IsConc.stays _ _) (stays_cons (Is.stays _) (stays_cons (fun _ _ _ _ _ => trivial) stays_nil))))))))))))))))) (below_drewN _ _ 1) (by kernel_rfl) ?_ ?_
  · skip
    refine owes_cons (Owes.mk (o := ({ dst := some 36, op := .fieldAddr 34 (.tmp 3) 4, type := 0, pos := "graph.go:42", after := #[], guard := none } : Oper)) rfl (fun v wk hj hD K hK => ?_)) ?_
    · simp only [w6D, w6E, putAll, Act.put, List.getD_cons_zero, List.setIfInBounds_toArray, List.set_cons_zero, List.set_cons_succ] at hK ⊢
      go_simp
      exact hK.out _ _ (Below.refl _ _) rfl
    refine owes_cons (Owes.mk (o := ({ dst := some 37, op := .load 32 (.tmp 36), type := 32, pos := "graph.go:42", after := #[{ on := 0, ground := .data }], guard := none } : Oper)) rfl (fun v wk hj hD K hK => ?_)) ?_
    · have h0 : v 0 = (.pointer (some ⟨w.heap.size, 4, none⟩)) := hD 0 (by decide)
      simp only [w6D, w6E, putAll, Act.put, List.getD_cons_succ, List.getD_cons_zero, List.setIfInBounds_toArray, List.set_cons_zero, List.set_cons_succ, h0] at hK ⊢
      obtain ⟨q0, q1, q2, q3, q4, _⟩ := (K3.out.next hj)
      go_simp
      exact hK.out _ _ (Below.refl _ _) rfl
    refine owes_cons (Owes.mk (o := ({ dst := some 38, op := .move (.tmp 8), type := 3, pos := "graph.go:42", after := #[], guard := none } : Oper)) rfl (fun v wk hj hD K hK => ?_)) ?_
    · simp only [w6D, w6E, putAll, Act.put, List.getD_cons_succ, List.getD_cons_zero, List.setIfInBounds_toArray, List.set_cons_zero, List.set_cons_succ] at hK ⊢
      go_simp
      exact hK.out _ _ (Below.refl _ _) rfl
    refine owes_cons (Owes.mk (o := ({ dst := some 39, op := .slice 32 (.tmp 37) none (some (.tmp 38)) none, type := 32, pos := "graph.go:42", after := #[{ on := 1, ground := .data }, { on := 2, ground := .data }], guard := none } : Oper)) rfl (fun v wk hj hD K hK => ?_)) ?_
    · have h1 : v 1 = (.slice (some ⟨b, off, none⟩) l.length c) := hD 1 (by decide)
      have h2 : v 2 = (.int .i64 (i : Int)) := hD 2 (by decide)
      simp only [w6D, w6E, putAll, Act.put, List.getD_cons_succ, List.getD_cons_zero, List.setIfInBounds_toArray, List.set_cons_zero, List.set_cons_succ, h1, h2] at hK ⊢
      go_simp
      exact hK.out _ _ (Below.refl _ _) rfl
    refine owes_cons (Owes.mk (o := ({ dst := some 40, op := .move (.tmp 1), type := 9, pos := "graph.go:42", after := #[], guard := none } : Oper)) rfl (fun v wk hj hD K hK => ?_)) ?_
    · simp only [w6D, w6E, putAll, Act.put, List.getD_cons_succ, List.getD_cons_zero, List.setIfInBounds_toArray, List.set_cons_zero, List.set_cons_succ] at hK ⊢
      go_simp
      exact hK.out _ _ (Below.refl _ _) rfl
    refine owes_cons (Owes.mk (o := ({ dst := some 41, op := .load 37 (.tmp 5), type := 37, pos := "graph.go:42", after := #[], guard := none } : Oper)) rfl (fun v wk hj hD K hK => ?_)) ?_
    · simp only [w6D, w6E, putAll, Act.put, List.getD_cons_succ, List.getD_cons_zero, List.setIfInBounds_toArray, List.set_cons_zero, List.set_cons_succ] at hK ⊢
      obtain ⟨q0, q1, q2, q3, q4, _⟩ := (K5.out.next hj)
      go_simp
      exact hK.out _ _ (Below.refl _ _) rfl
    refine owes_cons (Owes.mk (o := ({ dst := some 42, op := .build 39 #[(0, .tmp 40), (1, .tmp 41)], type := 39, pos := "graph.go:42", after := #[{ on := 4, ground := .data }, { on := 5, ground := .data }], guard := none } : Oper)) rfl (fun v wk hj hD K hK => ?_)) ?_
    · have h4 : v 4 = (.string key) := hD 4 (by decide)
      have h5 : v 5 = x.v := hD 5 (by decide)
      simp only [w6D, w6E, putAll, Act.put, List.getD_cons_succ, List.getD_cons_zero, List.setIfInBounds_toArray, List.set_cons_zero, List.set_cons_succ, h4, h5] at hK ⊢
      go_simp
      exact hK.out _ _ (Below.refl _ _) rfl
    refine owes_cons (Owes.mk (o := ({ dst := some 43, op := .buildSlice 32 1 #[(0, .tmp 42)], type := 32, pos := "graph.go:42", after := #[{ on := 6, ground := .data }], guard := none } : Oper)) rfl (fun v wk hj hD K hK => ?_)) ?_
    · have h6 : v 6 = (PA.v ⟨key, x⟩) := hD 6 (by decide)
      simp only [w6D, w6E, putAll, Act.put, List.getD_cons_succ, List.getD_cons_zero, List.setIfInBounds_toArray, List.set_cons_zero, List.set_cons_succ, h6] at hK ⊢
      go_simp
      exact hK.out _ _ (below_new _ _) ⟨_, rfl, prow_one wk d key x (XI.out.next hj)⟩
    refine owes_cons (Owes.mk (o := ({ dst := some 44, op := .fieldAddr 34 (.tmp 3) 4, type := 0, pos := "graph.go:42", after := #[], guard := none } : Oper)) rfl (fun v wk hj hD K hK => ?_)) ?_
    · simp only [w6D, w6E, putAll, Act.put, List.getD_cons_succ, List.getD_cons_zero, List.setIfInBounds_toArray, List.set_cons_zero, List.set_cons_succ] at hK ⊢
      go_simp
      exact hK.out _ _ (Below.refl _ _) rfl
    refine owes_cons (Owes.mk (o := ({ dst := some 45, op := .load 32 (.tmp 44), type := 32, pos := "graph.go:42", after := #[{ on := 8, ground := .data }], guard := none } : Oper)) rfl (fun v wk hj hD K hK => ?_)) ?_
    · have h8 : v 8 = (.pointer (some ⟨w.heap.size, 4, none⟩)) := hD 8 (by decide)
      simp only [w6D, w6E, putAll, Act.put, List.getD_cons_succ, List.getD_cons_zero, List.setIfInBounds_toArray, List.set_cons_zero, List.set_cons_succ, h8] at hK ⊢
      obtain ⟨q0, q1, q2, q3, q4, _⟩ := (K3.out.next hj)
      go_simp
      exact hK.out _ _ (Below.refl _ _) rfl
    refine owes_cons (Owes.mk (o := ({ dst := some 46, op := .move (.tmp 9), type := 3, pos := "graph.go:42", after := #[], guard := none } : Oper)) rfl (fun v wk hj hD K hK => ?_)) ?_
    · simp only [w6D, w6E, putAll, Act.put, List.getD_cons_succ, List.getD_cons_zero, List.setIfInBounds_toArray, List.set_cons_zero, List.set_cons_succ] at hK ⊢
      go_simp
      exact hK.out _ _ (Below.refl _ _) rfl
    refine owes_cons (Owes.mk (o := ({ dst := some 47, op := .slice 32 (.tmp 45) (some (.tmp 46)) none none, type := 32, pos := "graph.go:42", after := #[{ on := 9, ground := .data }, { on := 10, ground := .data }], guard := none } : Oper)) rfl (fun v wk hj hD K hK => ?_)) ?_
    · have h9 : v 9 = (.slice (some ⟨b, off, none⟩) l.length c) := hD 9 (by decide)
      have h10 : v 10 = (.int .i64 ((i : Int) + 1)) := hD 10 (by decide)
      simp only [w6D, w6E, putAll, Act.put, List.getD_cons_succ, List.getD_cons_zero, List.setIfInBounds_toArray, List.set_cons_zero, List.set_cons_succ, h9, h10] at hK ⊢
      by_cases hc1 : i + 1 < c
      · have hc2 : ((i : Int) + 1) < (c : Int) := by omega
        have hne : ¬ c = i + 1 := by omega
        go_simp
        exact hK.out _ _ (Below.refl _ _) ⟨_, _, rfl, by first | exact prow_rest (HL.out.next hj) hil hc1 | (rw [if_neg hne]; exact prow_rest (HL.out.next hj) hil hc1)⟩
      · have hl0 : l.length - (i + 1) = 0 := by omega
        obtain rfl : c = i + 1 := by omega
        go_simp
        exact hK.out _ _ (Below.refl _ _) ⟨_, _, by rw [hl0], prow_end (HL.out.next hj) hil⟩
    refine owes_cons (Owes.mk (o := ({ dst := some 48, op := .buildSlice 86 3 #[(0, .tmp 39), (1, .tmp 43), (2, .tmp 47)], type := 86, pos := "graph.go:42", after := #[{ on := 3, ground := .data }, { on := 7, ground := .data }, { on := 11, ground := .data }], guard := none } : Oper)) rfl (fun v wk hj hD K hK => ?_)) ?_
    · have h3 : v 3 = (.slice (some ⟨b, off, none⟩) i c) := hD 3 (by decide)
      obtain ⟨z7, h7, r7⟩ : IsNewP d key x (v 7) wk := hD 7 (by decide)
      obtain ⟨X11, c11, h11, r11⟩ : IsRest d i l (v 11) wk := hD 11 (by decide)
      simp only [w6D, w6E, putAll, Act.put, List.getD_cons_succ, List.getD_cons_zero, List.setIfInBounds_toArray, List.set_cons_zero, List.set_cons_succ, h3, h7, h11] at hK ⊢
      go_simp
      exact hK.out _ _ (below_new _ _) (parts3 (HL.out.next hj) hil r7 r11)
    refine owes_cons (Owes.mk (o := ({ dst := some 49, op := .call { callee := .value (.func 48), args := #[.tmp 48], argTypes := #[86] }, type := 32, pos := "graph.go:42", after := #[{ on := 12, ground := .data }], guard := none } : Oper)) rfl (fun v wk hj hD K hK => ?_)) ?_
    · obtain ⟨z12, ps12, e12, l12, h12, r12⟩ : IsPs d i l key x (v 12) wk := hD 12 (by decide)
      have E12 := Lib.hid e12
      have L12 := Lib.hid l12
      clear e12 l12
      simp only [w6D, w6E, putAll, Act.put, List.getD_cons_succ, List.getD_cons_zero, List.setIfInBounds_toArray, List.set_cons_zero, List.set_cons_succ, h12] at hK ⊢
      go_simp
      refine (concat_any wk d z12 ps12 r12 (by rw [L12.out]; omega) (by rw [E12.out, withL_len i l _ hil]; omega) (by rw [E12.out, withL_len i l _ hil]; exact hbig)).mono ?_
      rintro e w2 ⟨z, cc, rfl, ho, hb⟩
      rw [E12.out] at ho
      exact hK.out _ _ hb (by rw [E12.out]; exact conc_is ho hj)
    refine owes_cons (Owes.mk (o := ({ dst := some 50, op := .fieldAddr 34 (.tmp 3) 4, type := 0, pos := "graph.go:42", after := #[{ on := 0, ground := .phase }, { on := 1, ground := .phase }, { on := 2, ground := .phase }, { on := 3, ground := .phase }, { on := 4, ground := .phase }, { on := 5, ground := .phase }, { on := 6, ground := .phase }, { on := 7, ground := .phase }, { on := 8, ground := .phase }, { on := 9, ground := .phase }, { on := 10, ground := .phase }, { on := 11, ground := .phase }, { on := 12, ground := .phase }, { on := 13, ground := .phase }], guard := none } : Oper)) rfl (fun v wk hj hD K hK => ?_)) ?_
    · simp only [w6D, w6E, putAll, Act.put, List.getD_cons_succ, List.getD_cons_zero, List.setIfInBounds_toArray, List.set_cons_zero, List.set_cons_succ] at hK ⊢
      go_simp
      exact hK.out _ _ (Below.refl _ _) rfl
    exact owes_nil
  · intro p v wf h1 h2 hj hr
    obtain rfl := marks_all h1 (fun m hm => h2 m hm (by simp))
    have hv14 : v 14 = .pointer (some ⟨w.heap.size, 4, none⟩) := hr 14 (by decide) (by decide)
    obtain ⟨z13, c13, hv13, r13⟩ : IsConc W.heap.size (withL i l ⟨key, x⟩) (v 13) wf := hr 13 (by decide) (by decide)
    rw [show List.filter (fun k => [0, 1, 2, 3, 4, 5, 6, 7, 8, 9, 10, 11, 12, 13, 14].contains k) [0, 1, 2, 3, 4, 5, 6, 7, 8, 9, 10, 11, 12, 13, 14] = [0, 1, 2, 3, 4, 5, 6, 7, 8, 9, 10, 11, 12, 13, 14] from rfl]
    simp only [w6D, putAll, Act.put, List.getD_cons_succ, List.getD_cons_zero, List.setIfInBounds_toArray, List.set_cons_zero, List.set_cons_succ, hv13, hv14]
    clear hv13 hv14 hr h1 h2
    have HJ := Lib.hid hj
    have R13 := Lib.hid r13
    obtain ⟨q0, q1, q2, q3, q4, f0, f1, f2, f3, f4, _⟩ := (K3.out.next hj)
    clear hj r13
    refine anyN_any (S := fun _ => True) (N := []) _ _ _ _ ?_
    refine anyN_one (i := 15) (o := ({ dst := none, op := .store 32 (.tmp 50) (.tmp 49), type := 0, pos := "graph.go:42", after := #[{ on := 14, ground := .data }, { on := 13, ground := .data }, { on := 13, ground := .chain }, { on := 0, ground := .phase }, { on := 1, ground := .phase }, { on := 2, ground := .phase }, { on := 3, ground := .phase }, { on := 4, ground := .phase }, { on := 5, ground := .phase }, { on := 6, ground := .phase }, { on := 7, ground := .phase }, { on := 8, ground := .phase }, { on := 9, ground := .phase }, { on := 10, ground := .phase }, { on := 11, ground := .phase }, { on := 12, ground := .phase }, { on := 13, ground := .phase }], guard := none } : Oper)) (by kernel_rfl) rfl (fun K hK => ?_)
    go_simp
    refine hK.out _ _ (fun _ => trivial) ?_
    clear hK K
    try simp only [Act.put, List.setIfInBounds_toArray, List.set_cons_zero, List.set_cons_succ]
    refine anyN_done (by kernel_rfl) ?_ _
    have B3 := Lib.hid (bnext B2.out HJ.out)
    have K3f := Lib.hid (CellT.set4 (K3.out.next HJ.out) (.slice (some ⟨z13, 0, none⟩) (withL i l ⟨key, x⟩).length c13))
    have K6f := Lib.hid (CellT.kept (K6.out.next HJ.out) (Below.heap_setCell wf ⟨w.heap.size, 4, none⟩ (.slice (some ⟨z13, 0, none⟩) (withL i l ⟨key, x⟩).length c13) (w.heap.size + 2) (by simp)))
    have PR := Lib.hid (prow_conc H0.out HX.out hil R13.out B3.out (by omega : w.heap.size < W.heap.size) (HJ.out.size) (.slice (some ⟨z13, 0, none⟩) (withL i l ⟨key, x⟩).length c13))
    have BF := Lib.hid (B3.out.setCell (p := ⟨w.heap.size, 4, none⟩) (Nat.le_refl _) (.slice (some ⟨z13, 0, none⟩) (withL i l ⟨key, x⟩).length c13))
    have sF : (wf.setCell ⟨w.heap.size, 4, none⟩ (.slice (some ⟨z13, 0, none⟩) (withL i l ⟨key, x⟩).length c13)).heap.size = wf.heap.size := by simp [World.setCell]
    have hsf : w.heap.size + 2 < wf.heap.size := by have := HJ.out.size; omega
    generalize World.setCell wf _ _ = F0 at K3f K6f PR BF sF
    clear q0 q1 q2 q3 q4 f0 f1 f2 f3 f4
    obtain ⟨q0, q1, q2, q3, q4, _⟩ := K3f.out
    go_wp2_with fail
    refine (copyThing_any F0 d id label o n _ c13 (withL i l ⟨key, x⟩) PR.out).mono ?_
    rintro e w5 ⟨A5, c5, r, rfl, hr, hm, hmp, hb5⟩
    have MP := Lib.hid hmp
    have HR := Lib.hid hr
    have HM := Lib.hid hm
    have B5 := Lib.hid (bnext BF.out hb5)
    have K6n := Lib.hid (K6f.out.next hb5)
    have hs5 := hb5.size
    have HRT := Lib.hid (retT_box K6n.out.blk (.int .i64 id) (.string label) (.int .i64 o) (.int .i64 n) (.slice A5 r.length c5))
    clear hr hm hmp hb5 q0 q1 q2 q3 q4
    obtain ⟨q0, q1, q2, q3, q4, f0, f1, f2, f3, f4, _⟩ := K6n.out
    go_wp2
    obtain ⟨F, hF, ⟨r0', r1', r2', r3', r4', _⟩, hk, hsz, hbel⟩ := HRT.out
    rw [← hF]
    clear hF
    exact bodyPost_ret (v := .tuple #[tv id label o n A5 r.length c5, .int .i64 0]) (by simp [results, Try.results25, go_sem, r0', r1', r2', r3', r4']) rfl ⟨A5, c5, r, rfl, HR.out.imp (hk F0.heap.size w5.heap.size (by omega)) (by omega) (by rw [hsz]; exact Nat.le_refl _), HM.out, MP.out.keep HR.out (hk F0.heap.size w5.heap.size (by omega)), hbel _ _ (by omega) B5.out⟩
end Go.Proofs.Ytciipggccjiaiaa
