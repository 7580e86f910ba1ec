/- Contract of value.pairsOf. -/
import Derived.Test.YtdolejafihgpmaaP
import Derived.Deep.RegionLaw
import Derived.Deep.RegionHeld3
import Derived.Deep.DrawnRows
import Derived.Laws.IdiomCopy
namespace Go.Proofs.Ytdolejafihgpmaa
open Go.RowKit Go.Sort

def PairsPost (w : World) (d : Nat) (l : List V) (e : Ending) (w' : World) : Prop :=
  ∃ ps : Array Pr, e = .returned (.slice (some ⟨w.heap.size, 0, none⟩) ps.size ps.size) ∧ ps.size = l.length / 2 ∧ RowP w' w.heap.size ps ∧ Below w.heap.size w w' ∧ w.heap.size < w'.heap.size ∧ (∀ i, i < ps.size → PrIn w 0 w.heap.size d (ps[i]!)) ∧ ps.toList.map Pr.kv = pairUp l

theorem pairUp_next (l : List V) (j : Nat) {x y : V} (hx : l[j]? = some x) (hy : l[j + 1]? = some y) : pairUp (l.drop j) = (x, y) :: pairUp (l.drop (j + 2)) := by
  obtain ⟨h1, e1⟩ := List.getElem?_eq_some_iff.1 hx
  obtain ⟨h2, e2⟩ := List.getElem?_eq_some_iff.1 hy
  rw [List.drop_eq_getElem_cons h1, e1, List.drop_eq_getElem_cons h2, e2]; rfl

attribute [local go_sem ↓] Go.wp_at_zero Go.wp_at_succ
theorem PGrow.spare {w W : World} {g cap : Nat} {ps : List Pr} (h : PGrow w g cap ps) (hl : ps.length + 1 ≤ cap) (hW : W.heap[g]? = w.heap[g]?) (j : Nat) (hj : j < 10) :
    (W.cell? ⟨g, 0 + ps.length * 10 + j, none⟩).isSome = true ∧ W.frozen? ⟨g, 0 + ps.length * 10 + j, none⟩ = false := by
  obtain ⟨cs, h1, h2⟩ := h.blk
  rw [← hW] at h1
  refine ⟨?_, by simp [World.frozen?, h1]⟩
  rw [cell_of_row W g _ cs 69 (0, 0) h1, Array.getElem?_eq_getElem (by omega)]; rfl
theorem set_heap69 (w : World) (g o : Nat) (u : Value) (cs : Array Value) (h : w.heap[g]? = some (.cells cs 69 (0, 0))) : (w.setCell ⟨g, o, none⟩ u).heap[g]? = some (.cells (cs.setIfInBounds o u) 69 (0, 0)) := by
  simp [World.setCell, Array.getElem?_modify, h]
theorem setCells_heap69 (g : Nat) : ∀ (vs : List Value) (w : World) (o : Nat) (cs : Array Value), w.heap[g]? = some (.cells cs 69 (0, 0)) → ∃ cs', (w.setCells g o vs).heap[g]? = some (.cells cs' 69 (0, 0)) ∧ cs'.size = cs.size
  | [], w, o, cs, h => ⟨cs, h, rfl⟩
  | v :: r, w, o, cs, h => by
    obtain ⟨cs', h1, h2⟩ := setCells_heap69 g r (w.setCell ⟨g, o, none⟩ v) (o + 1) _ (set_heap69 w g o v cs h)
    exact ⟨cs', h1, by simpa using h2⟩
theorem PGrow.put {w W : World} {g cap : Nat} {ps : List Pr} (h : PGrow w g cap ps) (hl : ps.length + 1 ≤ cap) (hW : W.heap[g]? = w.heap[g]?) (p : Pr) : PGrow (W.setCells g (ps.length * 10) p.cs) g cap (ps ++ [p]) := by
  rw [← Nat.zero_add (ps.length * 10)]
  have hsp := h.spare hl hW
  obtain ⟨cs, h1, h2⟩ := h.blk
  obtain ⟨cs', h3, h4⟩ := setCells_heap69 g p.cs W (0 + ps.length * 10) cs (hW.trans h1)
  refine ⟨⟨cs', h3, by omega⟩, fun i q hi c hc => ?_, by simp; omega⟩
  rcases Nat.lt_or_ge i ps.length with hlt | hge
  · rw [List.getElem?_append_left hlt] at hi
    rw [World.cell?_setCells_out g _ _ _ _ (fun _ _ => .inl (by simp; omega)), World.cell?_of_block (w := w) (a := ⟨g, _, none⟩) hW]
    exact h.at_ i q hi c hc
  · have hq := (List.getElem?_eq_some_iff.1 hi).1
    simp at hq
    obtain rfl : i = ps.length := by omega
    simp at hi
    subst hi
    have := World.cell?_setCells_in g p.cs (0 + ps.length * 10) W (fun j hj => (hsp j (by rw [Pr.len] at hj; exact hj)).1) c (by rw [Pr.len]; exact hc)
    rw [Nat.zero_add] at this
    rw [Nat.zero_add, this, getElem!_pos p.cs c (by rw [Pr.len]; exact hc)]
/-- The cells of a row that was just laid. -/
theorem new_cells (w : World) (t : TypeId) (vs : List Value) (n : Nat) : ∀ j u, vs[j]? = some u → ((w.alloc (.cells vs.toArray t)).drewN n).cell? ((⟨w.heap.size, 0, none⟩ : Addr).add j) = some u := fun j u h => by
  have ad : (⟨w.heap.size, 0, none⟩ : Addr).add j = ⟨w.heap.size, j, none⟩ := by unfold Addr.add; split <;> simp_all
  rw [ad]
  show (w.alloc (.cells vs.toArray t)).cell? _ = _
  rw [World.cell?_alloc_at _ _ _ _ rfl]
  simpa using h

set_option maxHeartbeats 3200000 in
theorem pairsOf_any (w : World) (d : Nat) (A : Option Addr) (c : Nat) (l : List V) (h : Rw w 0 w.heap.size d A c l) (hev : l.length % 2 = 0) :
    Calls Try.prog 41 #[.slice A l.length c] w (PairsPost w d l) := by
  have H := Lib.hid h
  have hbig := h.big
  obtain ⟨n, hn⟩ : ∃ n, l.length = 2 * n := ⟨l.length / 2, by omega⟩
  have hdiv : (l.length : Int) / 2 = (n : Int) := by omega
  have hmk := make69 n (by omega)
  have HN := Lib.hid hn
  have hn1 : n ≤ 879609302220 := by omega
  clear h hn
  go_enter Try.func41, Try.ntmps41
  go_wp2
  have F0 := pgrow_made w n
  generalize hX : World.alloc w _ = X at F0
  have hBX : Below w.heap.size w X := by rw [← hX]; exact below_new _ _
  have hS : w.heap.size < X.heap.size := by rw [← hX]; simp
  have G0 := Lib.hid F0
  have BX := Lib.hid hBX
  clear hX F0 hBX hdiv hmk
  go_loopw [3, 4] (fun v i wr => ∃ (j : Nat) (ps : List Pr), j ≤ l.length ∧ i = .int .i64 j ∧ v = .slice (some ⟨w.heap.size, 0, none⟩) ps.length n ∧ Hid (j = 2 * ps.length) ∧ Hid (PGrow wr w.heap.size n ps) ∧ Hid (Below w.heap.size w wr) ∧ Hid (w.heap.size < wr.heap.size) ∧ Hid (∀ p ∈ ps, PrIn w 0 w.heap.size d p) ∧ Hid (ps.map Pr.kv ++ pairUp (l.drop j) = pairUp l)) (fun _ i _ => l.length - (intOf i).toNat)
  case atStart => exact ⟨0, [], by omega, rfl, rfl, Lib.hid rfl, G0, BX, Lib.hid hS, Lib.hid (by simp), Lib.hid (by simp)⟩
  case round =>
    obtain ⟨j, ps, hj, rfl, rfl, hj2, hG, hB, hSz, hIn, hR⟩ := hrel
    by_cases hlt : j < l.length
    · have hlt1 : j + 1 < l.length := by have := HN.out; have := hj2.out; omega
      obtain ⟨b, off, x, A1, c1, A2, c2, hA, _, hb, hx, q, rx⟩ := H.out.elem hlt
      obtain ⟨b', off', y, D1, e1, D2, e2, hA', _, hb', hy, p, ry⟩ := H.out.elem hlt1
      rw [hA] at hA'
      injection hA' with hA'
      injection hA' with h1 h2
      subst h1; subst h2
      subst hA
      obtain ⟨q0, q1, q2, q3, q4⟩ := q.keep (lo := 0) (Kept.of_below hB.out (Nat.le_refl _)) (Nat.zero_le _) hb
      obtain ⟨p0, p1, p2, p3, p4⟩ := p.keep (lo := 0) (Kept.of_below hB.out (Nat.le_refl _)) (Nat.zero_le _) hb
      clear q p
      obtain ⟨pr, hpr⟩ : ∃ pr : Pr, pr = ⟨x, A1, c1, A2, c2, y, D1, e1, D2, e2⟩ := ⟨_, rfl⟩
      have PI := Lib.hid (show PrIn w 0 w.heap.size d pr by subst hpr; exact ⟨rx, ry⟩)
      have NX := Lib.hid (show pairUp (l.drop j) = pr.kv :: pairUp (l.drop (j + 2)) by subst hpr; exact pairUp_next l j hx hy)
      have PC := Lib.hid (show pr.cs = [.int .i64 x.k, .int .i64 x.n, .string x.s, .slice A1 x.l.length c1, .slice A2 x.m.length c2, .int .i64 y.k, .int .i64 y.n, .string y.s, .slice D1 y.l.length e1, .slice D2 y.m.length e2] by subst hpr; rfl)
      obtain ⟨xs, hown, hxs⟩ := hG.out.owns (base := w.heap.size) (Nat.le_refl _) (by unfold maxLen; omega)
      have OWN := Lib.hid hown
      have XS := Lib.hid hxs
      obtain ⟨i0, hi, hz0, hz1, hz2⟩ := info_parts info69
      have hpl : ps.length + 1 ≤ n := by have := HN.out; have := hj2.out; omega
      have j0 : (0 : Int) ≤ (j : Int) := by omega
      have j1 : (j : Int) < (l.length : Int) := by omega
      have j2 : (j : Int) + 1 < (l.length : Int) := by omega
      have j3 : IntKind.i64.wrap ((j : Int) + 1) = (j : Int) + 1 := IntWalk.i64_in _ (by omega)
      have j5 : (0 : Int) ≤ (j : Int) + 1 := by omega
      have j4 : ((j : Int) + 1).toNat = j + 1 := by omega
      clear rx ry hx hy hpr hown hxs
      have hgne : wr.heap.size ≠ w.heap.size := by have := hSz.out; omega
      have PU := Lib.hid (fun (W : World) (hW : W.heap[w.heap.size]? = wr.heap[w.heap.size]?) => hG.out.put hpl hW pr)
      have SP := Lib.hid (fun (W : World) (hW : W.heap[w.heap.size]? = wr.heap[w.heap.size]?) => hG.out.spare hpl hW)
      rw [PC.out] at PU
      go_wp2_with fail
      go_region_law ((refine step_append_room (by rfl) _ _ 55 (by rfl) 69 i0 10 Try.underlying55 hi hz1 w.heap.size 0 ps.length n (by simp [Act.eval]) ⟨wr.heap.size, 0, none⟩ 1 1 [.int .i64 x.k, .int .i64 x.n, .string x.s, .slice A1 x.l.length c1, .slice A2 x.m.length c2, .int .i64 y.k, .int .i64 y.n, .string y.s, .slice D1 y.l.length e1, .slice D2 y.m.length e2] (by simp [Act.eval]) rfl (new_cells wr 69 _ 1) (by intro u hu; simp only [List.mem_cons, List.not_mem_nil, or_false] at hu; rcases hu with rfl | rfl | rfl | rfl | rfl | rfl | rfl | rfl | rfl | rfl <;> rfl) hpl (fun j hj => SP.out _ (Below.heap_alloc _ _ _ hSz.out) j hj) ?_))
      all_goals
        generalize hX : World.setCells _ _ _ _ = X
        have PX := Lib.hid (show PGrow X w.heap.size n (ps ++ [pr]) by rw [← hX]; exact PU.out _ (show (World.drew _).heap[w.heap.size]? = _ from Below.heap_alloc _ _ _ hSz.out))
        have NX1 : Near w.heap.size wr X := by rw [← hX]; exact (Near.of_below (below_new _ _).drew).trans (Near.setCells _ _ _ _)
        have SX := Lib.hid (show w.heap.size < X.heap.size from Nat.lt_of_lt_of_le hSz.out NX1.size)
        have BX := Lib.hid (show Below w.heap.size w X from hB.out.trans (NX1.below (Nat.le_refl _) (Nat.le_of_lt hSz.out)))
        have LX := Lib.hid (show ps.length + 1 = (ps ++ [pr]).length by simp)
        clear hX NX1
        go_wp2
        go_roundw
        case rel => exact ⟨j + 2, ps ++ [pr], by omega, by go_num, by rw [LX.out], Lib.hid (by have := hj2.out; simp; omega), PX, BX, SX, Lib.hid (fun p hp => by rcases List.mem_append.1 hp with h | h; exact hIn.out p h; simp at h; subst h; exact PI.out), Lib.hid (by rw [← hR.out, NX.out]; simp)⟩
        case measure => simp [intOf]; omega
    · obtain rfl : j = l.length := by omega
      have hle : ps.length = n := by have := HN.out; have := hj2.out; omega
      have RW := Lib.hid hG.out.row
      have FIN := Lib.hid (show ps.map Pr.kv = pairUp l by rw [← hR.out]; simp [pairUp])
      have HLE := Lib.hid hle
      clear hle
      go_wp2
      go_ret
      refine ⟨ps.toArray, ?_, ?_, RW.out, hB.out, hSz.out, fun i hi => ?_, by simpa using FIN.out⟩
      · simp only [List.size_toArray]
        have := HLE.out
        subst this
        rfl
      · have := HLE.out; have := HN.out; simp; omega
      · simp only [List.size_toArray] at hi
        have : ps.toArray[i]! = ps[i] := by simp [hi]
        rw [this]
        exact hIn.out _ (List.getElem_mem hi)
end Go.Proofs.Ytdolejafihgpmaa
