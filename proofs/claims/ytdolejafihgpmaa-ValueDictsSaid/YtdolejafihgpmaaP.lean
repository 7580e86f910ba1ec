/- Contracts of slices.SortStableFunc over a short row of pairs, and of value.pairsOf. -/
import Derived.Test.YtdolejafihgpmaaN
import Derived.Test.YtdolejafihgpmaaO
import Derived.StillTailTactics
namespace Go.Proofs.Ytdolejafihgpmaa
open Go.RowKit Go.Sort

def SortPost (w : World) (g B d n : Nat) (ps : Array Pr) (e : Ending) (w' : World) : Prop :=
  e = .returned (.tuple #[]) ∧ ∃ ps', Held w w' g B d n ps' ∧ Srt ps'.toList ∧ FEq ps.toList ps'.toList
/-- A row of n pairs is put into its order by slices.stableCmpFunc. -/
def StableOk (n : Nat) : Prop := ∀ (w : World) (g B d cap : Nat) (ps : Array Pr), Held w w g B d n ps → B ≤ g → g < w.heap.size →
  Calls Try.prog 63 #[.slice (some ⟨g, 0, none⟩) n cap, .int .i64 n, .func (.func 60) #[] #[]] w (SortPost w g B d n ps)

theorem sortsTo_whole {n : Nat} {d d' : Array Pr} (hs : d.size = n) (h : SortsTo 0 n d d') : Srt d'.toList ∧ FEq d.toList d'.toList := by
  obtain ⟨_, P, M, S, M', e1, e2, h1, h2, h3, h4, h5⟩ := h
  obtain rfl : P = [] := List.eq_nil_of_length_eq_zero h1
  have hS : S = [] := by
    apply List.eq_nil_of_length_eq_zero
    have := congrArg List.length e1
    simp at this
    omega
  subst hS
  simp only [List.nil_append, List.append_nil] at e1 e2
  rw [e1, e2]
  exact ⟨h4, h5⟩

set_option maxHeartbeats 1600000 in
theorem stable_small (n : Nat) (hn : n < 20) : StableOk n := by
  intro w g B d cap ps h hB hg
  have CT := Lib.hid (insertion_any w g B d n cap ps h hB hg 0 n (by omega) (Nat.le_refl _) (by omega))
  have SR := Lib.hid (sortsTo_whole h.sz (insertion_sorts ps 0 n (by omega) (by rw [h.sz]; exact Nat.le_refl _)))
  clear h
  go_enter Try.func63, Try.ntmps63
  go_wp2_with fail
  go_loopw [7, 8] (fun u v wr => u = .int .i64 0 ∧ v = .int .i64 20 ∧ w = wr) (fun _ _ _ => 0)
  case atStart => exact ⟨rfl, rfl, rfl⟩
  case round =>
    obtain ⟨rfl, rfl, rfl⟩ := hrel
    go_wp2_with fail
    refine CT.out.mono ?_
    rintro e w1 ⟨rfl, hh⟩
    have HH := Lib.hid hh
    clear hh
    go_wp2_with fail
    go_loopw [6] (fun u wr => u = .int .i64 20 ∧ w1 = wr) (fun _ _ => 0)
    case atStart => exact ⟨rfl, rfl⟩
    case round =>
      obtain ⟨rfl, rfl⟩ := hrel
      go_wp2
      go_end0
      exact ⟨rfl, _, HH.out, SR.out.1, SR.out.2⟩

set_option maxHeartbeats 800000 in
theorem sortStable_any (n : Nat) (hs : StableOk n) (w : World) (g B d cap : Nat) (ps : Array Pr) (h : Held w w g B d n ps) (hB : B ≤ g) (hg : g < w.heap.size) :
    Calls Try.prog 59 #[.slice (some ⟨g, 0, none⟩) n cap, .func (.func 60) #[] #[]] w (SortPost w g B d n ps) := by
  have CT := Lib.hid (hs w g B d cap ps h hB hg)
  clear hs h
  go_enter Try.func59, Try.ntmps59
  go_wp2_with fail
  refine CT.out.mono ?_
  rintro e w1 ⟨rfl, hh⟩
  have HH := Lib.hid hh
  clear hh
  go_wp2
  go_end0
  exact ⟨rfl, HH.out⟩

def pairUp : List V → List (V × V)
  | x :: y :: r => (x, y) :: pairUp r
  | _ => []
def Pr.kv (p : Pr) : V × V := (p.x, p.y)

theorem info69 : (Try.prog.info? 69).map (fun i => (i.zero, i.size, i.bytes)) = some (some (.agg #[.int .i64 0, .int .i64 0, .string ⟨#[]⟩, .slice none 0 0, .slice none 0 0, .int .i64 0, .int .i64 0, .string ⟨#[]⟩, .slice none 0 0, .slice none 0 0]), 10, 160) := by kernel_rfl
def prow (n : Nat) : Array Value := madeCells #[.int .i64 0, .int .i64 0, .string ⟨#[]⟩, .slice none 0 0, .slice none 0 0, .int .i64 0, .int .i64 0, .string ⟨#[]⟩, .slice none 0 0, .slice none 0 0] (n * 10)
theorem make69 (n : Nat) (hn : n ≤ 879609302220) (W : World) : (Instr.makeSlice 55 (.int .i64 0) (.int .i64 (n : Int))).run Try.prog W = .ok (.slice (some ⟨W.heap.size, 0, none⟩) 0 n) (W.alloc (.cells (prow n) 69)) := by
  obtain ⟨i0, hi, hz0, hz1, hz2⟩ := info_parts info69
  have := run_make (P := Try.prog) W 55 69 i0 _ Try.underlying55 hi hz0 .i64 .i64 0 (n : Int) (by omega) (by omega) (by rw [hz2]; omega) (by omega)
  rw [this, hz1]; rfl

/-- A row of pairs that grows, in a block with room for so many. -/
structure PGrow (w : World) (g cap : Nat) (ps : List Pr) : Prop where
  blk : ∃ cs : Array Value, w.heap[g]? = some (.cells cs 69 (0, 0)) ∧ cs.size = cap * 10
  at_ : ∀ (i : Nat) (p : Pr), ps[i]? = some p → ∀ c, c < 10 → w.cell? ⟨g, i * 10 + c, none⟩ = some (p.cs[c]!)
  le : ps.length ≤ cap
theorem PGrow.row {w : World} {g cap : Nat} {ps : List Pr} (h : PGrow w g cap ps) : RowP w g ps.toArray := fun j hj => by
  obtain ⟨cs, hb, hc⟩ := h.blk
  rw [size_flatK] at hj
  simp only [List.size_toArray] at hj
  have hi : j / 10 < ps.length := by omega
  have hp : ps[j / 10]? = some ps[j / 10] := List.getElem?_eq_getElem hi
  refine ⟨?_, by simp [World.frozen?, hb]⟩
  have := h.at_ (j / 10) _ hp (j % 10) (Nat.mod_lt _ (by omega))
  rw [show j / 10 * 10 + j % 10 = j by omega] at this
  rw [Nat.zero_add, this, get_flatK _ _ _ _ (by simpa using hj)]
  simp [hi]
theorem PGrow.below {w w' : World} {g cap B : Nat} {ps : List Pr} (h : PGrow w g cap ps) (hb : Below B w w') (hg : g < B) : PGrow w' g cap ps := by
  obtain ⟨cs, h1, h2⟩ := h.blk
  exact ⟨⟨cs, (hb.block g hg).trans h1, h2⟩, fun i p hi c hc => (hb.cell (p := ⟨g, i * 10 + c, none⟩) hg).trans (h.at_ i p hi c hc), h.le⟩
theorem pgrow_made (w : World) (n : Nat) : PGrow (w.alloc (.cells (prow n) 69)) w.heap.size n [] := ⟨⟨prow n, heap_alloc_new w _, size_madeCells _ _⟩, fun i p h => by simp at h, by simp⟩
/-- What a growing row owns. -/
theorem PGrow.owns {w : World} {g cap base : Nat} {ps : List Pr} (h : PGrow w g cap ps) (hb : base ≤ g) (hc : cap ≤ maxLen) :
    ∃ xs, w.ownsRow base 69 10 (.slice (some ⟨g, 0, none⟩) ps.length cap) ps.length xs ∧ ∀ i p, ps[i]? = some p → ∀ c, c < 10 → xs[i * 10 + c]? = some (p.cs[c]!) := by
  obtain ⟨cs, h1, h2⟩ := h.blk
  have hl := h.le
  refine ⟨cs.toList.take (ps.length * 10), ⟨by simp; omega, .inr ⟨g, cap, cs, rfl, hb, h1, hl, hc, h2, rfl⟩⟩, fun i p hi c hc => ?_⟩
  have hip := (List.getElem?_eq_some_iff.1 hi).1
  have := h.at_ i p hi c hc
  rw [cell_of_row w g _ cs 69 (0, 0) h1] at this
  rw [List.getElem?_take, if_pos (by omega)]
  simpa using this
theorem pgrow_of_owns {w : World} {g cap base : Nat} {ps : List Pr} {p : Pr} {xs : List Value} (h : w.ownsRow base 69 10 (.slice (some ⟨g, 0, none⟩) (ps.length + 1) cap) (ps.length + 1) (xs ++ p.cs)) (hl : xs.length = ps.length * 10)
    (hx : ∀ i p, ps[i]? = some p → ∀ c, c < 10 → xs[i * 10 + c]? = some (p.cs[c]!)) : PGrow w g cap (ps ++ [p]) := by
  have hcells := World.ownsRow.cells (g := g) h rfl
  rcases h.2 with ⟨e, _⟩ | ⟨g', cap', cur, e, _, hg, hnc, _, hcs, _⟩
  · cases e
  · injection e with e1 _ e3
    injection e1 with e1
    injection e1 with e1
    subst e1; subst e3
    have ad : ∀ j, (⟨g, 0, none⟩ : Addr).add j = ⟨g, j, none⟩ := fun j => by unfold Addr.add; split <;> simp_all
    refine ⟨⟨cur, hg, hcs⟩, fun i q hi c hc => ?_, by simp; omega⟩
    rw [← ad]
    apply hcells
    rcases Nat.lt_or_ge i ps.length with hlt | hge
    · rw [List.getElem?_append_left hlt] at hi
      rw [List.getElem?_append_left (by omega)]
      exact hx i q hi c hc
    · have hq := (List.getElem?_eq_some_iff.1 hi).1
      simp at hq
      obtain rfl : i = ps.length := by omega
      simp at hi
      subst hi
      rw [List.getElem?_append_right (by omega), hl, show ps.length * 10 + c - ps.length * 10 = c by omega]
      rw [List.getElem?_eq_getElem (by rw [Pr.len]; exact hc), getElem!_pos p.cs c (by rw [Pr.len]; exact hc)]
end Go.Proofs.Ytdolejafihgpmaa
