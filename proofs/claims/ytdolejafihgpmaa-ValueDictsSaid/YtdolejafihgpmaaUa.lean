/- The chapter's examples as closed contracts: what the calls of 'known' come to. -/
import Derived.Test.YtdolejafihgpmaaT
import Derived.Test.YtdolejafihgpmaaRc
namespace Go.Proofs.Ytdolejafihgpmaa
open Go.RowKit Go.Sort
attribute [local go_sem ↓] Go.wp_at_zero Go.wp_at_succ

def numV (n : Int) : V := .mk 2 n ⟨#[]⟩ [] []
def wrdA : V := .mk 3 0 ⟨#[97]⟩ [] []
def wrdB : V := .mk 3 0 ⟨#[98]⟩ [] []
def mapK : V := .mk 7 0 ⟨#[]⟩ [wrdA, wrdB] [numV 2, numV 3]
def row1K : V := .mk 6 0 ⟨#[]⟩ [numV 1] []
def row2K : V := .mk 6 0 ⟨#[]⟩ [numV 1, numV 2] []

/-- Steps of a chain of worlds. -/
theorem Blk.next {a b : World} {g n : Nat} (hb : Below a.heap.size a b) (h : Blk a g n) : Blk b g n := h.below hb h.lt
theorem Blk.box (w : World) (v0 v1 v2 v3 v4 : Value) : Blk (w.alloc (.cells #[v0, v1, v2, v3, v4] 24)) w.heap.size 1 := ⟨_, heap_alloc_new w _, rfl⟩
theorem Cell.next {a b : World} {g : Nat} {v0 v1 v2 v3 v4 : Value} (hb : Below a.heap.size a b) (h : Cell a g v0 v1 v2 v3 v4) : Cell b g v0 v1 v2 v3 v4 := h.below hb h.blk.lt
theorem lo_next {a b : World} {lo : Nat} (hb : Below a.heap.size a b) (h : lo ≤ a.heap.size) : lo ≤ b.heap.size := Nat.le_trans h hb.size

set_option maxHeartbeats 800000 in
theorem number_lit (n : Int) (w : World) (_h0 : -9223372036854775808 ≤ n) (_h1 : n ≤ 9223372036854775807) : Calls Try.prog 27 #[.int .i64 n] w fun e w' => e = .returned (.agg #[.int .i64 2, .int .i64 n, .string ⟨#[]⟩, .slice none 0 0, .slice none 0 0]) ∧ Below w.heap.size w w' := by
  go_enter Try.func27, Try.ntmps27
  go_wp2
  exact bodyPost_ret (v := .agg #[.int .i64 2, .int .i64 n, .string ⟨#[]⟩, .slice none 0 0, .slice none 0 0]) (by simp [results, Try.results27, go_sem]) rfl ⟨rfl, below_new _ _⟩
set_option maxHeartbeats 800000 in
theorem word_lit (s : ByteArray) (w : World) : Calls Try.prog 28 #[.string s] w fun e w' => e = .returned (.agg #[.int .i64 3, .int .i64 0, .string s, .slice none 0 0, .slice none 0 0]) ∧ Below w.heap.size w w' := by
  go_enter Try.func28, Try.ntmps28
  go_wp2
  exact bodyPost_ret (v := .agg #[.int .i64 3, .int .i64 0, .string s, .slice none 0 0, .slice none 0 0]) (by simp [results, Try.results28, go_sem]) rfl ⟨rfl, below_new _ _⟩
set_option maxHeartbeats 800000 in
theorem truth_lit (w : World) : Calls Try.prog 26 #[.bool true] w fun e w' => e = .returned (.agg #[.int .i64 1, .int .i64 1, .string ⟨#[]⟩, .slice none 0 0, .slice none 0 0]) ∧ Below w.heap.size w w' := by
  go_enter Try.func26, Try.ntmps26
  go_wp2
  exact bodyPost_ret (v := .agg #[.int .i64 1, .int .i64 1, .string ⟨#[]⟩, .slice none 0 0, .slice none 0 0]) (by simp [results, Try.results26, go_sem]) rfl ⟨rfl, below_new _ _⟩

/-- A value without rows reads in any world. -/
theorem rd_plain (w : World) (B d : Nat) (k n : Int) (s : ByteArray) (hF : Fld (.mk k n s [] [])) : Rd w 0 B (d + 1) (.mk k n s [] []) none 0 none 0 := ⟨hF, rw_nil _ _ _ _, rw_nil _ _ _ _⟩
theorem fld_num (n : Int) (h0 : -9223372036854775808 ≤ n) (h1 : n ≤ 9223372036854775807) : Fld (numV n) := fld_mk _ _ (by decide) (by decide) h0 h1 (by decide)
/-- A row of values without rows, in a block that was just laid. -/
def flatV (l : List V) : List Value := l.flatMap fun t => [.int .i64 t.k, .int .i64 t.n, .string t.s, .slice none 0 0, .slice none 0 0]
theorem flatV_len (l : List V) : (flatV l).length = l.length * 5 := by
  induction l with
  | nil => rfl
  | cons t l ih =>
    unfold flatV at *
    rw [List.flatMap_cons, List.length_append, ih]
    simp; omega
theorem flatV_at : ∀ (l : List V) (j : Nat) (t : V), l[j]? = some t → ∀ c, c < 5 → (flatV l)[j * 5 + c]? = [Value.int .i64 t.k, .int .i64 t.n, .string t.s, .slice none 0 0, .slice none 0 0][c]?
  | [], _, _, h => by simp at h
  | t :: l, 0, u, h => fun c hc => by
    simp at h
    subst h
    unfold flatV
    rw [List.flatMap_cons, List.getElem?_append_left (by simp; omega)]
    simp
  | t :: l, j + 1, u, h => fun c hc => by
    have ih := flatV_at l j u (by simpa using h) c hc
    unfold flatV at *
    rw [List.flatMap_cons, List.getElem?_append_right (by simp; omega), ← ih]
    congr 1
    simp; omega
theorem row_new (w : World) (l : List V) (hF : ∀ t ∈ l, Fld t ∧ t.l = [] ∧ t.m = []) (hl : l.length ≤ 1000) : Rw (w.alloc (.cells (flatV l).toArray 24)) 0 (w.alloc (.cells (flatV l).toArray 24)).heap.size 1 (some ⟨w.heap.size, 0, none⟩) l.length l := by
  refine ⟨Nat.le_refl _, by unfold maxLen; omega, by omega, (fun e => by cases e), fun h0 => ⟨w.heap.size, 0, rfl, Nat.zero_le _, by simp, fun j t hj => ?_⟩⟩
  obtain ⟨hf, e1, e2⟩ := hF t (List.mem_of_getElem? hj)
  refine ⟨none, 0, none, 0, ?_, hf, by rw [e1]; exact rw_nil _ _ _ _, by rw [e2]; exact rw_nil _ _ _ _⟩
  have hc := flatV_at l j t hj
  have hw : ∀ o, (w.alloc (.cells (flatV l).toArray 24)).cell? ⟨w.heap.size, o, none⟩ = (flatV l)[o]? := fun o => by rw [World.cell?_alloc_at _ _ _ _ rfl]; simp
  constructor
  all_goals rw [hw]
  · rw [show 0 + j * 5 = j * 5 + 0 by omega, hc 0 (by omega)]; rfl
  · rw [show 0 + j * 5 + 1 = j * 5 + 1 by omega, hc 1 (by omega)]; rfl
  · rw [show 0 + j * 5 + 2 = j * 5 + 2 by omega, hc 2 (by omega)]; rfl
  · rw [show 0 + j * 5 + 3 = j * 5 + 3 by omega, hc 3 (by omega), e1]; rfl
  · rw [show 0 + j * 5 + 4 = j * 5 + 4 by omega, hc 4 (by omega), e2]; rfl
/-- A row of values without rows that lies in its own block. -/
def RowAt (w : World) (g : Nat) (l : List V) : Prop := Rw w 0 w.heap.size 1 (some ⟨g, 0, none⟩) l.length l
theorem RowAt.next {a b : World} {g : Nat} {l : List V} (hb : Below a.heap.size a b) (h : RowAt a g l) : RowAt b g l := RdRow.next h hb
theorem fn (n : Int) (h0 : -9223372036854775808 ≤ n) (h1 : n ≤ 9223372036854775807) : Fld (numV n) ∧ (numV n).l = [] ∧ (numV n).m = [] := ⟨fld_num n h0 h1, rfl, rfl⟩
theorem fA : Fld wrdA ∧ wrdA.l = [] ∧ wrdA.m = [] := ⟨fld_mk _ _ (by decide) (by decide) (by decide) (by decide) (by decide), rfl, rfl⟩
theorem fB : Fld wrdB ∧ wrdB.l = [] ∧ wrdB.m = [] := ⟨fld_mk _ _ (by decide) (by decide) (by decide) (by decide) (by decide), rfl, rfl⟩
theorem row6_new (w : World) : RowAt (w.alloc (.cells #[.int .i64 3, .int .i64 0, .string ⟨#[98]⟩, .slice none 0 0, .slice none 0 0, .int .i64 2, .int .i64 1, .string ⟨#[]⟩, .slice none 0 0, .slice none 0 0, .int .i64 3, .int .i64 0, .string ⟨#[97]⟩, .slice none 0 0, .slice none 0 0, .int .i64 2, .int .i64 2, .string ⟨#[]⟩, .slice none 0 0, .slice none 0 0, .int .i64 3, .int .i64 0, .string ⟨#[98]⟩, .slice none 0 0, .slice none 0 0, .int .i64 2, .int .i64 3, .string ⟨#[]⟩, .slice none 0 0, .slice none 0 0] 24)) w.heap.size [wrdB, numV 1, wrdA, numV 2, wrdB, numV 3] :=
  row_new w [wrdB, numV 1, wrdA, numV 2, wrdB, numV 3] (by
    intro t ht
    simp only [List.mem_cons, List.not_mem_nil, or_false] at ht
    rcases ht with rfl | rfl | rfl | rfl | rfl | rfl
    · exact fB
    · exact fn 1 (by decide) (by decide)
    · exact fA
    · exact fn 2 (by decide) (by decide)
    · exact fB
    · exact fn 3 (by decide) (by decide)) (by simp)
theorem row1_new (w : World) : RowAt (w.alloc (.cells #[.int .i64 2, .int .i64 1, .string ⟨#[]⟩, .slice none 0 0, .slice none 0 0] 24)) w.heap.size [numV 1] :=
  row_new w [numV 1] (by intro t ht; simp only [List.mem_cons, List.not_mem_nil, or_false] at ht; subst ht; exact fn 1 (by decide) (by decide)) (by simp)
theorem row2_new (w : World) : RowAt (w.alloc (.cells #[.int .i64 2, .int .i64 1, .string ⟨#[]⟩, .slice none 0 0, .slice none 0 0, .int .i64 2, .int .i64 2, .string ⟨#[]⟩, .slice none 0 0, .slice none 0 0] 24)) w.heap.size [numV 1, numV 2] :=
  row_new w [numV 1, numV 2] (by
    intro t ht
    simp only [List.mem_cons, List.not_mem_nil, or_false] at ht
    rcases ht with rfl | rfl
    · exact fn 1 (by decide) (by decide)
    · exact fn 2 (by decide) (by decide)) (by simp)

/-! What the examples come to. -/
theorem cmp_ba : cmpV 12 wrdB wrdA = 1 := by simp [cmpV, cmpF, orI, cmpI, cmpS, ByteArray.toList_eq, rowC, cmpU, wrdA, wrdB, V.k, V.n, V.s]
theorem cmp_ab : cmpV 12 wrdA wrdB = -1 := by simp [cmpV, cmpF, orI, cmpI, cmpS, ByteArray.toList_eq, rowC, cmpU, wrdA, wrdB, V.k, V.n, V.s]
theorem cmp_bb : cmpV 12 wrdB wrdB = 0 := (ord_cmpV 12).refl _
theorem cmp_7a : cmpV 12 (numV 7) wrdA = -1 := by simp [cmpV, cmpF, orI, cmpI, wrdA, numV, V.k]
theorem cmp_rows : cmpV 12 row1K row2K = -1 := by
  have h : ∀ r, cmpV r (numV 1) (numV 1) = 0 := fun r => (ord_cmpV r).refl _
  have hs : cmpS (⟨#[]⟩ : ByteArray) ⟨#[]⟩ = 0 := ord_cmpS.refl _
  have hF : cmpF row1K row2K = 0 := by
    show orI (cmpI 6 6) (orI (cmpI 0 0) (cmpS ⟨#[]⟩ ⟨#[]⟩)) = 0
    rw [hs]; decide
  have hR : rowC (cmpV 11) [numV 1] [numV 1, numV 2] = -1 := by
    show orI (cmpV 11 (numV 1) (numV 1)) (-1) = -1
    rw [h]; rfl
  show orI (cmpF row1K row2K) (orI (rowC (cmpV 11) [numV 1] [numV 1, numV 2]) 0) = -1
  rw [hF, hR]; rfl
theorem known_dict {ps ps' : List Pr} (hk : ps.map Pr.kv = pairUp [wrdB, numV 1, wrdA, numV 2, wrdB, numV 3]) (hs : Srt ps') (hf : FEq ps ps') : dictOf ps' = mapK := by
  rcases ps with _ | ⟨p0, _ | ⟨p1, _ | ⟨p2, _ | ⟨p3, r⟩⟩⟩⟩
  · simp [pairUp] at hk
  · simp [pairUp] at hk
  · simp [pairUp] at hk
  · skip
    simp only [List.map_cons, List.map_nil, pairUp, Pr.kv, List.cons.injEq, Prod.mk.injEq, and_true] at hk
    obtain ⟨⟨x0, y0⟩, ⟨x1, y1⟩, ⟨x2, y2⟩⟩ := hk
    have e : ps' = [p1, p0, p2] := by
      refine srt_unique _ _ hs ?_ ?_
      · unfold Srt
        simp only [List.pairwise_cons, List.mem_cons, List.not_mem_nil, or_false, forall_eq_or_imp, forall_eq, cmpP, x0, x1, x2, cmp_ab, cmp_bb, false_implies, implies_true, List.Pairwise.nil, and_true]
        decide
      · have h1 : FEq ([p0] ++ [p1]) ([p1] ++ [p0]) := FEq.comm (fun x hx y hy => by
          simp at hx hy
          subst hx; subst hy
          unfold cmpP
          rw [x0, x1, cmp_ab]; decide)
        exact (FEq.symm hf).trans (h1.append (FEq.refl [p2]))
    subst e
    have g1 : gat [] p1 = [] ++ [p1] := rfl
    have g2 : gat ([] ++ [p1]) p0 = [] ++ [p1] ++ [p0] := gat_no [] p1 p0 (by rw [x1, x0, cmp_ab]; decide)
    have g3 : gat ([] ++ [p1] ++ [p0]) p2 = [p1] ++ [{ p0 with y := p2.y, a3 := p2.a3, n3 := p2.n3, a4 := p2.a4, n4 := p2.n4 }] := gat_yes [p1] p0 p2 (by rw [x0, x2, cmp_bb]; decide)
    unfold dictOf
    rw [List.foldl_cons, g1, List.foldl_cons, g2, List.foldl_cons, g3, List.foldl_nil]
    simp [Pr.kv, mapV, mapK, x0, x1, y1, y2]
  · simp [pairUp] at hk
theorem ok_mapK : okV 12 mapK = true := by
  have s1 : (⟨#[97]⟩ : ByteArray).size = 1 := rfl
  have s2 : (⟨#[98]⟩ : ByteArray).size = 1 := rfl
  have h : cmpV 12 (.mk 3 0 ⟨#[97]⟩ [] []) (.mk 3 0 ⟨#[98]⟩ [] []) = -1 := cmp_ab
  simp [okV, mapK, fitsV, noItems, risesV, wrdA, wrdB, numV, V.k, V.n, V.s, V.l, V.m, s1, s2, h]
theorem copy_mapK : copyV 12 mapK = mapK := by
  simp [copyV, mapK, wrdA, wrdB, numV, V.k, V.n, V.s, V.l, V.m]
end Go.Proofs.Ytdolejafihgpmaa
