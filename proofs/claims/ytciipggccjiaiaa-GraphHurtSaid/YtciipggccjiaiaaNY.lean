/- Contract of graph.With, whole. -/
import Derived.Test.YtciipggccjiaiaaNW
namespace Go.Proofs.Ytciipggccjiaiaa
open Go.RowKit Go.Sort
set_option maxRecDepth 100000
attribute [local go_sem ↓] Go.wp_at_zero Go.wp_at_succ

def withLL (i i2 : Nat) (l : List PA) (p : PA) : List PA := l.take i ++ ([p] ++ l.drop i2)
def IsTk (d i : Nat) (l : List PA) : Value → World → Prop := fun v w => ∃ X c, v = .slice X i c ∧ PRow w 0 d X c (l.take i)
theorem IsTk.stays (d i : Nat) (l : List PA) : Stays (IsTk d i l) := fun _ _ _ ⟨X, c, e, h⟩ hb => ⟨X, c, e, h.next hb⟩
def IsDr (d i : Nat) (l : List PA) : Value → World → Prop := fun v w => ∃ X c, v = .slice X (l.length - i) c ∧ PRow w 0 d X c (l.drop i)
theorem IsDr.stays (d i : Nat) (l : List PA) : Stays (IsDr d i l) := fun _ _ _ ⟨X, c, e, h⟩ hb => ⟨X, c, e, h.next hb⟩
theorem drop_mid {w : World} {d b off c : Nat} {sp : Option Nat} {l : List PA} (h : PRow w 0 d (some ⟨b, off, sp⟩) c l) {i : Nat} (hi : i ≤ l.length) (hc : i < c) : PRow w 0 d (some ⟨b, off + i * 6, sp⟩) (c - i) (l.drop i) :=
  ⟨by have := h.le; simp; omega, by have := h.cap; omega, by have := h.big; simp; omega, (fun e => by cases e), fun h0 => by
    obtain ⟨b', off', e, h1, h2, hcs⟩ := h.at_ (by simp at h0; omega)
    injection e with e
    injection e with e1 e2 e3
    subst e1 e2 e3
    refine ⟨b, off + i * 6, rfl, h1, h2, fun j p hj => ?_⟩
    rw [List.getElem?_drop] at hj
    have := hcs _ p hj
    rwa [show off + (i + j) * 6 = off + i * 6 + j * 6 by omega] at this, fun p hp => h.vals p (List.mem_of_mem_drop hp)⟩
theorem drop_mid2 {w : World} {d c : Nat} {a : Addr} {l : List PA} (h : PRow w 0 d (some a) c l) {i : Nat} (hi : i ≤ l.length) (hc : i < c) : PRow w 0 d (some (a.add (i * 6))) (c - i) (l.drop i) := by
  obtain ⟨b, off, sp⟩ := a
  have h' := drop_mid h hi hc
  by_cases h0 : 0 < l.length
  · obtain ⟨b', off', e, _⟩ := h.at_ h0
    injection e with e
    injection e with e1 e2 e3
    subst e1 e2 e3
    have : (⟨b, off, none⟩ : Addr).add (i * 6) = ⟨b, off + i * 6, none⟩ := by unfold Addr.add; split <;> simp_all
    rw [this]
    exact h'
  · have : l = [] := List.eq_nil_of_length_eq_zero (by omega)
    subst this
    exact ⟨by simp, h'.cap, by simp, (fun e => by cases e), fun h => absurd h (by simp), fun p hp => by simp at hp⟩
theorem drop_end {w : World} {d c : Nat} {a : Addr} {l : List PA} (h : PRow w 0 d (some a) c l) : PRow w 0 d (some a) 0 (l.drop c) := by
  rw [List.drop_eq_nil_of_le h.le]
  exact ⟨by simp, by unfold maxLen; omega, by simp, fun e => rfl, fun h => absurd h (by simp), fun p hp => by cases hp⟩
def IsPs2 (d i i2 : Nat) (l : List PA) (key : ByteArray) (x : At) : Value → World → Prop := fun v w => ∃ z : Nat, ∃ (ps : List Pt) (_ : allOf ps = withLL i i2 l ⟨key, x⟩) (_ : ps.length = 3), v = .slice (some ⟨z, 0, none⟩) ps.length ps.length ∧ Parts w d z ps
theorem IsPs2.stays (d i i2 : Nat) (l : List PA) (key : ByteArray) (x : At) : Stays (IsPs2 d i i2 l key x) := fun _ _ _ ⟨z, ps, e1, e2, e, h⟩ hb => ⟨z, ps, e1, e2, e, h.next hb⟩
theorem parts33 {w : World} {d i i2 : Nat} {l : List PA} {key : ByteArray} {x : At} {g : Nat} {X3 X : Option Addr} {c3 c' : Nat} (hi : i ≤ l.length) (h3 : PRow w 0 d X3 c3 (l.take i)) (h7 : PRow w 0 d (some ⟨g, 0, none⟩) 1 [⟨key, x⟩]) (h11 : PRow w 0 d X c' (l.drop i2)) :
    IsPs2 d i i2 l key x (.slice (some ⟨w.heap.size, 0, none⟩) 3 3) (w.alloc (.cells #[.slice X3 i c3, .slice (some ⟨g, 0, none⟩) 1 1, .slice X (l.length - i2) c'] 32)) := by
  refine ⟨w.heap.size, [⟨X3, c3, l.take i⟩, ⟨some ⟨g, 0, none⟩, 1, [⟨key, x⟩]⟩, ⟨X, c', l.drop i2⟩], by simp [allOf, withLL], rfl, rfl, ⟨by simp, fun k p hk => ?_⟩⟩
  have hk1 := (List.getElem?_eq_some_iff.1 hk).1
  have hb := below_new w (.cells #[.slice X3 i c3, .slice (some ⟨g, 0, none⟩) 1 1, .slice X (l.length - i2) c'] 32)
  have hlt : k = 0 ∨ k = 1 ∨ k = 2 := by simp at hk1; omega
  rcases hlt with rfl | rfl | rfl
  · simp at hk
    subst hk
    exact ⟨by rw [World.cell?_alloc_at _ _ _ _ rfl]; simp; omega, h3.next hb⟩
  · simp at hk
    subst hk
    exact ⟨by rw [World.cell?_alloc_at _ _ _ _ rfl]; rfl, h7.next hb⟩
  · simp at hk
    subst hk
    exact ⟨by rw [World.cell?_alloc_at _ _ _ _ rfl]; simp, h11.next hb⟩
theorem withLL_mem {i i2 : Nat} {l : List PA} {q p : PA} (h : p ∈ withLL i i2 l q) : p ∈ l ∨ p = q := by
  unfold withLL at h
  rcases List.mem_append.1 h with h | h
  · exact .inl (List.mem_of_mem_take h)
  · rcases List.mem_append.1 h with h | h
    · exact .inr (by simpa using h)
    · exact .inl (List.mem_of_mem_drop h)
theorem prow_conc2 {w W wf : World} {d c : Nat} {A : Option Addr} {l : List PA} (h : PRow w 0 d A c l) {key : ByteArray} {x : At} (hx : x.In w d) {i i2 : Nat} (hL : (withLL i i2 l ⟨key, x⟩).length ≤ 1466015503658) {z c13 : Nat} (hc : W.heap.size ≤ z ∧ z < wf.heap.size ∧ (withLL i i2 l ⟨key, x⟩).length ≤ c13 ∧ c13 ≤ maxLen ∧ ∀ j p, (withLL i i2 l ⟨key, x⟩)[j]? = some p → cells6 wf z (j * 6) p) (hb : Below w.heap.size w wf) (hw : w.heap.size < W.heap.size) (_hs : W.heap.size ≤ wf.heap.size) (u : Value) :
    PRow (wf.setCell ⟨w.heap.size, 4, none⟩ u) 0 d (some ⟨z, 0, none⟩) c13 (withLL i i2 l ⟨key, x⟩) := by
  obtain ⟨h1, h2, h3, h4, h5⟩ := hc
  have sF : (wf.setCell ⟨w.heap.size, 4, none⟩ u).heap.size = wf.heap.size := by simp [World.setCell]
  have bF : Below w.heap.size w (wf.setCell ⟨w.heap.size, 4, none⟩ u) := hb.setCell (p := ⟨w.heap.size, 4, none⟩) (Nat.le_refl _) u
  refine ⟨h3, h4, hL, (fun e => by cases e), fun _ => ⟨z, 0, rfl, Nat.zero_le _, by rw [sF]; exact h2, fun j p hj => ?_⟩, fun p hp => ?_⟩
  · rw [Nat.zero_add]
    exact (h5 j p hj).keep (Kept.setCell (lo := W.heap.size) (B := wf.heap.size) (.inl hw) u) h1 h2
  · rcases withLL_mem hp with hm | rfl
    · exact Rd.next (h.vals p hm) bF
    · exact Rd.next hx bF
def wyD : Nat → Tmp := fun j => [36, 37, 38, 39, 40, 41, 42, 43, 44, 45, 46, 47, 48, 49, 50, 0].getD j 0
def wyE : Nat → List Nat := fun j => [[], [0], [], [1, 2], [], [], [4, 5], [6], [], [8], [], [9, 10], [3, 7, 11], [12], [], []].getD j []

set_option maxHeartbeats 8000000 in
theorem with_gen (w : World) (d : Nat) (id : Int) (label : ByteArray) (o n : Int) (A : Option Addr) (c : Nat) (l : List PA) (h : PRow w 0 d A c l) (key : ByteArray) (x : At) (hx : x.In w d) (hk : nameB key = true) (hp : plainB x.t = true) (i i2 : Nat) (hplace : ∀ W : World, Below w.heap.size w W → Calls Try.prog 47 #[.slice A l.length c, .string key] W fun e w' => e = .returned (.tuple #[.int .i64 (i : Nat), .int .i64 (i2 : Nat)]) ∧ Below W.heap.size W w') (hil : i ≤ l.length) (hi2l : i2 ≤ l.length) (hg : i ≠ i2 ∨ l.length < 30) (hLL0 : 0 < (withLL i i2 l ⟨key, x⟩).length ∧ (withLL i i2 l ⟨key, x⟩).length ≤ 1466015503658) :
    Calls Try.prog 25 #[tv id label o n A l.length c, .string key, x.v] w (WithPost w id label o n (withLL i i2 l ⟨key, x⟩)) := by
  have H0 := Lib.hid h
  have HN := Lib.hid hk
  have HPL := Lib.hid hp
  have HI := Lib.hid hplace
  have HX := Lib.hid hx
  have hLL := Lib.hid hLL0
  have HGU := Lib.hid hg
  have hlc := h.le
  have hcm := h.cap
  have hbig := h.big
  clear h hk hp hplace hx hLL0 hg
  go_enter Try.func25, Try.ntmps25
  go_upto_region 1 with fail
  generalize hW : World.alloc (World.alloc (World.alloc _ _) _) _ = W
  obtain ⟨k3, k5, k6, hb, hs⟩ := boxesW _ _ _ _ _ _ _ _ _ _ _ _ _ _ _ _ _ hW
  have K3a := Lib.hid k3
  have K5a := Lib.hid k5
  have K6a := Lib.hid k6
  have HB := Lib.hid hb
  have hsW : w.heap.size + 2 < W.heap.size := by omega
  clear hW k3 k6 hb hs
  obtain ⟨d0, d1, d2, d3, d4, _⟩ := k5
  go_wp2_with fail
  refine (name_any key W).mono ?_
  rintro e w1 ⟨rfl, rfl⟩
  rw [HN.out]
  go_wp2_with fail
  refine (plain_any W d x (HX.out.next HB.out)).mono ?_
  rintro e w1 ⟨rfl, hb1⟩
  rw [HPL.out]
  have K3b := Lib.hid (K3a.out.next hb1)
  have K5b := Lib.hid (Cell.next hb1 K5a.out)
  have K6b := Lib.hid (K6a.out.next hb1)
  have B1 := Lib.hid (bnext HB.out hb1)
  have hsW1 : w.heap.size + 2 < w1.heap.size := by have := hb1.size; omega
  clear hb1 K3a K5a K6a HB hsW d0 d1 d2 d3 d4
  obtain ⟨c0, c1, c2, c3, c4, _⟩ := K3b.out
  go_wp2_with fail
  refine (HI.out w1 B1.out).mono ?_
  rintro e W' ⟨rfl, hb2⟩
  have K3 := Lib.hid (K3b.out.next hb2)
  have K5 := Lib.hid (Cell.next hb2 K5b.out)
  have K6 := Lib.hid (K6b.out.next hb2)
  have B2 := Lib.hid (bnext B1.out hb2)
  have hs2 : w.heap.size + 2 < W'.heap.size := by have := hb2.size; omega
  clear hb2 K3b K5b K6b B1 hsW1 c0 c1 c2 c3 c4
  obtain ⟨W, hW⟩ : ∃ W : World, W = W' := ⟨_, rfl⟩
  subst hW
  have HL := Lib.hid (H0.out.next B2.out)
  have XI := Lib.hid (HX.out.next B2.out)
  obtain ⟨c0, c1, c2, c3, c4, _⟩ := K3.out
  have i0 : (0 : Int) ≤ (i : Int) := by omega
  have i1 : (i : Int) ≤ (l.length : Int) := by omega
  have i20 : (0 : Int) ≤ (i2 : Int) := by omega
  have i21 : (i2 : Int) ≤ (l.length : Int) := by omega
  have i3 : (i : Int) ≤ (c : Int) := by omega
  have i4 : (i2 : Int) ≤ (c : Int) := by omega
  go_upto_region 4 with fail
  go_cut [34] (fun v wx => v = .bool false ∧ wx = W)
  case first =>
    by_cases hii : i = i2
    · have hq : ((i : Int) == (i2 : Int)) = true := by simp [hii]
      have hl30 : ¬ (30 : Int) ≤ (l.length : Int) := by
        rcases HGU.out with h | h
        · exact absurd hii h
        · omega
      clear hii
      go_wp2_with fail
      go_meet
      exact ⟨rfl, rfl⟩
    · have hq : ((i : Int) == (i2 : Int)) = false := by simp; omega
      clear hii
      go_wp2_with fail
      go_meet
      exact ⟨rfl, rfl⟩
  case rest =>
    obtain ⟨rfl, hwc⟩ := hcut
    rw [hwc]
    clear hwc
    go_upto_region 6 with fail
    clear c0 c1 c2 c3 c4
    refine region_phase [0, 1, 2, 3, 4, 5, 6, 7, 8, 9, 10, 11, 12, 13, 14] [] wyD wyE 1 (fun w' => Below W.heap.size W w') (saidOf [Is (.pointer (some ⟨w.heap.size, 4, none⟩)), Is (.slice A l.length c), Is (.int .i64 (i : Int)), IsTk d i l, Is (.string key), Is x.v, Is (PA.v ⟨key, x⟩), IsNewP d key x, Is (.pointer (some ⟨w.heap.size, 4, none⟩)), Is (.slice A l.length c), Is (.int .i64 (i2 : Int)), IsDr d i2 l, IsPs2 d i i2 l key x, IsConc W.heap.size (withLL i i2 l ⟨key, x⟩), Is (.pointer (some ⟨w.heap.size, 4, none⟩)), fun _ _ => True]) 53 rfl (by kernel_rfl) (by kernel_rfl) (fun _ _ h hb => bnext h hb) (stays_said _ (stays_cons (Is.stays _) (stays_cons (Is.stays _) (stays_cons (Is.stays _) (stays_cons (IsTk.stays _ _ _) (stays_cons (Is.stays _) (stays_cons (Is.stays _) (stays_cons (Is.stays _) (stays_cons (IsNewP.stays _ _ _) (stays_cons (Is.stays _) (stays_cons (Is.stays _) (stays_cons (Is.stays _) (stays_cons (IsDr.stays _ _ _) (stays_cons (IsPs2.stays _ _ _ _ _ _) (stays_cons (IsConc.stays _ _) (stays_cons (Is.stays _) (stays_cons (fun _ _ _ _ _ => trivial) stays_nil))))))))))))))))) (below_drewN _ _ 1) (by kernel_rfl) ?_ ?_
    · skip
      refine owes_cons (Owes.mk (o := ({ dst := some 36, op := .fieldAddr 34 (.tmp 3) 4, type := 0, pos := "graph.go:42", after := #[], guard := none } : Oper)) rfl (fun v wk hj hD K hK => ?_)) ?_
      · simp only [wyD, wyE, putAll, Act.put, List.getD_cons_zero, List.setIfInBounds_toArray, List.set_cons_zero, List.set_cons_succ] at hK ⊢
        go_simp
        exact hK.out _ _ (Below.refl _ _) rfl
      refine owes_cons (Owes.mk (o := ({ dst := some 37, op := .load 32 (.tmp 36), type := 32, pos := "graph.go:42", after := #[{ on := 0, ground := .data }], guard := none } : Oper)) rfl (fun v wk hj hD K hK => ?_)) ?_
      · have h0 : v 0 = (.pointer (some ⟨w.heap.size, 4, none⟩)) := hD 0 (by decide)
        simp only [wyD, wyE, putAll, Act.put, List.getD_cons_succ, List.getD_cons_zero, List.setIfInBounds_toArray, List.set_cons_zero, List.set_cons_succ, h0] at hK ⊢
        obtain ⟨q0, q1, q2, q3, q4, _⟩ := (K3.out.next hj)
        go_simp
        exact hK.out _ _ (Below.refl _ _) rfl
      refine owes_cons (Owes.mk (o := ({ dst := some 38, op := .move (.tmp 8), type := 3, pos := "graph.go:42", after := #[], guard := none } : Oper)) rfl (fun v wk hj hD K hK => ?_)) ?_
      · simp only [wyD, wyE, putAll, Act.put, List.getD_cons_succ, List.getD_cons_zero, List.setIfInBounds_toArray, List.set_cons_zero, List.set_cons_succ] at hK ⊢
        go_simp
        exact hK.out _ _ (Below.refl _ _) rfl
      refine owes_cons (Owes.mk (o := ({ dst := some 39, op := .slice 32 (.tmp 37) none (some (.tmp 38)) none, type := 32, pos := "graph.go:42", after := #[{ on := 1, ground := .data }, { on := 2, ground := .data }], guard := none } : Oper)) rfl (fun v wk hj hD K hK => ?_)) ?_
      · have h1 : v 1 = (.slice A l.length c) := hD 1 (by decide)
        have h2 : v 2 = (.int .i64 (i : Int)) := hD 2 (by decide)
        simp only [wyD, wyE, putAll, Act.put, List.getD_cons_succ, List.getD_cons_zero, List.setIfInBounds_toArray, List.set_cons_zero, List.set_cons_succ, h1, h2] at hK ⊢
        have HLn := Lib.hid (HL.out.next hj)
        rcases A with _ | ⟨b, off, sp⟩
        · have hc0 : c = 0 := HLn.out.nil rfl
          obtain rfl : i = 0 := by omega
          subst hc0
          go_simp
          exact hK.out _ _ (Below.refl _ _) ⟨none, 0, rfl, HLn.out.take (Nat.zero_le _)⟩
        · go_simp
          exact hK.out _ _ (Below.refl _ _) ⟨some ⟨b, off, sp⟩, c, rfl, HLn.out.take hil⟩
      refine owes_cons (Owes.mk (o := ({ dst := some 40, op := .move (.tmp 1), type := 9, pos := "graph.go:42", after := #[], guard := none } : Oper)) rfl (fun v wk hj hD K hK => ?_)) ?_
      · simp only [wyD, wyE, putAll, Act.put, List.getD_cons_succ, List.getD_cons_zero, List.setIfInBounds_toArray, List.set_cons_zero, List.set_cons_succ] at hK ⊢
        go_simp
        exact hK.out _ _ (Below.refl _ _) rfl
      refine owes_cons (Owes.mk (o := ({ dst := some 41, op := .load 37 (.tmp 5), type := 37, pos := "graph.go:42", after := #[], guard := none } : Oper)) rfl (fun v wk hj hD K hK => ?_)) ?_
      · simp only [wyD, wyE, putAll, Act.put, List.getD_cons_succ, List.getD_cons_zero, List.setIfInBounds_toArray, List.set_cons_zero, List.set_cons_succ] at hK ⊢
        obtain ⟨q0, q1, q2, q3, q4, _⟩ := (K5.out.next hj)
        go_simp
        exact hK.out _ _ (Below.refl _ _) rfl
      refine owes_cons (Owes.mk (o := ({ dst := some 42, op := .build 39 #[(0, .tmp 40), (1, .tmp 41)], type := 39, pos := "graph.go:42", after := #[{ on := 4, ground := .data }, { on := 5, ground := .data }], guard := none } : Oper)) rfl (fun v wk hj hD K hK => ?_)) ?_
      · have h4 : v 4 = (.string key) := hD 4 (by decide)
        have h5 : v 5 = x.v := hD 5 (by decide)
        simp only [wyD, wyE, putAll, Act.put, List.getD_cons_succ, List.getD_cons_zero, List.setIfInBounds_toArray, List.set_cons_zero, List.set_cons_succ, h4, h5] at hK ⊢
        go_simp
        exact hK.out _ _ (Below.refl _ _) rfl
      refine owes_cons (Owes.mk (o := ({ dst := some 43, op := .buildSlice 32 1 #[(0, .tmp 42)], type := 32, pos := "graph.go:42", after := #[{ on := 6, ground := .data }], guard := none } : Oper)) rfl (fun v wk hj hD K hK => ?_)) ?_
      · have h6 : v 6 = (PA.v ⟨key, x⟩) := hD 6 (by decide)
        simp only [wyD, wyE, putAll, Act.put, List.getD_cons_succ, List.getD_cons_zero, List.setIfInBounds_toArray, List.set_cons_zero, List.set_cons_succ, h6] at hK ⊢
        go_simp
        exact hK.out _ _ (below_new _ _) ⟨_, rfl, prow_one wk d key x (XI.out.next hj)⟩
      refine owes_cons (Owes.mk (o := ({ dst := some 44, op := .fieldAddr 34 (.tmp 3) 4, type := 0, pos := "graph.go:42", after := #[], guard := none } : Oper)) rfl (fun v wk hj hD K hK => ?_)) ?_
      · simp only [wyD, wyE, putAll, Act.put, List.getD_cons_succ, List.getD_cons_zero, List.setIfInBounds_toArray, List.set_cons_zero, List.set_cons_succ] at hK ⊢
        go_simp
        exact hK.out _ _ (Below.refl _ _) rfl
      refine owes_cons (Owes.mk (o := ({ dst := some 45, op := .load 32 (.tmp 44), type := 32, pos := "graph.go:42", after := #[{ on := 8, ground := .data }], guard := none } : Oper)) rfl (fun v wk hj hD K hK => ?_)) ?_
      · have h8 : v 8 = (.pointer (some ⟨w.heap.size, 4, none⟩)) := hD 8 (by decide)
        simp only [wyD, wyE, putAll, Act.put, List.getD_cons_succ, List.getD_cons_zero, List.setIfInBounds_toArray, List.set_cons_zero, List.set_cons_succ, h8] at hK ⊢
        obtain ⟨q0, q1, q2, q3, q4, _⟩ := (K3.out.next hj)
        go_simp
        exact hK.out _ _ (Below.refl _ _) rfl
      refine owes_cons (Owes.mk (o := ({ dst := some 46, op := .move (.tmp 9), type := 3, pos := "graph.go:42", after := #[], guard := none } : Oper)) rfl (fun v wk hj hD K hK => ?_)) ?_
      · simp only [wyD, wyE, putAll, Act.put, List.getD_cons_succ, List.getD_cons_zero, List.setIfInBounds_toArray, List.set_cons_zero, List.set_cons_succ] at hK ⊢
        go_simp
        exact hK.out _ _ (Below.refl _ _) rfl
      refine owes_cons (Owes.mk (o := ({ dst := some 47, op := .slice 32 (.tmp 45) (some (.tmp 46)) none none, type := 32, pos := "graph.go:42", after := #[{ on := 9, ground := .data }, { on := 10, ground := .data }], guard := none } : Oper)) rfl (fun v wk hj hD K hK => ?_)) ?_
      · have h9 : v 9 = (.slice A l.length c) := hD 9 (by decide)
        have h10 : v 10 = (.int .i64 (i2 : Int)) := hD 10 (by decide)
        simp only [wyD, wyE, putAll, Act.put, List.getD_cons_succ, List.getD_cons_zero, List.setIfInBounds_toArray, List.set_cons_zero, List.set_cons_succ, h9, h10] at hK ⊢
        have HLn := Lib.hid (HL.out.next hj)
        rcases A with _ | ⟨b, off, sp⟩
        · have hc0 : c = 0 := HLn.out.nil rfl
          have hl0 : l.length = 0 := by omega
          obtain rfl : i2 = 0 := by omega
          subst hc0
          have HL0 := Lib.hid hl0
          clear hl0
          go_simp
          refine hK.out _ _ (Below.refl _ _) ?_
          exact ⟨none, 0, by simp [HL0.out], HLn.out⟩
        · by_cases hc1 : i2 < c
          · have hc2 : (i2 : Int) < (c : Int) := by omega
            have hne : ¬ c = i2 := by omega
            go_simp
            exact hK.out _ _ (Below.refl _ _) ⟨_, _, rfl, by first | exact drop_mid2 HLn.out hi2l hc1 | exact drop_mid HLn.out hi2l hc1 | (rw [if_neg hne]; exact drop_mid2 HLn.out hi2l hc1)⟩
          · obtain rfl : c = i2 := by omega
            have hl0 : l.length - c = 0 := by omega
            go_simp
            exact hK.out _ _ (Below.refl _ _) ⟨_, _, by first | rfl | rw [hl0], drop_end HLn.out⟩
      refine owes_cons (Owes.mk (o := ({ dst := some 48, op := .buildSlice 86 3 #[(0, .tmp 39), (1, .tmp 43), (2, .tmp 47)], type := 86, pos := "graph.go:42", after := #[{ on := 3, ground := .data }, { on := 7, ground := .data }, { on := 11, ground := .data }], guard := none } : Oper)) rfl (fun v wk hj hD K hK => ?_)) ?_
      · obtain ⟨X3, c3, h3, r3⟩ : IsTk d i l (v 3) wk := hD 3 (by decide)
        obtain ⟨z7, h7, r7⟩ : IsNewP d key x (v 7) wk := hD 7 (by decide)
        obtain ⟨X11, c11, h11, r11⟩ : IsDr d i2 l (v 11) wk := hD 11 (by decide)
        simp only [wyD, wyE, putAll, Act.put, List.getD_cons_succ, List.getD_cons_zero, List.setIfInBounds_toArray, List.set_cons_zero, List.set_cons_succ, h3, h7, h11] at hK ⊢
        go_simp
        exact hK.out _ _ (below_new _ _) (parts33 hil r3 r7 r11)
      refine owes_cons (Owes.mk (o := ({ dst := some 49, op := .call { callee := .value (.func 48), args := #[.tmp 48], argTypes := #[86] }, type := 32, pos := "graph.go:42", after := #[{ on := 12, ground := .data }], guard := none } : Oper)) rfl (fun v wk hj hD K hK => ?_)) ?_
      · obtain ⟨z12, ps12, e12, l12, h12, r12⟩ : IsPs2 d i i2 l key x (v 12) wk := hD 12 (by decide)
        have E12 := Lib.hid e12
        have L12 := Lib.hid l12
        clear e12 l12
        simp only [wyD, wyE, putAll, Act.put, List.getD_cons_succ, List.getD_cons_zero, List.setIfInBounds_toArray, List.set_cons_zero, List.set_cons_succ, h12] at hK ⊢
        go_simp
        refine (concat_any wk d z12 ps12 r12 (by rw [L12.out]; omega) (by rw [E12.out]; exact hLL.out.1) (by rw [E12.out]; exact hLL.out.2)).mono ?_
        rintro e w2 ⟨z, cc, rfl, ho, hb⟩
        rw [E12.out] at ho
        exact hK.out _ _ hb (by rw [E12.out]; exact conc_is ho hj)
      refine owes_cons (Owes.mk (o := ({ dst := some 50, op := .fieldAddr 34 (.tmp 3) 4, type := 0, pos := "graph.go:42", after := #[{ on := 0, ground := .phase }, { on := 1, ground := .phase }, { on := 2, ground := .phase }, { on := 3, ground := .phase }, { on := 4, ground := .phase }, { on := 5, ground := .phase }, { on := 6, ground := .phase }, { on := 7, ground := .phase }, { on := 8, ground := .phase }, { on := 9, ground := .phase }, { on := 10, ground := .phase }, { on := 11, ground := .phase }, { on := 12, ground := .phase }, { on := 13, ground := .phase }], guard := none } : Oper)) rfl (fun v wk hj hD K hK => ?_)) ?_
      · simp only [wyD, wyE, putAll, Act.put, List.getD_cons_succ, List.getD_cons_zero, List.setIfInBounds_toArray, List.set_cons_zero, List.set_cons_succ] at hK ⊢
        go_simp
        exact hK.out _ _ (Below.refl _ _) rfl
      exact owes_nil
    · intro p v wf h1 h2 hj hr
      obtain rfl := marks_all h1 (fun m hm => h2 m hm (by simp))
      have hv14 : v 14 = .pointer (some ⟨w.heap.size, 4, none⟩) := hr 14 (by decide) (by decide)
      obtain ⟨z13, c13, hv13, r13⟩ : IsConc W.heap.size (withLL i i2 l ⟨key, x⟩) (v 13) wf := hr 13 (by decide) (by decide)
      rw [show List.filter (fun k => [0, 1, 2, 3, 4, 5, 6, 7, 8, 9, 10, 11, 12, 13, 14].contains k) [0, 1, 2, 3, 4, 5, 6, 7, 8, 9, 10, 11, 12, 13, 14] = [0, 1, 2, 3, 4, 5, 6, 7, 8, 9, 10, 11, 12, 13, 14] from rfl]
      simp only [wyD, putAll, Act.put, List.getD_cons_succ, List.getD_cons_zero, List.setIfInBounds_toArray, List.set_cons_zero, List.set_cons_succ, hv13, hv14]
      clear hv13 hv14 hr h1 h2
      have HJ := Lib.hid hj
      have R13 := Lib.hid r13
      obtain ⟨q0, q1, q2, q3, q4, f0, f1, f2, f3, f4, _⟩ := (K3.out.next hj)
      clear hj r13
      refine anyN_any (S := fun _ => True) (N := []) _ _ _ _ ?_
      refine anyN_one (i := 15) (o := ({ dst := none, op := .store 32 (.tmp 50) (.tmp 49), type := 0, pos := "graph.go:42", after := #[{ on := 14, ground := .data }, { on := 13, ground := .data }, { on := 13, ground := .chain }, { on := 0, ground := .phase }, { on := 1, ground := .phase }, { on := 2, ground := .phase }, { on := 3, ground := .phase }, { on := 4, ground := .phase }, { on := 5, ground := .phase }, { on := 6, ground := .phase }, { on := 7, ground := .phase }, { on := 8, ground := .phase }, { on := 9, ground := .phase }, { on := 10, ground := .phase }, { on := 11, ground := .phase }, { on := 12, ground := .phase }, { on := 13, ground := .phase }], guard := none } : Oper)) (by kernel_rfl) rfl (fun K hK => ?_)
      go_simp
      refine hK.out _ _ (fun _ => trivial) ?_
      clear hK K
      try simp only [Act.put, List.setIfInBounds_toArray, List.set_cons_zero, List.set_cons_succ]
      refine anyN_done (by kernel_rfl) ?_ _
      have B3 := Lib.hid (bnext B2.out HJ.out)
      have K3f := Lib.hid (CellT.set4 (K3.out.next HJ.out) (.slice (some ⟨z13, 0, none⟩) (withLL i i2 l ⟨key, x⟩).length c13))
      have K6f := Lib.hid (CellT.kept (K6.out.next HJ.out) (Below.heap_setCell wf ⟨w.heap.size, 4, none⟩ (.slice (some ⟨z13, 0, none⟩) (withLL i i2 l ⟨key, x⟩).length c13) (w.heap.size + 2) (by simp)))
      have PR := Lib.hid (prow_conc2 H0.out HX.out hLL.out.2 R13.out B3.out (by omega : w.heap.size < W.heap.size) (HJ.out.size) (.slice (some ⟨z13, 0, none⟩) (withLL i i2 l ⟨key, x⟩).length c13))
      have BF := Lib.hid (B3.out.setCell (p := ⟨w.heap.size, 4, none⟩) (Nat.le_refl _) (.slice (some ⟨z13, 0, none⟩) (withLL i i2 l ⟨key, x⟩).length c13))
      have sF : (wf.setCell ⟨w.heap.size, 4, none⟩ (.slice (some ⟨z13, 0, none⟩) (withLL i i2 l ⟨key, x⟩).length c13)).heap.size = wf.heap.size := by simp [World.setCell]
      have hsf : w.heap.size + 2 < wf.heap.size := by have := HJ.out.size; omega
      generalize World.setCell wf _ _ = F0 at K3f K6f PR BF sF
      clear q0 q1 q2 q3 q4 f0 f1 f2 f3 f4
      obtain ⟨q0, q1, q2, q3, q4, _⟩ := K3f.out
      go_wp2_with fail
      refine (copyThing_any F0 d id label o n _ c13 (withLL i i2 l ⟨key, x⟩) PR.out).mono ?_
      rintro e w5 ⟨A5, c5, r, rfl, hr, hm, hmp, hb5⟩
      have MP := Lib.hid hmp
      have HR := Lib.hid hr
      have HM := Lib.hid hm
      have B5 := Lib.hid (bnext BF.out hb5)
      have K6n := Lib.hid (K6f.out.next hb5)
      have hs5 := hb5.size
      have HRT := Lib.hid (retT_box K6n.out.blk (.int .i64 id) (.string label) (.int .i64 o) (.int .i64 n) (.slice A5 r.length c5))
      clear hr hm hmp hb5 q0 q1 q2 q3 q4
      obtain ⟨q0, q1, q2, q3, q4, f0, f1, f2, f3, f4, _⟩ := K6n.out
      go_wp2
      obtain ⟨F, hF, ⟨r0', r1', r2', r3', r4', _⟩, hk, hsz, hbel⟩ := HRT.out
      rw [← hF]
      clear hF
      exact bodyPost_ret (v := .tuple #[tv id label o n A5 r.length c5, .int .i64 0]) (by simp [results, Try.results25, go_sem, r0', r1', r2', r3', r4']) rfl ⟨A5, c5, r, rfl, HR.out.imp (hk F0.heap.size w5.heap.size (by omega)) (by omega) (by rw [hsz]; exact Nat.le_refl _), HM.out, MP.out.keep HR.out (hk F0.heap.size w5.heap.size (by omega)), hbel _ _ (by omega) B5.out⟩
end Go.Proofs.Ytciipggccjiaiaa
