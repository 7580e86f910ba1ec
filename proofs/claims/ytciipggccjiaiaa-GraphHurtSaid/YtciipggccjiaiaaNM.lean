/- What the examples come to: 'known' answers true. -/
import Derived.Test.YtciipggccjiaiaaNK
import Derived.Deep.CutBlock
namespace Go.Proofs.Ytciipggccjiaiaa
open Go.RowKit Go.Sort
set_option maxRecDepth 100000
attribute [local go_sem ↓] Go.wp_at_zero Go.wp_at_succ

def t3 : V := .mk 2 3 ⟨#[]⟩ [] []
def t4 : V := .mk 2 4 ⟨#[]⟩ [] []
abbrev n3 : At := ⟨t3, none, 0, none, 0⟩
abbrev n4 : At := ⟨t4, none, 0, none, 0⟩
abbrev p3 : PA := ⟨⟨#[97, 103, 101]⟩, n3⟩
set_option maxHeartbeats 800000 in
theorem number_lit (n : Int) (w : World) (_h0 : -9223372036854775808 ≤ n) (_h1 : n ≤ 9223372036854775807) : Calls Try.prog 29 #[.int .i64 n] w fun e w' => e = .returned (.agg #[.int .i64 2, .int .i64 n, .string ⟨#[]⟩, .slice none 0 0, .slice none 0 0]) ∧ Below w.heap.size w w' := by
  go_enter Try.func29, Try.ntmps29
  go_wp2
  exact bodyPost_ret (v := .agg #[.int .i64 2, .int .i64 n, .string ⟨#[]⟩, .slice none 0 0, .slice none 0 0]) (by simp [results, Try.results29, go_sem]) rfl ⟨rfl, below_new _ _⟩
theorem n_in (w : World) (n : Int) (h0 : -9223372036854775808 ≤ n) (h1 : n ≤ 9223372036854775807) : At.In ⟨.mk 2 n ⟨#[]⟩ [] [], none, 0, none, 0⟩ w 13 := ⟨⟨by show (-9223372036854775808 : Int) ≤ 2; omega, by show (2 : Int) ≤ 9223372036854775807; omega, h0, h1, by show (ByteArray.mk #[]).size ≤ 140737488355328; decide⟩, rw_nil _ _ _ _, rw_nil _ _ _ _⟩
theorem put5_below (B : Nat) (w : World) (g o : Nat) (v0 v1 v2 v3 v4 : Value) (hg : B ≤ g) : Below B w (put5 w g o v0 v1 v2 v3 v4) :=
  (((((Below.refl B w).setCell (p := ⟨g, o, none⟩) hg v0).setCell (p := ⟨g, o + 1, none⟩) hg v1).setCell (p := ⟨g, o + 2, none⟩) hg v2).setCell (p := ⟨g, o + 3, none⟩) hg v3).setCell (p := ⟨g, o + 4, none⟩) hg v4
theorem but_one {M : List Nat} {p : Nat → Bool} (z : Nat) (h1 : ∀ j, p j = true → j ∈ M) (h2 : ∀ m ∈ M, m ≠ z → p m = true) (h3 : p z = false) : p = fun k => M.contains k && k != z := by
  funext k
  by_cases e : k = z
  · subst e; simp [h3]
  · cases hp : p k with
    | true => rw [List.contains_iff_mem.2 (h1 k hp)]; simp [e]
    | false =>
      cases h : M.contains k with
      | false => rfl
      | true => rw [h2 k (List.contains_iff_mem.1 h) e] at hp; cases hp
theorem empty_list : (ByteArray.mk #[]).toList = [] := by rw [ByteArray.toList_eq]
theorem ok_num (n : Int) : okV 12 (.mk 2 n ⟨#[]⟩ [] []) = true := by
  simp [okV, fitsV, noItems, V.k, V.n, V.s, V.l, V.m]
theorem plain_num (n : Int) : plainB (.mk 2 n ⟨#[]⟩ [] []) = true := by
  unfold plainB
  rw [ok_num]
  simp [singB, V.k]
theorem plain4 : plainB n4.t = true := plain_num 4
theorem name_age : nameB ⟨#[97, 103, 101]⟩ = true := by decide
theorem name_2x : nameB ⟨#[50, 120]⟩ = false := by decide
def t1A (gp : Nat) : TA := ⟨0, ⟨#[120]⟩, 0, 0, some ⟨gp, 0, none⟩, 1, [p3]⟩
theorem okfew1 (gp : Nat) : okFew [t1A gp] := by
  refine ⟨⟨by simp, fun t ht => ?_⟩, ?_, fun t ht => ?_⟩
  · simp at ht
    subst ht
    simp [t1A]
  · have h1 : nameB ⟨#[120]⟩ = true := by decide
    have h2 : okPr p3 = true := by
      unfold okPr
      rw [show nameB p3.key = true from name_age, show plainB p3.x.t = true from plain_num 3]; rfl
    simp only [List.all_cons, List.all_nil, Bool.and_true, okT, t1A, h1, h2]
    rfl
  · simp at ht
    subst ht
    exact ⟨rfl, rfl⟩
theorem okfew0 : okFew [] := ⟨⟨by simp, fun t ht => by cases ht⟩, rfl, fun t ht => by cases ht⟩
theorem with_age (w : World) (gp : Nat) (h : PRow w 0 13 (some ⟨gp, 0, none⟩) 1 [p3]) : Calls Try.prog 25 #[tv 0 ⟨#[120]⟩ 0 0 (some ⟨gp, 0, none⟩) 1 1, .string ⟨#[97, 103, 101]⟩, n4.v] w fun e w' => ∃ A c q, e = .returned (.tuple #[tv 0 ⟨#[120]⟩ 0 0 A 1 c, .int .i64 0]) ∧ PRow w' 0 13 A c [q] ∧ PA.kv q = (⟨#[97, 103, 101]⟩, t4) ∧ Below w.heap.size w w' := by
  refine (with_found w 13 0 ⟨#[120]⟩ 0 0 (some ⟨gp, 0, none⟩) 1 [p3] h ⟨#[97, 103, 101]⟩ n4 (n_in w 4 (by decide) (by decide)) (by decide) plain4 0 (by simp [idxG, keyB]) (by decide)).mono ?_
  rintro e w' ⟨A, c, r, rfl, hr, hm, _, hb⟩
  have hl : r.length = 1 := by have := congrArg List.length hm; simpa [withL] using this
  match r, hl with
  | [q], _ => exact ⟨A, c, q, rfl, hr.low (Nat.zero_le _), by simpa [withL, PA.kv, PA.ckv, copyV, t4, V.k, V.n, V.s, V.l, V.m] using hm, hb⟩
def IsWith : Value → World → Prop := fun v w => ∃ A c q, v = .tuple #[tv 0 ⟨#[120]⟩ 0 0 A 1 c, .int .i64 0] ∧ PRow w 0 13 A c [q] ∧ PA.kv q = (⟨#[97, 103, 101]⟩, t4)
theorem IsWith.stays : Stays IsWith := fun _ _ _ ⟨A, c, q, e, h, k⟩ hb => ⟨A, c, q, e, h.next hb, k⟩
def IsThg : Value → World → Prop := fun v w => ∃ A c q, v = tv 0 ⟨#[120]⟩ 0 0 A 1 c ∧ PRow w 0 13 A c [q] ∧ PA.kv q = (⟨#[97, 103, 101]⟩, t4)
theorem IsThg.stays : Stays IsThg := fun _ _ _ ⟨A, c, q, e, h, k⟩ hb => ⟨A, c, q, e, h.next hb, k⟩
def IsBoxT (lo : Nat) : Value → World → Prop := fun v w => ∃ g, v = .pointer (some ⟨g, 0, none⟩) ∧ CellT w g (.int .i64 0) (.string ⟨#[]⟩) (.int .i64 0) (.int .i64 0) (.slice none 0 0) ∧ lo ≤ g
theorem IsBoxT.stays (lo : Nat) : Stays (IsBoxT lo) := fun _ _ _ ⟨g, e, h, hl⟩ hb => ⟨g, e, h.next hb, hl⟩
/-- A row of one property whose value has no rows lies in no thing's box. -/
theorem prow_far {w : World} {g lo d c : Nat} {A : Option Addr} {q : PA} {v0 v1 v2 v3 v4 : Value} (hx : q.x.t.l = [] ∧ q.x.t.m = []) (h : PRow w lo (d + 1) A c [q]) (hk : BlkT w g 1) : PRow (put5 w g 0 v0 v1 v2 v3 v4) lo (d + 1) A c [q] := by
  refine ⟨h.le, h.cap, h.big, h.nil, fun h0 => ?_, fun p hp => ?_⟩
  · obtain ⟨b, off, e, h1, h2, hc⟩ := h.at_ h0
    have hb : b ≠ g := fun e => by
      subst e
      have q5 := (hc 0 q rfl).c4
      obtain ⟨cs, e1, e2⟩ := hk
      rw [cell_of_row w b _ cs 34 (0, 0) e1, Array.getElem?_eq_none (by omega)] at q5
      cases q5
    refine ⟨b, off, e, h1, by rw [put5_size]; exact h2, fun j p hj => ?_⟩
    have hk' := fun o => World.cell?_of_block (w := w) (w' := put5 w g 0 v0 v1 v2 v3 v4) (a := ⟨b, o, none⟩) (put5_far w g 0 v0 v1 v2 v3 v4 b hb)
    obtain ⟨k0, k1, k2, k3, k4, k5⟩ := hc j p hj
    exact ⟨(hk' _).trans k0, (hk' _).trans k1, (hk' _).trans k2, (hk' _).trans k3, (hk' _).trans k4, (hk' _).trans k5⟩
  · obtain rfl : p = q := by simpa using hp
    obtain ⟨hf, h1, h2⟩ := h.vals p hp
    refine ⟨hf, ?_, ?_⟩
    · rw [hx.1] at h1 ⊢
      exact ⟨h1.le, h1.cap, h1.big, h1.nil, fun h => absurd h (by simp)⟩
    · rw [hx.2] at h2 ⊢
      exact ⟨h2.le, h2.cap, h2.big, h2.nil, fun h => absurd h (by simp)⟩
def Cut2 (W : World) (s2 s3 : Value) (w : World) : Prop := ∃ g2 A c q, s2 = .pointer (some ⟨g2, 0, none⟩) ∧ s3 = .int .i64 0 ∧ Hid (Below W.heap.size W w) ∧ Hid (CellT w g2 (.int .i64 0) (.string ⟨#[120]⟩) (.int .i64 0) (.int .i64 0) (.slice A 1 c)) ∧ Hid (PRow w 0 13 A c [q]) ∧ Hid (PA.kv q = (⟨#[97, 103, 101]⟩, t4))
theorem cut2_fin {W wf : World} {g c : Nat} {A : Option Addr} {q : PA} (hj : Below W.heap.size W wf) (hl : W.heap.size ≤ g) (hk : CellT wf g (.int .i64 0) (.string ⟨#[]⟩) (.int .i64 0) (.int .i64 0) (.slice none 0 0)) (h : PRow wf 0 13 A c [q]) (kv : PA.kv q = (⟨#[97, 103, 101]⟩, t4)) :
    Cut2 W (.pointer (some ⟨g, 0, none⟩)) (.int .i64 0) (put5 wf g 0 (.int .i64 0) (.string ⟨#[120]⟩) (.int .i64 0) (.int .i64 0) (.slice A 1 c)) := by
  have ht : q.x.t = t4 := congrArg Prod.snd kv
  exact ⟨g, A, c, q, rfl, rfl, Lib.hid (hj.trans (put5_below _ _ _ _ _ _ _ _ _ hl)), Lib.hid (fin5T hk.blk _ _ _ _ _), Lib.hid (prow_far (by rw [ht]; exact ⟨rfl, rfl⟩) h hk.blk), Lib.hid kv⟩
def g2D : Nat → Tmp := fun j => [13, 14, 15, 12, 16, 17, 2, 0, 3].getD j 0
def g2E : Nat → List Nat := fun j => [[], [], [0, 1], [2], [3], [3], [], [], []].getD j []
def g4D : Nat → Tmp := fun j => [24, 25, 26, 23, 27, 28, 6, 0, 7].getD j 0
def g4E : Nat → List Nat := fun j => [[], [], [0, 1], [2], [3], [3], [], [], []].getD j []

theorem idx_age {q : PA} (h : PA.kv q = (⟨#[97, 103, 101]⟩, t4)) : idxG (keyB ⟨#[97, 103, 101]⟩) [q] 0 = ((0 : Nat) : Int) := by
  have hk : q.key = ⟨#[97, 103, 101]⟩ := congrArg Prod.fst h
  unfold idxG keyB
  rw [hk]; simp
theorem trow_one (w : World) (t : TA) (h : PRow w 0 13 t.A t.c t.l) : TRow (w.alloc (.cells #[.int .i64 t.id, .string t.label, .int .i64 t.o, .int .i64 t.i, .slice t.A t.l.length t.c] 34)) 13 (some ⟨w.heap.size, 0, none⟩) 1 [t] :=
  ⟨by simp, by simp, fun _ => ⟨w.heap.size, 0, rfl, by simp, fun j u hj => by
    have hj1 := (List.getElem?_eq_some_iff.1 hj).1
    obtain rfl : j = 0 := by simp at hj1; omega
    simp at hj
    subst hj
    have := CellT.new w (.int .i64 t.id) (.string t.label) (.int .i64 t.o) (.int .i64 t.i) (.slice t.A t.l.length t.c)
    exact ⟨this.c0, this.c1, this.c2, this.c3, this.c4⟩⟩, fun u hu => by
    simp at hu
    subst hu
    exact h.next (below_new _ _)⟩
set_option maxHeartbeats 16000000 in
theorem known_any (w : World) : Calls Try.prog 10 #[] w fun e w' => e = .returned (.bool true) ∧ Below w.heap.size w w' := by
  go_enter Try.func10, Try.ntmps10
  go_wp2_with fail
  refine (number_lit 3 w (by decide) (by decide)).mono ?_
  rintro e w1 ⟨rfl, hb1⟩
  have HB1 := Lib.hid hb1
  clear hb1
  go_upto_region 2 with fail
  have pr : PRow (w1.alloc (.cells #[.string ⟨#[97, 103, 101]⟩, .int .i64 2, .int .i64 3, .string ⟨#[]⟩, .slice none 0 0, .slice none 0 0] 39)) 0 13 (some ⟨w1.heap.size, 0, none⟩) 1 [p3] := prow_one w1 13 ⟨#[97, 103, 101]⟩ n3 (n_in w1 3 (by decide) (by decide))
  have k1 : CellT ((w1.alloc (.cells #[.string ⟨#[97, 103, 101]⟩, .int .i64 2, .int .i64 3, .string ⟨#[]⟩, .slice none 0 0, .slice none 0 0] 39)).alloc (.cells #[.int .i64 0, .string ⟨#[120]⟩, .int .i64 0, .int .i64 0, .slice (some ⟨w1.heap.size, 0, none⟩) 1 1] 34)) (w1.alloc (.cells #[.string ⟨#[97, 103, 101]⟩, .int .i64 2, .int .i64 3, .string ⟨#[]⟩, .slice none 0 0, .slice none 0 0] 39)).heap.size (.int .i64 0) (.string ⟨#[120]⟩) (.int .i64 0) (.int .i64 0) (.slice (some ⟨w1.heap.size, 0, none⟩) 1 1) := CellT.new _ _ _ _ _ _
  rw [size_alloc] at k1
  have pr2 : PRow ((w1.alloc (.cells #[.string ⟨#[97, 103, 101]⟩, .int .i64 2, .int .i64 3, .string ⟨#[]⟩, .slice none 0 0, .slice none 0 0] 39)).alloc (.cells #[.int .i64 0, .string ⟨#[120]⟩, .int .i64 0, .int .i64 0, .slice (some ⟨w1.heap.size, 0, none⟩) 1 1] 34)) 0 13 (some ⟨w1.heap.size, 0, none⟩) 1 [p3] := pr.next (below_new _ _)
  have hbw : Below w.heap.size w ((w1.alloc (.cells #[.string ⟨#[97, 103, 101]⟩, .int .i64 2, .int .i64 3, .string ⟨#[]⟩, .slice none 0 0, .slice none 0 0] 39)).alloc (.cells #[.int .i64 0, .string ⟨#[120]⟩, .int .i64 0, .int .i64 0, .slice (some ⟨w1.heap.size, 0, none⟩) 1 1] 34)) := bnext HB1.out (below_new2 w1 _ _)
  have PR := Lib.hid pr2
  have K1 := Lib.hid k1
  have HBW := Lib.hid hbw
  clear pr pr2 k1 hbw HB1
  generalize (w1.alloc (.cells #[.string ⟨#[97, 103, 101]⟩, .int .i64 2, .int .i64 3, .string ⟨#[]⟩, .slice none 0 0, .slice none 0 0] 39)).alloc (.cells #[.int .i64 0, .string ⟨#[120]⟩, .int .i64 0, .int .i64 0, .slice (some ⟨w1.heap.size, 0, none⟩) 1 1] 34) = W at PR K1 HBW ⊢
  generalize hg1 : w1.heap.size + 1 = g1 at K1 ⊢
  generalize hgp : w1.heap.size = gp at PR K1 ⊢
  clear hg1 hgp
  go_cut [2, 3] (fun s2 s3 wx => Cut2 W s2 s3 wx)
  case first =>
    go_wp2_with fail
    refine region_phase [0, 1, 2, 3, 4, 5, 6] [5] g2D g2E 0 (fun w' => Below W.heap.size W w') (saidOf [Is (tv 0 ⟨#[120]⟩ 0 0 (some ⟨gp, 0, none⟩) 1 1), Is n4.v, IsWith, IsWith, IsThg, Is (.int .i64 0), IsBoxT W.heap.size, fun _ _ => True, fun _ _ => True]) 74 rfl (by kernel_rfl) (by kernel_rfl) (fun _ _ h hb => bnext h hb) (stays_said _ (stays_cons (Is.stays _) (stays_cons (Is.stays _) (stays_cons (IsWith.stays) (stays_cons (IsWith.stays) (stays_cons (IsThg.stays) (stays_cons (Is.stays _) (stays_cons (IsBoxT.stays _) (stays_cons (fun _ _ _ _ _ => trivial) (stays_cons (fun _ _ _ _ _ => trivial) stays_nil)))))))))) (below_drewN _ _ 1) (by kernel_rfl) ?_ ?_
    · skip
      refine owes_cons (Owes.mk (o := ({ dst := some 13, op := .load 34 (.tmp 1), type := 34, pos := "law.go:17", after := #[], guard := none } : Oper)) rfl (fun v wk hj hD K hK => ?_)) ?_
      · simp only [g2D, g2E, putAll, Act.put, List.getD_cons_zero, List.setIfInBounds_toArray, List.set_cons_zero, List.set_cons_succ] at hK ⊢
        obtain ⟨q0, q1, q2, q3, q4, _⟩ := (K1.out.next hj)
        go_simp
        exact hK.out _ _ (Below.refl _ _) rfl
      refine owes_cons (Owes.mk (o := ({ dst := some 14, op := .call { callee := .value (.func 29), args := #[.const (.int .i64 4)], argTypes := #[3] }, type := 37, pos := "law.go:17", after := #[], guard := none } : Oper)) rfl (fun v wk hj hD K hK => ?_)) ?_
      · simp only [g2D, g2E, putAll, Act.put, List.getD_cons_succ, List.getD_cons_zero, List.setIfInBounds_toArray, List.set_cons_zero, List.set_cons_succ] at hK ⊢
        go_simp
        refine (number_lit 4 _ (by decide) (by decide)).mono ?_
        rintro e w2 ⟨rfl, hb⟩
        exact hK.out _ _ hb rfl
      refine owes_cons (Owes.mk (o := ({ dst := some 15, op := .call { callee := .value (.func 25), args := #[.tmp 13, .const (.string { data := #[97, 103, 101] }), .tmp 14], argTypes := #[34, 9, 37] }, type := 49, pos := "law.go:17", after := #[{ on := 0, ground := .data }, { on := 1, ground := .data }, { on := 1, ground := .chain }], guard := none } : Oper)) rfl (fun v wk hj hD K hK => ?_)) ?_
      · have h0 : v 0 = (tv 0 ⟨#[120]⟩ 0 0 (some ⟨gp, 0, none⟩) 1 1) := hD 0 (by decide)
        have h1 : v 1 = n4.v := hD 1 (by decide)
        simp only [g2D, g2E, putAll, Act.put, List.getD_cons_succ, List.getD_cons_zero, List.setIfInBounds_toArray, List.set_cons_zero, List.set_cons_succ, h0, h1] at hK ⊢
        go_simp
        refine (with_age wk gp (PR.out.next hj)).mono ?_
        rintro e w2 ⟨A, c, q, rfl, hr, hq, hb⟩
        exact hK.out _ _ hb ⟨A, c, q, rfl, hr, hq⟩
      refine owes_cons (Owes.mk (o := ({ dst := some 12, op := .move (.tmp 15), type := 49, pos := "law.go:17", after := #[{ on := 2, ground := .data }], guard := none } : Oper)) rfl (fun v wk hj hD K hK => ?_)) ?_
      · obtain ⟨A2, c2, q2, h2, r2, k2⟩ : ∃ A c q, v 2 = .tuple #[tv 0 ⟨#[120]⟩ 0 0 A 1 c, .int .i64 0] ∧ PRow wk 0 13 A c [q] ∧ q.kv = (⟨#[97, 103, 101]⟩, t4) := hD 2 (by decide)
        simp only [g2D, g2E, putAll, Act.put, List.getD_cons_succ, List.getD_cons_zero, List.setIfInBounds_toArray, List.set_cons_zero, List.set_cons_succ, h2] at hK ⊢
        go_simp
        exact hK.out _ _ (Below.refl _ _) ⟨_, _, _, rfl, r2, k2⟩
      refine owes_cons (Owes.mk (o := ({ dst := some 16, op := .extract (.tmp 12) 0, type := 34, pos := "law.go:17", after := #[{ on := 3, ground := .data }], guard := none } : Oper)) rfl (fun v wk hj hD K hK => ?_)) ?_
      · obtain ⟨A3, c3, q3, h3, r3, k3⟩ : ∃ A c q, v 3 = .tuple #[tv 0 ⟨#[120]⟩ 0 0 A 1 c, .int .i64 0] ∧ PRow wk 0 13 A c [q] ∧ q.kv = (⟨#[97, 103, 101]⟩, t4) := hD 3 (by decide)
        simp only [g2D, g2E, putAll, Act.put, List.getD_cons_succ, List.getD_cons_zero, List.setIfInBounds_toArray, List.set_cons_zero, List.set_cons_succ, h3] at hK ⊢
        go_simp
        exact hK.out _ _ (Below.refl _ _) ⟨_, _, _, rfl, r3, k3⟩
      refine owes_cons (Owes.mk (o := ({ dst := some 17, op := .extract (.tmp 12) 1, type := 28, pos := "law.go:17", after := #[{ on := 3, ground := .data }, { on := 7, ground := .gcOnly .lateStores }], guard := none } : Oper)) rfl (fun v wk hj hD K hK => ?_)) ?_
      · obtain ⟨A3, c3, q3, h3, r3, k3⟩ : ∃ A c q, v 3 = .tuple #[tv 0 ⟨#[120]⟩ 0 0 A 1 c, .int .i64 0] ∧ PRow wk 0 13 A c [q] ∧ q.kv = (⟨#[97, 103, 101]⟩, t4) := hD 3 (by decide)
        simp only [g2D, g2E, putAll, Act.put, List.getD_cons_succ, List.getD_cons_zero, List.setIfInBounds_toArray, List.set_cons_zero, List.set_cons_succ, h3] at hK ⊢
        go_simp
        exact hK.out _ _ (Below.refl _ _) rfl
      refine owes_cons (Owes.mk (o := ({ dst := some 2, op := .alloc 34, type := 0, pos := "law.go:17", after := #[], guard := none } : Oper)) rfl (fun v wk hj hD K hK => ?_)) ?_
      · simp only [g2D, g2E, putAll, Act.put, List.getD_cons_succ, List.getD_cons_zero, List.setIfInBounds_toArray, List.set_cons_zero, List.set_cons_succ] at hK ⊢
        go_simp
        exact hK.out _ _ (below_new _ _) ⟨_, rfl, CellT.new _ _ _ _ _ _, hj.size⟩
      exact owes_nil
    · intro p v wf h1 h2 hj hr
      by_cases hz : p 5 = true
      · obtain rfl := marks_all h1 (fun m hm => by by_cases e : m = 5; rw [e]; exact hz; exact h2 m hm (by simpa using e))
        obtain ⟨A4, c4, q4, h4, r4, k4⟩ : ∃ A c q, v 4 = tv 0 ⟨#[120]⟩ 0 0 A 1 c ∧ PRow wf 0 13 A c [q] ∧ q.kv = (⟨#[97, 103, 101]⟩, t4) := hr 4 (by decide) (by decide)
        have h5 : v 5 = (.int .i64 0) := hr 5 (by decide) (by decide)
        obtain ⟨z6, h6, r6, l6⟩ : ∃ g, v 6 = .pointer (some ⟨g, 0, none⟩) ∧ CellT wf g (.int .i64 0) (.string ⟨#[]⟩) (.int .i64 0) (.int .i64 0) (.slice none 0 0) ∧ W.heap.size ≤ g := hr 6 (by decide) (by decide)
        rw [show List.filter (fun k => [0, 1, 2, 3, 4, 5, 6].contains k) [0, 1, 2, 3, 4, 5, 6] = [0, 1, 2, 3, 4, 5, 6] from rfl]
        simp only [g2D, putAll, Act.put, List.getD_cons_succ, List.getD_cons_zero, List.setIfInBounds_toArray, List.set_cons_zero, List.set_cons_succ, h4, h5, h6]
        obtain ⟨q0, q1, q2, q3, q4, p0, p1, p2, p3, p4, _⟩ := id r6
        refine anyN_any (S := fun _ => True) (N := []) _ _ _ _ ?_
        refine anyN_one (i := 7) (o := ({ dst := none, op := .store 34 (.tmp 2) (.tmp 16), type := 0, pos := "law.go:17", after := #[{ on := 6, ground := .data }, { on := 4, ground := .data }, { on := 2, ground := .chain }, { on := 0, ground := .phase }, { on := 1, ground := .phase }, { on := 2, ground := .phase }, { on := 3, ground := .phase }, { on := 4, ground := .phase }, { on := 5, ground := .textOnly .lateStores }, { on := 6, ground := .phase }], guard := none } : Oper)) (by kernel_rfl) rfl (fun K hK => ?_)
        go_simp
        refine hK.out _ _ (fun _ => trivial) ?_
        clear hK K
        try simp only [Act.put, List.setIfInBounds_toArray, List.set_cons_zero, List.set_cons_succ]
        refine anyN_one (i := 8) (o := ({ dst := some 3, op := .assign (.tmp 17), type := 28, pos := "law.go:17", after := #[{ on := 5, ground := .data }, { on := 7, ground := .chain }, { on := 0, ground := .phase }, { on := 1, ground := .phase }, { on := 2, ground := .phase }, { on := 3, ground := .phase }, { on := 4, ground := .phase }, { on := 5, ground := .phase }, { on := 6, ground := .phase }, { on := 7, ground := .phase }], guard := none } : Oper)) (by kernel_rfl) rfl (fun K hK => ?_)
        go_simp
        refine hK.out _ _ (fun _ => trivial) ?_
        clear hK K
        try simp only [Act.put, List.setIfInBounds_toArray, List.set_cons_zero, List.set_cons_succ]
        refine anyN_done (by kernel_rfl) ?_ _
        go_wp2_with fail
        go_meet
        exact cut2_fin hj l6 r6 r4 k4
      · obtain rfl := but_one 5 h1 (fun m hm hne => h2 m hm (by simpa using hne)) (by simpa using hz)
        obtain ⟨A4, c4, q4, h4, r4, k4⟩ : ∃ A c q, v 4 = tv 0 ⟨#[120]⟩ 0 0 A 1 c ∧ PRow wf 0 13 A c [q] ∧ q.kv = (⟨#[97, 103, 101]⟩, t4) := hr 4 (by decide) (by decide)
        obtain ⟨z6, h6, r6, l6⟩ : ∃ g, v 6 = .pointer (some ⟨g, 0, none⟩) ∧ CellT wf g (.int .i64 0) (.string ⟨#[]⟩) (.int .i64 0) (.int .i64 0) (.slice none 0 0) ∧ W.heap.size ≤ g := hr 6 (by decide) (by decide)
        obtain ⟨A3, c3, q3, h3, r3, k3⟩ : ∃ A c q, v 3 = .tuple #[tv 0 ⟨#[120]⟩ 0 0 A 1 c, .int .i64 0] ∧ PRow wf 0 13 A c [q] ∧ q.kv = (⟨#[97, 103, 101]⟩, t4) := hr 3 (by decide) (by decide)
        rw [show List.filter (fun k => [0, 1, 2, 3, 4, 5, 6].contains k && k != 5) [0, 1, 2, 3, 4, 5, 6] = [0, 1, 2, 3, 4, 6] from rfl]
        simp only [g2D, putAll, Act.put, List.getD_cons_succ, List.getD_cons_zero, List.setIfInBounds_toArray, List.set_cons_zero, List.set_cons_succ, h4, h6, h3]
        obtain ⟨q0, q1, q2, q3, q4, p0, p1, p2, p3, p4, _⟩ := id r6
        refine anyN_any (S := fun _ => True) (N := []) _ _ _ _ ?_
        refine anyN_take (i := 5) (oi := ({ dst := some 17, op := .extract (.tmp 12) 1, type := 28, pos := "law.go:17", after := #[{ on := 3, ground := .data }, { on := 7, ground := .gcOnly .lateStores }], guard := none } : Oper)) (v := .int .i64 0) [] rfl (by kernel_rfl) (by kernel_rfl) (by kernel_rfl) (by kernel_rfl) (fun _ _ _ h => h) (by rfl) (by intro _ _; go_simp) trivial ?_
        try simp only [Act.put, List.setIfInBounds_toArray, List.set_cons_zero, List.set_cons_succ]
        refine anyN_one (i := 7) (o := ({ dst := none, op := .store 34 (.tmp 2) (.tmp 16), type := 0, pos := "law.go:17", after := #[{ on := 6, ground := .data }, { on := 4, ground := .data }, { on := 2, ground := .chain }, { on := 0, ground := .phase }, { on := 1, ground := .phase }, { on := 2, ground := .phase }, { on := 3, ground := .phase }, { on := 4, ground := .phase }, { on := 5, ground := .textOnly .lateStores }, { on := 6, ground := .phase }], guard := none } : Oper)) (by kernel_rfl) rfl (fun K hK => ?_)
        go_simp
        refine hK.out _ _ (fun _ => trivial) ?_
        clear hK K
        try simp only [Act.put, List.setIfInBounds_toArray, List.set_cons_zero, List.set_cons_succ]
        refine anyN_one (i := 8) (o := ({ dst := some 3, op := .assign (.tmp 17), type := 28, pos := "law.go:17", after := #[{ on := 5, ground := .data }, { on := 7, ground := .chain }, { on := 0, ground := .phase }, { on := 1, ground := .phase }, { on := 2, ground := .phase }, { on := 3, ground := .phase }, { on := 4, ground := .phase }, { on := 5, ground := .phase }, { on := 6, ground := .phase }, { on := 7, ground := .phase }], guard := none } : Oper)) (by kernel_rfl) rfl (fun K hK => ?_)
        go_simp
        refine hK.out _ _ (fun _ => trivial) ?_
        clear hK K
        try simp only [Act.put, List.setIfInBounds_toArray, List.set_cons_zero, List.set_cons_succ]
        refine anyN_done (by kernel_rfl) ?_ _
        go_wp2_with fail
        go_meet
        exact cut2_fin hj l6 r6 r4 k4
  case rest =>
    obtain ⟨g2, A2, c2, q2, rfl, rfl, HB2, K2, PR2, KV2⟩ := hcut
    have K1b := Lib.hid (K1.out.next HB2.out)
    have PRb := Lib.hid (PR.out.next HB2.out)
    have HBb := Lib.hid (bnext HBW.out HB2.out)
    clear K1 PR HBW HB2
    obtain ⟨c0, c1, c2', c3, c4, _⟩ := K2.out
    go_wp2_with fail
    refine (prop_found wc 13 0 ⟨#[120]⟩ 0 0 A2 c2 [q2] PR2.out ⟨#[97, 103, 101]⟩ 0 (idx_age KV2.out) (by simp)).mono ?_
    rintro e w3 ⟨p, q, hp, rfl, hq, hin, hb3⟩
    have hp2 : q2 = p := by simpa using hp
    have e2 : q2.x.t = t4 := congrArg Prod.snd KV2.out
    have hqt : q.t = t4 := by rw [hq, ← hp2, e2]; first | done | rfl
    have HQ := Lib.hid hqt
    clear hp2 e2 hqt
    have IN := Lib.hid hin
    have K1c := Lib.hid (K1b.out.next hb3)
    have K2c := Lib.hid (K2.out.next hb3)
    have PRc := Lib.hid (PRb.out.next hb3)
    have HBc := Lib.hid (bnext HBb.out hb3)
    clear hp hq hin hb3 K1b PRb HBb PR2 K2 c0 c1 c2' c3 c4
    go_upto_region 4 with fail
    have k4 := Bx.new w3 q
    have K4 := Lib.hid k4
    have K1d := Lib.hid (K1c.out.next (below_new w3 (.cells #[.int .i64 q.t.k, .int .i64 q.t.n, .string q.t.s, .slice q.A q.t.l.length q.c, .slice q.A' q.t.m.length q.c'] 37)))
    have K2d := Lib.hid (K2c.out.next (below_new w3 (.cells #[.int .i64 q.t.k, .int .i64 q.t.n, .string q.t.s, .slice q.A q.t.l.length q.c, .slice q.A' q.t.m.length q.c'] 37)))
    have PRd := Lib.hid (PRc.out.next (below_new w3 (.cells #[.int .i64 q.t.k, .int .i64 q.t.n, .string q.t.s, .slice q.A q.t.l.length q.c, .slice q.A' q.t.m.length q.c'] 37)))
    have INd := Lib.hid (IN.out.next (below_new w3 (.cells #[.int .i64 q.t.k, .int .i64 q.t.n, .string q.t.s, .slice q.A q.t.l.length q.c, .slice q.A' q.t.m.length q.c'] 37)))
    have HBd := Lib.hid (bnext HBc.out (below_new w3 (.cells #[.int .i64 q.t.k, .int .i64 q.t.n, .string q.t.s, .slice q.A q.t.l.length q.c, .slice q.A' q.t.m.length q.c'] 37)))
    clear k4 K1c K2c PRc IN HBc
    generalize World.alloc w3 _ = W at K4 K1d K2d PRd INd HBd
    generalize w3.heap.size = g4 at K4
    have K1 := K1d
    have PR := PRd
    go_cut [7] (fun s7 wx => s7 = .int .i64 2 ∧ Hid (Below W.heap.size W wx))
    case first =>
      go_wp2_with fail
      refine region_phase [0, 1, 2, 3, 4, 5, 6] [5] g4D g4E 0 (fun w' => Below W.heap.size W w') (saidOf [Is (tv 0 ⟨#[120]⟩ 0 0 (some ⟨gp, 0, none⟩) 1 1), Is n4.v, Is (.tuple #[tv 0 ⟨#[]⟩ 0 0 none 0 0, .int .i64 2]), Is (.tuple #[tv 0 ⟨#[]⟩ 0 0 none 0 0, .int .i64 2]), Is (tv 0 ⟨#[]⟩ 0 0 none 0 0), Is (.int .i64 2), IsBoxT W.heap.size, fun _ _ => True, fun _ _ => True]) 74 rfl (by kernel_rfl) (by kernel_rfl) (fun _ _ h hb => bnext h hb) (stays_said _ (stays_cons (Is.stays _) (stays_cons (Is.stays _) (stays_cons (Is.stays _) (stays_cons (Is.stays _) (stays_cons (Is.stays _) (stays_cons (Is.stays _) (stays_cons (IsBoxT.stays _) (stays_cons (fun _ _ _ _ _ => trivial) (stays_cons (fun _ _ _ _ _ => trivial) stays_nil)))))))))) (below_drewN _ _ 1) (by kernel_rfl) ?_ ?_
      · skip
        refine owes_cons (Owes.mk (o := ({ dst := some 24, op := .load 34 (.tmp 1), type := 34, pos := "law.go:19", after := #[], guard := none } : Oper)) rfl (fun v wk hj hD K hK => ?_)) ?_
        · simp only [g4D, g4E, putAll, Act.put, List.getD_cons_zero, List.setIfInBounds_toArray, List.set_cons_zero, List.set_cons_succ] at hK ⊢
          obtain ⟨q0, q1, q2, q3, q4, _⟩ := (K1.out.next hj)
          go_simp
          exact hK.out _ _ (Below.refl _ _) rfl
        refine owes_cons (Owes.mk (o := ({ dst := some 25, op := .call { callee := .value (.func 29), args := #[.const (.int .i64 4)], argTypes := #[3] }, type := 37, pos := "law.go:19", after := #[], guard := none } : Oper)) rfl (fun v wk hj hD K hK => ?_)) ?_
        · simp only [g4D, g4E, putAll, Act.put, List.getD_cons_succ, List.getD_cons_zero, List.setIfInBounds_toArray, List.set_cons_zero, List.set_cons_succ] at hK ⊢
          go_simp
          refine (number_lit 4 _ (by decide) (by decide)).mono ?_
          rintro e w2 ⟨rfl, hb⟩
          exact hK.out _ _ hb rfl
        refine owes_cons (Owes.mk (o := ({ dst := some 26, op := .call { callee := .value (.func 25), args := #[.tmp 24, .const (.string { data := #[50, 120] }), .tmp 25], argTypes := #[34, 9, 37] }, type := 49, pos := "law.go:19", after := #[{ on := 0, ground := .data }, { on := 1, ground := .data }, { on := 1, ground := .chain }], guard := none } : Oper)) rfl (fun v wk hj hD K hK => ?_)) ?_
        · have h0 : v 0 = (tv 0 ⟨#[120]⟩ 0 0 (some ⟨gp, 0, none⟩) 1 1) := hD 0 (by decide)
          have h1 : v 1 = n4.v := hD 1 (by decide)
          simp only [g4D, g4E, putAll, Act.put, List.getD_cons_succ, List.getD_cons_zero, List.setIfInBounds_toArray, List.set_cons_zero, List.set_cons_succ, h0, h1] at hK ⊢
          go_simp
          refine (with_noName wk 0 ⟨#[120]⟩ 0 0 (some ⟨gp, 0, none⟩) 1 1 ⟨#[50, 120]⟩ n4 (by decide)).mono ?_
          rintro e w2 ⟨rfl, hb⟩
          exact hK.out _ _ hb rfl
        refine owes_cons (Owes.mk (o := ({ dst := some 23, op := .move (.tmp 26), type := 49, pos := "law.go:19", after := #[{ on := 2, ground := .data }], guard := none } : Oper)) rfl (fun v wk hj hD K hK => ?_)) ?_
        · have h2 : v 2 = (.tuple #[tv 0 ⟨#[]⟩ 0 0 none 0 0, .int .i64 2]) := hD 2 (by decide)
          simp only [g4D, g4E, putAll, Act.put, List.getD_cons_succ, List.getD_cons_zero, List.setIfInBounds_toArray, List.set_cons_zero, List.set_cons_succ, h2] at hK ⊢
          go_simp
          exact hK.out _ _ (Below.refl _ _) rfl
        refine owes_cons (Owes.mk (o := ({ dst := some 27, op := .extract (.tmp 23) 0, type := 34, pos := "law.go:19", after := #[{ on := 3, ground := .data }], guard := none } : Oper)) rfl (fun v wk hj hD K hK => ?_)) ?_
        · have h3 : v 3 = (.tuple #[tv 0 ⟨#[]⟩ 0 0 none 0 0, .int .i64 2]) := hD 3 (by decide)
          simp only [g4D, g4E, putAll, Act.put, List.getD_cons_succ, List.getD_cons_zero, List.setIfInBounds_toArray, List.set_cons_zero, List.set_cons_succ, h3] at hK ⊢
          go_simp
          exact hK.out _ _ (Below.refl _ _) rfl
        refine owes_cons (Owes.mk (o := ({ dst := some 28, op := .extract (.tmp 23) 1, type := 28, pos := "law.go:19", after := #[{ on := 3, ground := .data }, { on := 7, ground := .gcOnly .lateStores }], guard := none } : Oper)) rfl (fun v wk hj hD K hK => ?_)) ?_
        · have h3 : v 3 = (.tuple #[tv 0 ⟨#[]⟩ 0 0 none 0 0, .int .i64 2]) := hD 3 (by decide)
          simp only [g4D, g4E, putAll, Act.put, List.getD_cons_succ, List.getD_cons_zero, List.setIfInBounds_toArray, List.set_cons_zero, List.set_cons_succ, h3] at hK ⊢
          go_simp
          exact hK.out _ _ (Below.refl _ _) rfl
        refine owes_cons (Owes.mk (o := ({ dst := some 6, op := .alloc 34, type := 0, pos := "law.go:19", after := #[], guard := none } : Oper)) rfl (fun v wk hj hD K hK => ?_)) ?_
        · simp only [g4D, g4E, putAll, Act.put, List.getD_cons_succ, List.getD_cons_zero, List.setIfInBounds_toArray, List.set_cons_zero, List.set_cons_succ] at hK ⊢
          go_simp
          exact hK.out _ _ (below_new _ _) ⟨_, rfl, CellT.new _ _ _ _ _ _, hj.size⟩
        exact owes_nil
      · intro p v wf h1 h2 hj hr
        by_cases hz : p 5 = true
        · obtain rfl := marks_all h1 (fun m hm => by by_cases e : m = 5; rw [e]; exact hz; exact h2 m hm (by simpa using e))
          have h4 : v 4 = (tv 0 ⟨#[]⟩ 0 0 none 0 0) := hr 4 (by decide) (by decide)
          have h5 : v 5 = (.int .i64 2) := hr 5 (by decide) (by decide)
          obtain ⟨z6, h6, r6, l6⟩ : ∃ g, v 6 = .pointer (some ⟨g, 0, none⟩) ∧ CellT wf g (.int .i64 0) (.string ⟨#[]⟩) (.int .i64 0) (.int .i64 0) (.slice none 0 0) ∧ W.heap.size ≤ g := hr 6 (by decide) (by decide)
          rw [show List.filter (fun k => [0, 1, 2, 3, 4, 5, 6].contains k) [0, 1, 2, 3, 4, 5, 6] = [0, 1, 2, 3, 4, 5, 6] from rfl]
          simp only [g4D, putAll, Act.put, List.getD_cons_succ, List.getD_cons_zero, List.setIfInBounds_toArray, List.set_cons_zero, List.set_cons_succ, h4, h5, h6]
          obtain ⟨q0, q1, q2, q3, q4, p0, p1, p2, p3, p4, _⟩ := id r6
          refine anyN_any (S := fun _ => True) (N := []) _ _ _ _ ?_
          refine anyN_one (i := 7) (o := ({ dst := none, op := .store 34 (.tmp 6) (.tmp 27), type := 0, pos := "law.go:19", after := #[{ on := 6, ground := .data }, { on := 4, ground := .data }, { on := 2, ground := .chain }, { on := 0, ground := .phase }, { on := 1, ground := .phase }, { on := 2, ground := .phase }, { on := 3, ground := .phase }, { on := 4, ground := .phase }, { on := 5, ground := .textOnly .lateStores }, { on := 6, ground := .phase }], guard := none } : Oper)) (by kernel_rfl) rfl (fun K hK => ?_)
          go_simp
          refine hK.out _ _ (fun _ => trivial) ?_
          clear hK K
          try simp only [Act.put, List.setIfInBounds_toArray, List.set_cons_zero, List.set_cons_succ]
          refine anyN_one (i := 8) (o := ({ dst := some 7, op := .assign (.tmp 28), type := 28, pos := "law.go:19", after := #[{ on := 5, ground := .data }, { on := 7, ground := .chain }, { on := 0, ground := .phase }, { on := 1, ground := .phase }, { on := 2, ground := .phase }, { on := 3, ground := .phase }, { on := 4, ground := .phase }, { on := 5, ground := .phase }, { on := 6, ground := .phase }, { on := 7, ground := .phase }], guard := none } : Oper)) (by kernel_rfl) rfl (fun K hK => ?_)
          go_simp
          refine hK.out _ _ (fun _ => trivial) ?_
          clear hK K
          try simp only [Act.put, List.setIfInBounds_toArray, List.set_cons_zero, List.set_cons_succ]
          refine anyN_done (by kernel_rfl) ?_ _
          go_wp2_with fail
          go_meet
          exact ⟨rfl, Lib.hid (hj.trans (put5_below W.heap.size _ _ 0 _ _ _ _ _ l6))⟩
        · obtain rfl := but_one 5 h1 (fun m hm hne => h2 m hm (by simpa using hne)) (by simpa using hz)
          have h4 : v 4 = (tv 0 ⟨#[]⟩ 0 0 none 0 0) := hr 4 (by decide) (by decide)
          obtain ⟨z6, h6, r6, l6⟩ : ∃ g, v 6 = .pointer (some ⟨g, 0, none⟩) ∧ CellT wf g (.int .i64 0) (.string ⟨#[]⟩) (.int .i64 0) (.int .i64 0) (.slice none 0 0) ∧ W.heap.size ≤ g := hr 6 (by decide) (by decide)
          have h3 : v 3 = (.tuple #[tv 0 ⟨#[]⟩ 0 0 none 0 0, .int .i64 2]) := hr 3 (by decide) (by decide)
          rw [show List.filter (fun k => [0, 1, 2, 3, 4, 5, 6].contains k && k != 5) [0, 1, 2, 3, 4, 5, 6] = [0, 1, 2, 3, 4, 6] from rfl]
          simp only [g4D, putAll, Act.put, List.getD_cons_succ, List.getD_cons_zero, List.setIfInBounds_toArray, List.set_cons_zero, List.set_cons_succ, h4, h6, h3]
          obtain ⟨q0, q1, q2, q3, q4, p0, p1, p2, p3, p4, _⟩ := id r6
          refine anyN_any (S := fun _ => True) (N := []) _ _ _ _ ?_
          refine anyN_take (i := 5) (oi := ({ dst := some 28, op := .extract (.tmp 23) 1, type := 28, pos := "law.go:19", after := #[{ on := 3, ground := .data }, { on := 7, ground := .gcOnly .lateStores }], guard := none } : Oper)) (v := .int .i64 2) [] rfl (by kernel_rfl) (by kernel_rfl) (by kernel_rfl) (by kernel_rfl) (fun _ _ _ h => h) (by rfl) (by intro _ _; go_simp) trivial ?_
          try simp only [Act.put, List.setIfInBounds_toArray, List.set_cons_zero, List.set_cons_succ]
          refine anyN_one (i := 7) (o := ({ dst := none, op := .store 34 (.tmp 6) (.tmp 27), type := 0, pos := "law.go:19", after := #[{ on := 6, ground := .data }, { on := 4, ground := .data }, { on := 2, ground := .chain }, { on := 0, ground := .phase }, { on := 1, ground := .phase }, { on := 2, ground := .phase }, { on := 3, ground := .phase }, { on := 4, ground := .phase }, { on := 5, ground := .textOnly .lateStores }, { on := 6, ground := .phase }], guard := none } : Oper)) (by kernel_rfl) rfl (fun K hK => ?_)
          go_simp
          refine hK.out _ _ (fun _ => trivial) ?_
          clear hK K
          try simp only [Act.put, List.setIfInBounds_toArray, List.set_cons_zero, List.set_cons_succ]
          refine anyN_one (i := 8) (o := ({ dst := some 7, op := .assign (.tmp 28), type := 28, pos := "law.go:19", after := #[{ on := 5, ground := .data }, { on := 7, ground := .chain }, { on := 0, ground := .phase }, { on := 1, ground := .phase }, { on := 2, ground := .phase }, { on := 3, ground := .phase }, { on := 4, ground := .phase }, { on := 5, ground := .phase }, { on := 6, ground := .phase }, { on := 7, ground := .phase }], guard := none } : Oper)) (by kernel_rfl) rfl (fun K hK => ?_)
          go_simp
          refine hK.out _ _ (fun _ => trivial) ?_
          clear hK K
          try simp only [Act.put, List.setIfInBounds_toArray, List.set_cons_zero, List.set_cons_succ]
          refine anyN_done (by kernel_rfl) ?_ _
          go_wp2_with fail
          go_meet
          exact ⟨rfl, Lib.hid (hj.trans (put5_below W.heap.size _ _ 0 _ _ _ _ _ l6))⟩
    case rest =>
      obtain ⟨rfl, HB5⟩ := hcut
      have K1e := Lib.hid (K1d.out.next HB5.out)
      have K2e := Lib.hid (K2d.out.next HB5.out)
      have K4e := Lib.hid (K4.out.next HB5.out)
      have PRe := Lib.hid (PRd.out.next HB5.out)
      have INe := Lib.hid (INd.out.next HB5.out)
      have HBe := Lib.hid (bnext HBd.out HB5.out)
      clear K1 PR K1d K2d K4 PRd INd HBd HB5
      have hn4 : (q.t.n == 4) = true := by rw [HQ.out]; rfl
      obtain ⟨c0, c1, c2', c3, c4, _⟩ := K1e.out
      obtain ⟨e0, e1, e2, e3, e4, _⟩ := K2e.out
      obtain ⟨k0, k1, k2, k3, k4, _⟩ := K4e.out
      go_wp2_with fail
      refine (name_any ⟨#[97, 103, 101]⟩ wc).mono ?_
      rintro e w5 ⟨rfl, rfl⟩
      rw [name_age]
      go_wp2_with fail
      refine (name_any ⟨#[50, 120]⟩ wc).mono ?_
      rintro e w5 ⟨rfl, rfl⟩
      rw [name_2x]
      go_wp2_with fail
      refine (check_few _ 13 (some ⟨wc.heap.size, 0, none⟩) 1 [t1A gp] none 0 [] (trow_one wc (t1A gp) PRe.out) (trow_nil _ _) (okfew1 gp) okfew0 rfl true (.inl ⟨rfl, rfl⟩)).mono ?_
      rintro e w6 ⟨rfl, hb0⟩
      have hb6 := bnext (below_new wc _) hb0
      have K1f := Lib.hid (K1e.out.next hb6)
      have K4f := Lib.hid (K4e.out.next hb6)
      have PRf := Lib.hid (PRe.out.next hb6)
      have INf := Lib.hid (INe.out.next hb6)
      have HBf := Lib.hid (bnext HBe.out hb6)
      clear hb0 hb6 K1e K2e K4e PRe INe HBe c0 c1 c2' c3 c4 e0 e1 e2 e3 e4 k0 k1 k2 k3 k4 hn4
      obtain ⟨c0, c1, c2', c3, c4, _⟩ := K1f.out
      go_wp2_with fail
      refine (check_few _ 13 none 0 [] (some ⟨w6.heap.size, 0, none⟩) 1 [t1A gp] (trow_nil _ _) (trow_one w6 (t1A gp) PRf.out) okfew0 (okfew1 gp) rfl false (.inr ⟨rfl, rfl, rfl⟩)).mono ?_
      rintro e w7 ⟨rfl, hb0⟩
      have hb7 := bnext (below_new w6 _) hb0
      have K4g := Lib.hid (K4f.out.next hb7)
      have INg := Lib.hid (INf.out.next hb7)
      have HBg := Lib.hid (bnext HBf.out hb7)
      clear hb0 hb7 K1f K4f PRf INf HBf c0 c1 c2' c3 c4
      obtain ⟨k0, k1, k2, k3, k4, _⟩ := K4g.out
      go_wp2_with fail
      refine (plain_any w7 13 q INg.out).mono ?_
      rintro e w8 ⟨rfl, hb8⟩
      rw [show plainB q.t = true by rw [HQ.out]; exact plain4]
      have HBh := Lib.hid (bnext HBg.out hb8)
      clear hb8 k0 k1 k2 k3 k4
      go_wp2
      go_ret
      exact ⟨rfl, HBh.out⟩
end Go.Proofs.Ytciipggccjiaiaa
