/- What the law's examples come to: 'known' answers true. -/
import Derived.Test.YtdolejafihgpmaaUb
import Derived.Test.YtdolejafihgpmaaCh
import Derived.Test.YtdolejafihgpmaaPh
import Derived.Test.YtdolejafihgpmaaOrd
import Derived.Deep.RegionHeld3
import Derived.Deep.DeepCutAuto
import Derived.Deep.Cut
namespace Go.Proofs.Ytdolejafihgpmaa
open Go.RowKit Go.Sort
attribute [local go_sem ↓] Go.wp_at_zero Go.wp_at_succ
set_option maxRecDepth 100000
def r6D : Nat → Tmp := fun j => [34, 35, 36, 37, 38, 39, 40, 41, 42, 43, 44, 45, 46, 47, 48, 49, 50, 51, 52, 53, 54, 55, 56, 57, 58, 59, 60, 61, 62, 63, 64, 65, 66, 67, 68, 69, 70, 71, 72, 73, 74, 75, 76, 77, 78, 79, 80, 81, 82, 83, 84, 85, 86, 87, 88, 89, 90, 91, 92, 93, 94, 95, 0].getD j 0
def r6E : Nat → List Nat := fun j => [[], [], [0, 1], [2], [3], [4], [4, 5], [4, 6], [4], [4], [4, 8, 9], [4, 10], [4, 7, 11], [4, 12], [4, 13], [14], [15], [15, 16], [15, 17], [18], [19], [19, 20], [19, 21], [19, 22], [19, 23], [24], [25], [25, 26], [25, 27], [25, 28], [25, 29], [25, 30], [25, 31], [32], [33], [33, 34], [33, 35], [33, 36], [37], [38], [38, 39], [40], [41], [41, 42], [41, 43], [44], [45], [45, 46], [45, 47], [45, 48], [49], [50], [50, 51], [50, 52], [50, 53], [54], [55], [55, 56], [55, 57], [55, 58], [55, 59], [55, 60], [61]].getD j []
def IsRow (l : List V) : Value → World → Prop := fun x w => ∃ g, x = .slice (some ⟨g, 0, none⟩) l.length l.length ∧ RowAt w g l
theorem IsRow.stays (l : List V) : Stays (IsRow l) := fun _ _ _ ⟨g, e, h⟩ hb => ⟨g, e, h.next hb⟩
def IsR1 : Value → World → Prop := fun x w => ∃ A c A' c', x = ag 6 0 ⟨#[]⟩ A 1 c A' 0 c' ∧ Rd w 0 w.heap.size 14 row1K A c A' c'
theorem IsR1.stays : Stays IsR1 := fun _ _ _ ⟨A, c, A', c', e, h⟩ hb => ⟨A, c, A', c', e, h.next hb⟩
def IsR2 : Value → World → Prop := fun x w => ∃ A c A' c', x = ag 6 0 ⟨#[]⟩ A 2 c A' 0 c' ∧ Rd w 0 w.heap.size 14 row2K A c A' c'
theorem IsR2.stays : Stays IsR2 := fun _ _ _ ⟨A, c, A', c', e, h⟩ hb => ⟨A, c, A', c', e, h.next hb⟩

def r3D : Nat → Tmp := fun j => [12, 13, 14, 15, 16, 17, 18, 19, 11, 20, 21, 3, 0, 4].getD j 0
def r3E : Nat → List Nat := fun j => [[], [], [], [], [], [], [0, 1, 2, 3, 4, 5], [6], [7], [8], [8], [], [], []].getD j []
def r4D : Nat → Tmp := fun j => [23, 24, 25, 22, 26, 27, 5, 0, 6].getD j 0
def r4E : Nat → List Nat := fun j => [[], [], [0, 1], [2], [3], [3], [], [], []].getD j []
def IsDict : Value → World → Prop := fun x w => ∃ A c A' c', x = .tuple #[ag 7 0 ⟨#[]⟩ A 2 c A' 2 c', .int .i64 0] ∧ Rd w 0 w.heap.size 13 mapK A c A' c'
theorem IsDict.stays : Stays IsDict := fun _ _ _ ⟨A, c, A', c', e, h⟩ hb => ⟨A, c, A', c', e, h.next hb⟩
def IsMap : Value → World → Prop := fun x w => ∃ A c A' c', x = ag 7 0 ⟨#[]⟩ A 2 c A' 2 c' ∧ Rd w 0 w.heap.size 13 mapK A c A' c'
theorem IsMap.stays : Stays IsMap := fun _ _ _ ⟨A, c, A', c', e, h⟩ hb => ⟨A, c, A', c', e, h.next hb⟩
def IsFound : Value → World → Prop := fun x _ => ∃ A c A' c', x = .tuple #[ag 2 3 ⟨#[]⟩ A 0 c A' 0 c', .bool true]
theorem IsFound.stays : Stays IsFound := fun _ _ _ h _ => h
def IsThree : Value → World → Prop := fun x _ => ∃ A c A' c', x = ag 2 3 ⟨#[]⟩ A 0 c A' 0 c'
theorem IsThree.stays : Stays IsThree := fun _ _ _ h _ => h
def IsBox (lo : Nat) : Value → World → Prop := fun x w => ∃ g, x = .pointer (some ⟨g, 0, none⟩) ∧ Cell w g (.int .i64 0) (.int .i64 0) (.string ⟨#[]⟩) (.slice none 0 0) (.slice none 0 0) ∧ lo ≤ g
theorem IsBox.stays (lo : Nat) : Stays (IsBox lo) := fun _ _ _ ⟨g, e, h, hl⟩ hb => ⟨g, e, h.next hb, hl⟩
theorem but_one {M : List Nat} {p : Nat → Bool} (z : Nat) (h1 : ∀ j, p j = true → j ∈ M) (h2 : ∀ m ∈ M, m ≠ z → p m = true) (h3 : p z = false) : p = fun k => M.contains k && k != z := by
  funext k
  by_cases e : k = z
  · subst e; simp [h3]
  · cases hp : p k with
    | true => rw [List.contains_iff_mem.2 (h1 k hp)]; simp [e]
    | false =>
      cases h : M.contains k with
      | false => rfl
      | true => rw [h2 k (List.contains_iff_mem.1 h) e] at hp; cases hp
theorem rd_bare {w w' : World} {lo B lo' B' d : Nat} {t : V} {A : Option Addr} {c : Nat} {A' : Option Addr} {c' : Nat} (hl : t.l = []) (hm : t.m = []) (h : Rd w lo B (d + 1) t A c A' c') : Rd w' lo' B' (d + 1) t A c A' c' := by
  obtain ⟨hf, h1, h2⟩ := h
  refine ⟨hf, ?_, ?_⟩
  · rw [hl] at h1 ⊢
    exact ⟨h1.le, h1.cap, h1.big, h1.nil, fun h => absurd h (by simp)⟩
  · rw [hm] at h2 ⊢
    exact ⟨h2.le, h2.cap, h2.big, h2.nil, fun h => absurd h (by simp)⟩
theorem row_far {w : World} {g d B : Nat} {A : Option Addr} {c : Nat} {x y : V} {v0 v1 v2 v3 v4 : Value} (hx : x.l = [] ∧ x.m = []) (hy : y.l = [] ∧ y.m = []) (h : Rw w 0 B (d + 1) A c [x, y]) (hk : Blk w g 1) : Rw (put5 w g 0 v0 v1 v2 v3 v4) 0 B (d + 1) A c [x, y] := by
  refine ⟨h.le, h.cap, h.big, h.nil, fun h0 => ?_⟩
  obtain ⟨b, off, e, h1, h2, hc⟩ := h.at_ h0
  have hb : b ≠ g := fun e => by
    subst e
    obtain ⟨_, _, _, _, q, _⟩ := hc 1 y rfl
    obtain ⟨cs, e1, e2⟩ := hk
    have := q.c0
    rw [cell_of_row w b _ cs 24 (0, 0) e1, Array.getElem?_eq_none (by omega)] at this
    cases this
  refine ⟨b, off, e, h1, h2, fun j t hj => ?_⟩
  obtain ⟨A1, c1, A2, c2, q, r⟩ := hc j t hj
  have hk' := fun o => World.cell?_of_block (w := w) (w' := put5 w g 0 v0 v1 v2 v3 v4) (a := ⟨b, o, none⟩) (put5_far w g 0 v0 v1 v2 v3 v4 b hb)
  refine ⟨A1, c1, A2, c2, ⟨(hk' _).trans q.c0, (hk' _).trans q.c1, (hk' _).trans q.c2, (hk' _).trans q.c3, (hk' _).trans q.c4⟩, ?_⟩
  have ht : t.l = [] ∧ t.m = [] := by
    have := List.mem_of_getElem? hj
    simp only [List.mem_cons, List.not_mem_nil, or_false] at this
    rcases this with rfl | rfl
    · exact hx
    · exact hy
  exact rd_bare ht.1 ht.2 r
theorem cut3_fin {w0 a : World} {lo g1 g2 g : Nat} {A : Option Addr} {c : Nat} {A' : Option Addr} {c' : Nat} (h : Kn w0 lo g1 g2 a) (hl : lo ≤ g) (hk : Cell a g (.int .i64 0) (.int .i64 0) (.string ⟨#[]⟩) (.slice none 0 0) (.slice none 0 0)) (rd : Rd a 0 a.heap.size 13 mapK A c A' c') :
    Cut3 w0 lo g1 g2 (.pointer (some ⟨g, 0, none⟩)) (.int .i64 0) (put5 a g 0 (.int .i64 7) (.int .i64 0) (.string ⟨#[]⟩) (.slice A 2 c) (.slice A' 2 c')) := by
  have hb := put5_below lo a g 0 (.int .i64 7) (.int .i64 0) (.string ⟨#[]⟩) (.slice A 2 c) (.slice A' 2 c') hl
  have hz := put5_size a g 0 (.int .i64 7) (.int .i64 0) (.string ⟨#[]⟩) (.slice A 2 c) (.slice A' 2 c')
  have hlt := hk.blk.lt
  refine ⟨g, A, c, A', c', rfl, rfl, h.to hb, fin5 hk.blk _ _ _ _ _, by rw [hz]; exact hlt, by rw [hz]; exact h.hlo, Nat.le_refl _, ?_⟩
  obtain ⟨hf, h1, h2⟩ := rd
  rw [hz]
  exact ⟨hf, row_far ⟨rfl, rfl⟩ ⟨rfl, rfl⟩ h1 hk.blk, row_far ⟨rfl, rfl⟩ ⟨rfl, rfl⟩ h2 hk.blk⟩
theorem cut4_fin {w0 a : World} {lo lo3 g1 g2 g3 g : Nat} {A : Option Addr} {c : Nat} {A' : Option Addr} {c' : Nat} {v0 v2 v3 v4 : Value} (h : Km w0 lo lo3 g1 g2 g3 A c A' c' a) (hl : lo3 ≤ g) (hk : Cell a g (.int .i64 0) (.int .i64 0) (.string ⟨#[]⟩) (.slice none 0 0) (.slice none 0 0)) :
    Cut4 w0 lo lo3 g1 g2 g3 A c A' c' (.pointer (some ⟨g, 0, none⟩)) (.bool true) (put5 a g 0 v0 (.int .i64 3) v2 v3 v4) :=
  ⟨g, rfl, rfl, h.to (put5_below lo3 a g 0 _ _ _ _ _ hl), (fin5 hk.blk _ _ _ _ _).c1, by rw [put5_size]; exact hk.blk.lt⟩

theorem known_end {w0 a : World} {lo lo3 lo5 g1 g2 g3 g5 b off c : Nat} {A' : Option Addr} {c' : Nat} (h : S6 w0 lo lo3 lo5 g1 g2 g3 g5 b off c A' c' a) : Ending.returned (.bool true) = .returned (.bool true) ∧ Below w0.heap.size w0 a := ⟨rfl, h.1.km.kn.bel⟩
theorem rd_newD {a : World} {d : Nat} {t : V} {A : Option Addr} {c : Nat} {A' : Option Addr} {c' : Nat} (o : Obj) (h : Rd a.drew 0 a.drew.heap.size d t A c A' c') : Rd (a.alloc o).drew 0 (a.alloc o).drew.heap.size d t A c A' c' := h.next (below_new a.drew o)

set_option maxHeartbeats 8000000 in
set_option maxRecDepth 100000 in
theorem known_any (w : World) : Calls Try.prog 11 #[] w fun e w' => e = .returned (.bool true) ∧ Below w.heap.size w w' := by
  go_enter Try.func11, Try.ntmps11
  go_wp2_with fail
  refine (number_lit 1 _ (by decide) (by decide)).mono ?_
  rintro e w1 ⟨rfl, hb1⟩
  have c1 := Cell.new w1 (.int .i64 2) (.int .i64 1) (.string ⟨#[]⟩) (.slice none 0 0) (.slice none 0 0)
  have HB1 := Lib.hid (bnext hb1 (below_new w1 (.cells #[.int .i64 2, .int .i64 1, .string ⟨#[]⟩, .slice none 0 0, .slice none 0 0] 24)))
  clear hb1
  go_wp2_with fail
  generalize hW : World.alloc w1 _ = W1 at c1 HB1
  have hz1 : w1.heap.size < W1.heap.size := by rw [← hW]; simp
  clear hW
  refine (number_lit 2 _ (by decide) (by decide)).mono ?_
  rintro e w2 ⟨rfl, hb2⟩
  have c2 := Cell.new w2 (.int .i64 2) (.int .i64 2) (.string ⟨#[]⟩) (.slice none 0 0) (.slice none 0 0)
  have bl := bnext hb2 (below_new w2 (.cells #[.int .i64 2, .int .i64 2, .string ⟨#[]⟩, .slice none 0 0, .slice none 0 0] 24))
  have hz2 : W1.heap.size ≤ w2.heap.size := hb2.size
  clear hb2
  go_upto_region 3 with fail
  generalize hW : World.alloc w2 _ = W2 at c2 bl
  have hz3 : w2.heap.size < W2.heap.size := by rw [← hW]; simp
  clear hW
  have KN : Hid (Kn w W2.heap.size w1.heap.size w2.heap.size W2) := Lib.hid ⟨c1.below bl hz1, c2, by omega, hz3, Nat.le_refl _, (bnext HB1.out bl).size, bnext HB1.out bl⟩
  clear c1 c2 bl HB1
  generalize hlo : W2.heap.size = lo at KN
  have HLO : Hid (lo ≤ W2.heap.size) := Lib.hid (by omega)
  clear hz1 hz2 hz3 hlo
  generalize w1.heap.size = g1 at KN
  generalize w2.heap.size = g2 at KN
  go_cut [3, 4] (fun s3 s4 wx => Cut3 w lo g1 g2 s3 s4 wx)
  case first =>
    go_wp2_with fail
    refine region_phase [0, 1, 2, 3, 4, 5, 6, 7, 8, 9, 10, 11] [10] r3D r3E 0 (fun w' => Kn w lo g1 g2 w') (saidOf [Is (ag 3 0 ⟨#[98]⟩ none 0 0 none 0 0), Is (ag 2 1 ⟨#[]⟩ none 0 0 none 0 0), Is (ag 3 0 ⟨#[97]⟩ none 0 0 none 0 0), Is (ag 2 2 ⟨#[]⟩ none 0 0 none 0 0), Is (ag 3 0 ⟨#[98]⟩ none 0 0 none 0 0), Is (ag 2 3 ⟨#[]⟩ none 0 0 none 0 0), IsRow [wrdB, numV 1, wrdA, numV 2, wrdB, numV 3], IsDict, IsDict, IsMap, Is (.int .i64 0), IsBox lo, fun _ _ => True, fun _ _ => True]) 96 rfl (by kernel_rfl) (by kernel_rfl) (fun _ _ h hb => h.to (hb.mono h.hlo)) (stays_said _ (stays_cons (Is.stays _) (stays_cons (Is.stays _) (stays_cons (Is.stays _) (stays_cons (Is.stays _) (stays_cons (Is.stays _) (stays_cons (Is.stays _) (stays_cons (IsRow.stays _) (stays_cons (IsDict.stays) (stays_cons (IsDict.stays) (stays_cons (IsMap.stays) (stays_cons (Is.stays _) (stays_cons (IsBox.stays _) (stays_cons (fun _ _ _ _ _ => trivial) (stays_cons (fun _ _ _ _ _ => trivial) stays_nil))))))))))))))) (KN.out.to (below_drewN _ _ 1)) (by kernel_rfl) ?_ ?_
    · skip
      refine owes_cons (Owes.mk (o := ({ dst := some 12, op := .call { callee := .value (.func 28), args := #[.const (.string { data := #[98] })], argTypes := #[9] }, type := 24, pos := "law.go:14", after := #[], guard := none } : Oper)) rfl (fun v wk hj hD K hK => ?_)) ?_
      · simp only [r3D, r3E, putAll, Act.put, List.getD_cons_zero, List.setIfInBounds_toArray, List.set_cons_zero, List.set_cons_succ] at hK ⊢
        go_simp
        refine (word_lit _ _).mono ?_
        rintro e w2 ⟨rfl, hb⟩
        exact hK.out _ _ hb rfl
      refine owes_cons (Owes.mk (o := ({ dst := some 13, op := .load 24 (.tmp 1), type := 24, pos := "law.go:14", after := #[], guard := none } : Oper)) rfl (fun v wk hj hD K hK => ?_)) ?_
      · simp only [r3D, r3E, putAll, Act.put, List.getD_cons_succ, List.getD_cons_zero, List.setIfInBounds_toArray, List.set_cons_zero, List.set_cons_succ] at hK ⊢
        obtain ⟨_, q0, q1, q2, q3, q4, p0, p1, p2, p3, p4⟩ := Kn.all hj
        go_simp
        exact hK.out _ _ (Below.refl _ _) rfl
      refine owes_cons (Owes.mk (o := ({ dst := some 14, op := .call { callee := .value (.func 28), args := #[.const (.string { data := #[97] })], argTypes := #[9] }, type := 24, pos := "law.go:14", after := #[{ on := 0, ground := .chain }], guard := none } : Oper)) rfl (fun v wk hj hD K hK => ?_)) ?_
      · simp only [r3D, r3E, putAll, Act.put, List.getD_cons_succ, List.getD_cons_zero, List.setIfInBounds_toArray, List.set_cons_zero, List.set_cons_succ] at hK ⊢
        go_simp
        refine (word_lit _ _).mono ?_
        rintro e w2 ⟨rfl, hb⟩
        exact hK.out _ _ hb rfl
      refine owes_cons (Owes.mk (o := ({ dst := some 15, op := .load 24 (.tmp 2), type := 24, pos := "law.go:14", after := #[], guard := none } : Oper)) rfl (fun v wk hj hD K hK => ?_)) ?_
      · simp only [r3D, r3E, putAll, Act.put, List.getD_cons_succ, List.getD_cons_zero, List.setIfInBounds_toArray, List.set_cons_zero, List.set_cons_succ] at hK ⊢
        obtain ⟨_, q0, q1, q2, q3, q4, p0, p1, p2, p3, p4⟩ := Kn.all hj
        go_simp
        exact hK.out _ _ (Below.refl _ _) rfl
      refine owes_cons (Owes.mk (o := ({ dst := some 16, op := .call { callee := .value (.func 28), args := #[.const (.string { data := #[98] })], argTypes := #[9] }, type := 24, pos := "law.go:14", after := #[{ on := 2, ground := .chain }], guard := none } : Oper)) rfl (fun v wk hj hD K hK => ?_)) ?_
      · simp only [r3D, r3E, putAll, Act.put, List.getD_cons_succ, List.getD_cons_zero, List.setIfInBounds_toArray, List.set_cons_zero, List.set_cons_succ] at hK ⊢
        go_simp
        refine (word_lit _ _).mono ?_
        rintro e w2 ⟨rfl, hb⟩
        exact hK.out _ _ hb rfl
      refine owes_cons (Owes.mk (o := ({ dst := some 17, op := .call { callee := .value (.func 27), args := #[.const (.int .i64 3)], argTypes := #[3] }, type := 24, pos := "law.go:14", after := #[{ on := 4, ground := .chain }], guard := none } : Oper)) rfl (fun v wk hj hD K hK => ?_)) ?_
      · simp only [r3D, r3E, putAll, Act.put, List.getD_cons_succ, List.getD_cons_zero, List.setIfInBounds_toArray, List.set_cons_zero, List.set_cons_succ] at hK ⊢
        go_simp
        refine (number_lit 3 _ (by decide) (by decide)).mono ?_
        rintro e w2 ⟨rfl, hb⟩
        exact hK.out _ _ hb rfl
      refine owes_cons (Owes.mk (o := ({ dst := some 18, op := .buildSlice 22 6 #[(0, .tmp 12), (1, .tmp 13), (2, .tmp 14), (3, .tmp 15), (4, .tmp 16), (5, .tmp 17)], type := 22, pos := "law.go:14", after := #[{ on := 0, ground := .data }, { on := 1, ground := .data }, { on := 2, ground := .data }, { on := 3, ground := .data }, { on := 4, ground := .data }, { on := 5, ground := .data }], guard := none } : Oper)) rfl (fun v wk hj hD K hK => ?_)) ?_
      · have h0 : v 0 = (ag 3 0 ⟨#[98]⟩ none 0 0 none 0 0) := hD 0 (by decide)
        have h1 : v 1 = (ag 2 1 ⟨#[]⟩ none 0 0 none 0 0) := hD 1 (by decide)
        have h2 : v 2 = (ag 3 0 ⟨#[97]⟩ none 0 0 none 0 0) := hD 2 (by decide)
        have h3 : v 3 = (ag 2 2 ⟨#[]⟩ none 0 0 none 0 0) := hD 3 (by decide)
        have h4 : v 4 = (ag 3 0 ⟨#[98]⟩ none 0 0 none 0 0) := hD 4 (by decide)
        have h5 : v 5 = (ag 2 3 ⟨#[]⟩ none 0 0 none 0 0) := hD 5 (by decide)
        simp only [r3D, r3E, putAll, Act.put, List.getD_cons_succ, List.getD_cons_zero, List.setIfInBounds_toArray, List.set_cons_zero, List.set_cons_succ, h0, h1, h2, h3, h4, h5] at hK ⊢
        go_simp
        exact hK.out _ _ (below_new _ _) ⟨_, rfl, row6_new _⟩
      refine owes_cons (Owes.mk (o := ({ dst := some 19, op := .call { callee := .value (.func 22), args := #[.tmp 18], argTypes := #[22] }, type := 34, pos := "law.go:14", after := #[{ on := 6, ground := .data }, { on := 5, ground := .chain }], guard := none } : Oper)) rfl (fun v wk hj hD K hK => ?_)) ?_
      · obtain ⟨z6, h6, r6⟩ : ∃ g, v 6 = .slice (some ⟨g, 0, none⟩) 6 6 ∧ RowAt wk g [wrdB, numV 1, wrdA, numV 2, wrdB, numV 3] := hD 6 (by decide)
        simp only [r3D, r3E, putAll, Act.put, List.getD_cons_succ, List.getD_cons_zero, List.setIfInBounds_toArray, List.set_cons_zero, List.set_cons_succ, h6] at hK ⊢
        go_simp
        refine (dict6 _ _ r6).mono ?_
        rintro e w2 ⟨A, c, A', c', rfl, rd, hb⟩
        exact hK.out _ _ hb ⟨_, _, _, _, rfl, rd.more (Nat.zero_le _) (Nat.le_refl _) (Nat.le_refl _)⟩
      refine owes_cons (Owes.mk (o := ({ dst := some 11, op := .move (.tmp 19), type := 34, pos := "law.go:14", after := #[{ on := 7, ground := .data }], guard := none } : Oper)) rfl (fun v wk hj hD K hK => ?_)) ?_
      · obtain ⟨A7, c7, B7, d7, h7, r7⟩ : ∃ A c A' c', v 7 = .tuple #[ag 7 0 ⟨#[]⟩ A 2 c A' 2 c', .int .i64 0] ∧ Rd wk 0 wk.heap.size 13 mapK A c A' c' := hD 7 (by decide)
        simp only [r3D, r3E, putAll, Act.put, List.getD_cons_succ, List.getD_cons_zero, List.setIfInBounds_toArray, List.set_cons_zero, List.set_cons_succ, h7] at hK ⊢
        go_simp
        exact hK.out _ _ (Below.refl _ _) ⟨_, _, _, _, rfl, r7⟩
      refine owes_cons (Owes.mk (o := ({ dst := some 20, op := .extract (.tmp 11) 0, type := 24, pos := "law.go:14", after := #[{ on := 8, ground := .data }], guard := none } : Oper)) rfl (fun v wk hj hD K hK => ?_)) ?_
      · obtain ⟨A8, c8, B8, d8, h8, r8⟩ : ∃ A c A' c', v 8 = .tuple #[ag 7 0 ⟨#[]⟩ A 2 c A' 2 c', .int .i64 0] ∧ Rd wk 0 wk.heap.size 13 mapK A c A' c' := hD 8 (by decide)
        simp only [r3D, r3E, putAll, Act.put, List.getD_cons_succ, List.getD_cons_zero, List.setIfInBounds_toArray, List.set_cons_zero, List.set_cons_succ, h8] at hK ⊢
        go_simp
        exact hK.out _ _ (Below.refl _ _) ⟨_, _, _, _, rfl, r8⟩
      refine owes_cons (Owes.mk (o := ({ dst := some 21, op := .extract (.tmp 11) 1, type := 30, pos := "law.go:14", after := #[{ on := 8, ground := .data }, { on := 12, ground := .gcOnly .lateStores }], guard := none } : Oper)) rfl (fun v wk hj hD K hK => ?_)) ?_
      · obtain ⟨A8, c8, B8, d8, h8, r8⟩ : ∃ A c A' c', v 8 = .tuple #[ag 7 0 ⟨#[]⟩ A 2 c A' 2 c', .int .i64 0] ∧ Rd wk 0 wk.heap.size 13 mapK A c A' c' := hD 8 (by decide)
        simp only [r3D, r3E, putAll, Act.put, List.getD_cons_succ, List.getD_cons_zero, List.setIfInBounds_toArray, List.set_cons_zero, List.set_cons_succ, h8] at hK ⊢
        go_simp
        exact hK.out _ _ (Below.refl _ _) rfl
      refine owes_cons (Owes.mk (o := ({ dst := some 3, op := .alloc 24, type := 0, pos := "law.go:14", after := #[], guard := none } : Oper)) rfl (fun v wk hj hD K hK => ?_)) ?_
      · simp only [r3D, r3E, putAll, Act.put, List.getD_cons_succ, List.getD_cons_zero, List.setIfInBounds_toArray, List.set_cons_zero, List.set_cons_succ] at hK ⊢
        go_simp
        exact hK.out _ _ (below_new _ _) ⟨_, rfl, Cell.new _ _ _ _ _ _, hj.hlo⟩
      exact owes_nil
    · intro p v wf h1 h2 hj hr
      by_cases hz : p 10 = true
      · obtain rfl := marks_all h1 (fun m hm => by by_cases e : m = 10; rw [e]; exact hz; exact h2 m hm (by simpa using e))
        obtain ⟨A9, c9, B9, d9, h9, r9⟩ : ∃ A c A' c', v 9 = ag 7 0 ⟨#[]⟩ A 2 c A' 2 c' ∧ Rd wf 0 wf.heap.size 13 mapK A c A' c' := hr 9 (by decide) (by decide)
        have h10 : v 10 = (.int .i64 0) := hr 10 (by decide) (by decide)
        obtain ⟨z11, h11, r11, l11⟩ : ∃ g, v 11 = .pointer (some ⟨g, 0, none⟩) ∧ Cell wf g (.int .i64 0) (.int .i64 0) (.string ⟨#[]⟩) (.slice none 0 0) (.slice none 0 0) ∧ lo ≤ g := hr 11 (by decide) (by decide)
        rw [show List.filter (fun k => [0, 1, 2, 3, 4, 5, 6, 7, 8, 9, 10, 11].contains k) [0, 1, 2, 3, 4, 5, 6, 7, 8, 9, 10, 11] = [0, 1, 2, 3, 4, 5, 6, 7, 8, 9, 10, 11] from rfl]
        simp only [r3D, putAll, Act.put, List.getD_cons_succ, List.getD_cons_zero, List.setIfInBounds_toArray, List.set_cons_zero, List.set_cons_succ, h9, h10, h11]
        obtain ⟨q0, q1, q2, q3, q4, p0, p1, p2, p3, p4, _⟩ := id r11
        refine anyN_any (S := fun _ => True) (N := []) _ _ _ _ ?_
        refine anyN_one (i := 12) (o := ({ dst := none, op := .store 24 (.tmp 3) (.tmp 20), type := 0, pos := "law.go:14", after := #[{ on := 11, ground := .data }, { on := 9, ground := .data }, { on := 7, ground := .chain }, { on := 0, ground := .phase }, { on := 1, ground := .phase }, { on := 2, ground := .phase }, { on := 3, ground := .phase }, { on := 4, ground := .phase }, { on := 5, ground := .phase }, { on := 6, ground := .phase }, { on := 7, ground := .phase }, { on := 8, ground := .phase }, { on := 9, ground := .phase }, { on := 10, ground := .textOnly .lateStores }, { on := 11, ground := .phase }], guard := none } : Oper)) (by kernel_rfl) rfl (fun K hK => ?_)
        go_simp
        refine hK.out _ _ (fun _ => trivial) ?_
        clear hK K
        try simp only [Act.put, List.setIfInBounds_toArray, List.set_cons_zero, List.set_cons_succ]
        refine anyN_one (i := 13) (o := ({ dst := some 4, op := .assign (.tmp 21), type := 30, pos := "law.go:14", after := #[{ on := 10, ground := .data }, { on := 12, ground := .chain }, { on := 0, ground := .phase }, { on := 1, ground := .phase }, { on := 2, ground := .phase }, { on := 3, ground := .phase }, { on := 4, ground := .phase }, { on := 5, ground := .phase }, { on := 6, ground := .phase }, { on := 7, ground := .phase }, { on := 8, ground := .phase }, { on := 9, ground := .phase }, { on := 10, ground := .phase }, { on := 11, ground := .phase }, { on := 12, ground := .phase }], guard := none } : Oper)) (by kernel_rfl) rfl (fun K hK => ?_)
        go_simp
        refine hK.out _ _ (fun _ => trivial) ?_
        clear hK K
        try simp only [Act.put, List.setIfInBounds_toArray, List.set_cons_zero, List.set_cons_succ]
        refine anyN_done (by kernel_rfl) ?_ _
        go_wp2_with fail
        go_meet
        exact cut3_fin hj l11 r11 r9
      · obtain rfl := but_one 10 h1 (fun m hm hne => h2 m hm (by simpa using hne)) (by simpa using hz)
        obtain ⟨A9, c9, B9, d9, h9, r9⟩ : ∃ A c A' c', v 9 = ag 7 0 ⟨#[]⟩ A 2 c A' 2 c' ∧ Rd wf 0 wf.heap.size 13 mapK A c A' c' := hr 9 (by decide) (by decide)
        obtain ⟨z11, h11, r11, l11⟩ : ∃ g, v 11 = .pointer (some ⟨g, 0, none⟩) ∧ Cell wf g (.int .i64 0) (.int .i64 0) (.string ⟨#[]⟩) (.slice none 0 0) (.slice none 0 0) ∧ lo ≤ g := hr 11 (by decide) (by decide)
        obtain ⟨A8, c8, B8, d8, h8, r8⟩ : ∃ A c A' c', v 8 = .tuple #[ag 7 0 ⟨#[]⟩ A 2 c A' 2 c', .int .i64 0] ∧ Rd wf 0 wf.heap.size 13 mapK A c A' c' := hr 8 (by decide) (by decide)
        rw [show List.filter (fun k => [0, 1, 2, 3, 4, 5, 6, 7, 8, 9, 10, 11].contains k && k != 10) [0, 1, 2, 3, 4, 5, 6, 7, 8, 9, 10, 11] = [0, 1, 2, 3, 4, 5, 6, 7, 8, 9, 11] from rfl]
        simp only [r3D, putAll, Act.put, List.getD_cons_succ, List.getD_cons_zero, List.setIfInBounds_toArray, List.set_cons_zero, List.set_cons_succ, h9, h11, h8]
        obtain ⟨q0, q1, q2, q3, q4, p0, p1, p2, p3, p4, _⟩ := id r11
        refine anyN_any (S := fun _ => True) (N := []) _ _ _ _ ?_
        refine anyN_take (i := 10) (oi := ({ dst := some 21, op := .extract (.tmp 11) 1, type := 30, pos := "law.go:14", after := #[{ on := 8, ground := .data }, { on := 12, ground := .gcOnly .lateStores }], guard := none } : Oper)) (v := .int .i64 0) [] rfl (by kernel_rfl) (by kernel_rfl) (by kernel_rfl) (by kernel_rfl) (fun _ _ _ h => h) (by rfl) (by intro _ _; go_simp) trivial ?_
        try simp only [Act.put, List.setIfInBounds_toArray, List.set_cons_zero, List.set_cons_succ]
        refine anyN_one (i := 12) (o := ({ dst := none, op := .store 24 (.tmp 3) (.tmp 20), type := 0, pos := "law.go:14", after := #[{ on := 11, ground := .data }, { on := 9, ground := .data }, { on := 7, ground := .chain }, { on := 0, ground := .phase }, { on := 1, ground := .phase }, { on := 2, ground := .phase }, { on := 3, ground := .phase }, { on := 4, ground := .phase }, { on := 5, ground := .phase }, { on := 6, ground := .phase }, { on := 7, ground := .phase }, { on := 8, ground := .phase }, { on := 9, ground := .phase }, { on := 10, ground := .textOnly .lateStores }, { on := 11, ground := .phase }], guard := none } : Oper)) (by kernel_rfl) rfl (fun K hK => ?_)
        go_simp
        refine hK.out _ _ (fun _ => trivial) ?_
        clear hK K
        try simp only [Act.put, List.setIfInBounds_toArray, List.set_cons_zero, List.set_cons_succ]
        refine anyN_one (i := 13) (o := ({ dst := some 4, op := .assign (.tmp 21), type := 30, pos := "law.go:14", after := #[{ on := 10, ground := .data }, { on := 12, ground := .chain }, { on := 0, ground := .phase }, { on := 1, ground := .phase }, { on := 2, ground := .phase }, { on := 3, ground := .phase }, { on := 4, ground := .phase }, { on := 5, ground := .phase }, { on := 6, ground := .phase }, { on := 7, ground := .phase }, { on := 8, ground := .phase }, { on := 9, ground := .phase }, { on := 10, ground := .phase }, { on := 11, ground := .phase }, { on := 12, ground := .phase }], guard := none } : Oper)) (by kernel_rfl) rfl (fun K hK => ?_)
        go_simp
        refine hK.out _ _ (fun _ => trivial) ?_
        clear hK K
        try simp only [Act.put, List.setIfInBounds_toArray, List.set_cons_zero, List.set_cons_succ]
        refine anyN_done (by kernel_rfl) ?_ _
        go_wp2_with fail
        go_meet
        exact cut3_fin hj l11 r11 r9
  case rest =>
    obtain ⟨g3, A, c, A', c', rfl, rfl, km⟩ := hcut
    have KM := Lib.hid km
    generalize hl3 : wc.heap.size = lo3 at km KM
    have HLO : Hid (lo3 ≤ wc.heap.size) := Lib.hid (by omega)
    clear hl3 km HLO
    have HLO : Hid (lo3 ≤ wc.heap.size) := Lib.hid KM.out.hlo3
    go_upto_region 4 with fail
    go_cut [5, 6] (fun s5 s6 wx => Cut4 w lo lo3 g1 g2 g3 A c A' c' s5 s6 wx)
    case first =>
      go_wp2_with fail
      refine region_phase [0, 1, 2, 3, 4, 5, 6] [5] r4D r4E 0 (fun w' => Km w lo lo3 g1 g2 g3 A c A' c' w') (saidOf [Is (ag 7 0 ⟨#[]⟩ A 2 c A' 2 c'), Is (ag 3 0 ⟨#[98]⟩ none 0 0 none 0 0), IsFound, IsFound, IsThree, Is (.bool true), IsBox lo3, fun _ _ => True, fun _ _ => True]) 96 rfl (by kernel_rfl) (by kernel_rfl) (fun _ _ h hb => h.to (hb.mono h.hlo3)) (stays_said _ (stays_cons (Is.stays _) (stays_cons (Is.stays _) (stays_cons (IsFound.stays) (stays_cons (IsFound.stays) (stays_cons (IsThree.stays) (stays_cons (Is.stays _) (stays_cons (IsBox.stays _) (stays_cons (fun _ _ _ _ _ => trivial) (stays_cons (fun _ _ _ _ _ => trivial) stays_nil)))))))))) (KM.out.to (below_drewN _ _ 1)) (by kernel_rfl) ?_ ?_
      · skip
        refine owes_cons (Owes.mk (o := ({ dst := some 23, op := .load 24 (.tmp 3), type := 24, pos := "law.go:15", after := #[], guard := none } : Oper)) rfl (fun v wk hj hD K hK => ?_)) ?_
        · simp only [r4D, r4E, putAll, Act.put, List.getD_cons_zero, List.setIfInBounds_toArray, List.set_cons_zero, List.set_cons_succ] at hK ⊢
          obtain ⟨_, q0, q1, q2, q3, q4⟩ := Km.all hj
          go_simp
          exact hK.out _ _ (Below.refl _ _) rfl
        refine owes_cons (Owes.mk (o := ({ dst := some 24, op := .call { callee := .value (.func 28), args := #[.const (.string { data := #[98] })], argTypes := #[9] }, type := 24, pos := "law.go:15", after := #[], guard := none } : Oper)) rfl (fun v wk hj hD K hK => ?_)) ?_
        · simp only [r4D, r4E, putAll, Act.put, List.getD_cons_succ, List.getD_cons_zero, List.setIfInBounds_toArray, List.set_cons_zero, List.set_cons_succ] at hK ⊢
          go_simp
          refine (word_lit _ _).mono ?_
          rintro e w2 ⟨rfl, hb⟩
          exact hK.out _ _ hb rfl
        refine owes_cons (Owes.mk (o := ({ dst := some 25, op := .call { callee := .value (.func 24), args := #[.tmp 23, .tmp 24], argTypes := #[24, 24] }, type := 38, pos := "law.go:15", after := #[{ on := 0, ground := .data }, { on := 1, ground := .data }, { on := 1, ground := .chain }], guard := none } : Oper)) rfl (fun v wk hj hD K hK => ?_)) ?_
        · have h0 : v 0 = (ag 7 0 ⟨#[]⟩ A 2 c A' 2 c') := hD 0 (by decide)
          have h1 : v 1 = (ag 3 0 ⟨#[98]⟩ none 0 0 none 0 0) := hD 1 (by decide)
          simp only [r4D, r4E, putAll, Act.put, List.getD_cons_succ, List.getD_cons_zero, List.setIfInBounds_toArray, List.set_cons_zero, List.set_cons_succ, h0, h1] at hK ⊢
          go_simp
          refine (find_b _ _ _ _ _ (hj.rd.more (Nat.le_refl _) hj.hlo3 (Nat.le_refl _))).mono ?_
          rintro e w2 ⟨E, e1, E', e2, rfl, hb⟩
          exact hK.out _ _ hb ⟨_, _, _, _, rfl⟩
        refine owes_cons (Owes.mk (o := ({ dst := some 22, op := .move (.tmp 25), type := 38, pos := "law.go:15", after := #[{ on := 2, ground := .data }], guard := none } : Oper)) rfl (fun v wk hj hD K hK => ?_)) ?_
        · obtain ⟨A2, c2, B2, d2, h2⟩ : ∃ A c A' c', v 2 = .tuple #[ag 2 3 ⟨#[]⟩ A 0 c A' 0 c', .bool true] := hD 2 (by decide)
          simp only [r4D, r4E, putAll, Act.put, List.getD_cons_succ, List.getD_cons_zero, List.setIfInBounds_toArray, List.set_cons_zero, List.set_cons_succ, h2] at hK ⊢
          go_simp
          exact hK.out _ _ (Below.refl _ _) ⟨_, _, _, _, rfl⟩
        refine owes_cons (Owes.mk (o := ({ dst := some 26, op := .extract (.tmp 22) 0, type := 24, pos := "law.go:15", after := #[{ on := 3, ground := .data }], guard := none } : Oper)) rfl (fun v wk hj hD K hK => ?_)) ?_
        · obtain ⟨A3, c3, B3, d3, h3⟩ : ∃ A c A' c', v 3 = .tuple #[ag 2 3 ⟨#[]⟩ A 0 c A' 0 c', .bool true] := hD 3 (by decide)
          simp only [r4D, r4E, putAll, Act.put, List.getD_cons_succ, List.getD_cons_zero, List.setIfInBounds_toArray, List.set_cons_zero, List.set_cons_succ, h3] at hK ⊢
          go_simp
          exact hK.out _ _ (Below.refl _ _) ⟨_, _, _, _, rfl⟩
        refine owes_cons (Owes.mk (o := ({ dst := some 27, op := .extract (.tmp 22) 1, type := 4, pos := "law.go:15", after := #[{ on := 3, ground := .data }, { on := 7, ground := .gcOnly .lateStores }], guard := none } : Oper)) rfl (fun v wk hj hD K hK => ?_)) ?_
        · obtain ⟨A3, c3, B3, d3, h3⟩ : ∃ A c A' c', v 3 = .tuple #[ag 2 3 ⟨#[]⟩ A 0 c A' 0 c', .bool true] := hD 3 (by decide)
          simp only [r4D, r4E, putAll, Act.put, List.getD_cons_succ, List.getD_cons_zero, List.setIfInBounds_toArray, List.set_cons_zero, List.set_cons_succ, h3] at hK ⊢
          go_simp
          exact hK.out _ _ (Below.refl _ _) rfl
        refine owes_cons (Owes.mk (o := ({ dst := some 5, op := .alloc 24, type := 0, pos := "law.go:15", after := #[], guard := none } : Oper)) rfl (fun v wk hj hD K hK => ?_)) ?_
        · simp only [r4D, r4E, putAll, Act.put, List.getD_cons_succ, List.getD_cons_zero, List.setIfInBounds_toArray, List.set_cons_zero, List.set_cons_succ] at hK ⊢
          go_simp
          exact hK.out _ _ (below_new _ _) ⟨_, rfl, Cell.new _ _ _ _ _ _, hj.hlo3⟩
        exact owes_nil
      · intro p v wf h1 h2 hj hr
        by_cases hz : p 5 = true
        · obtain rfl := marks_all h1 (fun m hm => by by_cases e : m = 5; rw [e]; exact hz; exact h2 m hm (by simpa using e))
          obtain ⟨A4, c4, B4, d4, h4⟩ : ∃ A c A' c', v 4 = ag 2 3 ⟨#[]⟩ A 0 c A' 0 c' := hr 4 (by decide) (by decide)
          have h5 : v 5 = (.bool true) := hr 5 (by decide) (by decide)
          obtain ⟨z6, h6, r6, l6⟩ : ∃ g, v 6 = .pointer (some ⟨g, 0, none⟩) ∧ Cell wf g (.int .i64 0) (.int .i64 0) (.string ⟨#[]⟩) (.slice none 0 0) (.slice none 0 0) ∧ lo3 ≤ g := hr 6 (by decide) (by decide)
          rw [show List.filter (fun k => [0, 1, 2, 3, 4, 5, 6].contains k) [0, 1, 2, 3, 4, 5, 6] = [0, 1, 2, 3, 4, 5, 6] from rfl]
          simp only [r4D, putAll, Act.put, List.getD_cons_succ, List.getD_cons_zero, List.setIfInBounds_toArray, List.set_cons_zero, List.set_cons_succ, h4, h5, h6]
          obtain ⟨q0, q1, q2, q3, q4, p0, p1, p2, p3, p4, _⟩ := id r6
          refine anyN_any (S := fun _ => True) (N := []) _ _ _ _ ?_
          refine anyN_one (i := 7) (o := ({ dst := none, op := .store 24 (.tmp 5) (.tmp 26), type := 0, pos := "law.go:15", after := #[{ on := 6, ground := .data }, { on := 4, ground := .data }, { on := 2, ground := .chain }, { on := 0, ground := .phase }, { on := 1, ground := .phase }, { on := 2, ground := .phase }, { on := 3, ground := .phase }, { on := 4, ground := .phase }, { on := 5, ground := .textOnly .lateStores }, { on := 6, ground := .phase }], guard := none } : Oper)) (by kernel_rfl) rfl (fun K hK => ?_)
          go_simp
          refine hK.out _ _ (fun _ => trivial) ?_
          clear hK K
          try simp only [Act.put, List.setIfInBounds_toArray, List.set_cons_zero, List.set_cons_succ]
          refine anyN_one (i := 8) (o := ({ dst := some 6, op := .assign (.tmp 27), type := 4, pos := "law.go:15", after := #[{ on := 5, ground := .data }, { on := 7, ground := .chain }, { on := 0, ground := .phase }, { on := 1, ground := .phase }, { on := 2, ground := .phase }, { on := 3, ground := .phase }, { on := 4, ground := .phase }, { on := 5, ground := .phase }, { on := 6, ground := .phase }, { on := 7, ground := .phase }], guard := none } : Oper)) (by kernel_rfl) rfl (fun K hK => ?_)
          go_simp
          refine hK.out _ _ (fun _ => trivial) ?_
          clear hK K
          try simp only [Act.put, List.setIfInBounds_toArray, List.set_cons_zero, List.set_cons_succ]
          refine anyN_done (by kernel_rfl) ?_ _
          go_wp2_with fail
          go_meet
          exact cut4_fin hj l6 r6
        · obtain rfl := but_one 5 h1 (fun m hm hne => h2 m hm (by simpa using hne)) (by simpa using hz)
          obtain ⟨A4, c4, B4, d4, h4⟩ : ∃ A c A' c', v 4 = ag 2 3 ⟨#[]⟩ A 0 c A' 0 c' := hr 4 (by decide) (by decide)
          obtain ⟨z6, h6, r6, l6⟩ : ∃ g, v 6 = .pointer (some ⟨g, 0, none⟩) ∧ Cell wf g (.int .i64 0) (.int .i64 0) (.string ⟨#[]⟩) (.slice none 0 0) (.slice none 0 0) ∧ lo3 ≤ g := hr 6 (by decide) (by decide)
          obtain ⟨A3, c3, B3, d3, h3⟩ : ∃ A c A' c', v 3 = .tuple #[ag 2 3 ⟨#[]⟩ A 0 c A' 0 c', .bool true] := hr 3 (by decide) (by decide)
          rw [show List.filter (fun k => [0, 1, 2, 3, 4, 5, 6].contains k && k != 5) [0, 1, 2, 3, 4, 5, 6] = [0, 1, 2, 3, 4, 6] from rfl]
          simp only [r4D, putAll, Act.put, List.getD_cons_succ, List.getD_cons_zero, List.setIfInBounds_toArray, List.set_cons_zero, List.set_cons_succ, h4, h6, h3]
          obtain ⟨q0, q1, q2, q3, q4, p0, p1, p2, p3, p4, _⟩ := id r6
          refine anyN_any (S := fun _ => True) (N := []) _ _ _ _ ?_
          refine anyN_take (i := 5) (oi := ({ dst := some 27, op := .extract (.tmp 22) 1, type := 4, pos := "law.go:15", after := #[{ on := 3, ground := .data }, { on := 7, ground := .gcOnly .lateStores }], guard := none } : Oper)) (v := .bool true) [] rfl (by kernel_rfl) (by kernel_rfl) (by kernel_rfl) (by kernel_rfl) (fun _ _ _ h => h) (by rfl) (by intro _ _; go_simp) trivial ?_
          try simp only [Act.put, List.setIfInBounds_toArray, List.set_cons_zero, List.set_cons_succ]
          refine anyN_one (i := 7) (o := ({ dst := none, op := .store 24 (.tmp 5) (.tmp 26), type := 0, pos := "law.go:15", after := #[{ on := 6, ground := .data }, { on := 4, ground := .data }, { on := 2, ground := .chain }, { on := 0, ground := .phase }, { on := 1, ground := .phase }, { on := 2, ground := .phase }, { on := 3, ground := .phase }, { on := 4, ground := .phase }, { on := 5, ground := .textOnly .lateStores }, { on := 6, ground := .phase }], guard := none } : Oper)) (by kernel_rfl) rfl (fun K hK => ?_)
          go_simp
          refine hK.out _ _ (fun _ => trivial) ?_
          clear hK K
          try simp only [Act.put, List.setIfInBounds_toArray, List.set_cons_zero, List.set_cons_succ]
          refine anyN_one (i := 8) (o := ({ dst := some 6, op := .assign (.tmp 27), type := 4, pos := "law.go:15", after := #[{ on := 5, ground := .data }, { on := 7, ground := .chain }, { on := 0, ground := .phase }, { on := 1, ground := .phase }, { on := 2, ground := .phase }, { on := 3, ground := .phase }, { on := 4, ground := .phase }, { on := 5, ground := .phase }, { on := 6, ground := .phase }, { on := 7, ground := .phase }], guard := none } : Oper)) (by kernel_rfl) rfl (fun K hK => ?_)
          go_simp
          refine hK.out _ _ (fun _ => trivial) ?_
          clear hK K
          try simp only [Act.put, List.setIfInBounds_toArray, List.set_cons_zero, List.set_cons_succ]
          refine anyN_done (by kernel_rfl) ?_ _
          go_wp2_with fail
          go_meet
          exact cut4_fin hj l6 r6
    case rest =>
      obtain ⟨g5, rfl, rfl, km5, c5, h5⟩ := hcut
      obtain ⟨b, off, rfl⟩ := km5.key
      have KF : Hid (Kf w lo lo3 wc.heap.size g1 g2 g3 g5 b off c A' c' wc) := Lib.hid ⟨km5, c5, h5, km5.hlo3, Nat.le_refl _⟩
      obtain ⟨q0, q1, q2, q3, q4, _, _, _, _, _, _⟩ := km5.kn.c1
      clear km5 c5 h5
      go_wp2_with fail
      refine (dict1 _ _ (row1_at rfl)).mono ?_
      rintro e w5 ⟨E, e1, E', e2, rfl, hb5⟩
      have bx := bnext (bnext (below_new wc (.cells #[.int .i64 2, .int .i64 1, .string ⟨#[]⟩, .slice none 0 0, .slice none 0 0] 24)) hb5) (below_new w5 (.cells #[.int .i64 0, .int .i64 0, .string ⟨#[]⟩, .slice E 0 e1, .slice E' 0 e2] 24))
      clear hb5 q0 q1 q2 q3 q4
      go_upto_region 6 with fail
      generalize hX : World.alloc w5 _ = X at bx
      clear hX
      have K6 := Lib.hid (KF.out.to bx)
      generalize wc.heap.size = lo5 at K6
      clear bx KF
      go_wp2_with fail
      refine region_phase_all [0, 1, 2, 3, 4, 5, 6, 7, 8, 9, 10, 11, 12, 13, 14, 15, 16, 17, 18, 19, 20, 21, 22, 23, 24, 25, 26, 27, 28, 29, 30, 31, 32, 33, 34, 35, 36, 37, 38, 39, 40, 41, 42, 43, 44, 45, 46, 47, 48, 49, 50, 51, 52, 53, 54, 55, 56, 57, 58, 59, 60, 61, 62] r6D r6E (fun w' => Kf w lo lo3 lo5 g1 g2 g3 g5 b off c A' c' w') (saidOf [Is (ag 2 7 ⟨#[]⟩ none 0 0 none 0 0), Is (ag 3 0 ⟨#[97]⟩ none 0 0 none 0 0), Is (.int .i64 (-1)), Is (.bool true), Is (.bool true), Is (ag 2 1 ⟨#[]⟩ none 0 0 none 0 0), IsRow [numV 1], IsR1, Is (ag 2 1 ⟨#[]⟩ none 0 0 none 0 0), Is (ag 2 2 ⟨#[]⟩ none 0 0 none 0 0), IsRow [numV 1, numV 2], IsR2, Is (.int .i64 (-1)), Is (.bool true), Is (.bool true), Is (.bool true), Is (.int .i64 0), Is (.bool true), Is (.bool true), Is (.bool true), Is (.pointer (some ⟨g3, 3, none⟩)), Is (.slice (some ⟨b, off, none⟩) 2 c), Is (.int .i64 2), Is (.bool true), Is (.bool true), Is (.bool true), Is (.pointer (some ⟨g3, 3, none⟩)), Is (.slice (some ⟨b, off, none⟩) 2 c), Is (.pointer (some ⟨b, off, none⟩)), Is (.pointer (some ⟨b, off + 2, none⟩)), Is (.string ⟨#[97]⟩), Is (.bool true), Is (.bool true), Is (.bool true), Is (.pointer (some ⟨g5, 1, none⟩)), Is (.int .i64 3), Is (.bool true), Is (.bool true), Is (.bool true), Is (.bool true), Is (.bool true), Is (.bool true), Is (.int .i64 2), Is (.bool true), Is (.bool true), Is (.bool true), Is (ag 1 1 ⟨#[]⟩ none 0 0 none 0 0), Is (.int .i64 0), Is (.bool true), Is (.bool true), Is (.bool true), Is (ag 0 0 ⟨#[]⟩ none 0 0 none 0 0), Is (.int .i64 2), Is (.bool true), Is (.bool true), Is (.bool true), Is (ag 2 1 ⟨#[]⟩ none 0 0 none 0 0), IsRow [numV 1], IsR1, Is (.int .i64 2), Is (.bool true), Is (.bool true), Is (.bool true)]) 96 rfl (by kernel_rfl) (by kernel_rfl) (by kernel_rfl) (fun _ _ h hb => h.to (hb.mono h.hlo5)) (stays_said _ (stays_cons (Is.stays _) (stays_cons (Is.stays _) (stays_cons (Is.stays _) (stays_cons (Is.stays _) (stays_cons (Is.stays _) (stays_cons (Is.stays _) (stays_cons (IsRow.stays _) (stays_cons (IsR1.stays) (stays_cons (Is.stays _) (stays_cons (Is.stays _) (stays_cons (IsRow.stays _) (stays_cons (IsR2.stays) (stays_cons (Is.stays _) (stays_cons (Is.stays _) (stays_cons (Is.stays _) (stays_cons (Is.stays _) (stays_cons (Is.stays _) (stays_cons (Is.stays _) (stays_cons (Is.stays _) (stays_cons (Is.stays _) (stays_cons (Is.stays _) (stays_cons (Is.stays _) (stays_cons (Is.stays _) (stays_cons (Is.stays _) (stays_cons (Is.stays _) (stays_cons (Is.stays _) (stays_cons (Is.stays _) (stays_cons (Is.stays _) (stays_cons (Is.stays _) (stays_cons (Is.stays _) (stays_cons (Is.stays _) (stays_cons (Is.stays _) (stays_cons (Is.stays _) (stays_cons (Is.stays _) (stays_cons (Is.stays _) (stays_cons (Is.stays _) (stays_cons (Is.stays _) (stays_cons (Is.stays _) (stays_cons (Is.stays _) (stays_cons (Is.stays _) (stays_cons (Is.stays _) (stays_cons (Is.stays _) (stays_cons (Is.stays _) (stays_cons (Is.stays _) (stays_cons (Is.stays _) (stays_cons (Is.stays _) (stays_cons (Is.stays _) (stays_cons (Is.stays _) (stays_cons (Is.stays _) (stays_cons (Is.stays _) (stays_cons (Is.stays _) (stays_cons (Is.stays _) (stays_cons (Is.stays _) (stays_cons (Is.stays _) (stays_cons (Is.stays _) (stays_cons (Is.stays _) (stays_cons (Is.stays _) (stays_cons (IsRow.stays _) (stays_cons (IsR1.stays) (stays_cons (Is.stays _) (stays_cons (Is.stays _) (stays_cons (Is.stays _) (stays_cons (Is.stays _) stays_nil)))))))))))))))))))))))))))))))))))))))))))))))))))))))))))))))) (K6.out.to (below_drewN _ _ 1)) (by kernel_rfl) ?_ ?_
      · skip
        refine owes_cons (Owes.mk (o := ({ dst := some 34, op := .call { callee := .value (.func 27), args := #[.const (.int .i64 7)], argTypes := #[3] }, type := 24, pos := "law.go:17", after := #[], guard := none } : Oper)) rfl (fun v wk hj hD K hK => ?_)) ?_
        · simp only [r6D, r6E, putAll, Act.put, List.getD_cons_zero, List.setIfInBounds_toArray, List.set_cons_zero, List.set_cons_succ] at hK ⊢
          go_simp
          refine (number_lit 7 _ (by decide) (by decide)).mono ?_
          rintro e w2 ⟨rfl, hb⟩
          exact hK.out _ _ hb rfl
        refine owes_cons (Owes.mk (o := ({ dst := some 35, op := .call { callee := .value (.func 28), args := #[.const (.string { data := #[97] })], argTypes := #[9] }, type := 24, pos := "law.go:17", after := #[{ on := 0, ground := .chain }], guard := none } : Oper)) rfl (fun v wk hj hD K hK => ?_)) ?_
        · simp only [r6D, r6E, putAll, Act.put, List.getD_cons_succ, List.getD_cons_zero, List.setIfInBounds_toArray, List.set_cons_zero, List.set_cons_succ] at hK ⊢
          go_simp
          refine (word_lit _ _).mono ?_
          rintro e w2 ⟨rfl, hb⟩
          exact hK.out _ _ hb rfl
        refine owes_cons (Owes.mk (o := ({ dst := some 36, op := .call { callee := .value (.func 12), args := #[.tmp 34, .tmp 35], argTypes := #[24, 24] }, type := 3, pos := "law.go:17", after := #[{ on := 0, ground := .data }, { on := 1, ground := .data }, { on := 1, ground := .chain }], guard := none } : Oper)) rfl (fun v wk hj hD K hK => ?_)) ?_
        · have h0 : v 0 = (ag 2 7 ⟨#[]⟩ none 0 0 none 0 0) := hD 0 (by decide)
          have h1 : v 1 = (ag 3 0 ⟨#[97]⟩ none 0 0 none 0 0) := hD 1 (by decide)
          simp only [r6D, r6E, putAll, Act.put, List.getD_cons_succ, List.getD_cons_zero, List.setIfInBounds_toArray, List.set_cons_zero, List.set_cons_succ, h0, h1] at hK ⊢
          go_simp
          refine (cmp7 _).mono ?_
          rintro e w2 ⟨rfl, hb⟩
          exact hK.out _ _ hb rfl
        refine owes_cons (Owes.mk (o := ({ dst := some 37, op := .binOp .eql 3 (.tmp 36) (.const (.int .i64 (-1))) 3, type := 4, pos := "law.go:17", after := #[{ on := 2, ground := .data }], guard := none } : Oper)) rfl (fun v wk hj hD K hK => ?_)) ?_
        · have h2 : v 2 = (.int .i64 (-1)) := hD 2 (by decide)
          simp only [r6D, r6E, putAll, Act.put, List.getD_cons_succ, List.getD_cons_zero, List.setIfInBounds_toArray, List.set_cons_zero, List.set_cons_succ, h2] at hK ⊢
          go_simp
          exact hK.out _ _ (Below.refl _ _) rfl
        refine owes_cons (Owes.mk (o := ({ dst := some 38, op := .move (.tmp 37), type := 4, pos := "law.go:17", after := #[{ on := 3, ground := .data }, { on := 2, ground := .chain }], guard := none } : Oper)) rfl (fun v wk hj hD K hK => ?_)) ?_
        · have h3 : v 3 = (.bool true) := hD 3 (by decide)
          simp only [r6D, r6E, putAll, Act.put, List.getD_cons_succ, List.getD_cons_zero, List.setIfInBounds_toArray, List.set_cons_zero, List.set_cons_succ, h3] at hK ⊢
          go_simp
          exact hK.out _ _ (Below.refl _ _) rfl
        refine owes_cons (Owes.mk (o := ({ dst := some 39, op := .load 24 (.tmp 1), type := 24, pos := "law.go:17", after := #[{ on := 4, ground := .guard }], guard := some (4, true) } : Oper)) rfl (fun v wk hj hD K hK => ?_)) ?_
        · have h4 : v 4 = (.bool true) := hD 4 (by decide)
          simp only [r6D, r6E, putAll, Act.put, List.getD_cons_succ, List.getD_cons_zero, List.setIfInBounds_toArray, List.set_cons_zero, List.set_cons_succ, h4] at hK ⊢
          obtain ⟨_, q0, q1, q2, q3, q4, p0, p1, p2, p3, p4, s3, s4, s5⟩ := Kf.all hj
          go_simp
          exact hK.out _ _ (Below.refl _ _) rfl
        refine owes_cons (Owes.mk (o := ({ dst := some 40, op := .buildSlice 22 1 #[(0, .tmp 39)], type := 22, pos := "law.go:17", after := #[{ on := 5, ground := .data }, { on := 4, ground := .guard }], guard := some (4, true) } : Oper)) rfl (fun v wk hj hD K hK => ?_)) ?_
        · have h4 : v 4 = (.bool true) := hD 4 (by decide)
          have h5 : v 5 = (ag 2 1 ⟨#[]⟩ none 0 0 none 0 0) := hD 5 (by decide)
          simp only [r6D, r6E, putAll, Act.put, List.getD_cons_succ, List.getD_cons_zero, List.setIfInBounds_toArray, List.set_cons_zero, List.set_cons_succ, h4, h5] at hK ⊢
          go_simp
          exact hK.out _ _ (below_new _ _) ⟨_, rfl, row1_new _⟩
        refine owes_cons (Owes.mk (o := ({ dst := some 41, op := .call { callee := .value (.func 29), args := #[.tmp 40], argTypes := #[22] }, type := 24, pos := "law.go:17", after := #[{ on := 6, ground := .data }, { on := 4, ground := .chain }, { on := 4, ground := .guard }], guard := some (4, true) } : Oper)) rfl (fun v wk hj hD K hK => ?_)) ?_
        · have h4 : v 4 = (.bool true) := hD 4 (by decide)
          obtain ⟨z6, h6, r6⟩ : ∃ g, v 6 = .slice (some ⟨g, 0, none⟩) 1 1 ∧ RowAt wk g [numV 1] := hD 6 (by decide)
          simp only [r6D, r6E, putAll, Act.put, List.getD_cons_succ, List.getD_cons_zero, List.setIfInBounds_toArray, List.set_cons_zero, List.set_cons_succ, h4, h6] at hK ⊢
          go_simp
          refine (row1c _ _ r6).mono ?_
          rintro e w2 ⟨A, c, A', c', rfl, rd, hb⟩
          exact hK.out _ _ hb ⟨_, _, _, _, rfl, rd⟩
        refine owes_cons (Owes.mk (o := ({ dst := some 42, op := .load 24 (.tmp 1), type := 24, pos := "law.go:17", after := #[{ on := 4, ground := .guard }], guard := some (4, true) } : Oper)) rfl (fun v wk hj hD K hK => ?_)) ?_
        · have h4 : v 4 = (.bool true) := hD 4 (by decide)
          simp only [r6D, r6E, putAll, Act.put, List.getD_cons_succ, List.getD_cons_zero, List.setIfInBounds_toArray, List.set_cons_zero, List.set_cons_succ, h4] at hK ⊢
          obtain ⟨_, q0, q1, q2, q3, q4, p0, p1, p2, p3, p4, s3, s4, s5⟩ := Kf.all hj
          go_simp
          exact hK.out _ _ (Below.refl _ _) rfl
        refine owes_cons (Owes.mk (o := ({ dst := some 43, op := .load 24 (.tmp 2), type := 24, pos := "law.go:17", after := #[{ on := 4, ground := .guard }], guard := some (4, true) } : Oper)) rfl (fun v wk hj hD K hK => ?_)) ?_
        · have h4 : v 4 = (.bool true) := hD 4 (by decide)
          simp only [r6D, r6E, putAll, Act.put, List.getD_cons_succ, List.getD_cons_zero, List.setIfInBounds_toArray, List.set_cons_zero, List.set_cons_succ, h4] at hK ⊢
          obtain ⟨_, q0, q1, q2, q3, q4, p0, p1, p2, p3, p4, s3, s4, s5⟩ := Kf.all hj
          go_simp
          exact hK.out _ _ (Below.refl _ _) rfl
        refine owes_cons (Owes.mk (o := ({ dst := some 44, op := .buildSlice 22 2 #[(0, .tmp 42), (1, .tmp 43)], type := 22, pos := "law.go:17", after := #[{ on := 8, ground := .data }, { on := 9, ground := .data }, { on := 4, ground := .guard }], guard := some (4, true) } : Oper)) rfl (fun v wk hj hD K hK => ?_)) ?_
        · have h4 : v 4 = (.bool true) := hD 4 (by decide)
          have h8 : v 8 = (ag 2 1 ⟨#[]⟩ none 0 0 none 0 0) := hD 8 (by decide)
          have h9 : v 9 = (ag 2 2 ⟨#[]⟩ none 0 0 none 0 0) := hD 9 (by decide)
          simp only [r6D, r6E, putAll, Act.put, List.getD_cons_succ, List.getD_cons_zero, List.setIfInBounds_toArray, List.set_cons_zero, List.set_cons_succ, h4, h8, h9] at hK ⊢
          go_simp
          exact hK.out _ _ (below_new _ _) ⟨_, rfl, row2_new _⟩
        refine owes_cons (Owes.mk (o := ({ dst := some 45, op := .call { callee := .value (.func 29), args := #[.tmp 44], argTypes := #[22] }, type := 24, pos := "law.go:17", after := #[{ on := 10, ground := .data }, { on := 7, ground := .chain }, { on := 4, ground := .guard }], guard := some (4, true) } : Oper)) rfl (fun v wk hj hD K hK => ?_)) ?_
        · have h4 : v 4 = (.bool true) := hD 4 (by decide)
          obtain ⟨z10, h10, r10⟩ : ∃ g, v 10 = .slice (some ⟨g, 0, none⟩) 2 2 ∧ RowAt wk g [numV 1, numV 2] := hD 10 (by decide)
          simp only [r6D, r6E, putAll, Act.put, List.getD_cons_succ, List.getD_cons_zero, List.setIfInBounds_toArray, List.set_cons_zero, List.set_cons_succ, h4, h10] at hK ⊢
          go_simp
          refine (row2c _ _ r10).mono ?_
          rintro e w2 ⟨A, c, A', c', rfl, rd, hb⟩
          exact hK.out _ _ hb ⟨_, _, _, _, rfl, rd⟩
        refine owes_cons (Owes.mk (o := ({ dst := some 46, op := .call { callee := .value (.func 12), args := #[.tmp 41, .tmp 45], argTypes := #[24, 24] }, type := 3, pos := "law.go:17", after := #[{ on := 7, ground := .data }, { on := 11, ground := .data }, { on := 11, ground := .chain }, { on := 4, ground := .guard }], guard := some (4, true) } : Oper)) rfl (fun v wk hj hD K hK => ?_)) ?_
        · have h4 : v 4 = (.bool true) := hD 4 (by decide)
          obtain ⟨A7, c7, B7, d7, h7, r7⟩ : ∃ A c A' c', v 7 = ag 6 0 ⟨#[]⟩ A 1 c A' 0 c' ∧ Rd wk 0 wk.heap.size 14 row1K A c A' c' := hD 7 (by decide)
          obtain ⟨A11, c11, B11, d11, h11, r11⟩ : ∃ A c A' c', v 11 = ag 6 0 ⟨#[]⟩ A 2 c A' 0 c' ∧ Rd wk 0 wk.heap.size 14 row2K A c A' c' := hD 11 (by decide)
          simp only [r6D, r6E, putAll, Act.put, List.getD_cons_succ, List.getD_cons_zero, List.setIfInBounds_toArray, List.set_cons_zero, List.set_cons_succ, h4, h7, h11] at hK ⊢
          go_simp
          refine (cmp12 _ _ _ _ _ _ _ _ _ r7 r11).mono ?_
          rintro e w2 ⟨rfl, hb⟩
          exact hK.out _ _ hb rfl
        refine owes_cons (Owes.mk (o := ({ dst := some 47, op := .binOp .eql 3 (.tmp 46) (.const (.int .i64 (-1))) 3, type := 4, pos := "law.go:17", after := #[{ on := 12, ground := .data }, { on := 4, ground := .guard }], guard := some (4, true) } : Oper)) rfl (fun v wk hj hD K hK => ?_)) ?_
        · have h4 : v 4 = (.bool true) := hD 4 (by decide)
          have h12 : v 12 = (.int .i64 (-1)) := hD 12 (by decide)
          simp only [r6D, r6E, putAll, Act.put, List.getD_cons_succ, List.getD_cons_zero, List.setIfInBounds_toArray, List.set_cons_zero, List.set_cons_succ, h4, h12] at hK ⊢
          go_simp
          exact hK.out _ _ (Below.refl _ _) rfl
        refine owes_cons (Owes.mk (o := ({ dst := some 48, op := .pick (.tmp 38) (.tmp 47) (.const (.bool false)), type := 4, pos := "law.go:17", after := #[{ on := 4, ground := .data }, { on := 13, ground := .data }], guard := none } : Oper)) rfl (fun v wk hj hD K hK => ?_)) ?_
        · have h4 : v 4 = (.bool true) := hD 4 (by decide)
          have h13 : v 13 = (.bool true) := hD 13 (by decide)
          simp only [r6D, r6E, putAll, Act.put, List.getD_cons_succ, List.getD_cons_zero, List.setIfInBounds_toArray, List.set_cons_zero, List.set_cons_succ, h4, h13] at hK ⊢
          go_simp
          exact hK.out _ _ (Below.refl _ _) rfl
        refine owes_cons (Owes.mk (o := ({ dst := some 49, op := .move (.tmp 48), type := 4, pos := "law.go:17", after := #[{ on := 14, ground := .data }, { on := 12, ground := .chain }], guard := none } : Oper)) rfl (fun v wk hj hD K hK => ?_)) ?_
        · have h14 : v 14 = (.bool true) := hD 14 (by decide)
          simp only [r6D, r6E, putAll, Act.put, List.getD_cons_succ, List.getD_cons_zero, List.setIfInBounds_toArray, List.set_cons_zero, List.set_cons_succ, h14] at hK ⊢
          go_simp
          exact hK.out _ _ (Below.refl _ _) rfl
        refine owes_cons (Owes.mk (o := ({ dst := some 50, op := .move (.tmp 4), type := 30, pos := "law.go:17", after := #[{ on := 15, ground := .guard }], guard := some (15, true) } : Oper)) rfl (fun v wk hj hD K hK => ?_)) ?_
        · have h15 : v 15 = (.bool true) := hD 15 (by decide)
          simp only [r6D, r6E, putAll, Act.put, List.getD_cons_succ, List.getD_cons_zero, List.setIfInBounds_toArray, List.set_cons_zero, List.set_cons_succ, h15] at hK ⊢
          go_simp
          exact hK.out _ _ (Below.refl _ _) rfl
        refine owes_cons (Owes.mk (o := ({ dst := some 51, op := .binOp .eql 30 (.tmp 50) (.const (.int .i64 0)) 30, type := 4, pos := "law.go:17", after := #[{ on := 16, ground := .data }, { on := 15, ground := .guard }], guard := some (15, true) } : Oper)) rfl (fun v wk hj hD K hK => ?_)) ?_
        · have h15 : v 15 = (.bool true) := hD 15 (by decide)
          have h16 : v 16 = (.int .i64 0) := hD 16 (by decide)
          simp only [r6D, r6E, putAll, Act.put, List.getD_cons_succ, List.getD_cons_zero, List.setIfInBounds_toArray, List.set_cons_zero, List.set_cons_succ, h15, h16] at hK ⊢
          go_simp
          exact hK.out _ _ (Below.refl _ _) rfl
        refine owes_cons (Owes.mk (o := ({ dst := some 52, op := .pick (.tmp 49) (.tmp 51) (.const (.bool false)), type := 4, pos := "law.go:17", after := #[{ on := 15, ground := .data }, { on := 17, ground := .data }], guard := none } : Oper)) rfl (fun v wk hj hD K hK => ?_)) ?_
        · have h15 : v 15 = (.bool true) := hD 15 (by decide)
          have h17 : v 17 = (.bool true) := hD 17 (by decide)
          simp only [r6D, r6E, putAll, Act.put, List.getD_cons_succ, List.getD_cons_zero, List.setIfInBounds_toArray, List.set_cons_zero, List.set_cons_succ, h15, h17] at hK ⊢
          go_simp
          exact hK.out _ _ (Below.refl _ _) rfl
        refine owes_cons (Owes.mk (o := ({ dst := some 53, op := .move (.tmp 52), type := 4, pos := "law.go:17", after := #[{ on := 18, ground := .data }, { on := 15, ground := .chain }], guard := none } : Oper)) rfl (fun v wk hj hD K hK => ?_)) ?_
        · have h18 : v 18 = (.bool true) := hD 18 (by decide)
          simp only [r6D, r6E, putAll, Act.put, List.getD_cons_succ, List.getD_cons_zero, List.setIfInBounds_toArray, List.set_cons_zero, List.set_cons_succ, h18] at hK ⊢
          go_simp
          exact hK.out _ _ (Below.refl _ _) rfl
        refine owes_cons (Owes.mk (o := ({ dst := some 54, op := .fieldAddr 24 (.tmp 3) 3, type := 0, pos := "law.go:17", after := #[{ on := 19, ground := .guard }], guard := some (19, true) } : Oper)) rfl (fun v wk hj hD K hK => ?_)) ?_
        · have h19 : v 19 = (.bool true) := hD 19 (by decide)
          simp only [r6D, r6E, putAll, Act.put, List.getD_cons_succ, List.getD_cons_zero, List.setIfInBounds_toArray, List.set_cons_zero, List.set_cons_succ, h19] at hK ⊢
          go_simp
          exact hK.out _ _ (Below.refl _ _) rfl
        refine owes_cons (Owes.mk (o := ({ dst := some 55, op := .load 22 (.tmp 54), type := 22, pos := "law.go:17", after := #[{ on := 20, ground := .data }, { on := 19, ground := .guard }], guard := some (19, true) } : Oper)) rfl (fun v wk hj hD K hK => ?_)) ?_
        · have h19 : v 19 = (.bool true) := hD 19 (by decide)
          have h20 : v 20 = (.pointer (some ⟨g3, 3, none⟩)) := hD 20 (by decide)
          simp only [r6D, r6E, putAll, Act.put, List.getD_cons_succ, List.getD_cons_zero, List.setIfInBounds_toArray, List.set_cons_zero, List.set_cons_succ, h19, h20] at hK ⊢
          obtain ⟨_, q0, q1, q2, q3, q4, p0, p1, p2, p3, p4, s3, s4, s5⟩ := Kf.all hj
          go_simp
          exact hK.out _ _ (Below.refl _ _) rfl
        refine owes_cons (Owes.mk (o := ({ dst := some 56, op := .call { callee := .builtin .len, args := #[.tmp 55], argTypes := #[22] }, type := 3, pos := "law.go:17", after := #[{ on := 21, ground := .data }, { on := 19, ground := .guard }], guard := some (19, true) } : Oper)) rfl (fun v wk hj hD K hK => ?_)) ?_
        · have h19 : v 19 = (.bool true) := hD 19 (by decide)
          have h21 : v 21 = (.slice (some ⟨b, off, none⟩) 2 c) := hD 21 (by decide)
          simp only [r6D, r6E, putAll, Act.put, List.getD_cons_succ, List.getD_cons_zero, List.setIfInBounds_toArray, List.set_cons_zero, List.set_cons_succ, h19, h21] at hK ⊢
          go_simp
          exact hK.out _ _ (Below.refl _ _) rfl
        refine owes_cons (Owes.mk (o := ({ dst := some 57, op := .binOp .eql 3 (.tmp 56) (.const (.int .i64 2)) 3, type := 4, pos := "law.go:17", after := #[{ on := 22, ground := .data }, { on := 19, ground := .guard }], guard := some (19, true) } : Oper)) rfl (fun v wk hj hD K hK => ?_)) ?_
        · have h19 : v 19 = (.bool true) := hD 19 (by decide)
          have h22 : v 22 = (.int .i64 2) := hD 22 (by decide)
          simp only [r6D, r6E, putAll, Act.put, List.getD_cons_succ, List.getD_cons_zero, List.setIfInBounds_toArray, List.set_cons_zero, List.set_cons_succ, h19, h22] at hK ⊢
          go_simp
          exact hK.out _ _ (Below.refl _ _) rfl
        refine owes_cons (Owes.mk (o := ({ dst := some 58, op := .pick (.tmp 53) (.tmp 57) (.const (.bool false)), type := 4, pos := "law.go:17", after := #[{ on := 19, ground := .data }, { on := 23, ground := .data }], guard := none } : Oper)) rfl (fun v wk hj hD K hK => ?_)) ?_
        · have h19 : v 19 = (.bool true) := hD 19 (by decide)
          have h23 : v 23 = (.bool true) := hD 23 (by decide)
          simp only [r6D, r6E, putAll, Act.put, List.getD_cons_succ, List.getD_cons_zero, List.setIfInBounds_toArray, List.set_cons_zero, List.set_cons_succ, h19, h23] at hK ⊢
          go_simp
          exact hK.out _ _ (Below.refl _ _) rfl
        refine owes_cons (Owes.mk (o := ({ dst := some 59, op := .move (.tmp 58), type := 4, pos := "law.go:17", after := #[{ on := 24, ground := .data }, { on := 19, ground := .chain }], guard := none } : Oper)) rfl (fun v wk hj hD K hK => ?_)) ?_
        · have h24 : v 24 = (.bool true) := hD 24 (by decide)
          simp only [r6D, r6E, putAll, Act.put, List.getD_cons_succ, List.getD_cons_zero, List.setIfInBounds_toArray, List.set_cons_zero, List.set_cons_succ, h24] at hK ⊢
          go_simp
          exact hK.out _ _ (Below.refl _ _) rfl
        refine owes_cons (Owes.mk (o := ({ dst := some 60, op := .fieldAddr 24 (.tmp 3) 3, type := 0, pos := "law.go:17", after := #[{ on := 25, ground := .guard }], guard := some (25, true) } : Oper)) rfl (fun v wk hj hD K hK => ?_)) ?_
        · have h25 : v 25 = (.bool true) := hD 25 (by decide)
          simp only [r6D, r6E, putAll, Act.put, List.getD_cons_succ, List.getD_cons_zero, List.setIfInBounds_toArray, List.set_cons_zero, List.set_cons_succ, h25] at hK ⊢
          go_simp
          exact hK.out _ _ (Below.refl _ _) rfl
        refine owes_cons (Owes.mk (o := ({ dst := some 61, op := .load 22 (.tmp 60), type := 22, pos := "law.go:17", after := #[{ on := 26, ground := .data }, { on := 25, ground := .guard }], guard := some (25, true) } : Oper)) rfl (fun v wk hj hD K hK => ?_)) ?_
        · have h25 : v 25 = (.bool true) := hD 25 (by decide)
          have h26 : v 26 = (.pointer (some ⟨g3, 3, none⟩)) := hD 26 (by decide)
          simp only [r6D, r6E, putAll, Act.put, List.getD_cons_succ, List.getD_cons_zero, List.setIfInBounds_toArray, List.set_cons_zero, List.set_cons_succ, h25, h26] at hK ⊢
          obtain ⟨_, q0, q1, q2, q3, q4, p0, p1, p2, p3, p4, s3, s4, s5⟩ := Kf.all hj
          go_simp
          exact hK.out _ _ (Below.refl _ _) rfl
        refine owes_cons (Owes.mk (o := ({ dst := some 62, op := .indexAddr 22 (.tmp 61) (.const (.int .i64 0)), type := 0, pos := "law.go:17", after := #[{ on := 27, ground := .data }, { on := 25, ground := .guard }], guard := some (25, true) } : Oper)) rfl (fun v wk hj hD K hK => ?_)) ?_
        · have h25 : v 25 = (.bool true) := hD 25 (by decide)
          have h27 : v 27 = (.slice (some ⟨b, off, none⟩) 2 c) := hD 27 (by decide)
          simp only [r6D, r6E, putAll, Act.put, List.getD_cons_succ, List.getD_cons_zero, List.setIfInBounds_toArray, List.set_cons_zero, List.set_cons_succ, h25, h27] at hK ⊢
          go_simp
          exact hK.out _ _ (Below.refl _ _) rfl
        refine owes_cons (Owes.mk (o := ({ dst := some 63, op := .fieldAddr 24 (.tmp 62) 2, type := 0, pos := "law.go:17", after := #[{ on := 28, ground := .data }, { on := 25, ground := .guard }], guard := some (25, true) } : Oper)) rfl (fun v wk hj hD K hK => ?_)) ?_
        · have h25 : v 25 = (.bool true) := hD 25 (by decide)
          have h28 : v 28 = (.pointer (some ⟨b, off, none⟩)) := hD 28 (by decide)
          simp only [r6D, r6E, putAll, Act.put, List.getD_cons_succ, List.getD_cons_zero, List.setIfInBounds_toArray, List.set_cons_zero, List.set_cons_succ, h25, h28] at hK ⊢
          go_simp
          exact hK.out _ _ (Below.refl _ _) rfl
        refine owes_cons (Owes.mk (o := ({ dst := some 64, op := .load 9 (.tmp 63), type := 9, pos := "law.go:17", after := #[{ on := 29, ground := .data }, { on := 25, ground := .guard }], guard := some (25, true) } : Oper)) rfl (fun v wk hj hD K hK => ?_)) ?_
        · have h25 : v 25 = (.bool true) := hD 25 (by decide)
          have h29 : v 29 = (.pointer (some ⟨b, off + 2, none⟩)) := hD 29 (by decide)
          simp only [r6D, r6E, putAll, Act.put, List.getD_cons_succ, List.getD_cons_zero, List.setIfInBounds_toArray, List.set_cons_zero, List.set_cons_succ, h25, h29] at hK ⊢
          obtain ⟨_, q0, q1, q2, q3, q4, p0, p1, p2, p3, p4, s3, s4, s5⟩ := Kf.all hj
          go_simp
          exact hK.out _ _ (Below.refl _ _) rfl
        refine owes_cons (Owes.mk (o := ({ dst := some 65, op := .binOp .eql 9 (.tmp 64) (.const (.string { data := #[97] })) 9, type := 4, pos := "law.go:17", after := #[{ on := 30, ground := .data }, { on := 25, ground := .guard }], guard := some (25, true) } : Oper)) rfl (fun v wk hj hD K hK => ?_)) ?_
        · have h25 : v 25 = (.bool true) := hD 25 (by decide)
          have h30 : v 30 = (.string ⟨#[97]⟩) := hD 30 (by decide)
          simp only [r6D, r6E, putAll, Act.put, List.getD_cons_succ, List.getD_cons_zero, List.setIfInBounds_toArray, List.set_cons_zero, List.set_cons_succ, h25, h30] at hK ⊢
          go_simp
          exact hK.out _ _ (Below.refl _ _) rfl
        refine owes_cons (Owes.mk (o := ({ dst := some 66, op := .pick (.tmp 59) (.tmp 65) (.const (.bool false)), type := 4, pos := "law.go:17", after := #[{ on := 25, ground := .data }, { on := 31, ground := .data }], guard := none } : Oper)) rfl (fun v wk hj hD K hK => ?_)) ?_
        · have h25 : v 25 = (.bool true) := hD 25 (by decide)
          have h31 : v 31 = (.bool true) := hD 31 (by decide)
          simp only [r6D, r6E, putAll, Act.put, List.getD_cons_succ, List.getD_cons_zero, List.setIfInBounds_toArray, List.set_cons_zero, List.set_cons_succ, h25, h31] at hK ⊢
          go_simp
          exact hK.out _ _ (Below.refl _ _) rfl
        refine owes_cons (Owes.mk (o := ({ dst := some 67, op := .move (.tmp 66), type := 4, pos := "law.go:17", after := #[{ on := 32, ground := .data }, { on := 25, ground := .chain }], guard := none } : Oper)) rfl (fun v wk hj hD K hK => ?_)) ?_
        · have h32 : v 32 = (.bool true) := hD 32 (by decide)
          simp only [r6D, r6E, putAll, Act.put, List.getD_cons_succ, List.getD_cons_zero, List.setIfInBounds_toArray, List.set_cons_zero, List.set_cons_succ, h32] at hK ⊢
          go_simp
          exact hK.out _ _ (Below.refl _ _) rfl
        refine owes_cons (Owes.mk (o := ({ dst := some 68, op := .fieldAddr 24 (.tmp 5) 1, type := 0, pos := "law.go:17", after := #[{ on := 33, ground := .guard }], guard := some (33, true) } : Oper)) rfl (fun v wk hj hD K hK => ?_)) ?_
        · have h33 : v 33 = (.bool true) := hD 33 (by decide)
          simp only [r6D, r6E, putAll, Act.put, List.getD_cons_succ, List.getD_cons_zero, List.setIfInBounds_toArray, List.set_cons_zero, List.set_cons_succ, h33] at hK ⊢
          go_simp
          exact hK.out _ _ (Below.refl _ _) rfl
        refine owes_cons (Owes.mk (o := ({ dst := some 69, op := .load 3 (.tmp 68), type := 3, pos := "law.go:17", after := #[{ on := 34, ground := .data }, { on := 33, ground := .guard }], guard := some (33, true) } : Oper)) rfl (fun v wk hj hD K hK => ?_)) ?_
        · have h33 : v 33 = (.bool true) := hD 33 (by decide)
          have h34 : v 34 = (.pointer (some ⟨g5, 1, none⟩)) := hD 34 (by decide)
          simp only [r6D, r6E, putAll, Act.put, List.getD_cons_succ, List.getD_cons_zero, List.setIfInBounds_toArray, List.set_cons_zero, List.set_cons_succ, h33, h34] at hK ⊢
          obtain ⟨_, q0, q1, q2, q3, q4, p0, p1, p2, p3, p4, s3, s4, s5⟩ := Kf.all hj
          go_simp
          exact hK.out _ _ (Below.refl _ _) rfl
        refine owes_cons (Owes.mk (o := ({ dst := some 70, op := .binOp .eql 3 (.tmp 69) (.const (.int .i64 3)) 3, type := 4, pos := "law.go:17", after := #[{ on := 35, ground := .data }, { on := 33, ground := .guard }], guard := some (33, true) } : Oper)) rfl (fun v wk hj hD K hK => ?_)) ?_
        · have h33 : v 33 = (.bool true) := hD 33 (by decide)
          have h35 : v 35 = (.int .i64 3) := hD 35 (by decide)
          simp only [r6D, r6E, putAll, Act.put, List.getD_cons_succ, List.getD_cons_zero, List.setIfInBounds_toArray, List.set_cons_zero, List.set_cons_succ, h33, h35] at hK ⊢
          go_simp
          exact hK.out _ _ (Below.refl _ _) rfl
        refine owes_cons (Owes.mk (o := ({ dst := some 71, op := .pick (.tmp 67) (.tmp 70) (.const (.bool false)), type := 4, pos := "law.go:17", after := #[{ on := 33, ground := .data }, { on := 36, ground := .data }], guard := none } : Oper)) rfl (fun v wk hj hD K hK => ?_)) ?_
        · have h33 : v 33 = (.bool true) := hD 33 (by decide)
          have h36 : v 36 = (.bool true) := hD 36 (by decide)
          simp only [r6D, r6E, putAll, Act.put, List.getD_cons_succ, List.getD_cons_zero, List.setIfInBounds_toArray, List.set_cons_zero, List.set_cons_succ, h33, h36] at hK ⊢
          go_simp
          exact hK.out _ _ (Below.refl _ _) rfl
        refine owes_cons (Owes.mk (o := ({ dst := some 72, op := .move (.tmp 71), type := 4, pos := "law.go:17", after := #[{ on := 37, ground := .data }, { on := 33, ground := .chain }], guard := none } : Oper)) rfl (fun v wk hj hD K hK => ?_)) ?_
        · have h37 : v 37 = (.bool true) := hD 37 (by decide)
          simp only [r6D, r6E, putAll, Act.put, List.getD_cons_succ, List.getD_cons_zero, List.setIfInBounds_toArray, List.set_cons_zero, List.set_cons_succ, h37] at hK ⊢
          go_simp
          exact hK.out _ _ (Below.refl _ _) rfl
        refine owes_cons (Owes.mk (o := ({ dst := some 73, op := .move (.tmp 6), type := 4, pos := "law.go:17", after := #[{ on := 38, ground := .guard }], guard := some (38, true) } : Oper)) rfl (fun v wk hj hD K hK => ?_)) ?_
        · have h38 : v 38 = (.bool true) := hD 38 (by decide)
          simp only [r6D, r6E, putAll, Act.put, List.getD_cons_succ, List.getD_cons_zero, List.setIfInBounds_toArray, List.set_cons_zero, List.set_cons_succ, h38] at hK ⊢
          go_simp
          exact hK.out _ _ (Below.refl _ _) rfl
        refine owes_cons (Owes.mk (o := ({ dst := some 74, op := .pick (.tmp 72) (.tmp 73) (.const (.bool false)), type := 4, pos := "law.go:17", after := #[{ on := 38, ground := .data }, { on := 39, ground := .data }], guard := none } : Oper)) rfl (fun v wk hj hD K hK => ?_)) ?_
        · have h38 : v 38 = (.bool true) := hD 38 (by decide)
          have h39 : v 39 = (.bool true) := hD 39 (by decide)
          simp only [r6D, r6E, putAll, Act.put, List.getD_cons_succ, List.getD_cons_zero, List.setIfInBounds_toArray, List.set_cons_zero, List.set_cons_succ, h38, h39] at hK ⊢
          go_simp
          exact hK.out _ _ (Below.refl _ _) rfl
        refine owes_cons (Owes.mk (o := ({ dst := some 75, op := .move (.tmp 74), type := 4, pos := "law.go:17", after := #[{ on := 40, ground := .data }, { on := 38, ground := .chain }], guard := none } : Oper)) rfl (fun v wk hj hD K hK => ?_)) ?_
        · have h40 : v 40 = (.bool true) := hD 40 (by decide)
          simp only [r6D, r6E, putAll, Act.put, List.getD_cons_succ, List.getD_cons_zero, List.setIfInBounds_toArray, List.set_cons_zero, List.set_cons_succ, h40] at hK ⊢
          go_simp
          exact hK.out _ _ (Below.refl _ _) rfl
        refine owes_cons (Owes.mk (o := ({ dst := some 76, op := .move (.tmp 8), type := 30, pos := "law.go:17", after := #[{ on := 41, ground := .guard }], guard := some (41, true) } : Oper)) rfl (fun v wk hj hD K hK => ?_)) ?_
        · have h41 : v 41 = (.bool true) := hD 41 (by decide)
          simp only [r6D, r6E, putAll, Act.put, List.getD_cons_succ, List.getD_cons_zero, List.setIfInBounds_toArray, List.set_cons_zero, List.set_cons_succ, h41] at hK ⊢
          go_simp
          exact hK.out _ _ (Below.refl _ _) rfl
        refine owes_cons (Owes.mk (o := ({ dst := some 77, op := .binOp .eql 30 (.tmp 76) (.const (.int .i64 2)) 30, type := 4, pos := "law.go:17", after := #[{ on := 42, ground := .data }, { on := 41, ground := .guard }], guard := some (41, true) } : Oper)) rfl (fun v wk hj hD K hK => ?_)) ?_
        · have h41 : v 41 = (.bool true) := hD 41 (by decide)
          have h42 : v 42 = (.int .i64 2) := hD 42 (by decide)
          simp only [r6D, r6E, putAll, Act.put, List.getD_cons_succ, List.getD_cons_zero, List.setIfInBounds_toArray, List.set_cons_zero, List.set_cons_succ, h41, h42] at hK ⊢
          go_simp
          exact hK.out _ _ (Below.refl _ _) rfl
        refine owes_cons (Owes.mk (o := ({ dst := some 78, op := .pick (.tmp 75) (.tmp 77) (.const (.bool false)), type := 4, pos := "law.go:17", after := #[{ on := 41, ground := .data }, { on := 43, ground := .data }], guard := none } : Oper)) rfl (fun v wk hj hD K hK => ?_)) ?_
        · have h41 : v 41 = (.bool true) := hD 41 (by decide)
          have h43 : v 43 = (.bool true) := hD 43 (by decide)
          simp only [r6D, r6E, putAll, Act.put, List.getD_cons_succ, List.getD_cons_zero, List.setIfInBounds_toArray, List.set_cons_zero, List.set_cons_succ, h41, h43] at hK ⊢
          go_simp
          exact hK.out _ _ (Below.refl _ _) rfl
        refine owes_cons (Owes.mk (o := ({ dst := some 79, op := .move (.tmp 78), type := 4, pos := "law.go:17", after := #[{ on := 44, ground := .data }, { on := 41, ground := .chain }], guard := none } : Oper)) rfl (fun v wk hj hD K hK => ?_)) ?_
        · have h44 : v 44 = (.bool true) := hD 44 (by decide)
          simp only [r6D, r6E, putAll, Act.put, List.getD_cons_succ, List.getD_cons_zero, List.setIfInBounds_toArray, List.set_cons_zero, List.set_cons_succ, h44] at hK ⊢
          go_simp
          exact hK.out _ _ (Below.refl _ _) rfl
        refine owes_cons (Owes.mk (o := ({ dst := some 80, op := .call { callee := .value (.func 26), args := #[.const (.bool true)], argTypes := #[4] }, type := 24, pos := "law.go:17", after := #[{ on := 45, ground := .chain }, { on := 45, ground := .guard }], guard := some (45, true) } : Oper)) rfl (fun v wk hj hD K hK => ?_)) ?_
        · have h45 : v 45 = (.bool true) := hD 45 (by decide)
          simp only [r6D, r6E, putAll, Act.put, List.getD_cons_succ, List.getD_cons_zero, List.setIfInBounds_toArray, List.set_cons_zero, List.set_cons_succ, h45] at hK ⊢
          go_simp
          refine (truth_lit _).mono ?_
          rintro e w2 ⟨rfl, hb⟩
          exact hK.out _ _ hb rfl
        refine owes_cons (Owes.mk (o := ({ dst := some 81, op := .call { callee := .value (.func 16), args := #[.tmp 80], argTypes := #[24] }, type := 30, pos := "law.go:17", after := #[{ on := 46, ground := .data }, { on := 46, ground := .chain }, { on := 45, ground := .guard }], guard := some (45, true) } : Oper)) rfl (fun v wk hj hD K hK => ?_)) ?_
        · have h45 : v 45 = (.bool true) := hD 45 (by decide)
          have h46 : v 46 = (ag 1 1 ⟨#[]⟩ none 0 0 none 0 0) := hD 46 (by decide)
          simp only [r6D, r6E, putAll, Act.put, List.getD_cons_succ, List.getD_cons_zero, List.setIfInBounds_toArray, List.set_cons_zero, List.set_cons_succ, h45, h46] at hK ⊢
          go_simp
          refine (check_t _).mono ?_
          rintro e w2 ⟨rfl, hb⟩
          exact hK.out _ _ hb rfl
        refine owes_cons (Owes.mk (o := ({ dst := some 82, op := .binOp .eql 30 (.tmp 81) (.const (.int .i64 0)) 30, type := 4, pos := "law.go:17", after := #[{ on := 47, ground := .data }, { on := 45, ground := .guard }], guard := some (45, true) } : Oper)) rfl (fun v wk hj hD K hK => ?_)) ?_
        · have h45 : v 45 = (.bool true) := hD 45 (by decide)
          have h47 : v 47 = (.int .i64 0) := hD 47 (by decide)
          simp only [r6D, r6E, putAll, Act.put, List.getD_cons_succ, List.getD_cons_zero, List.setIfInBounds_toArray, List.set_cons_zero, List.set_cons_succ, h45, h47] at hK ⊢
          go_simp
          exact hK.out _ _ (Below.refl _ _) rfl
        refine owes_cons (Owes.mk (o := ({ dst := some 83, op := .pick (.tmp 79) (.tmp 82) (.const (.bool false)), type := 4, pos := "law.go:17", after := #[{ on := 45, ground := .data }, { on := 48, ground := .data }], guard := none } : Oper)) rfl (fun v wk hj hD K hK => ?_)) ?_
        · have h45 : v 45 = (.bool true) := hD 45 (by decide)
          have h48 : v 48 = (.bool true) := hD 48 (by decide)
          simp only [r6D, r6E, putAll, Act.put, List.getD_cons_succ, List.getD_cons_zero, List.setIfInBounds_toArray, List.set_cons_zero, List.set_cons_succ, h45, h48] at hK ⊢
          go_simp
          exact hK.out _ _ (Below.refl _ _) rfl
        refine owes_cons (Owes.mk (o := ({ dst := some 84, op := .move (.tmp 83), type := 4, pos := "law.go:17", after := #[{ on := 49, ground := .data }, { on := 47, ground := .chain }], guard := none } : Oper)) rfl (fun v wk hj hD K hK => ?_)) ?_
        · have h49 : v 49 = (.bool true) := hD 49 (by decide)
          simp only [r6D, r6E, putAll, Act.put, List.getD_cons_succ, List.getD_cons_zero, List.setIfInBounds_toArray, List.set_cons_zero, List.set_cons_succ, h49] at hK ⊢
          go_simp
          exact hK.out _ _ (Below.refl _ _) rfl
        refine owes_cons (Owes.mk (o := ({ dst := some 85, op := .build 24 #[], type := 24, pos := "law.go:17", after := #[{ on := 50, ground := .guard }], guard := some (50, true) } : Oper)) rfl (fun v wk hj hD K hK => ?_)) ?_
        · have h50 : v 50 = (.bool true) := hD 50 (by decide)
          simp only [r6D, r6E, putAll, Act.put, List.getD_cons_succ, List.getD_cons_zero, List.setIfInBounds_toArray, List.set_cons_zero, List.set_cons_succ, h50] at hK ⊢
          go_simp
          exact hK.out _ _ (Below.refl _ _) rfl
        refine owes_cons (Owes.mk (o := ({ dst := some 86, op := .call { callee := .value (.func 16), args := #[.tmp 85], argTypes := #[24] }, type := 30, pos := "law.go:17", after := #[{ on := 51, ground := .data }, { on := 50, ground := .chain }, { on := 50, ground := .guard }], guard := some (50, true) } : Oper)) rfl (fun v wk hj hD K hK => ?_)) ?_
        · have h50 : v 50 = (.bool true) := hD 50 (by decide)
          have h51 : v 51 = (ag 0 0 ⟨#[]⟩ none 0 0 none 0 0) := hD 51 (by decide)
          simp only [r6D, r6E, putAll, Act.put, List.getD_cons_succ, List.getD_cons_zero, List.setIfInBounds_toArray, List.set_cons_zero, List.set_cons_succ, h50, h51] at hK ⊢
          go_simp
          refine (check_0 _).mono ?_
          rintro e w2 ⟨rfl, hb⟩
          exact hK.out _ _ hb rfl
        refine owes_cons (Owes.mk (o := ({ dst := some 87, op := .binOp .eql 30 (.tmp 86) (.const (.int .i64 2)) 30, type := 4, pos := "law.go:17", after := #[{ on := 52, ground := .data }, { on := 50, ground := .guard }], guard := some (50, true) } : Oper)) rfl (fun v wk hj hD K hK => ?_)) ?_
        · have h50 : v 50 = (.bool true) := hD 50 (by decide)
          have h52 : v 52 = (.int .i64 2) := hD 52 (by decide)
          simp only [r6D, r6E, putAll, Act.put, List.getD_cons_succ, List.getD_cons_zero, List.setIfInBounds_toArray, List.set_cons_zero, List.set_cons_succ, h50, h52] at hK ⊢
          go_simp
          exact hK.out _ _ (Below.refl _ _) rfl
        refine owes_cons (Owes.mk (o := ({ dst := some 88, op := .pick (.tmp 84) (.tmp 87) (.const (.bool false)), type := 4, pos := "law.go:17", after := #[{ on := 50, ground := .data }, { on := 53, ground := .data }], guard := none } : Oper)) rfl (fun v wk hj hD K hK => ?_)) ?_
        · have h50 : v 50 = (.bool true) := hD 50 (by decide)
          have h53 : v 53 = (.bool true) := hD 53 (by decide)
          simp only [r6D, r6E, putAll, Act.put, List.getD_cons_succ, List.getD_cons_zero, List.setIfInBounds_toArray, List.set_cons_zero, List.set_cons_succ, h50, h53] at hK ⊢
          go_simp
          exact hK.out _ _ (Below.refl _ _) rfl
        refine owes_cons (Owes.mk (o := ({ dst := some 89, op := .move (.tmp 88), type := 4, pos := "law.go:17", after := #[{ on := 54, ground := .data }, { on := 52, ground := .chain }], guard := none } : Oper)) rfl (fun v wk hj hD K hK => ?_)) ?_
        · have h54 : v 54 = (.bool true) := hD 54 (by decide)
          simp only [r6D, r6E, putAll, Act.put, List.getD_cons_succ, List.getD_cons_zero, List.setIfInBounds_toArray, List.set_cons_zero, List.set_cons_succ, h54] at hK ⊢
          go_simp
          exact hK.out _ _ (Below.refl _ _) rfl
        refine owes_cons (Owes.mk (o := ({ dst := some 90, op := .load 24 (.tmp 1), type := 24, pos := "law.go:17", after := #[{ on := 55, ground := .guard }], guard := some (55, true) } : Oper)) rfl (fun v wk hj hD K hK => ?_)) ?_
        · have h55 : v 55 = (.bool true) := hD 55 (by decide)
          simp only [r6D, r6E, putAll, Act.put, List.getD_cons_succ, List.getD_cons_zero, List.setIfInBounds_toArray, List.set_cons_zero, List.set_cons_succ, h55] at hK ⊢
          obtain ⟨_, q0, q1, q2, q3, q4, p0, p1, p2, p3, p4, s3, s4, s5⟩ := Kf.all hj
          go_simp
          exact hK.out _ _ (Below.refl _ _) rfl
        refine owes_cons (Owes.mk (o := ({ dst := some 91, op := .buildSlice 22 1 #[(0, .tmp 90)], type := 22, pos := "law.go:17", after := #[{ on := 56, ground := .data }, { on := 55, ground := .guard }], guard := some (55, true) } : Oper)) rfl (fun v wk hj hD K hK => ?_)) ?_
        · have h55 : v 55 = (.bool true) := hD 55 (by decide)
          have h56 : v 56 = (ag 2 1 ⟨#[]⟩ none 0 0 none 0 0) := hD 56 (by decide)
          simp only [r6D, r6E, putAll, Act.put, List.getD_cons_succ, List.getD_cons_zero, List.setIfInBounds_toArray, List.set_cons_zero, List.set_cons_succ, h55, h56] at hK ⊢
          go_simp
          exact hK.out _ _ (below_new _ _) ⟨_, rfl, row1_new _⟩
        refine owes_cons (Owes.mk (o := ({ dst := some 92, op := .call { callee := .value (.func 29), args := #[.tmp 91], argTypes := #[22] }, type := 24, pos := "law.go:17", after := #[{ on := 57, ground := .data }, { on := 55, ground := .chain }, { on := 55, ground := .guard }], guard := some (55, true) } : Oper)) rfl (fun v wk hj hD K hK => ?_)) ?_
        · have h55 : v 55 = (.bool true) := hD 55 (by decide)
          obtain ⟨z57, h57, r57⟩ : ∃ g, v 57 = .slice (some ⟨g, 0, none⟩) 1 1 ∧ RowAt wk g [numV 1] := hD 57 (by decide)
          simp only [r6D, r6E, putAll, Act.put, List.getD_cons_succ, List.getD_cons_zero, List.setIfInBounds_toArray, List.set_cons_zero, List.set_cons_succ, h55, h57] at hK ⊢
          go_simp
          refine (row1c _ _ r57).mono ?_
          rintro e w2 ⟨A, c, A', c', rfl, rd, hb⟩
          exact hK.out _ _ hb ⟨_, _, _, _, rfl, rd⟩
        refine owes_cons (Owes.mk (o := ({ dst := some 93, op := .call { callee := .value (.func 18), args := #[.tmp 92], argTypes := #[24] }, type := 3, pos := "law.go:17", after := #[{ on := 58, ground := .data }, { on := 58, ground := .chain }, { on := 55, ground := .guard }], guard := some (55, true) } : Oper)) rfl (fun v wk hj hD K hK => ?_)) ?_
        · have h55 : v 55 = (.bool true) := hD 55 (by decide)
          obtain ⟨A58, c58, B58, d58, h58, r58⟩ : ∃ A c A' c', v 58 = ag 6 0 ⟨#[]⟩ A 1 c A' 0 c' ∧ Rd wk 0 wk.heap.size 14 row1K A c A' c' := hD 58 (by decide)
          simp only [r6D, r6E, putAll, Act.put, List.getD_cons_succ, List.getD_cons_zero, List.setIfInBounds_toArray, List.set_cons_zero, List.set_cons_succ, h55, h58] at hK ⊢
          go_simp
          refine (depth1 _ _ _ _ _ r58).mono ?_
          rintro e w2 ⟨rfl, hb⟩
          exact hK.out _ _ hb rfl
        refine owes_cons (Owes.mk (o := ({ dst := some 94, op := .binOp .eql 3 (.tmp 93) (.const (.int .i64 2)) 3, type := 4, pos := "law.go:17", after := #[{ on := 59, ground := .data }, { on := 55, ground := .guard }], guard := some (55, true) } : Oper)) rfl (fun v wk hj hD K hK => ?_)) ?_
        · have h55 : v 55 = (.bool true) := hD 55 (by decide)
          have h59 : v 59 = (.int .i64 2) := hD 59 (by decide)
          simp only [r6D, r6E, putAll, Act.put, List.getD_cons_succ, List.getD_cons_zero, List.setIfInBounds_toArray, List.set_cons_zero, List.set_cons_succ, h55, h59] at hK ⊢
          go_simp
          exact hK.out _ _ (Below.refl _ _) rfl
        refine owes_cons (Owes.mk (o := ({ dst := some 95, op := .pick (.tmp 89) (.tmp 94) (.const (.bool false)), type := 4, pos := "law.go:17", after := #[{ on := 55, ground := .data }, { on := 60, ground := .data }], guard := none } : Oper)) rfl (fun v wk hj hD K hK => ?_)) ?_
        · have h55 : v 55 = (.bool true) := hD 55 (by decide)
          have h60 : v 60 = (.bool true) := hD 60 (by decide)
          simp only [r6D, r6E, putAll, Act.put, List.getD_cons_succ, List.getD_cons_zero, List.setIfInBounds_toArray, List.set_cons_zero, List.set_cons_succ, h55, h60] at hK ⊢
          go_simp
          exact hK.out _ _ (Below.refl _ _) rfl
        refine owes_cons (Owes.mk (o := ({ dst := some 0, op := .assign (.tmp 95), type := 4, pos := "law.go:17", after := #[{ on := 61, ground := .data }, { on := 59, ground := .chain }, { on := 0, ground := .phase }, { on := 1, ground := .phase }, { on := 2, ground := .phase }, { on := 3, ground := .phase }, { on := 4, ground := .phase }, { on := 5, ground := .phase }, { on := 6, ground := .phase }, { on := 7, ground := .phase }, { on := 8, ground := .phase }, { on := 9, ground := .phase }, { on := 10, ground := .phase }, { on := 11, ground := .phase }, { on := 12, ground := .phase }, { on := 13, ground := .phase }, { on := 14, ground := .phase }, { on := 15, ground := .phase }, { on := 16, ground := .phase }, { on := 17, ground := .phase }, { on := 18, ground := .phase }, { on := 19, ground := .phase }, { on := 20, ground := .phase }, { on := 21, ground := .phase }, { on := 22, ground := .phase }, { on := 23, ground := .phase }, { on := 24, ground := .phase }, { on := 25, ground := .phase }, { on := 26, ground := .phase }, { on := 27, ground := .phase }, { on := 28, ground := .phase }, { on := 29, ground := .phase }, { on := 30, ground := .phase }, { on := 31, ground := .phase }, { on := 32, ground := .phase }, { on := 33, ground := .phase }, { on := 34, ground := .phase }, { on := 35, ground := .phase }, { on := 36, ground := .phase }, { on := 37, ground := .phase }, { on := 38, ground := .phase }, { on := 39, ground := .phase }, { on := 40, ground := .phase }, { on := 41, ground := .phase }, { on := 42, ground := .phase }, { on := 43, ground := .phase }, { on := 44, ground := .phase }, { on := 45, ground := .phase }, { on := 46, ground := .phase }, { on := 47, ground := .phase }, { on := 48, ground := .phase }, { on := 49, ground := .phase }, { on := 50, ground := .phase }, { on := 51, ground := .phase }, { on := 52, ground := .phase }, { on := 53, ground := .phase }, { on := 54, ground := .phase }, { on := 55, ground := .phase }, { on := 56, ground := .phase }, { on := 57, ground := .phase }, { on := 58, ground := .phase }, { on := 59, ground := .phase }, { on := 60, ground := .phase }, { on := 61, ground := .phase }], guard := none } : Oper)) rfl (fun v wk hj hD K hK => ?_)) ?_
        · have h61 : v 61 = (.bool true) := hD 61 (by decide)
          simp only [r6D, r6E, putAll, Act.put, List.getD_cons_succ, List.getD_cons_zero, List.setIfInBounds_toArray, List.set_cons_zero, List.set_cons_succ, h61] at hK ⊢
          go_simp
          exact hK.out _ _ (Below.refl _ _) rfl
        exact owes_nil
      · intro v wf hj hr
        have h62 : v 62 = .bool true := hr 62 (by decide)
        simp only [r6D, putAll, Act.put, List.getD_cons_succ, List.getD_cons_zero, List.setIfInBounds_toArray, List.set_cons_zero, List.set_cons_succ, h62]
        clear h62 hr
        go_wp2_with fail
        go_ret
        exact ⟨rfl, hj.km.kn.bel⟩
end Go.Proofs.Ytdolejafihgpmaa
