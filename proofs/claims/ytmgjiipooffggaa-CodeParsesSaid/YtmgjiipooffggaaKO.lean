/- Quote, the program's. -/
import Derived.Test.YtmgjiipooffggaaKN
namespace Go.Proofs.Ytmgjiipooffggaa
set_option maxRecDepth 100000
open Go.RowKit Go.Sort
attribute [local go_sem ↓] Go.wp_at_zero Go.wp_at_succ

def IsNews (news : List Value) : Value → World → Prop := fun x w => ∃ z : Nat, x = .slice (some ⟨z, 0, none⟩) news.length news.length ∧ (∀ j u, news[j]? = some u → w.cell? ((⟨z, 0, none⟩ : Addr).add j) = some u) ∧ z < w.heap.size
theorem IsNews.stays (news : List Value) : Stays (IsNews news) := fun _ _ _ ⟨z, e, h, hz⟩ hb => ⟨z, e, news_below h hb hz, Nat.lt_of_lt_of_le hz hb.size⟩
theorem own_one8 (w : World) (c : UInt8) : (w.alloc (.cells #[.int .u8 (c.toNat : Int)] 5)).ownsRow w.heap.size 5 1 (.slice (some ⟨w.heap.size, 0, none⟩) 1 1) ([c].length) ([c].map u8v) :=
  ⟨by simp, .inr ⟨w.heap.size, 1, _, rfl, Nat.le_refl _, heap_alloc_new w _, by simp, by unfold maxLen; omega, by simp, by simp⟩⟩
def hexT : ByteArray := ⟨#[48, 49, 50, 51, 52, 53, 54, 55, 56, 57, 97, 98, 99, 100, 101, 102]⟩
theorem hex_at (n : Nat) (h : n < 16) : ∃ hn : n < (⟨#[48, 49, 50, 51, 52, 53, 54, 55, 56, 57, 97, 98, 99, 100, 101, 102]⟩ : ByteArray).size, (⟨#[48, 49, 50, 51, 52, 53, 54, 55, 56, 57, 97, 98, 99, 100, 101, 102]⟩ : ByteArray)[n]'hn = hexD n := by
  have : ∀ m : Fin 16, ∃ hn : m.val < (⟨#[48, 49, 50, 51, 52, 53, 54, 55, 56, 57, 97, 98, 99, 100, 101, 102]⟩ : ByteArray).size, (⟨#[48, 49, 50, 51, 52, 53, 54, 55, 56, 57, 97, 98, 99, 100, 101, 102]⟩ : ByteArray)[m.val]'hn = hexD m.val := by decide
  exact this ⟨n, h⟩
theorem qM_next (l : Bs) (k : Nat) {c : UInt8} (h : l[k]? = some c) : qM (l.take (k + 1)) = qM (l.take k) ++ qB c := by
  rw [take_next l k h, qM_append]; simp [qM]
theorem qB_len (c : UInt8) : (qB c).length ≤ 4 := by unfold qB; split; simp; split <;> simp
theorem qM_len : ∀ l : Bs, (qM l).length ≤ 4 * l.length
  | [] => by simp [qM]
  | c :: r => by rw [qM_cons, List.length_append]; have := qM_len r; have := qB_len c; simp; omega
def o10D : Nat → Tmp := fun j => [37, 38, 39, 40, 41, 42, 43, 44, 45, 3].getD j 0
def o10E : Nat → List Nat := fun j => [[], [], [1], [2], [], [4], [5], [3, 6], [], []].getD j []

set_option maxHeartbeats 6400000 in
theorem quote_any (s : ByteArray) (w : World) (hs : s.size ≤ 1000000000000) : Calls Try.prog 16 #[.string s] w fun e w' => e = .returned (.string ⟨(qL s.toList).toArray⟩) ∧ Below w.heap.size w w' := by
  obtain ⟨i0, hi, hz0, hz1, hz2⟩ := info_parts info5
  go_enter Try.func16, Try.ntmps16
  go_wp2
  go_loopw [3, 9] (fun v i wr => ∃ (k : Nat) (acc : Bs) (A : Option Addr) (cap : Nat), v = .slice A acc.length cap ∧ i = .int .i64 k ∧ k ≤ s.size ∧ Hid (wr.ownsRow w.heap.size 5 1 (.slice A acc.length cap) acc.length (acc.map u8v)) ∧ Hid (Below w.heap.size w wr) ∧ Hid (acc = 39 :: qM (s.toList.take k))) (fun _ i _ => s.size - (RowKit.intOf i).toNat)
  case atStart => exact ⟨0, [39], _, _, rfl, rfl, by omega, Lib.hid (own_one8 w 39), Lib.hid (below_new _ _), Lib.hid (by simp [qM])⟩
  case round =>
    obtain ⟨k, acc, A, cap, rfl, rfl, hk, hown, hbel, hacc⟩ := hrel
    have HLA : Hid (acc.length ≤ 4 * s.size + 1) := Lib.hid (by
      rw [hacc.out, List.length_cons]
      have := qM_len (s.toList.take k)
      rw [List.length_take, toList_size] at this
      omega)
    by_cases hlt : k < s.size
    · have NX := Lib.hid (qM_next s.toList k (toList_at s k hlt))
      have k0 : (0 : Int) ≤ (k : Int) := by omega
      have k1 : (k : Int) < (s.size : Int) := by omega
      go_upto_region 7 with fail
      generalize s[k]'hlt = c at NX ⊢
      have q1 := byte_is c 39 (by omega)
      have q2 := byte_is c 92 (by omega)
      have hcl := c.toNat_lt
      by_cases h1 : c = 39
      · have p1 : ((c.toNat : Int) == 39) = true := by rw [h1]; rfl
        have QB : Hid (qB c = [92, c]) := Lib.hid (by simp [qB, h1])
        clear q1 q2 h1
        go_wp2_with (at_builtin; refine wpList_append_own _ rfl _ _ 45 rfl w.heap.size 5 i0 (.int .u8 0) 1 1 Try.underlying45 hi hz0 hz1 hz2 rfl (by decide) _ _ _ rfl (hown.out.alloc _) ⟨wr.heap.size, 0, none⟩ 2 2 [.int .u8 92, .int .u8 (c.toNat : Int)] rfl rfl ?c1 ?c2 ?c3 ?c4 ?c5 ?_)
        case c1 =>
          intro j u hj
          match j, hj with
          | 0, hj => simp at hj; subst hj; simp [Addr.add]
          | 1, hj => simp at hj; subst hj; simp [Addr.add]
        case c2 => intro u hu; simp at hu; rcases hu with rfl | rfl <;> rfl
        case c3 => have := HLA.out; unfold maxLen; omega
        case c4 => have := HLA.out; omega
        case c5 => have := hbel.out.size; simp; omega
        intro v' w1 hown' hgrow _
        have HO : Hid (w1.ownsRow w.heap.size 5 1 v' (acc ++ [92, c]).length ((acc ++ [92, c]).map u8v)) := Lib.hid (by simp at hown' ⊢; exact hown')
        have HB2 : Hid (Below w.heap.size w w1) := Lib.hid ((hbel.out.alloc hbel.out.size _).grown hgrow (by have := hbel.out.size; simp; omega) (fun g hg => (hown.out.lt g hg).1))
        clear hown' hgrow
        obtain ⟨A', cap', rfl⟩ := own_slice' HO.out
        go_wp2
        go_roundw
        case rel => exact ⟨k + 1, acc ++ [92, c], A', cap', rfl, by go_num, by omega, HO, HB2, Lib.hid (by rw [NX.out, QB.out, hacc.out]; simp)⟩
        case measure => simp [RowKit.intOf]; omega
      · have p1 : ((c.toNat : Int) == 39) = false := by rw [show (39 : Int) = ((39 : Nat) : Int) from rfl, q1]; simpa using h1
        by_cases h2 : c = 92
        · have p2 : ((c.toNat : Int) == 92) = true := by rw [h2]; rfl
          have QB : Hid (qB c = [92, c]) := Lib.hid (by simp [qB, h2])
          clear q1 q2 h1 h2
          go_wp2_with (at_builtin; refine wpList_append_own _ rfl _ _ 45 rfl w.heap.size 5 i0 (.int .u8 0) 1 1 Try.underlying45 hi hz0 hz1 hz2 rfl (by decide) _ _ _ rfl (hown.out.alloc _) ⟨wr.heap.size, 0, none⟩ 2 2 [.int .u8 92, .int .u8 (c.toNat : Int)] rfl rfl ?d1 ?d2 ?d3 ?d4 ?d5 ?_)
          case d1 =>
            intro j u hj
            match j, hj with
            | 0, hj => simp at hj; subst hj; simp [Addr.add]
            | 1, hj => simp at hj; subst hj; simp [Addr.add]
          case d2 => intro u hu; simp at hu; rcases hu with rfl | rfl <;> rfl
          case d3 => have := HLA.out; unfold maxLen; omega
          case d4 => have := HLA.out; omega
          case d5 => have := hbel.out.size; simp; omega
          intro v' w1 hown' hgrow _
          have HO : Hid (w1.ownsRow w.heap.size 5 1 v' (acc ++ [92, c]).length ((acc ++ [92, c]).map u8v)) := Lib.hid (by simp at hown' ⊢; exact hown')
          have HB2 : Hid (Below w.heap.size w w1) := Lib.hid ((hbel.out.alloc hbel.out.size _).grown hgrow (by have := hbel.out.size; simp; omega) (fun g hg => (hown.out.lt g hg).1))
          clear hown' hgrow
          obtain ⟨A', cap', rfl⟩ := own_slice' HO.out
          go_wp2
          go_roundw
          case rel => exact ⟨k + 1, acc ++ [92, c], A', cap', rfl, by go_num, by omega, HO, HB2, Lib.hid (by rw [NX.out, QB.out, hacc.out]; simp)⟩
          case measure => simp [RowKit.intOf]; omega
        · have p2 : ((c.toNat : Int) == 92) = false := by rw [show (92 : Int) = ((92 : Nat) : Int) from rfl, q2]; simpa using h2
          have h12 : ¬ (c = 39 ∨ c = 92) := by rintro (h | h) <;> contradiction
          by_cases h32 : (c.toNat : Int) < 32
          · have QB : Hid (qB c = [92, 120, hexD (c.toNat / 16), hexD (c.toNat % 16)]) := Lib.hid (by unfold qB; rw [if_neg h12, if_neg (by simp [seenB]; omega)])
            clear q1 q2 h1 h2 h12
            obtain ⟨hh, hhe⟩ : ∃ n : Nat, n = c.toNat / 16 := ⟨_, rfl⟩
            obtain ⟨ll, lle⟩ : ∃ n : Nat, n = c.toNat % 16 := ⟨_, rfl⟩
            rw [← hhe, ← lle] at QB
            have hh0 : (0 : Int) ≤ (hh : Int) := by omega
            have hh1 : (hh : Int) < 16 := by omega
            have ll0 : (0 : Int) ≤ (ll : Int) := by omega
            have ll1 : (ll : Int) < 16 := by omega
            replace hhe := Lib.hid hhe
            replace lle := Lib.hid lle
            go_upto_region 10 with fail
            refine region_phase [0, 1, 2, 3, 4, 5, 6, 7] [] o10D o10E 5 (fun w' => Below wr.heap.size wr w') (saidOf [Is (.slice A acc.length cap), Is (.int .u8 ((c.toNat : Nat) : Int)), Is (.int .u8 ((hh : Nat) : Int)), Is (.int .u8 ((hexD (hh)).toNat : Int)), Is (.int .u8 ((c.toNat : Nat) : Int)), Is (.int .u8 ((ll : Nat) : Int)), Is (.int .u8 ((hexD (ll)).toNat : Int)), IsNews [.int .u8 92, .int .u8 120, .int .u8 ((hexD (hh)).toNat : Int), .int .u8 ((hexD (ll)).toNat : Int)], fun _ _ => True, fun _ _ => True]) 51 rfl (by kernel_rfl) (by kernel_rfl) (fun _ _ h hb => bnext h hb) (stays_said _ (stays_cons (Is.stays _) (stays_cons (Is.stays _) (stays_cons (Is.stays _) (stays_cons (Is.stays _) (stays_cons (Is.stays _) (stays_cons (Is.stays _) (stays_cons (Is.stays _) (stays_cons (IsNews.stays _) (stays_cons (fun _ _ _ _ _ => trivial) (stays_cons (fun _ _ _ _ _ => trivial) stays_nil))))))))))) (below_drewN _ _ 1) (by kernel_rfl) ?_ ?_
            · skip
              refine owes_cons (Owes.mk (o := ({ dst := some 37, op := .move (.tmp 3), type := 45, pos := "quote.go:14", after := #[], guard := none } : Oper)) rfl (fun v wk hj hD K hK => ?_)) ?_
              · simp only [o10D, o10E, putAll, Act.put, List.getD_cons_zero, List.setIfInBounds_toArray, List.set_cons_zero, List.set_cons_succ] at hK ⊢
                go_simp
                exact hK.out _ _ (Below.refl _ _) rfl
              refine owes_cons (Owes.mk (o := ({ dst := some 38, op := .move (.tmp 5), type := 5, pos := "quote.go:14", after := #[], guard := none } : Oper)) rfl (fun v wk hj hD K hK => ?_)) ?_
              · simp only [o10D, o10E, putAll, Act.put, List.getD_cons_succ, List.getD_cons_zero, List.setIfInBounds_toArray, List.set_cons_zero, List.set_cons_succ] at hK ⊢
                go_simp
                exact hK.out _ _ (Below.refl _ _) rfl
              refine owes_cons (Owes.mk (o := ({ dst := some 39, op := .binOp .quo 5 (.tmp 38) (.const (.int .u8 16)) 5, type := 5, pos := "quote.go:14", after := #[{ on := 1, ground := .data }], guard := none } : Oper)) rfl (fun v wk hj hD K hK => ?_)) ?_
              · have h1 : v 1 = (.int .u8 ((c.toNat : Nat) : Int)) := hD 1 (by decide)
                simp only [o10D, o10E, putAll, Act.put, List.getD_cons_succ, List.getD_cons_zero, List.setIfInBounds_toArray, List.set_cons_zero, List.set_cons_succ, h1] at hK ⊢
                have E2 := Lib.hid (show IntKind.u8.wrap ((c.toNat : Int) / 16) = (hh : Int) by rw [IntWalk.u8_in _ (by have := c.toNat_lt; omega)]; have := hhe.out; omega)
                go_simp
                exact hK.out _ _ (Below.refl _ _) (show Value.int _ _ = _ by rw [E2.out])
              refine owes_cons (Owes.mk (o := ({ dst := some 40, op := .index 9 (.const (.string { data := #[48, 49, 50, 51, 52, 53, 54, 55, 56, 57, 97, 98, 99, 100, 101, 102] })) (.tmp 39), type := 5, pos := "quote.go:14", after := #[{ on := 2, ground := .data }], guard := none } : Oper)) rfl (fun v wk hj hD K hK => ?_)) ?_
              · have h2 : v 2 = (.int .u8 ((hh : Nat) : Int)) := hD 2 (by decide)
                simp only [o10D, o10E, putAll, Act.put, List.getD_cons_succ, List.getD_cons_zero, List.setIfInBounds_toArray, List.set_cons_zero, List.set_cons_succ, h2] at hK ⊢
                obtain ⟨hx1, hx2⟩ := hex_at hh (by omega)
                have HX2 := Lib.hid hx2
                clear hx2
                go_simp
                exact hK.out _ _ (Below.refl _ _) (show Value.int _ _ = _ by rw [← HX2.out])
              refine owes_cons (Owes.mk (o := ({ dst := some 41, op := .move (.tmp 5), type := 5, pos := "quote.go:14", after := #[], guard := none } : Oper)) rfl (fun v wk hj hD K hK => ?_)) ?_
              · simp only [o10D, o10E, putAll, Act.put, List.getD_cons_succ, List.getD_cons_zero, List.setIfInBounds_toArray, List.set_cons_zero, List.set_cons_succ] at hK ⊢
                go_simp
                exact hK.out _ _ (Below.refl _ _) rfl
              refine owes_cons (Owes.mk (o := ({ dst := some 42, op := .binOp .rem 5 (.tmp 41) (.const (.int .u8 16)) 5, type := 5, pos := "quote.go:14", after := #[{ on := 4, ground := .data }], guard := none } : Oper)) rfl (fun v wk hj hD K hK => ?_)) ?_
              · have h4 : v 4 = (.int .u8 ((c.toNat : Nat) : Int)) := hD 4 (by decide)
                simp only [o10D, o10E, putAll, Act.put, List.getD_cons_succ, List.getD_cons_zero, List.setIfInBounds_toArray, List.set_cons_zero, List.set_cons_succ, h4] at hK ⊢
                have E5 := Lib.hid (show (c.toNat : Int).tmod 16 = (ll : Int) by rw [Int.tmod_eq_emod_of_nonneg (by omega)]; have := lle.out; omega)
                go_simp
                exact hK.out _ _ (Below.refl _ _) (show Value.int _ _ = _ by rw [E5.out])
              refine owes_cons (Owes.mk (o := ({ dst := some 43, op := .index 9 (.const (.string { data := #[48, 49, 50, 51, 52, 53, 54, 55, 56, 57, 97, 98, 99, 100, 101, 102] })) (.tmp 42), type := 5, pos := "quote.go:14", after := #[{ on := 5, ground := .data }], guard := none } : Oper)) rfl (fun v wk hj hD K hK => ?_)) ?_
              · have h5 : v 5 = (.int .u8 ((ll : Nat) : Int)) := hD 5 (by decide)
                simp only [o10D, o10E, putAll, Act.put, List.getD_cons_succ, List.getD_cons_zero, List.setIfInBounds_toArray, List.set_cons_zero, List.set_cons_succ, h5] at hK ⊢
                obtain ⟨hx1, hx2⟩ := hex_at ll (by omega)
                have HX2 := Lib.hid hx2
                clear hx2
                go_simp
                exact hK.out _ _ (Below.refl _ _) (show Value.int _ _ = _ by rw [← HX2.out])
              refine owes_cons (Owes.mk (o := ({ dst := some 44, op := .buildSlice 45 4 #[(0, .const (.int .u8 92)), (1, .const (.int .u8 120)), (2, .tmp 40), (3, .tmp 43)], type := 45, pos := "quote.go:14", after := #[{ on := 3, ground := .data }, { on := 6, ground := .data }], guard := none } : Oper)) rfl (fun v wk hj hD K hK => ?_)) ?_
              · have h3 : v 3 = (.int .u8 ((hexD (hh)).toNat : Int)) := hD 3 (by decide)
                have h6 : v 6 = (.int .u8 ((hexD (ll)).toNat : Int)) := hD 6 (by decide)
                simp only [o10D, o10E, putAll, Act.put, List.getD_cons_succ, List.getD_cons_zero, List.setIfInBounds_toArray, List.set_cons_zero, List.set_cons_succ, h3, h6] at hK ⊢
                go_simp
                exact hK.out _ _ (below_new _ _) ⟨_, rfl, news1 wk 5 [.int .u8 92, .int .u8 120, .int .u8 ((hexD (hh)).toNat : Int), .int .u8 ((hexD (ll)).toNat : Int)], by simp⟩
              exact owes_nil
            · intro p v wf h1 h2 hj hr
              obtain rfl := marks_all h1 (fun m hm => h2 m hm (by simp))
              have hv0 : v 0 = .slice A acc.length cap := hr 0 (by decide) (by decide)
              obtain ⟨z, hv7, hnews, hz⟩ : IsNews [.int .u8 92, .int .u8 120, .int .u8 ((hexD (hh)).toNat : Int), .int .u8 ((hexD (ll)).toNat : Int)] (v 7) wf := hr 7 (by decide) (by decide)
              rw [show List.filter (fun k => [0, 1, 2, 3, 4, 5, 6, 7].contains k) [0, 1, 2, 3, 4, 5, 6, 7] = [0, 1, 2, 3, 4, 5, 6, 7] from rfl]
              simp only [o10D, putAll, Act.put, List.getD_cons_succ, List.getD_cons_zero, List.setIfInBounds_toArray, List.set_cons_zero, List.set_cons_succ, hv0, hv7]
              clear hv0 hv7 hr h1 h2
              have HJ := Lib.hid hj
              have HN := Lib.hid hnews
              clear hj hnews
              have OWN := Lib.hid (own_keep hown.out (fun i _ hi => HJ.out.block i hi))
              refine anyN_any (S := fun _ => True) (N := []) _ _ _ _ ?_
              refine anyN_one (i := 8) (o := ({ dst := some 45, op := .call { callee := .builtin .append, args := #[.tmp 37, .tmp 44], argTypes := #[45, 45] }, type := 45, pos := "quote.go:14", after := #[{ on := 0, ground := .data }, { on := 7, ground := .data }], guard := none } : Oper)) (by kernel_rfl) rfl (fun K hK => ?_)
              refine step_append_lies wf (by rfl) (.tmp 37) (.tmp 44) 45 (by rfl) w.heap.size 5 i0 (.int .u8 0) 1 1 Try.underlying45 hi hz0 hz1 hz2 rfl (by decide) _ acc.length _ (by simp [Act.eval]) OWN.out ⟨z, 0, none⟩ 4 4 _ (by simp [Act.eval]) (by simp) HN.out (by intro u hu; simp at hu; rcases hu with rfl | rfl | rfl | rfl <;> rfl) (by omega) (by have := HLA.out; unfold maxLen; omega) (by have := HLA.out; omega) (by have := hbel.out.size; have := HJ.out.size; omega) wf.heap.size rfl ?_
              intro gN cN w1 hown' hgrow hat hlt'
              refine hK.out _ _ (fun _ => trivial) ?_
              clear hK K
              have HO : Hid (w1.ownsRow w.heap.size 5 1 (.slice (some ⟨gN, 0, none⟩) (acc ++ [92, 120, hexD (hh), hexD (ll)]).length cN) (acc ++ [92, 120, hexD (hh), hexD (ll)]).length ((acc ++ [92, 120, hexD (hh), hexD (ll)]).map u8v)) := Lib.hid (by simp at hown' ⊢; exact hown')
              have HB2 : Hid (Below w.heap.size w w1) := Lib.hid ((hbel.out.trans (HJ.out.mono hbel.out.size)).grown hgrow (by have := hbel.out.size; have := HJ.out.size; omega) (fun g hg => (hown.out.lt g hg).1))
              clear hown' hgrow hat hlt'
              try simp only [Act.put, List.setIfInBounds_toArray, List.set_cons_zero, List.set_cons_succ]
              refine anyN_one (i := 9) (o := ({ dst := some 3, op := .assign (.tmp 45), type := 45, pos := "quote.go:14", after := #[{ on := 8, ground := .data }, { on := 8, ground := .chain }, { on := 0, ground := .phase }, { on := 1, ground := .phase }, { on := 2, ground := .phase }, { on := 3, ground := .phase }, { on := 4, ground := .phase }, { on := 5, ground := .phase }, { on := 6, ground := .phase }, { on := 7, ground := .phase }, { on := 8, ground := .phase }], guard := none } : Oper)) (by kernel_rfl) rfl (fun K hK => ?_)
              try simp only [Act.put, List.setIfInBounds_toArray, List.set_cons_zero, List.set_cons_succ]
              go_simp
              refine hK.out _ _ (fun _ => trivial) ?_
              clear hK K
              try simp only [Act.put, List.setIfInBounds_toArray, List.set_cons_zero, List.set_cons_succ]
              refine anyN_done (by kernel_rfl) ?_ _
              go_wp2
              go_roundw
              case rel => exact ⟨k + 1, acc ++ [92, 120, hexD (hh), hexD (ll)], _, _, by simp, by go_num, by omega, HO, HB2, Lib.hid (by rw [NX.out, QB.out, hacc.out]; simp)⟩
              case measure => simp [RowKit.intOf]; omega
          · by_cases h126 : (126 : Int) < (c.toNat : Int)
            · have QB : Hid (qB c = [92, 120, hexD (c.toNat / 16), hexD (c.toNat % 16)]) := Lib.hid (by unfold qB; rw [if_neg h12, if_neg (by simp [seenB]; omega)])
              clear q1 q2 h1 h2 h12
              obtain ⟨hh, hhe⟩ : ∃ n : Nat, n = c.toNat / 16 := ⟨_, rfl⟩
              obtain ⟨ll, lle⟩ : ∃ n : Nat, n = c.toNat % 16 := ⟨_, rfl⟩
              rw [← hhe, ← lle] at QB
              have hh0 : (0 : Int) ≤ (hh : Int) := by omega
              have hh1 : (hh : Int) < 16 := by omega
              have ll0 : (0 : Int) ≤ (ll : Int) := by omega
              have ll1 : (ll : Int) < 16 := by omega
              replace hhe := Lib.hid hhe
              replace lle := Lib.hid lle
              go_upto_region 10 with fail
              refine region_phase [0, 1, 2, 3, 4, 5, 6, 7] [] o10D o10E 5 (fun w' => Below wr.heap.size wr w') (saidOf [Is (.slice A acc.length cap), Is (.int .u8 ((c.toNat : Nat) : Int)), Is (.int .u8 ((hh : Nat) : Int)), Is (.int .u8 ((hexD (hh)).toNat : Int)), Is (.int .u8 ((c.toNat : Nat) : Int)), Is (.int .u8 ((ll : Nat) : Int)), Is (.int .u8 ((hexD (ll)).toNat : Int)), IsNews [.int .u8 92, .int .u8 120, .int .u8 ((hexD (hh)).toNat : Int), .int .u8 ((hexD (ll)).toNat : Int)], fun _ _ => True, fun _ _ => True]) 51 rfl (by kernel_rfl) (by kernel_rfl) (fun _ _ h hb => bnext h hb) (stays_said _ (stays_cons (Is.stays _) (stays_cons (Is.stays _) (stays_cons (Is.stays _) (stays_cons (Is.stays _) (stays_cons (Is.stays _) (stays_cons (Is.stays _) (stays_cons (Is.stays _) (stays_cons (IsNews.stays _) (stays_cons (fun _ _ _ _ _ => trivial) (stays_cons (fun _ _ _ _ _ => trivial) stays_nil))))))))))) (below_drewN _ _ 1) (by kernel_rfl) ?_ ?_
              · skip
                refine owes_cons (Owes.mk (o := ({ dst := some 37, op := .move (.tmp 3), type := 45, pos := "quote.go:14", after := #[], guard := none } : Oper)) rfl (fun v wk hj hD K hK => ?_)) ?_
                · simp only [o10D, o10E, putAll, Act.put, List.getD_cons_zero, List.setIfInBounds_toArray, List.set_cons_zero, List.set_cons_succ] at hK ⊢
                  go_simp
                  exact hK.out _ _ (Below.refl _ _) rfl
                refine owes_cons (Owes.mk (o := ({ dst := some 38, op := .move (.tmp 5), type := 5, pos := "quote.go:14", after := #[], guard := none } : Oper)) rfl (fun v wk hj hD K hK => ?_)) ?_
                · simp only [o10D, o10E, putAll, Act.put, List.getD_cons_succ, List.getD_cons_zero, List.setIfInBounds_toArray, List.set_cons_zero, List.set_cons_succ] at hK ⊢
                  go_simp
                  exact hK.out _ _ (Below.refl _ _) rfl
                refine owes_cons (Owes.mk (o := ({ dst := some 39, op := .binOp .quo 5 (.tmp 38) (.const (.int .u8 16)) 5, type := 5, pos := "quote.go:14", after := #[{ on := 1, ground := .data }], guard := none } : Oper)) rfl (fun v wk hj hD K hK => ?_)) ?_
                · have h1 : v 1 = (.int .u8 ((c.toNat : Nat) : Int)) := hD 1 (by decide)
                  simp only [o10D, o10E, putAll, Act.put, List.getD_cons_succ, List.getD_cons_zero, List.setIfInBounds_toArray, List.set_cons_zero, List.set_cons_succ, h1] at hK ⊢
                  have E2 := Lib.hid (show IntKind.u8.wrap ((c.toNat : Int) / 16) = (hh : Int) by rw [IntWalk.u8_in _ (by have := c.toNat_lt; omega)]; have := hhe.out; omega)
                  go_simp
                  exact hK.out _ _ (Below.refl _ _) (show Value.int _ _ = _ by rw [E2.out])
                refine owes_cons (Owes.mk (o := ({ dst := some 40, op := .index 9 (.const (.string { data := #[48, 49, 50, 51, 52, 53, 54, 55, 56, 57, 97, 98, 99, 100, 101, 102] })) (.tmp 39), type := 5, pos := "quote.go:14", after := #[{ on := 2, ground := .data }], guard := none } : Oper)) rfl (fun v wk hj hD K hK => ?_)) ?_
                · have h2 : v 2 = (.int .u8 ((hh : Nat) : Int)) := hD 2 (by decide)
                  simp only [o10D, o10E, putAll, Act.put, List.getD_cons_succ, List.getD_cons_zero, List.setIfInBounds_toArray, List.set_cons_zero, List.set_cons_succ, h2] at hK ⊢
                  obtain ⟨hx1, hx2⟩ := hex_at hh (by omega)
                  have HX2 := Lib.hid hx2
                  clear hx2
                  go_simp
                  exact hK.out _ _ (Below.refl _ _) (show Value.int _ _ = _ by rw [← HX2.out])
                refine owes_cons (Owes.mk (o := ({ dst := some 41, op := .move (.tmp 5), type := 5, pos := "quote.go:14", after := #[], guard := none } : Oper)) rfl (fun v wk hj hD K hK => ?_)) ?_
                · simp only [o10D, o10E, putAll, Act.put, List.getD_cons_succ, List.getD_cons_zero, List.setIfInBounds_toArray, List.set_cons_zero, List.set_cons_succ] at hK ⊢
                  go_simp
                  exact hK.out _ _ (Below.refl _ _) rfl
                refine owes_cons (Owes.mk (o := ({ dst := some 42, op := .binOp .rem 5 (.tmp 41) (.const (.int .u8 16)) 5, type := 5, pos := "quote.go:14", after := #[{ on := 4, ground := .data }], guard := none } : Oper)) rfl (fun v wk hj hD K hK => ?_)) ?_
                · have h4 : v 4 = (.int .u8 ((c.toNat : Nat) : Int)) := hD 4 (by decide)
                  simp only [o10D, o10E, putAll, Act.put, List.getD_cons_succ, List.getD_cons_zero, List.setIfInBounds_toArray, List.set_cons_zero, List.set_cons_succ, h4] at hK ⊢
                  have E5 := Lib.hid (show (c.toNat : Int).tmod 16 = (ll : Int) by rw [Int.tmod_eq_emod_of_nonneg (by omega)]; have := lle.out; omega)
                  go_simp
                  exact hK.out _ _ (Below.refl _ _) (show Value.int _ _ = _ by rw [E5.out])
                refine owes_cons (Owes.mk (o := ({ dst := some 43, op := .index 9 (.const (.string { data := #[48, 49, 50, 51, 52, 53, 54, 55, 56, 57, 97, 98, 99, 100, 101, 102] })) (.tmp 42), type := 5, pos := "quote.go:14", after := #[{ on := 5, ground := .data }], guard := none } : Oper)) rfl (fun v wk hj hD K hK => ?_)) ?_
                · have h5 : v 5 = (.int .u8 ((ll : Nat) : Int)) := hD 5 (by decide)
                  simp only [o10D, o10E, putAll, Act.put, List.getD_cons_succ, List.getD_cons_zero, List.setIfInBounds_toArray, List.set_cons_zero, List.set_cons_succ, h5] at hK ⊢
                  obtain ⟨hx1, hx2⟩ := hex_at ll (by omega)
                  have HX2 := Lib.hid hx2
                  clear hx2
                  go_simp
                  exact hK.out _ _ (Below.refl _ _) (show Value.int _ _ = _ by rw [← HX2.out])
                refine owes_cons (Owes.mk (o := ({ dst := some 44, op := .buildSlice 45 4 #[(0, .const (.int .u8 92)), (1, .const (.int .u8 120)), (2, .tmp 40), (3, .tmp 43)], type := 45, pos := "quote.go:14", after := #[{ on := 3, ground := .data }, { on := 6, ground := .data }], guard := none } : Oper)) rfl (fun v wk hj hD K hK => ?_)) ?_
                · have h3 : v 3 = (.int .u8 ((hexD (hh)).toNat : Int)) := hD 3 (by decide)
                  have h6 : v 6 = (.int .u8 ((hexD (ll)).toNat : Int)) := hD 6 (by decide)
                  simp only [o10D, o10E, putAll, Act.put, List.getD_cons_succ, List.getD_cons_zero, List.setIfInBounds_toArray, List.set_cons_zero, List.set_cons_succ, h3, h6] at hK ⊢
                  go_simp
                  exact hK.out _ _ (below_new _ _) ⟨_, rfl, news1 wk 5 [.int .u8 92, .int .u8 120, .int .u8 ((hexD (hh)).toNat : Int), .int .u8 ((hexD (ll)).toNat : Int)], by simp⟩
                exact owes_nil
              · intro p v wf h1 h2 hj hr
                obtain rfl := marks_all h1 (fun m hm => h2 m hm (by simp))
                have hv0 : v 0 = .slice A acc.length cap := hr 0 (by decide) (by decide)
                obtain ⟨z, hv7, hnews, hz⟩ : IsNews [.int .u8 92, .int .u8 120, .int .u8 ((hexD (hh)).toNat : Int), .int .u8 ((hexD (ll)).toNat : Int)] (v 7) wf := hr 7 (by decide) (by decide)
                rw [show List.filter (fun k => [0, 1, 2, 3, 4, 5, 6, 7].contains k) [0, 1, 2, 3, 4, 5, 6, 7] = [0, 1, 2, 3, 4, 5, 6, 7] from rfl]
                simp only [o10D, putAll, Act.put, List.getD_cons_succ, List.getD_cons_zero, List.setIfInBounds_toArray, List.set_cons_zero, List.set_cons_succ, hv0, hv7]
                clear hv0 hv7 hr h1 h2
                have HJ := Lib.hid hj
                have HN := Lib.hid hnews
                clear hj hnews
                have OWN := Lib.hid (own_keep hown.out (fun i _ hi => HJ.out.block i hi))
                refine anyN_any (S := fun _ => True) (N := []) _ _ _ _ ?_
                refine anyN_one (i := 8) (o := ({ dst := some 45, op := .call { callee := .builtin .append, args := #[.tmp 37, .tmp 44], argTypes := #[45, 45] }, type := 45, pos := "quote.go:14", after := #[{ on := 0, ground := .data }, { on := 7, ground := .data }], guard := none } : Oper)) (by kernel_rfl) rfl (fun K hK => ?_)
                refine step_append_lies wf (by rfl) (.tmp 37) (.tmp 44) 45 (by rfl) w.heap.size 5 i0 (.int .u8 0) 1 1 Try.underlying45 hi hz0 hz1 hz2 rfl (by decide) _ acc.length _ (by simp [Act.eval]) OWN.out ⟨z, 0, none⟩ 4 4 _ (by simp [Act.eval]) (by simp) HN.out (by intro u hu; simp at hu; rcases hu with rfl | rfl | rfl | rfl <;> rfl) (by omega) (by have := HLA.out; unfold maxLen; omega) (by have := HLA.out; omega) (by have := hbel.out.size; have := HJ.out.size; omega) wf.heap.size rfl ?_
                intro gN cN w1 hown' hgrow hat hlt'
                refine hK.out _ _ (fun _ => trivial) ?_
                clear hK K
                have HO : Hid (w1.ownsRow w.heap.size 5 1 (.slice (some ⟨gN, 0, none⟩) (acc ++ [92, 120, hexD (hh), hexD (ll)]).length cN) (acc ++ [92, 120, hexD (hh), hexD (ll)]).length ((acc ++ [92, 120, hexD (hh), hexD (ll)]).map u8v)) := Lib.hid (by simp at hown' ⊢; exact hown')
                have HB2 : Hid (Below w.heap.size w w1) := Lib.hid ((hbel.out.trans (HJ.out.mono hbel.out.size)).grown hgrow (by have := hbel.out.size; have := HJ.out.size; omega) (fun g hg => (hown.out.lt g hg).1))
                clear hown' hgrow hat hlt'
                try simp only [Act.put, List.setIfInBounds_toArray, List.set_cons_zero, List.set_cons_succ]
                refine anyN_one (i := 9) (o := ({ dst := some 3, op := .assign (.tmp 45), type := 45, pos := "quote.go:14", after := #[{ on := 8, ground := .data }, { on := 8, ground := .chain }, { on := 0, ground := .phase }, { on := 1, ground := .phase }, { on := 2, ground := .phase }, { on := 3, ground := .phase }, { on := 4, ground := .phase }, { on := 5, ground := .phase }, { on := 6, ground := .phase }, { on := 7, ground := .phase }, { on := 8, ground := .phase }], guard := none } : Oper)) (by kernel_rfl) rfl (fun K hK => ?_)
                try simp only [Act.put, List.setIfInBounds_toArray, List.set_cons_zero, List.set_cons_succ]
                go_simp
                refine hK.out _ _ (fun _ => trivial) ?_
                clear hK K
                try simp only [Act.put, List.setIfInBounds_toArray, List.set_cons_zero, List.set_cons_succ]
                refine anyN_done (by kernel_rfl) ?_ _
                go_wp2
                go_roundw
                case rel => exact ⟨k + 1, acc ++ [92, 120, hexD (hh), hexD (ll)], _, _, by simp, by go_num, by omega, HO, HB2, Lib.hid (by rw [NX.out, QB.out, hacc.out]; simp)⟩
                case measure => simp [RowKit.intOf]; omega
            · have QB : Hid (qB c = [c]) := Lib.hid (by unfold qB; rw [if_neg h12, if_pos (by simp [seenB]; omega)])
              clear q1 q2 h1 h2 h12
              go_wp2_with (at_builtin; refine wpList_append_own _ rfl _ _ 45 rfl w.heap.size 5 i0 (.int .u8 0) 1 1 Try.underlying45 hi hz0 hz1 hz2 rfl (by decide) _ _ _ rfl (hown.out.alloc _) ⟨wr.heap.size, 0, none⟩ 1 1 [.int .u8 (c.toNat : Int)] rfl rfl ?e1 ?e2 ?e3 ?e4 ?e5 ?_)
              try case e1 =>
                intro j u hj
                match j, hj with
                | 0, hj => simp at hj; subst hj; simp [Addr.add]
              case e2 => first | rfl | (intro u hu; simp at hu; subst hu; rfl)
              case e3 => have := HLA.out; unfold maxLen; omega
              case e4 => have := HLA.out; omega
              case e5 => have := hbel.out.size; simp; omega
              intro v' w1 hown' hgrow _
              have HO : Hid (w1.ownsRow w.heap.size 5 1 v' (acc ++ [c]).length ((acc ++ [c]).map u8v)) := Lib.hid (by simp at hown' ⊢; exact hown')
              have HB2 : Hid (Below w.heap.size w w1) := Lib.hid ((hbel.out.alloc hbel.out.size _).grown hgrow (by have := hbel.out.size; simp; omega) (fun g hg => (hown.out.lt g hg).1))
              clear hown' hgrow
              obtain ⟨A', cap', rfl⟩ := own_slice' HO.out
              go_wp2
              go_roundw
              case rel => exact ⟨k + 1, acc ++ [c], A', cap', rfl, by go_num, by omega, HO, HB2, Lib.hid (by rw [NX.out, QB.out, hacc.out]; simp)⟩
              case measure => simp [RowKit.intOf]; omega
    · obtain rfl : k = s.size := by omega
      have HA : Hid (acc = 39 :: qM s.toList) := Lib.hid (by rw [hacc.out, ← toList_size, List.take_length])
      go_upto_region 12 with fail
      go_wp2_with (at_builtin; (refine wpList_append_own _ rfl _ _ 45 rfl w.heap.size 5 i0 (.int .u8 0) 1 1 Try.underlying45 hi hz0 hz1 hz2 rfl (by decide) _ _ _ rfl (hown.out.alloc _) ⟨wr.heap.size, 0, none⟩ 1 1 [.int .u8 39] rfl rfl ?z1 ?z2 ?z3 ?z4 ?z5 ?_))
      case z1 =>
        intro j u hj
        match j, hj with
        | 0, hj => simp at hj; subst hj; simp [Addr.add]
      case z2 => first | rfl | (intro u hu; simp at hu; subst hu; rfl)
      case z3 => have := HLA.out; unfold maxLen; omega
      case z4 => have := HLA.out; omega
      case z5 => have := hbel.out.size; simp; omega
      intro v' w1 hown' hgrow _
      have HO : Hid (w1.ownsRow w.heap.size 5 1 v' (acc ++ [39]).length ((acc ++ [39]).map u8v)) := Lib.hid (by simp at hown' ⊢; exact hown')
      have HB2 : Hid (Below w.heap.size w w1) := Lib.hid ((hbel.out.alloc hbel.out.size _).grown hgrow (by have := hbel.out.size; simp; omega) (fun g hg => (hown.out.lt g hg).1))
      clear hown' hgrow
      have hcv := str_own HO.out
      obtain ⟨A', cap', rfl⟩ := own_slice' HO.out
      have HE : Hid (acc ++ [39] = qL s.toList) := Lib.hid (by rw [HA.out]; rfl)
      have hll : (acc ++ ([39] : Bs)).length = acc.length + 1 := by simp
      rw [hll, HE.out] at hcv
      clear hll
      obtain ⟨R, hR⟩ : ∃ R : ByteArray, R = ⟨(qL s.toList).toArray⟩ := ⟨_, rfl⟩
      rw [← hR] at hcv
      replace hR := Lib.hid hR
      go_wp2
      go_ret
      exact ⟨by rw [← hR.out]; rfl, HB2.out⟩
end Go.Proofs.Ytmgjiipooffggaa
