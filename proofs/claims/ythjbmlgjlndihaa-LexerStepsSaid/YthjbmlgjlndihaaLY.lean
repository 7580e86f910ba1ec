/- The document's classes of bytes. -/
import Derived.Test.YthjbmlgjlndihaaLN
namespace Go.Proofs.Ythjbmlgjlndihaa
set_option maxRecDepth 100000
open Go.RowKit Go.Sort

def clsT : Bs := [45, 39, 46, 40, 41, 44, 91, 93, 32, 9, 10, 13]
def clsC : List Nat := [3, 4, 5, 5, 5, 5, 5, 5, 6, 6, 6, 6]
def lookT : Bs → List Nat → UInt8 → Nat
  | t :: T, k :: C, c => if t.toNat = c.toNat then k else lookT T C c
  | _, _, _ => 0
def clsN (c : UInt8) : Nat := if letB c then 1 else if digB c then 2 else lookT clsT clsC c
theorem cls_let (c : UInt8) (h : letB c = true) : clsN c = 1 := by unfold clsN; rw [if_pos h]
theorem cls_dig (c : UInt8) (h : letB c = false) (h2 : digB c = true) : clsN c = 2 := by unfold clsN; rw [if_neg (by simp [h]), if_pos h2]
theorem cls_tab (c : UInt8) (h : letB c = false) (h2 : digB c = false) : clsN c = lookT clsT clsC c := by unfold clsN; rw [if_neg (by simp [h]), if_neg (by simp [h2])]
theorem look_end (c : UInt8) (k : Nat) (h : 12 ≤ k) : lookT (clsT.drop k) (clsC.drop k) c = 0 := by
  rw [List.drop_eq_nil_of_le (show clsT.length ≤ k from h)]
  simp [lookT]
theorem look_step (c : UInt8) (S : ByteArray) (hS : S.toList = clsT) (k : Nat) (h : k < S.size) : ∃ v, clsC[k]? = some v ∧
    lookT (clsT.drop k) (clsC.drop k) c = if (S[k]'h).toNat = c.toNat then v else lookT (clsT.drop (k + 1)) (clsC.drop (k + 1)) c := by
  have hz : S.size = 12 := by rw [← toList_size, hS]; rfl
  have hk : k < clsC.length := by show k < 12; omega
  refine ⟨clsC[k], List.getElem?_eq_getElem hk, ?_⟩
  have e1 := drop_at S k h
  rw [hS] at e1
  rw [e1, List.drop_eq_getElem_cons hk]
  rfl
def ClsPost (w : World) (x : Nat) (e : Ending) (w' : World) : Prop := e = .returned (.int .i64 (x : Int)) ∧ Below w.heap.size w w'
/-- The table's row. -/
structure Tab (w : World) (g : Nat) : Prop where
  at_ : ∀ (k v : Nat), clsC[k]? = some v → w.cell? ⟨g, k, none⟩ = some (.int .i64 (v : Int))
theorem tab_new (w : World) : Tab (w.alloc (.cells #[.int .i64 3, .int .i64 4, .int .i64 5, .int .i64 5, .int .i64 5, .int .i64 5, .int .i64 5, .int .i64 5, .int .i64 6, .int .i64 6, .int .i64 6, .int .i64 6] 3)) w.heap.size := by
  refine ⟨fun k v hk => ?_⟩
  have h := World.alloc_heap_new w (.cells #[.int .i64 3, .int .i64 4, .int .i64 5, .int .i64 5, .int .i64 5, .int .i64 5, .int .i64 5, .int .i64 5, .int .i64 6, .int .i64 6, .int .i64 6, .int .i64 6] 3)
  unfold World.cell?
  simp only [h]
  match k, hk with
  | 0, hk | 1, hk | 2, hk | 3, hk | 4, hk | 5, hk | 6, hk | 7, hk | 8, hk | 9, hk | 10, hk | 11, hk => injection hk with hk; subst hk; rfl
  | k + 12, hk => simp [clsC] at hk
theorem alloc_same (w : World) (o : Obj) : ∃ W, W = w.alloc o := ⟨_, rfl⟩

set_option maxHeartbeats 3200000 in
theorem class_any (c : UInt8) (w : World) : Calls Try.prog 17 #[.int .u8 (c.toNat : Int)] w (ClsPost w (clsN c)) := by
  have hc := c.toNat_lt
  have HL : Hid (letB c = (decide (97 ≤ c.toNat ∧ c.toNat ≤ 122) || decide (65 ≤ c.toNat ∧ c.toNat ≤ 90) || decide (c.toNat = 95))) := Lib.hid rfl
  have HD : Hid (digB c = decide (48 ≤ c.toNat ∧ c.toNat ≤ 57)) := Lib.hid rfl
  have H1 := Lib.hid (cls_let c)
  have H2 := Lib.hid (cls_dig c)
  have H3 := Lib.hid (cls_tab c)
  have HS := Lib.hid (fun S hS k h => look_step c S hS k h)
  have HE := Lib.hid (fun k h => look_end c k h)
  have HZ : Hid (lookT clsT clsC c = lookT (clsT.drop 0) (clsC.drop 0) c) := Lib.hid rfl
  generalize clsN c = X at H1 H2 H3
  generalize hF : (fun k => lookT (clsT.drop k) (clsC.drop k) c) = F
  have HSF : Hid (∀ (S : ByteArray) (_ : S.toList = clsT) (k : Nat) (h : k < S.size), ∃ v, clsC[k]? = some v ∧ F k = if (S[k]'h).toNat = c.toNat then v else F (k + 1)) := Lib.hid (by rw [← hF]; exact HS.out)
  have HEF : Hid (∀ k, 12 ≤ k → F k = 0) := Lib.hid (by rw [← hF]; exact HE.out)
  have HZF : Hid (lookT clsT clsC c = F 0) := Lib.hid (by rw [← hF]; rfl)
  clear HS HE HZ hF
  generalize lookT clsT clsC c = Z at H3 HZF
  generalize letB c = lb at HL H1 H2 H3
  generalize digB c = db at HD H2 H3
  generalize hn : c.toNat = n at hc HL HD HSF ⊢
  clear hn
  by_cases h1 : 97 ≤ n
  · by_cases h2 : n ≤ 122
    · skip
      have HX : Hid (X = 1) := Lib.hid (H1.out (by rw [HL.out]; simp; omega))
      go_enter Try.func17, Try.ntmps17
      go_wp2
      go_ret
      exact ⟨by rw [HX.out]; rfl, Below.refl _ _⟩
    · have h3 : 65 ≤ n := by omega
      have h4 : ¬ n ≤ 90 := by omega
      have h5 : ((n : Int) == 95) = false := by simp; omega
      have HX : Hid (X = F 0) := Lib.hid (by rw [H3.out (by rw [HL.out]; simp; omega) (by rw [HD.out]; simp; omega), HZF.out])
      clear H1 H2 H3 HL HD HZF
      go_enter Try.func17, Try.ntmps17
      go_wp2_with fail
      have TB := Lib.hid (tab_new w)
      have BB := Lib.hid (below_new w (.cells #[.int .i64 3, .int .i64 4, .int .i64 5, .int .i64 5, .int .i64 5, .int .i64 5, .int .i64 5, .int .i64 5, .int .i64 6, .int .i64 6, .int .i64 6, .int .i64 6] 3))
      generalize World.alloc w _ = W1 at TB BB ⊢
      obtain ⟨S, hS⟩ : ∃ S : ByteArray, S = ⟨#[45, 39, 46, 40, 41, 44, 91, 93, 32, 9, 10, 13]⟩ := ⟨_, rfl⟩
      rw [← hS]
      have HT : Hid (S.toList = clsT) := Lib.hid (by rw [hS]; exact bs_toList clsT)
      have hz : S.size = 12 := by rw [hS]; rfl
      clear hS
      go_loopw [5] (fun v wr => ∃ k : Nat, v = .int .i64 k ∧ k ≤ 12 ∧ Hid (X = F k) ∧ wr = W1) (fun v _ => 12 - (RowKit.intOf v).toNat)
      case atStart => exact ⟨0, rfl, by omega, HX, rfl⟩
      case round =>
        obtain ⟨k, rfl, hk, hr, rfl⟩ := hrel
        by_cases hlt : k < 12
        · have hlt2 : k < S.size := by omega
          obtain ⟨v, hv, hs⟩ := HSF.out S HT.out k hlt2
          have hcell := TB.out.at_ k v hv
          by_cases he : (S[k]'hlt2).toNat = n
          · rw [if_pos he] at hs
            have HX2 : Hid (X = v) := Lib.hid (by rw [hr.out, hs])
            have hei : (((S[k]'hlt2).toNat : Int) == (n : Int)) = true := by simp; omega
            clear he hs
            go_wp2
            go_ret
            exact ⟨by rw [HX2.out]; rfl, BB.out⟩
          · rw [if_neg he] at hs
            have HX2 : Hid (X = F (k + 1)) := Lib.hid (by rw [hr.out, hs])
            have hei : (((S[k]'hlt2).toNat : Int) == (n : Int)) = false := by simp; omega
            clear he hs
            go_wp2
            go_roundw
            case rel => exact ⟨k + 1, by go_num, by omega, HX2, trivial⟩
            case measure => simp [RowKit.intOf]; omega
        · have HX2 : Hid (X = 0) := Lib.hid (by rw [hr.out, HEF.out k (by omega)])
          go_wp2
          go_ret
          exact ⟨by rw [HX2.out]; rfl, BB.out⟩
  · by_cases h3 : 65 ≤ n
    · by_cases h4 : n ≤ 90
      · skip
        have HX : Hid (X = 1) := Lib.hid (H1.out (by rw [HL.out]; simp; omega))
        go_enter Try.func17, Try.ntmps17
        go_wp2
        go_ret
        exact ⟨by rw [HX.out]; rfl, Below.refl _ _⟩
      · by_cases h6 : n = 95
        · have h5 : ((n : Int) == 95) = true := by simp; omega
          have HX : Hid (X = 1) := Lib.hid (H1.out (by rw [HL.out]; simp; omega))
          clear h6
          go_enter Try.func17, Try.ntmps17
          go_wp2
          go_ret
          exact ⟨by rw [HX.out]; rfl, Below.refl _ _⟩
        · have h5 : ((n : Int) == 95) = false := by simp; omega
          have HX : Hid (X = F 0) := Lib.hid (by rw [H3.out (by rw [HL.out]; simp; omega) (by rw [HD.out]; simp; omega), HZF.out])
          clear h6
          clear H1 H2 H3 HL HD HZF
          go_enter Try.func17, Try.ntmps17
          go_wp2_with fail
          have TB := Lib.hid (tab_new w)
          have BB := Lib.hid (below_new w (.cells #[.int .i64 3, .int .i64 4, .int .i64 5, .int .i64 5, .int .i64 5, .int .i64 5, .int .i64 5, .int .i64 5, .int .i64 6, .int .i64 6, .int .i64 6, .int .i64 6] 3))
          generalize World.alloc w _ = W1 at TB BB ⊢
          obtain ⟨S, hS⟩ : ∃ S : ByteArray, S = ⟨#[45, 39, 46, 40, 41, 44, 91, 93, 32, 9, 10, 13]⟩ := ⟨_, rfl⟩
          rw [← hS]
          have HT : Hid (S.toList = clsT) := Lib.hid (by rw [hS]; exact bs_toList clsT)
          have hz : S.size = 12 := by rw [hS]; rfl
          clear hS
          go_loopw [5] (fun v wr => ∃ k : Nat, v = .int .i64 k ∧ k ≤ 12 ∧ Hid (X = F k) ∧ wr = W1) (fun v _ => 12 - (RowKit.intOf v).toNat)
          case atStart => exact ⟨0, rfl, by omega, HX, rfl⟩
          case round =>
            obtain ⟨k, rfl, hk, hr, rfl⟩ := hrel
            by_cases hlt : k < 12
            · have hlt2 : k < S.size := by omega
              obtain ⟨v, hv, hs⟩ := HSF.out S HT.out k hlt2
              have hcell := TB.out.at_ k v hv
              by_cases he : (S[k]'hlt2).toNat = n
              · rw [if_pos he] at hs
                have HX2 : Hid (X = v) := Lib.hid (by rw [hr.out, hs])
                have hei : (((S[k]'hlt2).toNat : Int) == (n : Int)) = true := by simp; omega
                clear he hs
                go_wp2
                go_ret
                exact ⟨by rw [HX2.out]; rfl, BB.out⟩
              · rw [if_neg he] at hs
                have HX2 : Hid (X = F (k + 1)) := Lib.hid (by rw [hr.out, hs])
                have hei : (((S[k]'hlt2).toNat : Int) == (n : Int)) = false := by simp; omega
                clear he hs
                go_wp2
                go_roundw
                case rel => exact ⟨k + 1, by go_num, by omega, HX2, trivial⟩
                case measure => simp [RowKit.intOf]; omega
            · have HX2 : Hid (X = 0) := Lib.hid (by rw [hr.out, HEF.out k (by omega)])
              go_wp2
              go_ret
              exact ⟨by rw [HX2.out]; rfl, BB.out⟩
    · have h5 : ((n : Int) == 95) = false := by simp; omega
      by_cases h7 : 48 ≤ n
      · by_cases h8 : n ≤ 57
        · skip
          have HX : Hid (X = 2) := Lib.hid (H2.out (by rw [HL.out]; simp; omega) (by rw [HD.out]; simp; omega))
          go_enter Try.func17, Try.ntmps17
          go_wp2
          go_ret
          exact ⟨by rw [HX.out]; rfl, Below.refl _ _⟩
        · skip
          have HX : Hid (X = F 0) := Lib.hid (by rw [H3.out (by rw [HL.out]; simp; omega) (by rw [HD.out]; simp; omega), HZF.out])
          clear H1 H2 H3 HL HD HZF
          go_enter Try.func17, Try.ntmps17
          go_wp2_with fail
          have TB := Lib.hid (tab_new w)
          have BB := Lib.hid (below_new w (.cells #[.int .i64 3, .int .i64 4, .int .i64 5, .int .i64 5, .int .i64 5, .int .i64 5, .int .i64 5, .int .i64 5, .int .i64 6, .int .i64 6, .int .i64 6, .int .i64 6] 3))
          generalize World.alloc w _ = W1 at TB BB ⊢
          obtain ⟨S, hS⟩ : ∃ S : ByteArray, S = ⟨#[45, 39, 46, 40, 41, 44, 91, 93, 32, 9, 10, 13]⟩ := ⟨_, rfl⟩
          rw [← hS]
          have HT : Hid (S.toList = clsT) := Lib.hid (by rw [hS]; exact bs_toList clsT)
          have hz : S.size = 12 := by rw [hS]; rfl
          clear hS
          go_loopw [5] (fun v wr => ∃ k : Nat, v = .int .i64 k ∧ k ≤ 12 ∧ Hid (X = F k) ∧ wr = W1) (fun v _ => 12 - (RowKit.intOf v).toNat)
          case atStart => exact ⟨0, rfl, by omega, HX, rfl⟩
          case round =>
            obtain ⟨k, rfl, hk, hr, rfl⟩ := hrel
            by_cases hlt : k < 12
            · have hlt2 : k < S.size := by omega
              obtain ⟨v, hv, hs⟩ := HSF.out S HT.out k hlt2
              have hcell := TB.out.at_ k v hv
              by_cases he : (S[k]'hlt2).toNat = n
              · rw [if_pos he] at hs
                have HX2 : Hid (X = v) := Lib.hid (by rw [hr.out, hs])
                have hei : (((S[k]'hlt2).toNat : Int) == (n : Int)) = true := by simp; omega
                clear he hs
                go_wp2
                go_ret
                exact ⟨by rw [HX2.out]; rfl, BB.out⟩
              · rw [if_neg he] at hs
                have HX2 : Hid (X = F (k + 1)) := Lib.hid (by rw [hr.out, hs])
                have hei : (((S[k]'hlt2).toNat : Int) == (n : Int)) = false := by simp; omega
                clear he hs
                go_wp2
                go_roundw
                case rel => exact ⟨k + 1, by go_num, by omega, HX2, trivial⟩
                case measure => simp [RowKit.intOf]; omega
            · have HX2 : Hid (X = 0) := Lib.hid (by rw [hr.out, HEF.out k (by omega)])
              go_wp2
              go_ret
              exact ⟨by rw [HX2.out]; rfl, BB.out⟩
      · skip
        have HX : Hid (X = F 0) := Lib.hid (by rw [H3.out (by rw [HL.out]; simp; omega) (by rw [HD.out]; simp; omega), HZF.out])
        clear H1 H2 H3 HL HD HZF
        go_enter Try.func17, Try.ntmps17
        go_wp2_with fail
        have TB := Lib.hid (tab_new w)
        have BB := Lib.hid (below_new w (.cells #[.int .i64 3, .int .i64 4, .int .i64 5, .int .i64 5, .int .i64 5, .int .i64 5, .int .i64 5, .int .i64 5, .int .i64 6, .int .i64 6, .int .i64 6, .int .i64 6] 3))
        generalize World.alloc w _ = W1 at TB BB ⊢
        obtain ⟨S, hS⟩ : ∃ S : ByteArray, S = ⟨#[45, 39, 46, 40, 41, 44, 91, 93, 32, 9, 10, 13]⟩ := ⟨_, rfl⟩
        rw [← hS]
        have HT : Hid (S.toList = clsT) := Lib.hid (by rw [hS]; exact bs_toList clsT)
        have hz : S.size = 12 := by rw [hS]; rfl
        clear hS
        go_loopw [5] (fun v wr => ∃ k : Nat, v = .int .i64 k ∧ k ≤ 12 ∧ Hid (X = F k) ∧ wr = W1) (fun v _ => 12 - (RowKit.intOf v).toNat)
        case atStart => exact ⟨0, rfl, by omega, HX, rfl⟩
        case round =>
          obtain ⟨k, rfl, hk, hr, rfl⟩ := hrel
          by_cases hlt : k < 12
          · have hlt2 : k < S.size := by omega
            obtain ⟨v, hv, hs⟩ := HSF.out S HT.out k hlt2
            have hcell := TB.out.at_ k v hv
            by_cases he : (S[k]'hlt2).toNat = n
            · rw [if_pos he] at hs
              have HX2 : Hid (X = v) := Lib.hid (by rw [hr.out, hs])
              have hei : (((S[k]'hlt2).toNat : Int) == (n : Int)) = true := by simp; omega
              clear he hs
              go_wp2
              go_ret
              exact ⟨by rw [HX2.out]; rfl, BB.out⟩
            · rw [if_neg he] at hs
              have HX2 : Hid (X = F (k + 1)) := Lib.hid (by rw [hr.out, hs])
              have hei : (((S[k]'hlt2).toNat : Int) == (n : Int)) = false := by simp; omega
              clear he hs
              go_wp2
              go_roundw
              case rel => exact ⟨k + 1, by go_num, by omega, HX2, trivial⟩
              case measure => simp [RowKit.intOf]; omega
          · have HX2 : Hid (X = 0) := Lib.hid (by rw [hr.out, HEF.out k (by omega)])
            go_wp2
            go_ret
            exact ⟨by rw [HX2.out]; rfl, BB.out⟩
theorem cls_blank (c : UInt8) : ((clsN c : Int) == 6) = blankB c := all_bytes (p := fun c => ((clsN c : Int) == 6) = blankB c) (by decide) c
theorem blank14_any (c : UInt8) (w : World) : Calls Try.prog 14 #[.int .u8 (c.toNat : Int)] w fun e w' => e = .returned (.bool (blankB c)) ∧ Below w.heap.size w w' := by
  have H := Lib.hid (cls_blank c)
  have HC := Lib.hid (class_any c w)
  generalize clsN c = x at H HC
  go_enter Try.func14, Try.ntmps14
  go_wp2_with fail
  refine HC.out.mono ?_
  rintro e w' ⟨rfl, hb⟩
  have HB := Lib.hid hb
  clear hb
  go_wp2
  go_ret
  exact ⟨by rw [← H.out]; rfl, HB.out⟩
end Go.Proofs.Ythjbmlgjlndihaa
