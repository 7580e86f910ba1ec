/- The document's token at a place. -/
import Derived.Test.YthjbmlgjlndihaaNA
import Derived.Test.YthjbmlgjlndihaaRSa
namespace Go.Proofs.Ythjbmlgjlndihaa
set_option maxRecDepth 100000
open Go.RowKit Go.Sort

theorem cls_cases (c : UInt8) : (clsN c = 1 ∧ letB c = true) ∨ (clsN c = 2 ∧ letB c = false ∧ (digB c = true ∨ c.toNat = 45)) ∨ (clsN c = 3 ∧ letB c = false ∧ (digB c = true ∨ c.toNat = 45)) ∨ (clsN c = 4 ∧ letB c = false ∧ digB c = false ∧ ¬ c.toNat = 45 ∧ c.toNat = 39) ∨
    (clsN c = 5 ∧ letB c = false ∧ digB c = false ∧ ¬ c.toNat = 45 ∧ ¬ c.toNat = 39 ∧ signB c = true) ∨ (clsN c = 6 ∧ blankB c = true) ∨ (clsN c = 0 ∧ letB c = false ∧ digB c = false ∧ ¬ c.toNat = 45 ∧ ¬ c.toNat = 39 ∧ signB c = false) :=
  all_bytes (p := fun c => (clsN c = 1 ∧ letB c = true) ∨ (clsN c = 2 ∧ letB c = false ∧ (digB c = true ∨ c.toNat = 45)) ∨ (clsN c = 3 ∧ letB c = false ∧ (digB c = true ∨ c.toNat = 45)) ∨ (clsN c = 4 ∧ letB c = false ∧ digB c = false ∧ ¬ c.toNat = 45 ∧ c.toNat = 39) ∨
    (clsN c = 5 ∧ letB c = false ∧ digB c = false ∧ ¬ c.toNat = 45 ∧ ¬ c.toNat = 39 ∧ signB c = true) ∨ (clsN c = 6 ∧ blankB c = true) ∨ (clsN c = 0 ∧ letB c = false ∧ digB c = false ∧ ¬ c.toNat = 45 ∧ ¬ c.toNat = 39 ∧ signB c = false)) (by decide) c
theorem cls_wordB (c : UInt8) : (wordB c = true ∧ (clsN c = 1 ∨ clsN c = 2)) ∨ (wordB c = false ∧ ¬ clsN c = 1 ∧ ¬ clsN c = 2) :=
  all_bytes (p := fun c => (wordB c = true ∧ (clsN c = 1 ∨ clsN c = 2)) ∨ (wordB c = false ∧ ¬ clsN c = 1 ∧ ¬ clsN c = 2)) (by decide) c
theorem runL_step (p : UInt8 → Bool) (l : Bs) (k : Nat) {c : UInt8} (h : l[k]? = some c) (hp : p c = true) : runN p l (k + 1) = runN p l k := by
  unfold runN
  rw [drop_get l k c h, List.takeWhile_cons, if_pos hp, List.length_cons]; omega
theorem runL_stop (p : UInt8 → Bool) (l : Bs) (k : Nat) {c : UInt8} (h : l[k]? = some c) (hp : p c = false) : runN p l k = k := by
  unfold runN
  rw [drop_get l k c h, List.takeWhile_cons, if_neg (by simp [hp])]; rfl
theorem runL_end (p : UInt8 → Bool) (l : Bs) (k : Nat) (h : l.length ≤ k) : runN p l k = k := by
  unfold runN
  rw [List.drop_eq_nil_of_le h]; rfl
theorem runL_drop (q : UInt8 → Bool) (l : Bs) (p : Nat) : runN q (l.drop p) 1 = runN q l (p + 1) - p := by
  unfold runN
  rw [List.drop_drop]; omega
theorem head_drop (l : Bs) (p : Nat) {c : UInt8} (h : l[p]? = some c) : (l.drop p).headD 0 = c := by rw [drop_get l p c h]; rfl
theorem one_1 (l : Bs) (p : Nat) {c : UInt8} (h : l[p]? = some c) (h1 : letB c = true) : firstP (l.drop p) = some (⟨1, 0, (l.drop p).take (runN wordB l (p + 1) - p), 0⟩, runN wordB l (p + 1) - p) := by
  unfold firstP; rw [head_drop l p h, if_pos h1, runL_drop]
theorem one_2 (l : Bs) (p : Nat) {c : UInt8} (h : l[p]? = some c) (h1 : letB c = false) (h2 : digB c = true ∨ c.toNat = 45) : firstP (l.drop p) = numP ((l.drop p).take (runN wordB l (p + 1) - p)) := by
  unfold firstP; rw [head_drop l p h, if_neg (by simp [h1]), if_pos h2, runL_drop]
theorem one_4 (l : Bs) (p : Nat) {c : UInt8} (h : l[p]? = some c) (h1 : letB c = false) (h2 : digB c = false) (h3 : ¬ c.toNat = 45) (h4 : c.toNat = 39) : firstP (l.drop p) = textO (textP (l.drop (p + 1)) [] 1) := by
  unfold firstP; rw [head_drop l p h, if_neg (by simp [h1]), if_neg (by simp [h2]; omega), if_pos h4, List.drop_drop]
theorem one_5 (l : Bs) (p : Nat) {c : UInt8} (h : l[p]? = some c) (h1 : letB c = false) (h2 : digB c = false) (h3 : ¬ c.toNat = 45) (h4 : ¬ c.toNat = 39) (h5 : signB c = true) : firstP (l.drop p) = some (⟨4, 0, (l.drop p).take 1, 0⟩, 1) := by
  unfold firstP; rw [head_drop l p h, if_neg (by simp [h1]), if_neg (by simp [h2]; omega), if_neg h4, if_pos h5]
theorem one_0 (l : Bs) (p : Nat) {c : UInt8} (h : l[p]? = some c) (h1 : letB c = false) (h2 : digB c = false) (h3 : ¬ c.toNat = 45) (h4 : ¬ c.toNat = 39) (h5 : signB c = false) : firstP (l.drop p) = none := by
  unfold firstP; rw [head_drop l p h, if_neg (by simp [h1]), if_neg (by simp [h2]; omega), if_neg h4, if_neg (by simp [h5])]
def OnePost (w : World) (p : Nat) (o : Option (TK × Nat)) (e : Ending) (w' : World) : Prop :=
  ∃ (t : TK) (x : Int), e = .returned (.tuple #[t.v, .int .i64 x]) ∧ Below w.heap.size w w' ∧ ((∃ t0 n, o = some (t0, n) ∧ t = t0.at_ (p : Nat) ∧ x = (p : Int) + (n : Nat)) ∨ (o = none ∧ x = -1))

set_option maxHeartbeats 6400000 in
theorem one_k1 (l : Bs) (n p c : Nat) (A : Option Addr) (w : World) (hA : BRow w A c l) (hn : n = l.length) (hs : n ≤ 4000) (hp : p < n) (y : UInt8) (hy : l[p]? = some y) (hk : Hid (clsN y = 1)) (HF : Hid (firstP (l.drop p) = some (⟨1, 0, (l.drop p).take (runN wordB l (p + 1) - p), 0⟩, runN wordB l (p + 1) - p))) :
    Calls Try.prog 18 #[.slice A n c, .int .i64 (p : Int)] w (OnePost w p (firstP (l.drop p))) := by
  have HN := Lib.hid hn
  have hs20 : n ≤ 20000 := by omega
  have HRUN : Hid (p + 1 ≤ runN wordB l (p + 1) ∧ runN wordB l (p + 1) ≤ n) := Lib.hid ⟨runN_ge _ _ _, by rw [hn]; exact runN_le _ _ _ (by omega)⟩
  generalize hE : runN wordB l (p + 1) = E at HF HRUN
  have HE := Lib.hid hE
  obtain ⟨bq, oq, rfl, hbq, hcq⟩ := hA.at_ (by omega)
  have HC : Hid (∀ W', Below w.heap.size w W' → ∀ (j : Nat) (x : UInt8), l[j]? = some x → W'.cell? ⟨bq, oq + j, none⟩ = some (u8v x)) := Lib.hid (fun W' hb j x hj => cell_below hb (hcq j x hj) hbq)
  have HRW : Hid (∀ W', Below w.heap.size w W' → BRow W' (some ⟨bq, oq, none⟩) c l) := Lib.hid (fun W' hb => hA.next hb)
  have HCL := Lib.hid (fun W => class_any y W)
  rw [hk.out] at HCL
  clear hA hcq hbq hn hE
  have hy0 := HC.out (w.alloc zbox) (below_new w zbox) p y hy
  unfold zbox u8v at hy0
  go_enter Try.func18, Try.ntmps18
  go_wp2_with fail
  have B0 := Lib.hid (tok_zero w)
  have z0 := Lib.hid (below_new w zbox)
  unfold zbox at B0 z0
  clear hy0
  generalize hW : World.alloc w _ = W at B0 z0 ⊢
  clear hW
  refine (HCL.out W).mono ?_
  rintro e w1 ⟨rfl, hb1⟩
  have B1 := Lib.hid (B0.out.next hb1)
  have Z1 := Lib.hid (z0.out.trans (hb1.mono z0.out.size))
  clear hb1 hy HCL
  go_wp2_with fail
  go_loopw [7] (fun v wr => ∃ k : Nat, v = .int .i64 k ∧ p + 1 ≤ k ∧ k ≤ n ∧ Hid (runN wordB l k = E) ∧ Hid (Tok wr w.heap.size TK.zero) ∧ Hid (Below w.heap.size w wr)) (fun v _ => n - (RowKit.intOf v).toNat)
  case atStart => exact ⟨p + 1, by go_num, by omega, by omega, HE, B1, Z1⟩
  case round =>
    obtain ⟨k, rfl, hk1, hk2, hr, htok, hbel⟩ := hrel
    by_cases hlt : k < n
    · obtain ⟨x, hx⟩ : ∃ x, l[k]? = some x := ⟨_, List.getElem?_eq_getElem (by have := HN.out; omega)⟩
      have hc := HC.out wr hbel.out k x hx
      have hkn : (k : Int) < (n : Int) := by omega
      rcases cls_wordB x with ⟨hw, hcl⟩ | ⟨hw, hn1, hn2⟩
      · have HR2 := Lib.hid (show runN wordB l (k + 1) = E by rw [runL_step wordB l k hx hw]; exact hr.out)
        have HCX := Lib.hid (class_any x wr)
        clear hx hw hr
        rcases hcl with hcl | hcl
        all_goals
          rw [hcl] at HCX
          clear hcl
          go_wp2_with fail
          refine HCX.out.mono ?_
          rintro e w2 ⟨rfl, hb2⟩
          have T2 := Lib.hid (htok.out.next hb2)
          have Z2 := Lib.hid (hbel.out.trans (hb2.mono hbel.out.size))
          clear hb2
          go_wp2_with fail
          go_roundw
          case rel => exact ⟨k + 1, by go_num, by omega, by omega, HR2, T2, Z2⟩
          case measure => simp [RowKit.intOf]; omega
      · have hr0 := Lib.hid (show k = E by rw [← hr.out]; exact (runL_stop wordB l k hx hw).symm)
        have HCX := Lib.hid (class_any x wr)
        have e1 : (((clsN x : Nat) : Int) != 1) = true := by simp; omega
        have e2 : (((clsN x : Nat) : Int) != 2) = true := by simp; omega
        generalize clsN x = cx at HCX e1 e2
        clear hx hw hn1 hn2 hr
        go_wp2_with fail
        refine HCX.out.mono ?_
        rintro e w2 ⟨rfl, hb2⟩
        have T2 := Lib.hid (htok.out.next hb2)
        have Z2 := Lib.hid (hbel.out.trans (hb2.mono hbel.out.size))
        clear hb2 hc htok hbel HCX
        obtain ⟨wq, hwq⟩ : ∃ x, x = w2 := ⟨_, rfl⟩
        subst hwq
        have hkp : p < k := by omega
        obtain ⟨X, runX0, rowX⟩ := (HRW.out wq Z2.out).mid n p (k - p) HN.out (by omega)
        have runX : ∀ W, (Instr.sliceAt 22 (.slice (some ⟨bq, oq, none⟩) n c) (some (.int .i64 (p : Int))) (some (.int .i64 (k : Int))) none).run Try.prog W = .ok (.slice X (k - p) (c - p)) W := fun W => by
          have := runX0 W
          rwa [show (p : Int) + ((k - p : Nat) : Int) = (k : Int) from by omega] at this
        have hcv := rowX.conv 9 Try.underlying9
        have HL2 : Hid (((l.drop p).take (k - p)).length = k - p) := Lib.hid (by rw [List.length_take, List.length_drop]; have := HN.out; omega)
        rw [HL2.out] at hcv
        have HF2 := Lib.hid (show _ from HF.out)
        rw [← hr0.out] at HF2
        clear rowX runX0 hr0
        generalize (l.drop p).take (k - p) = l2 at hcv HL2 HF2
        have B1 := T2.out
        obtain ⟨c0, c1, c2, c3⟩ := B1.cells
        have f0 := B1.frozen 0
        have f1 := B1.frozen 1
        have f2 := B1.frozen 2
        have f3 := B1.frozen 3
        have HR := Lib.hid (B1.set ⟨1, (p : Int), l2, 0⟩)
        clear B1
        go_wp2
        obtain ⟨F, hF, ht, hs', hbel', _⟩ := HR.out
        rw [← hF]
        clear hF
        obtain ⟨r0, r1, r2, r3⟩ := ht.cells
        refine bodyPost_ret (v := .tuple #[.agg #[.int .i64 1, .int .i64 (p : Int), .string (bs l2), .int .i64 0], .int .i64 (k : Int)]) (by simp [results, Try.results18, go_sem, r0, r1, r2, r3]) rfl ?_
        exact ⟨⟨1, (p : Int), l2, 0⟩, (k : Int), rfl, hbel' _ _ (Nat.le_refl _) Z2.out, .inl ⟨⟨1, 0, l2, 0⟩, k - p, HF2.out, rfl, by omega⟩⟩
    · have hr0 := Lib.hid (show k = E by rw [← hr.out]; exact (runL_end wordB l k (by have := HN.out; omega)).symm)
      have hkn : (n : Int) ≤ (k : Int) := by omega
      clear hr
      have hkp : p < k := by omega
      obtain ⟨X, runX0, rowX⟩ := (HRW.out wr hbel.out).mid n p (k - p) HN.out (by omega)
      have runX : ∀ W, (Instr.sliceAt 22 (.slice (some ⟨bq, oq, none⟩) n c) (some (.int .i64 (p : Int))) (some (.int .i64 (k : Int))) none).run Try.prog W = .ok (.slice X (k - p) (c - p)) W := fun W => by
        have := runX0 W
        rwa [show (p : Int) + ((k - p : Nat) : Int) = (k : Int) from by omega] at this
      have hcv := rowX.conv 9 Try.underlying9
      have HL2 : Hid (((l.drop p).take (k - p)).length = k - p) := Lib.hid (by rw [List.length_take, List.length_drop]; have := HN.out; omega)
      rw [HL2.out] at hcv
      have HF2 := Lib.hid (show _ from HF.out)
      rw [← hr0.out] at HF2
      clear rowX runX0 hr0
      generalize (l.drop p).take (k - p) = l2 at hcv HL2 HF2
      have B1 := htok.out
      obtain ⟨c0, c1, c2, c3⟩ := B1.cells
      have f0 := B1.frozen 0
      have f1 := B1.frozen 1
      have f2 := B1.frozen 2
      have f3 := B1.frozen 3
      have HR := Lib.hid (B1.set ⟨1, (p : Int), l2, 0⟩)
      clear B1
      go_wp2
      obtain ⟨F, hF, ht, hs', hbel', _⟩ := HR.out
      rw [← hF]
      clear hF
      obtain ⟨r0, r1, r2, r3⟩ := ht.cells
      refine bodyPost_ret (v := .tuple #[.agg #[.int .i64 1, .int .i64 (p : Int), .string (bs l2), .int .i64 0], .int .i64 (k : Int)]) (by simp [results, Try.results18, go_sem, r0, r1, r2, r3]) rfl ?_
      exact ⟨⟨1, (p : Int), l2, 0⟩, (k : Int), rfl, hbel' _ _ (Nat.le_refl _) hbel.out, .inl ⟨⟨1, 0, l2, 0⟩, k - p, HF2.out, rfl, by omega⟩⟩

set_option maxHeartbeats 6400000 in
theorem one_k2 (l : Bs) (n p c : Nat) (A : Option Addr) (w : World) (hA : BRow w A c l) (hn : n = l.length) (hs : n ≤ 4000) (hp : p < n) (y : UInt8) (hy : l[p]? = some y) (hk : Hid (clsN y = 2)) (HF : Hid (firstP (l.drop p) = numP ((l.drop p).take (runN wordB l (p + 1) - p)))) :
    Calls Try.prog 18 #[.slice A n c, .int .i64 (p : Int)] w (OnePost w p (firstP (l.drop p))) := by
  have HN := Lib.hid hn
  have hs20 : n ≤ 20000 := by omega
  have HRUN : Hid (p + 1 ≤ runN wordB l (p + 1) ∧ runN wordB l (p + 1) ≤ n) := Lib.hid ⟨runN_ge _ _ _, by rw [hn]; exact runN_le _ _ _ (by omega)⟩
  generalize hE : runN wordB l (p + 1) = E at HF HRUN
  have HE := Lib.hid hE
  obtain ⟨bq, oq, rfl, hbq, hcq⟩ := hA.at_ (by omega)
  have HC : Hid (∀ W', Below w.heap.size w W' → ∀ (j : Nat) (x : UInt8), l[j]? = some x → W'.cell? ⟨bq, oq + j, none⟩ = some (u8v x)) := Lib.hid (fun W' hb j x hj => cell_below hb (hcq j x hj) hbq)
  have HRW : Hid (∀ W', Below w.heap.size w W' → BRow W' (some ⟨bq, oq, none⟩) c l) := Lib.hid (fun W' hb => hA.next hb)
  have HCL := Lib.hid (fun W => class_any y W)
  rw [hk.out] at HCL
  clear hA hcq hbq hn hE
  have hy0 := HC.out (w.alloc zbox) (below_new w zbox) p y hy
  unfold zbox u8v at hy0
  go_enter Try.func18, Try.ntmps18
  go_wp2_with fail
  have B0 := Lib.hid (tok_zero w)
  have z0 := Lib.hid (below_new w zbox)
  unfold zbox at B0 z0
  clear hy0
  generalize hW : World.alloc w _ = W at B0 z0 ⊢
  clear hW
  refine (HCL.out W).mono ?_
  rintro e w1 ⟨rfl, hb1⟩
  have B1 := Lib.hid (B0.out.next hb1)
  have Z1 := Lib.hid (z0.out.trans (hb1.mono z0.out.size))
  clear hb1 hy HCL
  go_wp2_with fail
  go_loopw [7] (fun v wr => ∃ k : Nat, v = .int .i64 k ∧ p + 1 ≤ k ∧ k ≤ n ∧ Hid (runN wordB l k = E) ∧ Hid (Tok wr w.heap.size TK.zero) ∧ Hid (Below w.heap.size w wr)) (fun v _ => n - (RowKit.intOf v).toNat)
  case atStart => exact ⟨p + 1, by go_num, by omega, by omega, HE, B1, Z1⟩
  case round =>
    obtain ⟨k, rfl, hk1, hk2, hr, htok, hbel⟩ := hrel
    by_cases hlt : k < n
    · obtain ⟨x, hx⟩ : ∃ x, l[k]? = some x := ⟨_, List.getElem?_eq_getElem (by have := HN.out; omega)⟩
      have hc := HC.out wr hbel.out k x hx
      have hkn : (k : Int) < (n : Int) := by omega
      rcases cls_wordB x with ⟨hw, hcl⟩ | ⟨hw, hn1, hn2⟩
      · have HR2 := Lib.hid (show runN wordB l (k + 1) = E by rw [runL_step wordB l k hx hw]; exact hr.out)
        have HCX := Lib.hid (class_any x wr)
        clear hx hw hr
        rcases hcl with hcl | hcl
        all_goals
          rw [hcl] at HCX
          clear hcl
          go_wp2_with fail
          refine HCX.out.mono ?_
          rintro e w2 ⟨rfl, hb2⟩
          have T2 := Lib.hid (htok.out.next hb2)
          have Z2 := Lib.hid (hbel.out.trans (hb2.mono hbel.out.size))
          clear hb2
          go_wp2_with fail
          go_roundw
          case rel => exact ⟨k + 1, by go_num, by omega, by omega, HR2, T2, Z2⟩
          case measure => simp [RowKit.intOf]; omega
      · have hr0 := Lib.hid (show k = E by rw [← hr.out]; exact (runL_stop wordB l k hx hw).symm)
        have HCX := Lib.hid (class_any x wr)
        have e1 : (((clsN x : Nat) : Int) != 1) = true := by simp; omega
        have e2 : (((clsN x : Nat) : Int) != 2) = true := by simp; omega
        generalize clsN x = cx at HCX e1 e2
        clear hx hw hn1 hn2 hr
        go_wp2_with fail
        refine HCX.out.mono ?_
        rintro e w2 ⟨rfl, hb2⟩
        have T2 := Lib.hid (htok.out.next hb2)
        have Z2 := Lib.hid (hbel.out.trans (hb2.mono hbel.out.size))
        clear hb2 hc htok hbel HCX
        obtain ⟨wq, hwq⟩ : ∃ x, x = w2 := ⟨_, rfl⟩
        subst hwq
        have hkp : p < k := by omega
        obtain ⟨X, runX0, rowX⟩ := (HRW.out wq Z2.out).mid n p (k - p) HN.out (by omega)
        have runX : ∀ W, (Instr.sliceAt 22 (.slice (some ⟨bq, oq, none⟩) n c) (some (.int .i64 (p : Int))) (some (.int .i64 (k : Int))) none).run Try.prog W = .ok (.slice X (k - p) (c - p)) W := fun W => by
          have := runX0 W
          rwa [show (p : Int) + ((k - p : Nat) : Int) = (k : Int) from by omega] at this
        have hcv := rowX.conv 9 Try.underlying9
        have HL2 : Hid (((l.drop p).take (k - p)).length = k - p) := Lib.hid (by rw [List.length_take, List.length_drop]; have := HN.out; omega)
        rw [HL2.out] at hcv
        have HF2 := Lib.hid (show _ from HF.out)
        rw [← hr0.out] at HF2
        clear rowX runX0 hr0
        generalize (l.drop p).take (k - p) = l2 at hcv HL2 HF2
        have PA := Lib.hid (refParseB (bs l2) wq (by rw [bs_size]; have := HL2.out; omega))
        rw [bs_toList] at PA
        have HPV : Hid (parseE l2 = 0 → numP l2 = some (⟨2, 0, l2, parseV l2⟩, l2.length)) := Lib.hid (fun h => numP_yes h)
        have HPN : Hid (¬ parseE l2 = 0 → numP l2 = none) := Lib.hid (fun h => numP_no h)
        generalize numP l2 = NP at HF2 HPV HPN
        generalize parseV l2 = V at PA HPV
        by_cases hE : parseE l2 = 0
        · have HF3 := Lib.hid (HPV.out hE)
          rw [hE] at PA
          clear HPV HPN hE
          go_wp2_with fail
          refine PA.out.mono ?_
          rintro e w3 ⟨rfl, hb3⟩
          have B1 := T2.out.next hb3
          have Z1 := Lib.hid (Z2.out.trans (hb3.mono Z2.out.size))
          clear hb3
          obtain ⟨c0, c1, c2, c3⟩ := B1.cells
          have f0 := B1.frozen 0
          have f1 := B1.frozen 1
          have f2 := B1.frozen 2
          have f3 := B1.frozen 3
          have HR := Lib.hid (B1.set ⟨2, (p : Int), l2, V⟩)
          clear B1
          go_wp2
          obtain ⟨F, hF, ht, hs', hbel', _⟩ := HR.out
          rw [← hF]
          clear hF
          obtain ⟨r0, r1, r2, r3⟩ := ht.cells
          refine bodyPost_ret (v := .tuple #[.agg #[.int .i64 2, .int .i64 (p : Int), .string (bs l2), .int .i64 V], .int .i64 (k : Int)]) (by simp [results, Try.results18, go_sem, r0, r1, r2, r3]) rfl ?_
          exact ⟨⟨2, (p : Int), l2, V⟩, (k : Int), rfl, hbel' _ _ (Nat.le_refl _) Z1.out, .inl ⟨⟨2, 0, l2, V⟩, l2.length, by rw [HF2.out, HF3.out], rfl, by have := HL2.out; omega⟩⟩
        · have HF3 := Lib.hid (HPN.out hE)
          have hne : (parseE l2 != 0) = true := by simpa using hE
          clear HPV HPN hE
          generalize parseE l2 = E2 at PA hne
          go_wp2_with fail
          refine PA.out.mono ?_
          rintro e w3 ⟨rfl, hb3⟩
          have B1 := T2.out.next hb3
          have Z1 := Lib.hid (Z2.out.trans (hb3.mono Z2.out.size))
          clear hb3
          obtain ⟨c0, c1, c2, c3⟩ := B1.cells
          have f0 := B1.frozen 0
          have f1 := B1.frozen 1
          have f2 := B1.frozen 2
          have f3 := B1.frozen 3
          have HR := Lib.hid (tok_clear B1)
          clear B1
          go_wp2
          obtain ⟨F, hF, ht, hs', hbel', _⟩ := HR.out
          rw [← hF]
          clear hF
          obtain ⟨r0, r1, r2, r3⟩ := ht.cells
          refine bodyPost_ret (v := .tuple #[.agg #[.int .i64 0, .int .i64 0, .string (bs []), .int .i64 0], .int .i64 (-1)]) (by simp [results, Try.results18, go_sem, r0, r1, r2, r3, TK.zero]) rfl ?_
          exact ⟨TK.zero, -1, rfl, hbel' _ _ (Nat.le_refl _) Z1.out, .inr ⟨by rw [HF2.out, HF3.out], rfl⟩⟩
    · have hr0 := Lib.hid (show k = E by rw [← hr.out]; exact (runL_end wordB l k (by have := HN.out; omega)).symm)
      have hkn : (n : Int) ≤ (k : Int) := by omega
      clear hr
      have hkp : p < k := by omega
      obtain ⟨X, runX0, rowX⟩ := (HRW.out wr hbel.out).mid n p (k - p) HN.out (by omega)
      have runX : ∀ W, (Instr.sliceAt 22 (.slice (some ⟨bq, oq, none⟩) n c) (some (.int .i64 (p : Int))) (some (.int .i64 (k : Int))) none).run Try.prog W = .ok (.slice X (k - p) (c - p)) W := fun W => by
        have := runX0 W
        rwa [show (p : Int) + ((k - p : Nat) : Int) = (k : Int) from by omega] at this
      have hcv := rowX.conv 9 Try.underlying9
      have HL2 : Hid (((l.drop p).take (k - p)).length = k - p) := Lib.hid (by rw [List.length_take, List.length_drop]; have := HN.out; omega)
      rw [HL2.out] at hcv
      have HF2 := Lib.hid (show _ from HF.out)
      rw [← hr0.out] at HF2
      clear rowX runX0 hr0
      generalize (l.drop p).take (k - p) = l2 at hcv HL2 HF2
      have PA := Lib.hid (refParseB (bs l2) wr (by rw [bs_size]; have := HL2.out; omega))
      rw [bs_toList] at PA
      have HPV : Hid (parseE l2 = 0 → numP l2 = some (⟨2, 0, l2, parseV l2⟩, l2.length)) := Lib.hid (fun h => numP_yes h)
      have HPN : Hid (¬ parseE l2 = 0 → numP l2 = none) := Lib.hid (fun h => numP_no h)
      generalize numP l2 = NP at HF2 HPV HPN
      generalize parseV l2 = V at PA HPV
      by_cases hE : parseE l2 = 0
      · have HF3 := Lib.hid (HPV.out hE)
        rw [hE] at PA
        clear HPV HPN hE
        go_wp2_with fail
        refine PA.out.mono ?_
        rintro e w3 ⟨rfl, hb3⟩
        have B1 := htok.out.next hb3
        have Z1 := Lib.hid (hbel.out.trans (hb3.mono hbel.out.size))
        clear hb3
        obtain ⟨c0, c1, c2, c3⟩ := B1.cells
        have f0 := B1.frozen 0
        have f1 := B1.frozen 1
        have f2 := B1.frozen 2
        have f3 := B1.frozen 3
        have HR := Lib.hid (B1.set ⟨2, (p : Int), l2, V⟩)
        clear B1
        go_wp2
        obtain ⟨F, hF, ht, hs', hbel', _⟩ := HR.out
        rw [← hF]
        clear hF
        obtain ⟨r0, r1, r2, r3⟩ := ht.cells
        refine bodyPost_ret (v := .tuple #[.agg #[.int .i64 2, .int .i64 (p : Int), .string (bs l2), .int .i64 V], .int .i64 (k : Int)]) (by simp [results, Try.results18, go_sem, r0, r1, r2, r3]) rfl ?_
        exact ⟨⟨2, (p : Int), l2, V⟩, (k : Int), rfl, hbel' _ _ (Nat.le_refl _) Z1.out, .inl ⟨⟨2, 0, l2, V⟩, l2.length, by rw [HF2.out, HF3.out], rfl, by have := HL2.out; omega⟩⟩
      · have HF3 := Lib.hid (HPN.out hE)
        have hne : (parseE l2 != 0) = true := by simpa using hE
        clear HPV HPN hE
        generalize parseE l2 = E2 at PA hne
        go_wp2_with fail
        refine PA.out.mono ?_
        rintro e w3 ⟨rfl, hb3⟩
        have B1 := htok.out.next hb3
        have Z1 := Lib.hid (hbel.out.trans (hb3.mono hbel.out.size))
        clear hb3
        obtain ⟨c0, c1, c2, c3⟩ := B1.cells
        have f0 := B1.frozen 0
        have f1 := B1.frozen 1
        have f2 := B1.frozen 2
        have f3 := B1.frozen 3
        have HR := Lib.hid (tok_clear B1)
        clear B1
        go_wp2
        obtain ⟨F, hF, ht, hs', hbel', _⟩ := HR.out
        rw [← hF]
        clear hF
        obtain ⟨r0, r1, r2, r3⟩ := ht.cells
        refine bodyPost_ret (v := .tuple #[.agg #[.int .i64 0, .int .i64 0, .string (bs []), .int .i64 0], .int .i64 (-1)]) (by simp [results, Try.results18, go_sem, r0, r1, r2, r3, TK.zero]) rfl ?_
        exact ⟨TK.zero, -1, rfl, hbel' _ _ (Nat.le_refl _) Z1.out, .inr ⟨by rw [HF2.out, HF3.out], rfl⟩⟩

set_option maxHeartbeats 6400000 in
theorem one_k3 (l : Bs) (n p c : Nat) (A : Option Addr) (w : World) (hA : BRow w A c l) (hn : n = l.length) (hs : n ≤ 4000) (hp : p < n) (y : UInt8) (hy : l[p]? = some y) (hk : Hid (clsN y = 3)) (HF : Hid (firstP (l.drop p) = numP ((l.drop p).take (runN wordB l (p + 1) - p)))) :
    Calls Try.prog 18 #[.slice A n c, .int .i64 (p : Int)] w (OnePost w p (firstP (l.drop p))) := by
  have HN := Lib.hid hn
  have hs20 : n ≤ 20000 := by omega
  have HRUN : Hid (p + 1 ≤ runN wordB l (p + 1) ∧ runN wordB l (p + 1) ≤ n) := Lib.hid ⟨runN_ge _ _ _, by rw [hn]; exact runN_le _ _ _ (by omega)⟩
  generalize hE : runN wordB l (p + 1) = E at HF HRUN
  have HE := Lib.hid hE
  obtain ⟨bq, oq, rfl, hbq, hcq⟩ := hA.at_ (by omega)
  have HC : Hid (∀ W', Below w.heap.size w W' → ∀ (j : Nat) (x : UInt8), l[j]? = some x → W'.cell? ⟨bq, oq + j, none⟩ = some (u8v x)) := Lib.hid (fun W' hb j x hj => cell_below hb (hcq j x hj) hbq)
  have HRW : Hid (∀ W', Below w.heap.size w W' → BRow W' (some ⟨bq, oq, none⟩) c l) := Lib.hid (fun W' hb => hA.next hb)
  have HCL := Lib.hid (fun W => class_any y W)
  rw [hk.out] at HCL
  clear hA hcq hbq hn hE
  have hy0 := HC.out (w.alloc zbox) (below_new w zbox) p y hy
  unfold zbox u8v at hy0
  go_enter Try.func18, Try.ntmps18
  go_wp2_with fail
  have B0 := Lib.hid (tok_zero w)
  have z0 := Lib.hid (below_new w zbox)
  unfold zbox at B0 z0
  clear hy0
  generalize hW : World.alloc w _ = W at B0 z0 ⊢
  clear hW
  refine (HCL.out W).mono ?_
  rintro e w1 ⟨rfl, hb1⟩
  have B1 := Lib.hid (B0.out.next hb1)
  have Z1 := Lib.hid (z0.out.trans (hb1.mono z0.out.size))
  clear hb1 hy HCL
  go_wp2_with fail
  go_loopw [7] (fun v wr => ∃ k : Nat, v = .int .i64 k ∧ p + 1 ≤ k ∧ k ≤ n ∧ Hid (runN wordB l k = E) ∧ Hid (Tok wr w.heap.size TK.zero) ∧ Hid (Below w.heap.size w wr)) (fun v _ => n - (RowKit.intOf v).toNat)
  case atStart => exact ⟨p + 1, by go_num, by omega, by omega, HE, B1, Z1⟩
  case round =>
    obtain ⟨k, rfl, hk1, hk2, hr, htok, hbel⟩ := hrel
    by_cases hlt : k < n
    · obtain ⟨x, hx⟩ : ∃ x, l[k]? = some x := ⟨_, List.getElem?_eq_getElem (by have := HN.out; omega)⟩
      have hc := HC.out wr hbel.out k x hx
      have hkn : (k : Int) < (n : Int) := by omega
      rcases cls_wordB x with ⟨hw, hcl⟩ | ⟨hw, hn1, hn2⟩
      · have HR2 := Lib.hid (show runN wordB l (k + 1) = E by rw [runL_step wordB l k hx hw]; exact hr.out)
        have HCX := Lib.hid (class_any x wr)
        clear hx hw hr
        rcases hcl with hcl | hcl
        all_goals
          rw [hcl] at HCX
          clear hcl
          go_wp2_with fail
          refine HCX.out.mono ?_
          rintro e w2 ⟨rfl, hb2⟩
          have T2 := Lib.hid (htok.out.next hb2)
          have Z2 := Lib.hid (hbel.out.trans (hb2.mono hbel.out.size))
          clear hb2
          go_wp2_with fail
          go_roundw
          case rel => exact ⟨k + 1, by go_num, by omega, by omega, HR2, T2, Z2⟩
          case measure => simp [RowKit.intOf]; omega
      · have hr0 := Lib.hid (show k = E by rw [← hr.out]; exact (runL_stop wordB l k hx hw).symm)
        have HCX := Lib.hid (class_any x wr)
        have e1 : (((clsN x : Nat) : Int) != 1) = true := by simp; omega
        have e2 : (((clsN x : Nat) : Int) != 2) = true := by simp; omega
        generalize clsN x = cx at HCX e1 e2
        clear hx hw hn1 hn2 hr
        go_wp2_with fail
        refine HCX.out.mono ?_
        rintro e w2 ⟨rfl, hb2⟩
        have T2 := Lib.hid (htok.out.next hb2)
        have Z2 := Lib.hid (hbel.out.trans (hb2.mono hbel.out.size))
        clear hb2 hc htok hbel HCX
        obtain ⟨wq, hwq⟩ : ∃ x, x = w2 := ⟨_, rfl⟩
        subst hwq
        have hkp : p < k := by omega
        obtain ⟨X, runX0, rowX⟩ := (HRW.out wq Z2.out).mid n p (k - p) HN.out (by omega)
        have runX : ∀ W, (Instr.sliceAt 22 (.slice (some ⟨bq, oq, none⟩) n c) (some (.int .i64 (p : Int))) (some (.int .i64 (k : Int))) none).run Try.prog W = .ok (.slice X (k - p) (c - p)) W := fun W => by
          have := runX0 W
          rwa [show (p : Int) + ((k - p : Nat) : Int) = (k : Int) from by omega] at this
        have hcv := rowX.conv 9 Try.underlying9
        have HL2 : Hid (((l.drop p).take (k - p)).length = k - p) := Lib.hid (by rw [List.length_take, List.length_drop]; have := HN.out; omega)
        rw [HL2.out] at hcv
        have HF2 := Lib.hid (show _ from HF.out)
        rw [← hr0.out] at HF2
        clear rowX runX0 hr0
        generalize (l.drop p).take (k - p) = l2 at hcv HL2 HF2
        have PA := Lib.hid (refParseB (bs l2) wq (by rw [bs_size]; have := HL2.out; omega))
        rw [bs_toList] at PA
        have HPV : Hid (parseE l2 = 0 → numP l2 = some (⟨2, 0, l2, parseV l2⟩, l2.length)) := Lib.hid (fun h => numP_yes h)
        have HPN : Hid (¬ parseE l2 = 0 → numP l2 = none) := Lib.hid (fun h => numP_no h)
        generalize numP l2 = NP at HF2 HPV HPN
        generalize parseV l2 = V at PA HPV
        by_cases hE : parseE l2 = 0
        · have HF3 := Lib.hid (HPV.out hE)
          rw [hE] at PA
          clear HPV HPN hE
          go_wp2_with fail
          refine PA.out.mono ?_
          rintro e w3 ⟨rfl, hb3⟩
          have B1 := T2.out.next hb3
          have Z1 := Lib.hid (Z2.out.trans (hb3.mono Z2.out.size))
          clear hb3
          obtain ⟨c0, c1, c2, c3⟩ := B1.cells
          have f0 := B1.frozen 0
          have f1 := B1.frozen 1
          have f2 := B1.frozen 2
          have f3 := B1.frozen 3
          have HR := Lib.hid (B1.set ⟨2, (p : Int), l2, V⟩)
          clear B1
          go_wp2
          obtain ⟨F, hF, ht, hs', hbel', _⟩ := HR.out
          rw [← hF]
          clear hF
          obtain ⟨r0, r1, r2, r3⟩ := ht.cells
          refine bodyPost_ret (v := .tuple #[.agg #[.int .i64 2, .int .i64 (p : Int), .string (bs l2), .int .i64 V], .int .i64 (k : Int)]) (by simp [results, Try.results18, go_sem, r0, r1, r2, r3]) rfl ?_
          exact ⟨⟨2, (p : Int), l2, V⟩, (k : Int), rfl, hbel' _ _ (Nat.le_refl _) Z1.out, .inl ⟨⟨2, 0, l2, V⟩, l2.length, by rw [HF2.out, HF3.out], rfl, by have := HL2.out; omega⟩⟩
        · have HF3 := Lib.hid (HPN.out hE)
          have hne : (parseE l2 != 0) = true := by simpa using hE
          clear HPV HPN hE
          generalize parseE l2 = E2 at PA hne
          go_wp2_with fail
          refine PA.out.mono ?_
          rintro e w3 ⟨rfl, hb3⟩
          have B1 := T2.out.next hb3
          have Z1 := Lib.hid (Z2.out.trans (hb3.mono Z2.out.size))
          clear hb3
          obtain ⟨c0, c1, c2, c3⟩ := B1.cells
          have f0 := B1.frozen 0
          have f1 := B1.frozen 1
          have f2 := B1.frozen 2
          have f3 := B1.frozen 3
          have HR := Lib.hid (tok_clear B1)
          clear B1
          go_wp2
          obtain ⟨F, hF, ht, hs', hbel', _⟩ := HR.out
          rw [← hF]
          clear hF
          obtain ⟨r0, r1, r2, r3⟩ := ht.cells
          refine bodyPost_ret (v := .tuple #[.agg #[.int .i64 0, .int .i64 0, .string (bs []), .int .i64 0], .int .i64 (-1)]) (by simp [results, Try.results18, go_sem, r0, r1, r2, r3, TK.zero]) rfl ?_
          exact ⟨TK.zero, -1, rfl, hbel' _ _ (Nat.le_refl _) Z1.out, .inr ⟨by rw [HF2.out, HF3.out], rfl⟩⟩
    · have hr0 := Lib.hid (show k = E by rw [← hr.out]; exact (runL_end wordB l k (by have := HN.out; omega)).symm)
      have hkn : (n : Int) ≤ (k : Int) := by omega
      clear hr
      have hkp : p < k := by omega
      obtain ⟨X, runX0, rowX⟩ := (HRW.out wr hbel.out).mid n p (k - p) HN.out (by omega)
      have runX : ∀ W, (Instr.sliceAt 22 (.slice (some ⟨bq, oq, none⟩) n c) (some (.int .i64 (p : Int))) (some (.int .i64 (k : Int))) none).run Try.prog W = .ok (.slice X (k - p) (c - p)) W := fun W => by
        have := runX0 W
        rwa [show (p : Int) + ((k - p : Nat) : Int) = (k : Int) from by omega] at this
      have hcv := rowX.conv 9 Try.underlying9
      have HL2 : Hid (((l.drop p).take (k - p)).length = k - p) := Lib.hid (by rw [List.length_take, List.length_drop]; have := HN.out; omega)
      rw [HL2.out] at hcv
      have HF2 := Lib.hid (show _ from HF.out)
      rw [← hr0.out] at HF2
      clear rowX runX0 hr0
      generalize (l.drop p).take (k - p) = l2 at hcv HL2 HF2
      have PA := Lib.hid (refParseB (bs l2) wr (by rw [bs_size]; have := HL2.out; omega))
      rw [bs_toList] at PA
      have HPV : Hid (parseE l2 = 0 → numP l2 = some (⟨2, 0, l2, parseV l2⟩, l2.length)) := Lib.hid (fun h => numP_yes h)
      have HPN : Hid (¬ parseE l2 = 0 → numP l2 = none) := Lib.hid (fun h => numP_no h)
      generalize numP l2 = NP at HF2 HPV HPN
      generalize parseV l2 = V at PA HPV
      by_cases hE : parseE l2 = 0
      · have HF3 := Lib.hid (HPV.out hE)
        rw [hE] at PA
        clear HPV HPN hE
        go_wp2_with fail
        refine PA.out.mono ?_
        rintro e w3 ⟨rfl, hb3⟩
        have B1 := htok.out.next hb3
        have Z1 := Lib.hid (hbel.out.trans (hb3.mono hbel.out.size))
        clear hb3
        obtain ⟨c0, c1, c2, c3⟩ := B1.cells
        have f0 := B1.frozen 0
        have f1 := B1.frozen 1
        have f2 := B1.frozen 2
        have f3 := B1.frozen 3
        have HR := Lib.hid (B1.set ⟨2, (p : Int), l2, V⟩)
        clear B1
        go_wp2
        obtain ⟨F, hF, ht, hs', hbel', _⟩ := HR.out
        rw [← hF]
        clear hF
        obtain ⟨r0, r1, r2, r3⟩ := ht.cells
        refine bodyPost_ret (v := .tuple #[.agg #[.int .i64 2, .int .i64 (p : Int), .string (bs l2), .int .i64 V], .int .i64 (k : Int)]) (by simp [results, Try.results18, go_sem, r0, r1, r2, r3]) rfl ?_
        exact ⟨⟨2, (p : Int), l2, V⟩, (k : Int), rfl, hbel' _ _ (Nat.le_refl _) Z1.out, .inl ⟨⟨2, 0, l2, V⟩, l2.length, by rw [HF2.out, HF3.out], rfl, by have := HL2.out; omega⟩⟩
      · have HF3 := Lib.hid (HPN.out hE)
        have hne : (parseE l2 != 0) = true := by simpa using hE
        clear HPV HPN hE
        generalize parseE l2 = E2 at PA hne
        go_wp2_with fail
        refine PA.out.mono ?_
        rintro e w3 ⟨rfl, hb3⟩
        have B1 := htok.out.next hb3
        have Z1 := Lib.hid (hbel.out.trans (hb3.mono hbel.out.size))
        clear hb3
        obtain ⟨c0, c1, c2, c3⟩ := B1.cells
        have f0 := B1.frozen 0
        have f1 := B1.frozen 1
        have f2 := B1.frozen 2
        have f3 := B1.frozen 3
        have HR := Lib.hid (tok_clear B1)
        clear B1
        go_wp2
        obtain ⟨F, hF, ht, hs', hbel', _⟩ := HR.out
        rw [← hF]
        clear hF
        obtain ⟨r0, r1, r2, r3⟩ := ht.cells
        refine bodyPost_ret (v := .tuple #[.agg #[.int .i64 0, .int .i64 0, .string (bs []), .int .i64 0], .int .i64 (-1)]) (by simp [results, Try.results18, go_sem, r0, r1, r2, r3, TK.zero]) rfl ?_
        exact ⟨TK.zero, -1, rfl, hbel' _ _ (Nat.le_refl _) Z1.out, .inr ⟨by rw [HF2.out, HF3.out], rfl⟩⟩

set_option maxHeartbeats 6400000 in
theorem one_k4 (l : Bs) (n p c : Nat) (A : Option Addr) (w : World) (hA : BRow w A c l) (hn : n = l.length) (hs : n ≤ 4000) (hp : p < n) (y : UInt8) (hy : l[p]? = some y) (hk : Hid (clsN y = 4)) (HF : Hid (firstP (l.drop p) = textO (textP (l.drop (p + 1)) [] 1))) :
    Calls Try.prog 18 #[.slice A n c, .int .i64 (p : Int)] w (OnePost w p (firstP (l.drop p))) := by
  have HN := Lib.hid hn
  have hs20 : n ≤ 20000 := by omega
  have HRUN : Hid (p + 1 ≤ runN wordB l (p + 1) ∧ runN wordB l (p + 1) ≤ n) := Lib.hid ⟨runN_ge _ _ _, by rw [hn]; exact runN_le _ _ _ (by omega)⟩
  generalize hE : runN wordB l (p + 1) = E at HF HRUN
  have HE := Lib.hid hE
  obtain ⟨bq, oq, rfl, hbq, hcq⟩ := hA.at_ (by omega)
  have HC : Hid (∀ W', Below w.heap.size w W' → ∀ (j : Nat) (x : UInt8), l[j]? = some x → W'.cell? ⟨bq, oq + j, none⟩ = some (u8v x)) := Lib.hid (fun W' hb j x hj => cell_below hb (hcq j x hj) hbq)
  have HRW : Hid (∀ W', Below w.heap.size w W' → BRow W' (some ⟨bq, oq, none⟩) c l) := Lib.hid (fun W' hb => hA.next hb)
  have HCL := Lib.hid (fun W => class_any y W)
  rw [hk.out] at HCL
  clear hA hcq hbq hn hE
  have hy0 := HC.out (w.alloc zbox) (below_new w zbox) p y hy
  unfold zbox u8v at hy0
  go_enter Try.func18, Try.ntmps18
  go_wp2_with fail
  have B0 := Lib.hid (tok_zero w)
  have z0 := Lib.hid (below_new w zbox)
  unfold zbox at B0 z0
  clear hy0
  generalize hW : World.alloc w _ = W at B0 z0 ⊢
  clear hW
  refine (HCL.out W).mono ?_
  rintro e w1 ⟨rfl, hb1⟩
  have B1 := Lib.hid (B0.out.next hb1)
  have Z1 := Lib.hid (z0.out.trans (hb1.mono z0.out.size))
  clear hb1 hy HCL
  go_wp2_with fail
  go_loopw [7] (fun v wr => ∃ k : Nat, v = .int .i64 k ∧ p + 1 ≤ k ∧ k ≤ n ∧ Hid (k = p + 1) ∧ Hid (Tok wr w.heap.size TK.zero) ∧ Hid (Below w.heap.size w wr)) (fun v _ => n - (RowKit.intOf v).toNat)
  case atStart => exact ⟨p + 1, by go_num, by omega, by omega, Lib.hid rfl, B1, Z1⟩
  case round =>
    obtain ⟨k, rfl, hk1, hk2, hk3, htok, hbel⟩ := hrel
    have hkp : p < k := by omega
    obtain ⟨X, runX0, rowX⟩ := (HRW.out wr hbel.out).mid n p (k - p) HN.out (by omega)
    have runX : ∀ W, (Instr.sliceAt 22 (.slice (some ⟨bq, oq, none⟩) n c) (some (.int .i64 (p : Int))) (some (.int .i64 (k : Int))) none).run Try.prog W = .ok (.slice X (k - p) (c - p)) W := fun W => by
      have := runX0 W
      rwa [show (p : Int) + ((k - p : Nat) : Int) = (k : Int) from by omega] at this
    have hcv := rowX.conv 9 Try.underlying9
    have HL2 : Hid (((l.drop p).take (k - p)).length = k - p) := Lib.hid (by rw [List.length_take, List.length_drop]; have := HN.out; omega)
    rw [HL2.out] at hcv
    have HF2 := Lib.hid (show _ from HF.out)
    clear rowX runX0
    generalize (l.drop p).take (k - p) = l2 at hcv HL2
    go_wp2_with fail
    refine (quoted_any l n p c _ wr (HRW.out wr hbel.out) HN.out hs20 hp).mono ?_
    rintro e w3 ⟨A3, c3', x3, acc, rfl, hr3, hb3, hres⟩
    have B1 := htok.out.next hb3
    have Z1 := Lib.hid (hbel.out.trans (hb3.mono hbel.out.size))
    have hcv3 := hr3.conv 9 Try.underlying9
    have HRES : Hid ((∃ t0 m, firstP (l.drop p) = some (t0, m) ∧ (⟨3, (p : Int), acc, 0⟩ : TK) = t0.at_ (p : Nat) ∧ x3 = (p : Int) + (m : Nat)) ∨ (firstP (l.drop p) = none ∧ x3 = -1)) := Lib.hid (by
      rcases hres with ⟨m, h1, h2⟩ | ⟨h1, h2⟩
      · exact .inl ⟨⟨3, 0, acc, 0⟩, m, by rw [HF2.out, h1]; rfl, rfl, h2⟩
      · exact .inr ⟨by rw [HF2.out, h1]; rfl, h2⟩)
    clear hb3 hr3 hres
    generalize acc.length = la at hcv3 ⊢
    obtain ⟨c0, c1, c2, c3⟩ := B1.cells
    have f0 := B1.frozen 0
    have f1 := B1.frozen 1
    have f2 := B1.frozen 2
    have f3 := B1.frozen 3
    have HR := Lib.hid (B1.set ⟨3, (p : Int), acc, 0⟩)
    clear B1
    go_wp2
    obtain ⟨F, hF, ht, hs', hbel', _⟩ := HR.out
    rw [← hF]
    clear hF
    obtain ⟨r0, r1, r2, r3⟩ := ht.cells
    refine bodyPost_ret (v := .tuple #[.agg #[.int .i64 3, .int .i64 (p : Int), .string (bs acc), .int .i64 0], .int .i64 x3]) (by simp [results, Try.results18, go_sem, r0, r1, r2, r3]) rfl ?_
    exact ⟨⟨3, (p : Int), acc, 0⟩, x3, rfl, hbel' _ _ (Nat.le_refl _) Z1.out, HRES.out⟩

set_option maxHeartbeats 6400000 in
theorem one_k5 (l : Bs) (n p c : Nat) (A : Option Addr) (w : World) (hA : BRow w A c l) (hn : n = l.length) (hs : n ≤ 4000) (hp : p < n) (y : UInt8) (hy : l[p]? = some y) (hk : Hid (clsN y = 5)) (HF : Hid (firstP (l.drop p) = some (⟨4, 0, (l.drop p).take 1, 0⟩, 1))) :
    Calls Try.prog 18 #[.slice A n c, .int .i64 (p : Int)] w (OnePost w p (firstP (l.drop p))) := by
  have HN := Lib.hid hn
  have hs20 : n ≤ 20000 := by omega
  have HRUN : Hid (p + 1 ≤ runN wordB l (p + 1) ∧ runN wordB l (p + 1) ≤ n) := Lib.hid ⟨runN_ge _ _ _, by rw [hn]; exact runN_le _ _ _ (by omega)⟩
  generalize hE : runN wordB l (p + 1) = E at HF HRUN
  have HE := Lib.hid hE
  obtain ⟨bq, oq, rfl, hbq, hcq⟩ := hA.at_ (by omega)
  have HC : Hid (∀ W', Below w.heap.size w W' → ∀ (j : Nat) (x : UInt8), l[j]? = some x → W'.cell? ⟨bq, oq + j, none⟩ = some (u8v x)) := Lib.hid (fun W' hb j x hj => cell_below hb (hcq j x hj) hbq)
  have HRW : Hid (∀ W', Below w.heap.size w W' → BRow W' (some ⟨bq, oq, none⟩) c l) := Lib.hid (fun W' hb => hA.next hb)
  have HCL := Lib.hid (fun W => class_any y W)
  rw [hk.out] at HCL
  clear hA hcq hbq hn hE
  have hy0 := HC.out (w.alloc zbox) (below_new w zbox) p y hy
  unfold zbox u8v at hy0
  go_enter Try.func18, Try.ntmps18
  go_wp2_with fail
  have B0 := Lib.hid (tok_zero w)
  have z0 := Lib.hid (below_new w zbox)
  unfold zbox at B0 z0
  clear hy0
  generalize hW : World.alloc w _ = W at B0 z0 ⊢
  clear hW
  refine (HCL.out W).mono ?_
  rintro e w1 ⟨rfl, hb1⟩
  have B1 := Lib.hid (B0.out.next hb1)
  have Z1 := Lib.hid (z0.out.trans (hb1.mono z0.out.size))
  clear hb1 hy HCL
  go_wp2_with fail
  go_loopw [7] (fun v wr => ∃ k : Nat, v = .int .i64 k ∧ p + 1 ≤ k ∧ k ≤ n ∧ Hid (k = p + 1) ∧ Hid (Tok wr w.heap.size TK.zero) ∧ Hid (Below w.heap.size w wr)) (fun v _ => n - (RowKit.intOf v).toNat)
  case atStart => exact ⟨p + 1, by go_num, by omega, by omega, Lib.hid rfl, B1, Z1⟩
  case round =>
    obtain ⟨k, rfl, hk1, hk2, hk3, htok, hbel⟩ := hrel
    have hkp : p < k := by omega
    obtain ⟨X, runX0, rowX⟩ := (HRW.out wr hbel.out).mid n p (k - p) HN.out (by omega)
    have runX : ∀ W, (Instr.sliceAt 22 (.slice (some ⟨bq, oq, none⟩) n c) (some (.int .i64 (p : Int))) (some (.int .i64 (k : Int))) none).run Try.prog W = .ok (.slice X (k - p) (c - p)) W := fun W => by
      have := runX0 W
      rwa [show (p : Int) + ((k - p : Nat) : Int) = (k : Int) from by omega] at this
    have hcv := rowX.conv 9 Try.underlying9
    have HL2 : Hid (((l.drop p).take (k - p)).length = k - p) := Lib.hid (by rw [List.length_take, List.length_drop]; have := HN.out; omega)
    rw [HL2.out] at hcv
    have HF2 := Lib.hid (show _ from HF.out)
    rw [show (1 : Nat) = k - p from by have := hk3.out; omega] at HF2
    clear rowX runX0
    generalize (l.drop p).take (k - p) = l2 at hcv HL2 HF2
    have B1 := htok.out
    obtain ⟨c0, c1, c2, c3⟩ := B1.cells
    have f0 := B1.frozen 0
    have f1 := B1.frozen 1
    have f2 := B1.frozen 2
    have f3 := B1.frozen 3
    have HR := Lib.hid (B1.set ⟨4, (p : Int), l2, 0⟩)
    clear B1
    go_wp2
    obtain ⟨F, hF, ht, hs', hbel', _⟩ := HR.out
    rw [← hF]
    clear hF
    obtain ⟨r0, r1, r2, r3⟩ := ht.cells
    refine bodyPost_ret (v := .tuple #[.agg #[.int .i64 4, .int .i64 (p : Int), .string (bs l2), .int .i64 0], .int .i64 (k : Int)]) (by simp [results, Try.results18, go_sem, r0, r1, r2, r3]) rfl ?_
    exact ⟨⟨4, (p : Int), l2, 0⟩, (k : Int), rfl, hbel' _ _ (Nat.le_refl _) hbel.out, .inl ⟨⟨4, 0, l2, 0⟩, k - p, HF2.out, rfl, by omega⟩⟩

set_option maxHeartbeats 6400000 in
theorem one_k0 (l : Bs) (n p c : Nat) (A : Option Addr) (w : World) (hA : BRow w A c l) (hn : n = l.length) (hs : n ≤ 4000) (hp : p < n) (y : UInt8) (hy : l[p]? = some y) (hk : Hid (clsN y = 0)) (HF : Hid (firstP (l.drop p) = none)) :
    Calls Try.prog 18 #[.slice A n c, .int .i64 (p : Int)] w (OnePost w p (firstP (l.drop p))) := by
  have HN := Lib.hid hn
  have hs20 : n ≤ 20000 := by omega
  have HRUN : Hid (p + 1 ≤ runN wordB l (p + 1) ∧ runN wordB l (p + 1) ≤ n) := Lib.hid ⟨runN_ge _ _ _, by rw [hn]; exact runN_le _ _ _ (by omega)⟩
  generalize hE : runN wordB l (p + 1) = E at HF HRUN
  have HE := Lib.hid hE
  obtain ⟨bq, oq, rfl, hbq, hcq⟩ := hA.at_ (by omega)
  have HC : Hid (∀ W', Below w.heap.size w W' → ∀ (j : Nat) (x : UInt8), l[j]? = some x → W'.cell? ⟨bq, oq + j, none⟩ = some (u8v x)) := Lib.hid (fun W' hb j x hj => cell_below hb (hcq j x hj) hbq)
  have HRW : Hid (∀ W', Below w.heap.size w W' → BRow W' (some ⟨bq, oq, none⟩) c l) := Lib.hid (fun W' hb => hA.next hb)
  have HCL := Lib.hid (fun W => class_any y W)
  rw [hk.out] at HCL
  clear hA hcq hbq hn hE
  have hy0 := HC.out (w.alloc zbox) (below_new w zbox) p y hy
  unfold zbox u8v at hy0
  go_enter Try.func18, Try.ntmps18
  go_wp2_with fail
  have B0 := Lib.hid (tok_zero w)
  have z0 := Lib.hid (below_new w zbox)
  unfold zbox at B0 z0
  clear hy0
  generalize hW : World.alloc w _ = W at B0 z0 ⊢
  clear hW
  refine (HCL.out W).mono ?_
  rintro e w1 ⟨rfl, hb1⟩
  have B1 := Lib.hid (B0.out.next hb1)
  have Z1 := Lib.hid (z0.out.trans (hb1.mono z0.out.size))
  clear hb1 hy HCL
  go_wp2_with fail
  go_loopw [7] (fun v wr => ∃ k : Nat, v = .int .i64 k ∧ p + 1 ≤ k ∧ k ≤ n ∧ Hid (runN wordB l k = E) ∧ Hid (Tok wr w.heap.size TK.zero) ∧ Hid (Below w.heap.size w wr)) (fun v _ => n - (RowKit.intOf v).toNat)
  case atStart => exact ⟨p + 1, by go_num, by omega, by omega, HE, B1, Z1⟩
  case round =>
    obtain ⟨k, rfl, hk1, hk2, hr, htok, hbel⟩ := hrel
    by_cases hlt : k < n
    · obtain ⟨x, hx⟩ : ∃ x, l[k]? = some x := ⟨_, List.getElem?_eq_getElem (by have := HN.out; omega)⟩
      have hc := HC.out wr hbel.out k x hx
      have hkn : (k : Int) < (n : Int) := by omega
      rcases cls_wordB x with ⟨hw, hcl⟩ | ⟨hw, hn1, hn2⟩
      · have HR2 := Lib.hid (show runN wordB l (k + 1) = E by rw [runL_step wordB l k hx hw]; exact hr.out)
        have HCX := Lib.hid (class_any x wr)
        clear hx hw hr
        rcases hcl with hcl | hcl
        all_goals
          rw [hcl] at HCX
          clear hcl
          go_wp2_with fail
          refine HCX.out.mono ?_
          rintro e w2 ⟨rfl, hb2⟩
          have T2 := Lib.hid (htok.out.next hb2)
          have Z2 := Lib.hid (hbel.out.trans (hb2.mono hbel.out.size))
          clear hb2
          go_wp2_with fail
          go_roundw
          case rel => exact ⟨k + 1, by go_num, by omega, by omega, HR2, T2, Z2⟩
          case measure => simp [RowKit.intOf]; omega
      · have hr0 := Lib.hid (show k = E by rw [← hr.out]; exact (runL_stop wordB l k hx hw).symm)
        have HCX := Lib.hid (class_any x wr)
        have e1 : (((clsN x : Nat) : Int) != 1) = true := by simp; omega
        have e2 : (((clsN x : Nat) : Int) != 2) = true := by simp; omega
        generalize clsN x = cx at HCX e1 e2
        clear hx hw hn1 hn2 hr
        go_wp2_with fail
        refine HCX.out.mono ?_
        rintro e w2 ⟨rfl, hb2⟩
        have T2 := Lib.hid (htok.out.next hb2)
        have Z2 := Lib.hid (hbel.out.trans (hb2.mono hbel.out.size))
        clear hb2 hc htok hbel HCX
        obtain ⟨wq, hwq⟩ : ∃ x, x = w2 := ⟨_, rfl⟩
        subst hwq
        have hkp : p < k := by omega
        obtain ⟨X, runX0, rowX⟩ := (HRW.out wq Z2.out).mid n p (k - p) HN.out (by omega)
        have runX : ∀ W, (Instr.sliceAt 22 (.slice (some ⟨bq, oq, none⟩) n c) (some (.int .i64 (p : Int))) (some (.int .i64 (k : Int))) none).run Try.prog W = .ok (.slice X (k - p) (c - p)) W := fun W => by
          have := runX0 W
          rwa [show (p : Int) + ((k - p : Nat) : Int) = (k : Int) from by omega] at this
        have hcv := rowX.conv 9 Try.underlying9
        have HL2 : Hid (((l.drop p).take (k - p)).length = k - p) := Lib.hid (by rw [List.length_take, List.length_drop]; have := HN.out; omega)
        rw [HL2.out] at hcv
        have HF2 := Lib.hid (show _ from HF.out)
        clear rowX runX0
        generalize (l.drop p).take (k - p) = l2 at hcv HL2
        have B1 := T2.out
        obtain ⟨c0, c1, c2, c3⟩ := B1.cells
        have f0 := B1.frozen 0
        have f1 := B1.frozen 1
        have f2 := B1.frozen 2
        have f3 := B1.frozen 3
        have HR := Lib.hid (tok_clear B1)
        clear B1
        go_wp2
        obtain ⟨F, hF, ht, hs', hbel', _⟩ := HR.out
        rw [← hF]
        clear hF
        obtain ⟨r0, r1, r2, r3⟩ := ht.cells
        refine bodyPost_ret (v := .tuple #[.agg #[.int .i64 0, .int .i64 0, .string (bs []), .int .i64 0], .int .i64 (-1)]) (by simp [results, Try.results18, go_sem, r0, r1, r2, r3, TK.zero]) rfl ?_
        exact ⟨TK.zero, -1, rfl, hbel' _ _ (Nat.le_refl _) Z2.out, .inr ⟨HF.out, rfl⟩⟩
    · have hr0 := Lib.hid (show k = E by rw [← hr.out]; exact (runL_end wordB l k (by have := HN.out; omega)).symm)
      have hkn : (n : Int) ≤ (k : Int) := by omega
      clear hr
      have hkp : p < k := by omega
      obtain ⟨X, runX0, rowX⟩ := (HRW.out wr hbel.out).mid n p (k - p) HN.out (by omega)
      have runX : ∀ W, (Instr.sliceAt 22 (.slice (some ⟨bq, oq, none⟩) n c) (some (.int .i64 (p : Int))) (some (.int .i64 (k : Int))) none).run Try.prog W = .ok (.slice X (k - p) (c - p)) W := fun W => by
        have := runX0 W
        rwa [show (p : Int) + ((k - p : Nat) : Int) = (k : Int) from by omega] at this
      have hcv := rowX.conv 9 Try.underlying9
      have HL2 : Hid (((l.drop p).take (k - p)).length = k - p) := Lib.hid (by rw [List.length_take, List.length_drop]; have := HN.out; omega)
      rw [HL2.out] at hcv
      have HF2 := Lib.hid (show _ from HF.out)
      clear rowX runX0
      generalize (l.drop p).take (k - p) = l2 at hcv HL2
      have B1 := htok.out
      obtain ⟨c0, c1, c2, c3⟩ := B1.cells
      have f0 := B1.frozen 0
      have f1 := B1.frozen 1
      have f2 := B1.frozen 2
      have f3 := B1.frozen 3
      have HR := Lib.hid (tok_clear B1)
      clear B1
      go_wp2
      obtain ⟨F, hF, ht, hs', hbel', _⟩ := HR.out
      rw [← hF]
      clear hF
      obtain ⟨r0, r1, r2, r3⟩ := ht.cells
      refine bodyPost_ret (v := .tuple #[.agg #[.int .i64 0, .int .i64 0, .string (bs []), .int .i64 0], .int .i64 (-1)]) (by simp [results, Try.results18, go_sem, r0, r1, r2, r3, TK.zero]) rfl ?_
      exact ⟨TK.zero, -1, rfl, hbel' _ _ (Nat.le_refl _) hbel.out, .inr ⟨HF.out, rfl⟩⟩

theorem one_any (l : Bs) (n p c : Nat) (A : Option Addr) (w : World) (hA : BRow w A c l) (hn : n = l.length) (hs : n ≤ 4000) (hp : p < n) (y : UInt8) (hy : l[p]? = some y) (hb : blankB y = false) :
    Calls Try.prog 18 #[.slice A n c, .int .i64 (p : Int)] w (OnePost w p (firstP (l.drop p))) := by
  rcases cls_cases y with ⟨h0, h1⟩ | ⟨h0, h1, h2⟩ | ⟨h0, h1, h2⟩ | ⟨h0, h1, h2, h3, h4⟩ | ⟨h0, h1, h2, h3, h4, h5⟩ | ⟨_, h1⟩ | ⟨h0, h1, h2, h3, h4, h5⟩
  · exact one_k1 l n p c A w hA hn hs hp y hy (Lib.hid h0) (Lib.hid (one_1 l p hy h1))
  · exact one_k2 l n p c A w hA hn hs hp y hy (Lib.hid h0) (Lib.hid (one_2 l p hy h1 h2))
  · exact one_k3 l n p c A w hA hn hs hp y hy (Lib.hid h0) (Lib.hid (one_2 l p hy h1 h2))
  · exact one_k4 l n p c A w hA hn hs hp y hy (Lib.hid h0) (Lib.hid (one_4 l p hy h1 h2 h3 h4))
  · exact one_k5 l n p c A w hA hn hs hp y hy (Lib.hid h0) (Lib.hid (one_5 l p hy h1 h2 h3 h4 h5))
  · rw [hb] at h1; cases h1
  · exact one_k0 l n p c A w hA hn hs hp y hy (Lib.hid h0) (Lib.hid (one_0 l p hy h1 h2 h3 h4 h5))
end Go.Proofs.Ythjbmlgjlndihaa
