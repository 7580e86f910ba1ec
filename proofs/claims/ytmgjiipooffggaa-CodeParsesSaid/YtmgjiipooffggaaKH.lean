/- Items, one by one, up to their end: the reader's items with each of its two functions. -/
import Derived.Test.YtmgjiipooffggaaKG
namespace Go.Proofs.Ytmgjiipooffggaa
set_option maxRecDepth 100000
open Go.RowKit Go.Sort

section
variable {α : Type} {e : Bs} {one : Bs → Option (α × Bs)} {n : Nat} {acc : List α} {l r q : Bs} {x : α}
theorem items_none (h : one l = none) : itemsR e one (n + 1) acc l = none := by simp only [itemsR, h]
theorem items_end (h : one l = some (x, r)) (h2 : takeL e r = some q) : itemsR e one (n + 1) acc l = some (acc ++ [x], q) := by simp only [itemsR, h, h2]
theorem items_bad (h : one l = some (x, r)) (h2 : takeL e r = none) (h3 : takeL [44, 32] r = none) : itemsR e one (n + 1) acc l = none := by simp only [itemsR, h, h2, h3]
theorem items_more (h : one l = some (x, r)) (h2 : takeL e r = none) (h3 : takeL [44, 32] r = some q) : itemsR e one (n + 1) acc l = itemsR e one n (acc ++ [x]) q := by simp only [itemsR, h, h2, h3]
end
theorem rowR_some {α : Type} {e : Bs} {one : Bs → Option (α × Bs)} {l q : Bs} (h : takeL e l = some q) : rowR e one l = some ([], q) := by simp only [rowR, h]
theorem rowR_none {α : Type} {e : Bs} {one : Bs → Option (α × Bs)} {l : Bs} (h : takeL e l = none) : rowR e one l = itemsR e one 1000 [] l := by simp only [rowR, h]

/-- What one item's function does. -/
def OnePost {α : Type} (g : Nat) (s : ByteArray) (I : List α → World → Prop) (J : World → Prop) (acc : List α) (o : Option (α × Bs)) (e : Ending) (w' : World) : Prop :=
  ∃ (b : Bool) (l' : Bs), e = .returned (.bool b) ∧ RL w' g s l' ∧ J w' ∧ (∀ x r, o = some (x, r) → b = true ∧ l' = r ∧ I (acc ++ [x]) w') ∧ (o = none → b = false)
def ItemsPost {α : Type} (g : Nat) (s : ByteArray) (I : List α → World → Prop) (J : World → Prop) (o : Option (List α × Bs)) (e : Ending) (w' : World) : Prop :=
  ∃ (b : Bool) (l' : Bs), e = .returned (.bool b) ∧ RL w' g s l' ∧ J w' ∧ (∀ xs r, o = some (xs, r) → b = true ∧ l' = r ∧ I xs w') ∧ (o = none → b = false)

set_option maxHeartbeats 3200000 in
theorem items86 {α : Type} (one : Bs → Option (α × Bs)) (endB : ByteArray) (p3 p5 p8 : Value) (g : Nat) (s : ByteArray) (I : List α → World → Prop) (J : World → Prop)
    (hIJ : ∀ acc W, I acc W → J W) (hI : ∀ acc W W', I acc W → RK g W W' → I acc W') (hJ : ∀ W W', J W → RK g W W' → J W')
    (hone : ∀ (W : World) (acc : List α) (l : Bs), I acc W → RL W g s l → acc.length < 1000 → Calls Try.prog 86 #[p3, p5, p8] W (OnePost g s I J acc (one l)))
    (w : World) (l : Bs) (h : RL w g s l) (h0 : I [] w) :
    Calls Try.prog 85 #[.pointer (some ⟨g, 0, none⟩), .string endB, .func (.func 86) #[] #[p3, p5, p8]] w (ItemsPost g s I J (rowR endB.data.toList one l)) := by
  have HIJ := Lib.hid hIJ
  have HI := Lib.hid hI
  have HJ := Lib.hid hJ
  have H1 := Lib.hid hone
  have H := Lib.hid h
  have H0 := Lib.hid h0
  clear hIJ hI hJ hone h h0
  have T1 := Lib.hid (fun W l (h : RL W g s l) => take_any W g s endB l h)
  have T2 := Lib.hid (fun W l (h : RL W g s l) => take_any W g s ⟨#[44, 32]⟩ l h)
  have TE := Lib.hid (show (⟨#[44, 32]⟩ : ByteArray).data.toList = [44, 32] from rfl)
  unfold TakePost at T1 T2
  generalize (⟨#[44, 32]⟩ : ByteArray).data.toList = comma at *
  generalize endB.data.toList = eL at *
  go_enter Try.func85, Try.ntmps85
  generalize hG : rowR eL one l = G
  have HG := Lib.hid hG
  clear hG
  generalize ht : takeL eL l = t0
  have HT := Lib.hid ht
  clear ht
  have F0 := Lib.hid (T1.out w l H.out)
  rw [HT.out] at F0
  go_wp2_with fail
  cases t0 with
  | some q =>
    refine F0.out.mono ?_
    rintro e w1 ⟨rfl, r1, k1⟩
    have hG : G = some ([], q) := by rw [← HG.out, rowR_some HT.out]
    subst hG
    have R1 := Lib.hid r1
    have K1 := Lib.hid k1
    clear r1 k1
    go_wp2
    go_ret
    exact ⟨true, q, rfl, R1.out, HJ.out _ _ (HIJ.out _ _ H0.out) K1.out, (by rintro xs r ⟨⟩; exact ⟨rfl, rfl, HI.out _ _ _ H0.out K1.out⟩), by simp⟩
  | none =>
    refine F0.out.mono ?_
    rintro e w1 ⟨rfl, r1, k1⟩
    have R1 := Lib.hid (show RL w1 g s l from r1)
    have I1 := Lib.hid (HI.out _ _ _ H0.out k1)
    have HG2 := Lib.hid (show itemsR eL one 1000 [] l = G by rw [← HG.out, rowR_none HT.out])
    clear r1 k1 HG HT F0
    go_wp2_with fail
    go_loopw [10] (fun i wr => ∃ (k : Nat) (acc : List α) (l1 : Bs), i = .int .i64 k ∧ k ≤ 1000 ∧ Hid (acc.length = k) ∧ Hid (I acc wr) ∧ Hid (RL wr g s l1) ∧ Hid (itemsR eL one (1000 - k) acc l1 = G)) (fun i _ => 1000 - (RowKit.intOf i).toNat)
    case atStart => exact ⟨0, [], l, rfl, by omega, Lib.hid rfl, I1, R1, HG2⟩
    case round =>
      obtain ⟨k, acc, l1, rfl, hk, hlen, hi, hr, ht⟩ := hrel
      by_cases hlt : k < 1000
      · have HS : Hid (itemsR eL one (1000 - k) acc l1 = itemsR eL one ((999 - k) + 1) acc l1) := Lib.hid (by rw [show 1000 - k = (999 - k) + 1 from by omega])
        have C1 := Lib.hid (H1.out wr acc l1 hi.out hr.out (by have := hlen.out; omega))
        unfold OnePost at C1
        have hki : (k : Int) < 1000 := by omega
        generalize ho : one l1 = o
        have HO := Lib.hid ho
        clear ho
        rw [HO.out] at C1
        go_wp2_with fail
        refine C1.out.mono ?_
        rintro e w2 ⟨b, l2, rfl, r2, j2, hx, hn⟩
        have R2 := Lib.hid r2
        have J2 := Lib.hid j2
        have HX := Lib.hid hx
        have HN := Lib.hid hn
        clear r2 j2 hx hn C1
        cases o with
        | none =>
          have hb := HN.out rfl
          subst hb
          have hG : G = none := by rw [← ht.out, HS.out, items_none HO.out]
          subst hG
          go_wp2
          go_ret
          exact ⟨false, l2, rfl, R2.out, J2.out, by simp, fun _ => rfl⟩
        | some xr =>
          obtain ⟨x, r⟩ := xr
          obtain ⟨hb, hl2, i2⟩ := HX.out x r rfl
          subst hb
          subst hl2
          have I2 := Lib.hid i2
          clear i2 HX HN
          generalize ht2 : takeL eL l2 = t2
          have HT2 := Lib.hid ht2
          clear ht2
          have F2 := Lib.hid (T1.out w2 l2 R2.out)
          rw [HT2.out] at F2
          go_wp2_with fail
          refine F2.out.mono ?_
          cases t2 with
          | some q =>
            rintro e w3 ⟨rfl, r3, k3⟩
            have R3 := Lib.hid (show RL w3 g s q from r3)
            have K3 := Lib.hid k3
            clear r3 k3
            have hG : G = some (acc ++ [x], q) := by rw [← ht.out, HS.out, items_end HO.out HT2.out]
            subst hG
            go_wp2
            go_ret
            exact ⟨true, q, rfl, R3.out, HJ.out _ _ J2.out K3.out, (by rintro xs r ⟨⟩; exact ⟨rfl, rfl, HI.out _ _ _ I2.out K3.out⟩), by simp⟩
          | none =>
            rintro e w3 ⟨rfl, r3, k3⟩
            have R3 := Lib.hid (show RL w3 g s l2 from r3)
            have I3 := Lib.hid (HI.out _ _ _ I2.out k3)
            clear r3 k3
            generalize ht3 : takeL comma l2 = t3
            have HT3 := Lib.hid ht3
            clear ht3
            have F3 := Lib.hid (T2.out w3 l2 R3.out)
            rw [HT3.out] at F3
            go_wp2_with fail
            refine F3.out.mono ?_
            cases t3 with
            | none =>
              rintro e w4 ⟨rfl, r4, k4⟩
              have R4 := Lib.hid (show RL w4 g s l2 from r4)
              have I4 := Lib.hid (HI.out _ _ _ I3.out k4)
              clear r4 k4
              have hG : G = none := by rw [← ht.out, HS.out, items_bad HO.out HT2.out (by rw [← TE.out]; exact HT3.out)]
              subst hG
              go_wp2
              go_ret
              exact ⟨false, l2, rfl, R4.out, HIJ.out _ _ I4.out, by simp, fun _ => rfl⟩
            | some q =>
              rintro e w4 ⟨rfl, r4, k4⟩
              have R4 := Lib.hid (show RL w4 g s q from r4)
              have I4 := Lib.hid (HI.out _ _ _ I3.out k4)
              clear r4 k4
              have HTT : Hid (itemsR eL one (1000 - (k + 1)) (acc ++ [x]) q = G) := Lib.hid (by rw [← ht.out, HS.out, items_more HO.out HT2.out (by rw [← TE.out]; exact HT3.out), show 1000 - (k + 1) = 999 - k from by omega])
              go_wp2
              go_roundw
              case rel => exact ⟨k + 1, acc ++ [x], q, by go_num, by omega, Lib.hid (by have := hlen.out; simp; omega), I4, R4, HTT⟩
              case measure => simp [RowKit.intOf]; omega
      · have hG : G = none := by rw [← ht.out, show 1000 - k = 0 from by omega]; rfl
        subst hG
        have hki : ¬ ((k : Int) < 1000) := by omega
        go_wp2
        go_ret
        exact ⟨false, l1, rfl, hr.out, HIJ.out _ _ hi.out, by simp, fun _ => rfl⟩

set_option maxHeartbeats 3200000 in
theorem items87 {α : Type} (one : Bs → Option (α × Bs)) (endB : ByteArray) (p3 p5 p8 : Value) (g : Nat) (s : ByteArray) (I : List α → World → Prop) (J : World → Prop)
    (hIJ : ∀ acc W, I acc W → J W) (hI : ∀ acc W W', I acc W → RK g W W' → I acc W') (hJ : ∀ W W', J W → RK g W W' → J W')
    (hone : ∀ (W : World) (acc : List α) (l : Bs), I acc W → RL W g s l → acc.length < 1000 → Calls Try.prog 87 #[p3, p5, p8] W (OnePost g s I J acc (one l)))
    (w : World) (l : Bs) (h : RL w g s l) (h0 : I [] w) :
    Calls Try.prog 85 #[.pointer (some ⟨g, 0, none⟩), .string endB, .func (.func 87) #[] #[p3, p5, p8]] w (ItemsPost g s I J (rowR endB.data.toList one l)) := by
  have HIJ := Lib.hid hIJ
  have HI := Lib.hid hI
  have HJ := Lib.hid hJ
  have H1 := Lib.hid hone
  have H := Lib.hid h
  have H0 := Lib.hid h0
  clear hIJ hI hJ hone h h0
  have T1 := Lib.hid (fun W l (h : RL W g s l) => take_any W g s endB l h)
  have T2 := Lib.hid (fun W l (h : RL W g s l) => take_any W g s ⟨#[44, 32]⟩ l h)
  have TE := Lib.hid (show (⟨#[44, 32]⟩ : ByteArray).data.toList = [44, 32] from rfl)
  unfold TakePost at T1 T2
  generalize (⟨#[44, 32]⟩ : ByteArray).data.toList = comma at *
  generalize endB.data.toList = eL at *
  go_enter Try.func85, Try.ntmps85
  generalize hG : rowR eL one l = G
  have HG := Lib.hid hG
  clear hG
  generalize ht : takeL eL l = t0
  have HT := Lib.hid ht
  clear ht
  have F0 := Lib.hid (T1.out w l H.out)
  rw [HT.out] at F0
  go_wp2_with fail
  cases t0 with
  | some q =>
    refine F0.out.mono ?_
    rintro e w1 ⟨rfl, r1, k1⟩
    have hG : G = some ([], q) := by rw [← HG.out, rowR_some HT.out]
    subst hG
    have R1 := Lib.hid r1
    have K1 := Lib.hid k1
    clear r1 k1
    go_wp2
    go_ret
    exact ⟨true, q, rfl, R1.out, HJ.out _ _ (HIJ.out _ _ H0.out) K1.out, (by rintro xs r ⟨⟩; exact ⟨rfl, rfl, HI.out _ _ _ H0.out K1.out⟩), by simp⟩
  | none =>
    refine F0.out.mono ?_
    rintro e w1 ⟨rfl, r1, k1⟩
    have R1 := Lib.hid (show RL w1 g s l from r1)
    have I1 := Lib.hid (HI.out _ _ _ H0.out k1)
    have HG2 := Lib.hid (show itemsR eL one 1000 [] l = G by rw [← HG.out, rowR_none HT.out])
    clear r1 k1 HG HT F0
    go_wp2_with fail
    go_loopw [10] (fun i wr => ∃ (k : Nat) (acc : List α) (l1 : Bs), i = .int .i64 k ∧ k ≤ 1000 ∧ Hid (acc.length = k) ∧ Hid (I acc wr) ∧ Hid (RL wr g s l1) ∧ Hid (itemsR eL one (1000 - k) acc l1 = G)) (fun i _ => 1000 - (RowKit.intOf i).toNat)
    case atStart => exact ⟨0, [], l, rfl, by omega, Lib.hid rfl, I1, R1, HG2⟩
    case round =>
      obtain ⟨k, acc, l1, rfl, hk, hlen, hi, hr, ht⟩ := hrel
      by_cases hlt : k < 1000
      · have HS : Hid (itemsR eL one (1000 - k) acc l1 = itemsR eL one ((999 - k) + 1) acc l1) := Lib.hid (by rw [show 1000 - k = (999 - k) + 1 from by omega])
        have C1 := Lib.hid (H1.out wr acc l1 hi.out hr.out (by have := hlen.out; omega))
        unfold OnePost at C1
        have hki : (k : Int) < 1000 := by omega
        generalize ho : one l1 = o
        have HO := Lib.hid ho
        clear ho
        rw [HO.out] at C1
        go_wp2_with fail
        refine C1.out.mono ?_
        rintro e w2 ⟨b, l2, rfl, r2, j2, hx, hn⟩
        have R2 := Lib.hid r2
        have J2 := Lib.hid j2
        have HX := Lib.hid hx
        have HN := Lib.hid hn
        clear r2 j2 hx hn C1
        cases o with
        | none =>
          have hb := HN.out rfl
          subst hb
          have hG : G = none := by rw [← ht.out, HS.out, items_none HO.out]
          subst hG
          go_wp2
          go_ret
          exact ⟨false, l2, rfl, R2.out, J2.out, by simp, fun _ => rfl⟩
        | some xr =>
          obtain ⟨x, r⟩ := xr
          obtain ⟨hb, hl2, i2⟩ := HX.out x r rfl
          subst hb
          subst hl2
          have I2 := Lib.hid i2
          clear i2 HX HN
          generalize ht2 : takeL eL l2 = t2
          have HT2 := Lib.hid ht2
          clear ht2
          have F2 := Lib.hid (T1.out w2 l2 R2.out)
          rw [HT2.out] at F2
          go_wp2_with fail
          refine F2.out.mono ?_
          cases t2 with
          | some q =>
            rintro e w3 ⟨rfl, r3, k3⟩
            have R3 := Lib.hid (show RL w3 g s q from r3)
            have K3 := Lib.hid k3
            clear r3 k3
            have hG : G = some (acc ++ [x], q) := by rw [← ht.out, HS.out, items_end HO.out HT2.out]
            subst hG
            go_wp2
            go_ret
            exact ⟨true, q, rfl, R3.out, HJ.out _ _ J2.out K3.out, (by rintro xs r ⟨⟩; exact ⟨rfl, rfl, HI.out _ _ _ I2.out K3.out⟩), by simp⟩
          | none =>
            rintro e w3 ⟨rfl, r3, k3⟩
            have R3 := Lib.hid (show RL w3 g s l2 from r3)
            have I3 := Lib.hid (HI.out _ _ _ I2.out k3)
            clear r3 k3
            generalize ht3 : takeL comma l2 = t3
            have HT3 := Lib.hid ht3
            clear ht3
            have F3 := Lib.hid (T2.out w3 l2 R3.out)
            rw [HT3.out] at F3
            go_wp2_with fail
            refine F3.out.mono ?_
            cases t3 with
            | none =>
              rintro e w4 ⟨rfl, r4, k4⟩
              have R4 := Lib.hid (show RL w4 g s l2 from r4)
              have I4 := Lib.hid (HI.out _ _ _ I3.out k4)
              clear r4 k4
              have hG : G = none := by rw [← ht.out, HS.out, items_bad HO.out HT2.out (by rw [← TE.out]; exact HT3.out)]
              subst hG
              go_wp2
              go_ret
              exact ⟨false, l2, rfl, R4.out, HIJ.out _ _ I4.out, by simp, fun _ => rfl⟩
            | some q =>
              rintro e w4 ⟨rfl, r4, k4⟩
              have R4 := Lib.hid (show RL w4 g s q from r4)
              have I4 := Lib.hid (HI.out _ _ _ I3.out k4)
              clear r4 k4
              have HTT : Hid (itemsR eL one (1000 - (k + 1)) (acc ++ [x]) q = G) := Lib.hid (by rw [← ht.out, HS.out, items_more HO.out HT2.out (by rw [← TE.out]; exact HT3.out), show 1000 - (k + 1) = 999 - k from by omega])
              go_wp2
              go_roundw
              case rel => exact ⟨k + 1, acc ++ [x], q, by go_num, by omega, Lib.hid (by have := hlen.out; simp; omega), I4, R4, HTT⟩
              case measure => simp [RowKit.intOf]; omega
      · have hG : G = none := by rw [← ht.out, show 1000 - k = 0 from by omega]; rfl
        subst hG
        have hki : ¬ ((k : Int) < 1000) := by omega
        go_wp2
        go_ret
        exact ⟨false, l1, rfl, hr.out, HIJ.out _ _ hi.out, by simp, fun _ => rfl⟩
end Go.Proofs.Ytmgjiipooffggaa
