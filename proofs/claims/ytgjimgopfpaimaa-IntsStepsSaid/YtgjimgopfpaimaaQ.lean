/- IntsSteps: of any slice of numbers and any number the law's call answers true. -/
import Derived.Test.YtgjimgopfpaimaaP
namespace Go.Proofs.Ytgjimgopfpaimaa
open Go.RowKit

theorem Ints.rest {w : World} {B n c k : Nat} {A : Option Addr} {l : List Int} (h : Ints w B A n l) (hk : k ≤ n) (hc : n ≤ c) : Ints w B (if c = k then A else A.map (·.add k)) (n - k) (l.drop k) := by
  rcases Nat.eq_zero_or_pos (n - k) with h0 | h0
  · have : l.drop k = [] := List.drop_eq_nil_of_le (by have := h.1; omega)
    rw [this, h0]
    exact ⟨rfl, by omega, by simp, fun h => absurd h (by omega)⟩
  · obtain ⟨b, off, rfl, _, _⟩ := h.2.2.2 (by omega)
    rw [if_neg (by omega)]
    have e : (⟨b, off, none⟩ : Addr).add k = ⟨b, off + k, none⟩ := by unfold Addr.add; split <;> simp_all
    simp only [Option.map_some, e]
    exact h.back hk
theorem Ints.one (w : World) (x : Int) (hx : fitsB x = true) : Ints (w.alloc (.cells #[.int .i64 x] 3)) (w.heap.size + 1) (some ⟨w.heap.size, 0, none⟩) 1 [x] := by
  refine ⟨rfl, by omega, ?_, fun _ => ⟨_, _, rfl, by omega, ?_⟩⟩
  · intro u hu; simp at hu; subst hu; exact hx
  · intro j hj
    rw [World.cell?_alloc_at _ _ _ _ rfl]
    obtain rfl : j = 0 := by omega
    rfl

theorem below_app {w w1 w2 : World} {base : Nat} {v : Value} {l : List Int} (hb : Below w.heap.size w w1) (ho : OwnInts w1 base v l) (hB : w.heap.size ≤ base) (hg : w1.grownBy w2 v.ownBlock) : Below w.heap.size w w2 :=
  hb.grown hg hb.size (fun g e => Nat.le_trans hB (World.ownsRow.lt ho g e).1)

theorem OwnInts.alloc {w : World} {base : Nat} {v : Value} {l : List Int} (h : OwnInts w base v l) (o : Obj) : OwnInts (w.alloc o) base v l := World.ownsRow.alloc h o

/-- What the law's first test asks. -/
def StepTests (e1 x2 e2 x3 e3 : Int) : Prop :=
  ((e1 == 0) = true ∧ (e1 != 0) = false ∧ (x2 != x3) = false ∧ (e2 != e3) = false) ∨ ((e1 == 0) = false ∧ (e1 != 0) = true ∧ (e3 != e1) = false)

set_option maxHeartbeats 3200000 in
set_option maxRecDepth 100000 in
theorem steps_core (A : Option Addr) (n c k : Nat) (l : List Int) (cut : Int) (w : World) (h : Ints w w.heap.size A n l) (hnc : n ≤ c) (hcm : c ≤ maxLen) (hn : n ≤ 200) (hA : A = none → c = 0)
    (hk : wrap64 ((IntKind.u64.wrap cut).tmod ((n : Int) + 1)) = (k : Int)) (hkn : k ≤ n)
    (x1 e1 x2 e2 x3 e3 p r : Int) (hx1 : Hid (fitsB x1 = true)) (q1 : Hid (valOf (runs (· + ·) 0 (l.take k)) = x1)) (q2 : Hid (errOf (runs (· + ·) 0 (l.take k)) = e1))
    (q3 : Hid (valOf (runs (· + ·) 0 ([] ++ [x1] ++ l.drop k)) = x2)) (q4 : Hid (errOf (runs (· + ·) 0 ([] ++ [x1] ++ l.drop k)) = e2))
    (q5 : Hid (valOf (runs (· + ·) 0 l) = x3)) (q6 : Hid (errOf (runs (· + ·) 0 l) = e3))
    (q7 : Hid (valOf (runs (· * ·) 1 l) = p)) (q8 : Hid (errOf (runs (· * ·) 1 l) = r))
    (q9 : Hid (valOf (runs (· * ·) 1 ([] ++ l ++ [1])) = p)) (q10 : Hid (errOf (runs (· * ·) 1 ([] ++ l ++ [1])) = r))
    (F2 : Hid (∀ x ∈ [] ++ [x1] ++ l.drop k, fitsB x = true)) (F4 : Hid (∀ x ∈ [] ++ l ++ [1], fitsB x = true))
    (ht : StepTests e1 x2 e2 x3 e3) :
    Calls Try.prog 8 #[.slice A n c, .int .i64 cut] w fun e w' => e = .returned (.bool true) ∧ Below w.heap.size w w' := by
  have HI := Lib.hid h
  have HA := Lib.hid hA
  unfold maxLen at hcm
  clear h hA
  rcases ht with ⟨t1, t2, t3, t4⟩ | ⟨t1, t2, t3⟩
  all_goals
    by_cases hck : c = k
    · have HZ : Hid (∀ (W : World) (B : Nat), Ints W B A 0 (l.drop k)) := Lib.hid fun W B => by
        rw [List.drop_eq_nil_of_le (by have := HI.out.1; omega)]
        exact ⟨rfl, by omega, by simp, fun h => absurd h (by omega)⟩
      have e1 : k = n := by omega
      subst e1
      have e2 : k = c := hck.symm
      subst e2
      go_enter Try.func8, Try.ntmps8
      go_wp2_with fail
      refine (add_any _ _ _ _ _ _ (HI.out.front k hkn)).mono ?_
      rintro e w' ⟨rfl, rfl⟩
      rw [q1.out, q2.out]
      go_wp2_with (first
        | (at_builtin
           refine append_ints rfl (.tmp 37) (.tmp 39) rfl w.heap.size (.slice none 0 0) [] rfl (ownInts_nil _ _) (some ⟨w.heap.size, 0, none⟩) (w.heap.size + 1) 1 1 [x1] rfl (by simp) (Ints.one w x1 hx1.out) (by simp) (by simp) ?_
           intro v1 w1 ho hg
           have O1 := Lib.hid ho
           have B1 : Hid (Below w.heap.size w w1) := Lib.hid ((below_new _ _).grown hg (by simp) (by simp [Value.ownBlock]))
           clear ho hg)
        | (at_builtin
           refine append_ints rfl (.tmp 41) (.tmp 44) rfl w.heap.size v1 ([] ++ [x1]) rfl O1.out A w.heap.size 0 0 (l.drop k) rfl (fun _ => rfl) (HZ.out _ _) (by simp) B1.out.size ?_
           intro v2 w2 ho hg
           have O2 := Lib.hid ho
           have B2 : Hid (Below w.heap.size w w2) := Lib.hid (below_app B1.out O1.out (Nat.le_refl _) hg)
           clear ho hg))
      obtain ⟨g2, cap2, hv2, hc2, hm2, _, I2⟩ := O2.out.ints (by simp) (by have := HI.out.1; simp; omega) F2.out
      have J2 := Lib.hid I2
      clear I2
      subst hv2
      go_wp2_with fail
      refine (add_any _ _ _ _ _ _ J2.out).mono ?_
      rintro e w' ⟨rfl, rfl⟩
      rw [q3.out, q4.out]
      go_wp2_with fail
      refine (add_any _ _ _ _ _ _ (HI.out.below B2.out (Nat.le_refl _))).mono ?_
      rintro e w' ⟨rfl, rfl⟩
      rw [q5.out, q6.out]
      go_wp2_with (first
        | (at_builtin
           refine append_ints rfl (.tmp 77) (.tmp 78) rfl w.heap.size (.slice none 0 0) [] rfl (ownInts_nil _ _) A w.heap.size k k l rfl HA.out (HI.out.below B2.out (Nat.le_refl _)) (by simp; omega) B2.out.size ?_
           intro v3 w3 ho hg
           have O3 := Lib.hid ho
           have B3 : Hid (Below w.heap.size w w3) := Lib.hid (B2.out.grown hg B2.out.size (by simp [Value.ownBlock]))
           clear ho hg)
        | (at_builtin
           refine append_ints rfl (.tmp 80) (.tmp 81) rfl w.heap.size v3 ([] ++ l) rfl (O3.out.alloc _) (some ⟨w3.heap.size, 0, none⟩) (w3.heap.size + 1) 1 1 [1] rfl (by simp) (Ints.one w3 1 (by decide)) (by have := HI.out.1; simp; omega) (by have := B3.out.size; simp; omega) ?_
           intro v4 w4 ho hg
           have O4 := Lib.hid ho
           have B4 : Hid (Below w.heap.size w w4) := Lib.hid ((B3.out.alloc B3.out.size _).grown hg (by have := B3.out.size; simp; omega) (fun g e => (World.ownsRow.lt O3.out g e).1))
           clear ho hg))
      obtain ⟨g4, cap4, hv4, hc4, hm4, _, I4⟩ := O4.out.ints (by simp) (by have := HI.out.1; simp; omega) F4.out
      have J4 := Lib.hid I4
      clear I4
      subst hv4
      have hlen4 : ([] ++ l ++ [1]).length = k + 1 := by have := HI.out.1; simp; omega
      rw [hlen4] at hc4 J4
      rw [hlen4]
      unfold maxLen at hm4
      have H4 := Lib.hid hlen4
      clear hlen4
      have J5 := Lib.hid (J4.out.front k (by omega))
      have e5 : List.take k (([] : List Int) ++ l ++ [1]) = l := by have := HI.out.1; simp [← this]
      rw [e5] at J5
      clear e5
      refine (mul_any _ _ _ _ _ _ (HI.out.below B4.out (Nat.le_refl _))).mono ?_
      rintro e w' ⟨rfl, rfl⟩
      rw [q7.out, q8.out]
      go_wp2_with fail
      refine (mul_any _ _ _ _ _ _ J4.out).mono ?_
      rintro e w' ⟨rfl, rfl⟩
      rw [q9.out, q10.out]
      go_wp2_with fail
      refine (same_yes _ _ w4.heap.size k _ _ l _ J5.out ((HI.out.below B4.out (Nat.le_refl _)).more B4.out.size) (Nat.le_refl _)).mono ?_
      rintro e w5 ⟨rfl, hb⟩
      have B5 := Lib.hid hb
      clear hb
      go_wp2_with fail
      refine (known_any _).mono ?_
      rintro e w6 ⟨rfl, hb⟩
      have B6 := Lib.hid hb
      clear hb
      go_wp2
      go_ret
      exact ⟨rfl, bnext (bnext B4.out B5.out) B6.out⟩

    · have HR := Lib.hid (HI.out.rest hkn hnc)
      have hkc : (k : Int) ≤ c := by omega
      go_enter Try.func8, Try.ntmps8
      go_wp2_with fail
      refine (add_any _ _ _ _ _ _ (HI.out.front k hkn)).mono ?_
      rintro e w' ⟨rfl, rfl⟩
      rw [q1.out, q2.out]
      go_wp2_with (first
        | (at_builtin
           refine append_ints rfl (.tmp 37) (.tmp 39) rfl w.heap.size (.slice none 0 0) [] rfl (ownInts_nil _ _) (some ⟨w.heap.size, 0, none⟩) (w.heap.size + 1) 1 1 [x1] rfl (by simp) (Ints.one w x1 hx1.out) (by simp) (by simp) ?_
           intro v1 w1 ho hg
           have O1 := Lib.hid ho
           have B1 : Hid (Below w.heap.size w w1) := Lib.hid ((below_new _ _).grown hg (by simp) (by simp [Value.ownBlock]))
           clear ho hg)
        | (at_builtin
           refine append_ints rfl (.tmp 41) (.tmp 44) rfl w.heap.size v1 ([] ++ [x1]) rfl O1.out (A.map (·.add k)) w.heap.size (n - k) (c - k) (l.drop k) rfl (fun e => by have := HA.out (by simpa using e); omega) (by simpa [hck] using HR.out.below B1.out (Nat.le_refl _)) (by simp; omega) B1.out.size ?_
           intro v2 w2 ho hg
           have O2 := Lib.hid ho
           have B2 : Hid (Below w.heap.size w w2) := Lib.hid (below_app B1.out O1.out (Nat.le_refl _) hg)
           clear ho hg))
      obtain ⟨g2, cap2, hv2, hc2, hm2, _, I2⟩ := O2.out.ints (by simp) (by have := HI.out.1; simp; omega) F2.out
      have J2 := Lib.hid I2
      clear I2
      subst hv2
      go_wp2_with fail
      refine (add_any _ _ _ _ _ _ J2.out).mono ?_
      rintro e w' ⟨rfl, rfl⟩
      rw [q3.out, q4.out]
      go_wp2_with fail
      refine (add_any _ _ _ _ _ _ (HI.out.below B2.out (Nat.le_refl _))).mono ?_
      rintro e w' ⟨rfl, rfl⟩
      rw [q5.out, q6.out]
      go_wp2_with (first
        | (at_builtin
           refine append_ints rfl (.tmp 77) (.tmp 78) rfl w.heap.size (.slice none 0 0) [] rfl (ownInts_nil _ _) A w.heap.size n c l rfl HA.out (HI.out.below B2.out (Nat.le_refl _)) (by simp; omega) B2.out.size ?_
           intro v3 w3 ho hg
           have O3 := Lib.hid ho
           have B3 : Hid (Below w.heap.size w w3) := Lib.hid (B2.out.grown hg B2.out.size (by simp [Value.ownBlock]))
           clear ho hg)
        | (at_builtin
           refine append_ints rfl (.tmp 80) (.tmp 81) rfl w.heap.size v3 ([] ++ l) rfl (O3.out.alloc _) (some ⟨w3.heap.size, 0, none⟩) (w3.heap.size + 1) 1 1 [1] rfl (by simp) (Ints.one w3 1 (by decide)) (by have := HI.out.1; simp; omega) (by have := B3.out.size; simp; omega) ?_
           intro v4 w4 ho hg
           have O4 := Lib.hid ho
           have B4 : Hid (Below w.heap.size w w4) := Lib.hid ((B3.out.alloc B3.out.size _).grown hg (by have := B3.out.size; simp; omega) (fun g e => (World.ownsRow.lt O3.out g e).1))
           clear ho hg))
      obtain ⟨g4, cap4, hv4, hc4, hm4, _, I4⟩ := O4.out.ints (by simp) (by have := HI.out.1; simp; omega) F4.out
      have J4 := Lib.hid I4
      clear I4
      subst hv4
      have hlen4 : ([] ++ l ++ [1]).length = n + 1 := by have := HI.out.1; simp; omega
      rw [hlen4] at hc4 J4
      rw [hlen4]
      unfold maxLen at hm4
      have H4 := Lib.hid hlen4
      clear hlen4
      have J5 := Lib.hid (J4.out.front n (by omega))
      have e5 : List.take n (([] : List Int) ++ l ++ [1]) = l := by have := HI.out.1; simp [← this]
      rw [e5] at J5
      clear e5
      refine (mul_any _ _ _ _ _ _ (HI.out.below B4.out (Nat.le_refl _))).mono ?_
      rintro e w' ⟨rfl, rfl⟩
      rw [q7.out, q8.out]
      go_wp2_with fail
      refine (mul_any _ _ _ _ _ _ J4.out).mono ?_
      rintro e w' ⟨rfl, rfl⟩
      rw [q9.out, q10.out]
      go_wp2_with fail
      refine (same_yes _ _ w4.heap.size n _ _ l _ J5.out ((HI.out.below B4.out (Nat.le_refl _)).more B4.out.size) (Nat.le_refl _)).mono ?_
      rintro e w5 ⟨rfl, hb⟩
      have B5 := Lib.hid hb
      clear hb
      go_wp2_with fail
      refine (known_any _).mono ?_
      rintro e w6 ⟨rfl, hb⟩
      have B6 := Lib.hid hb
      clear hb
      go_wp2
      go_ret
      exact ⟨rfl, bnext (bnext B4.out B5.out) B6.out⟩

end Go.Proofs.Ytgjimgopfpaimaa
