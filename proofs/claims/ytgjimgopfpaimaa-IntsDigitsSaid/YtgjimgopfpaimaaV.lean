/- The document's numbers of any greatness: contract of size. -/
import Derived.Test.YtgjimgopfpaimaaU
namespace Go.Proofs.Ytgjimgopfpaimaa
open Go.RowKit

theorem quiet_eq {P : Program} {f : FuncId} {args : Array Value} {w : World} {n : Nat} {v : Value}
    (h : Calls P f args (w.drewN n) fun e w' => e = .returned v ∧ w.drewN n = w') : Calls P f args (w.drewN n) fun e w'' => e = .returned v ∧ ∃ m, w'' = w.drewN m :=
  h.mono fun _ _ ⟨he, hm⟩ => ⟨he, n, hm.symm⟩

def SizePost (a b : List Int) (e : Ending) : Prop := ∃ r, e = .returned (.int .i64 r) ∧ (r < 0 ↔ valD a < valD b)

set_option maxHeartbeats 800000 in
theorem size_any (A1 A2 : Option Addr) (B n1 n2 c1 c2 : Nat) (a b : List Int) (w : World) (h1 : Ints w B A1 n1 a) (h2 : Ints w B A2 n2 b) (hB : B ≤ w.heap.size) (ha : Digs a) (hb : Digs b) (na : Norm a) (nb : Norm b) (k1 : n1 ≤ 100000) (k2 : n2 ≤ 100000) :
    Calls Try.prog 45 #[.slice A1 n1 c1, .slice A2 n2 c2] w fun e w' => SizePost a b e ∧ Below w.heap.size w w' := by
  have H1 := Lib.hid h1
  have H2 := Lib.hid h2
  have HD1 := Lib.hid ha
  have HD2 := Lib.hid hb
  have HN1 := Lib.hid na
  have HN2 := Lib.hid nb
  clear h1 h2 ha hb na nb
  by_cases hne : n1 = n2
  · subst hne
    go_enter Try.func45, Try.ntmps45
    go_wp2
    go_loopw [5] (fun i wr => ∃ k : Nat, k ≤ n1 ∧ i = .int .i64 ((k : Int) - 1) ∧ Hid (a.drop k = b.drop k) ∧ Hid (Below w.heap.size w wr)) (fun i _ => (intOf i + 1).toNat)
    case atStart => exact ⟨n1, Nat.le_refl _, rfl, Lib.hid (by rw [List.drop_eq_nil_of_le (by have := H1.out.1; omega), List.drop_eq_nil_of_le (by have := H2.out.1; omega)]), Lib.hid (Below.refl _ _)⟩
    case round =>
      obtain ⟨k, hk, rfl, hd, hbel⟩ := hrel
      by_cases h0 : 0 < k
      · obtain ⟨j, rfl⟩ : ∃ j, k = j + 1 := ⟨k - 1, by omega⟩
        obtain ⟨b1, off1, rfl, hb1, hc1⟩ := (H1.out.below hbel.out hB).2.2.2 (by omega)
        obtain ⟨b2, off2, rfl, hb2, hc2⟩ := (H2.out.below hbel.out hB).2.2.2 (by omega)
        have g1 := hc1 j (by omega)
        have g2 := hc2 j (by omega)
        clear hc1 hc2
        have d1 := digs_getD HD1.out j
        have d2 := digs_getD HD2.out j
        have hl1 : j < a.length := by have := H1.out.1; omega
        have hl2 : a.length = b.length := by have := H1.out.1; have := H2.out.1; omega
        have P1 := Lib.hid (part_lt HD1.out HD2.out j hl1 hl2 hd.out)
        have P2 := Lib.hid (part_lt HD2.out HD1.out j (by omega) hl2.symm hd.out.symm)
        have DC1 := Lib.hid (drop_cons a j hl1)
        have DC2 := Lib.hid (drop_cons b j (by omega))
        clear hl2
        generalize a.getD j 0 = x at g1 d1 P1 P2 DC1
        generalize b.getD j 0 = y at g2 d2 P1 P2 DC2
        have hji : ((j + 1 : Nat) : Int) - 1 = (j : Int) := by omega
        rw [hji]
        clear hji
        have hjn : (j : Int) < (n1 : Int) := by omega
        by_cases hxy : x = y
        · subst hxy
          go_wp2
          go_region
          go_wp2
          go_roundw
          case rel => exact ⟨j, by omega, rfl, Lib.hid (by rw [DC1.out, DC2.out, hd.out]), Lib.hid hbel.out.drew⟩
          case measure => simp [intOf]
        · have hne : (x != y) = true := by rw [bne_iff_ne]; exact hxy
          have HX := Lib.hid hxy
          clear hxy
          go_wp2
          go_region
          go_wp2
          go_region
          go_wp2
          go_ret
          refine ⟨⟨x - y, rfl, ?_⟩, hbel.out.drew.drew⟩
          constructor
          · intro h; exact P1.out (by omega)
          · intro h
            have := HX.out
            rcases Int.lt_or_gt_of_ne this with h' | h'
            · omega
            · have := P2.out h'; omega
      · obtain rfl : k = 0 := by omega
        have HE : Hid (a = b) := Lib.hid (by have := hd.out; rwa [List.drop_zero, List.drop_zero] at this)
        go_wp2
        go_ret
        exact ⟨⟨0, rfl, by rw [HE.out]; omega⟩, hbel.out⟩
  · have hne' : ((n1 : Int) != (n2 : Int)) = true := by rw [bne_iff_ne]; omega
    have hnn : (n1 != n2) = true := by rw [bne_iff_ne]; exact hne
    go_enter Try.func45, Try.ntmps45
    go_wp2
    go_ret
    refine ⟨⟨(n1 : Int) - n2, rfl, ?_⟩, Below.refl _ _⟩
    have e1 := H1.out.1
    have e2 := H2.out.1
    constructor
    · intro h; exact norm_len_lt HD1.out HD2.out HN2.out (by omega)
    · intro h
      rcases Nat.lt_or_ge n1 n2 with h' | h'
      · omega
      · have := norm_len_lt HD2.out HD1.out HN1.out (by omega); omega
end Go.Proofs.Ytgjimgopfpaimaa
