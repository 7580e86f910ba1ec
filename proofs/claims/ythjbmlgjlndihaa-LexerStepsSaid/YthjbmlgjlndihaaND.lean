/- Two rows of the same tokens; the iterator's value. -/
import Derived.Test.YthjbmlgjlndihaaNC
import Derived.Deep.CutBlock
namespace Go.Proofs.Ythjbmlgjlndihaa
set_option maxRecDepth 100000
open Go.RowKit Go.Sort Go.Shelf

theorem drewN_bel (B : Nat) (w : World) (n : Nat) : Below B w (w.drewN n) := ⟨rfl, rfl, rfl, Nat.le_refl _, fun _ _ => rfl⟩
set_option maxHeartbeats 1600000 in
theorem same_any (w : World) (A B : Option Addr) (n c d : Nat) (l : List TK) (hA : TRow w A c l) (hB : TRow w B d l) (hn : n = l.length) (hs : n ≤ 1000000) :
    Calls Try.prog 12 #[.slice A n c, .slice B n d] w fun e w' => e = .returned (.bool true) ∧ Below w.heap.size w w' := by
  have HN := Lib.hid hn
  have HA := Lib.hid (fun W' (hb : Below w.heap.size w W') => hA.next hb)
  have HB := Lib.hid (fun W' (hb : Below w.heap.size w W') => hB.next hb)
  clear hA hB hn
  go_enter Try.func12, Try.ntmps12
  go_wp2_with fail
  go_loopw [5] (fun v wr => ∃ k : Nat, v = .int .i64 k ∧ k ≤ n ∧ Hid (Below w.heap.size w wr)) (fun v _ => n - (RowKit.intOf v).toNat)
  case atStart => exact ⟨0, rfl, by omega, Lib.hid (Below.refl _ _)⟩
  case round =>
    obtain ⟨k, rfl, hk, hbel⟩ := hrel
    by_cases hlt : k < n
    · have hlti : (k : Int) < (n : Int) := by omega
      obtain ⟨b1, o1, x, rfl, hb1, hx1, q1⟩ := (HA.out wr hbel.out).elem (k := k) (by have := HN.out; omega)
      obtain ⟨b2, o2, y, rfl, hb2, hx2, q2⟩ := (HB.out wr hbel.out).elem (k := k) (by have := HN.out; omega)
      rw [hx1] at hx2
      injection hx2 with hx2
      subst hx2
      obtain ⟨x0, x1, x2, x3⟩ := q1
      obtain ⟨y0, y1, y2, y3⟩ := q2
      clear hx1
      go_wp2_with fail
      go_quiet (fail)
      go_wp2_with fail
      refine ⟨⟨k + 1, by go_num, by omega, Lib.hid ?_⟩, by simp [RowKit.intOf]; omega⟩
      exact hbel.out.trans (drewN_bel _ _ _)
    · have hlti : (n : Int) ≤ (k : Int) := by omega
      go_wp2
      go_ret
      exact ⟨rfl, hbel.out⟩
theorem tokens_any (w : World) (A : Option Addr) (n c : Nat) (l : Bs) (hA : BRow w A c l) (hn : n = l.length) (hs : n ≤ 4000) :
    Calls Try.prog 11 #[.slice A n c] w fun e w' => ∃ g, e = .returned (.func (.func 19) #[] #[.pointer (some ⟨g, 0, none⟩)]) ∧ w.heap.size ≤ g ∧ Boxed w' g 48 (.string (bs l)) ∧ Below w.heap.size w w' := by
  have hcv := hA.conv 48 Try.underlying48
  rw [← hn] at hcv
  have hni : (n : Int) ≤ 4000 := by omega
  have hb := Lib.hid (below_new w (.cells #[.string (bs l)] 48))
  have hx := Lib.hid (Boxed.new w 48 (.string (bs l)))
  generalize bs l = S at hcv hb hx ⊢
  clear hA hn
  go_enter Try.func11, Try.ntmps11
  go_wp2
  go_ret
  exact ⟨_, rfl, Nat.le_refl _, hx.out, hb.out⟩
end Go.Proofs.Ythjbmlgjlndihaa
