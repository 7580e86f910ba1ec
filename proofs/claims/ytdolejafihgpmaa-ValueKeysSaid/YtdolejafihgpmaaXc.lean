/- Contract of slices.rotateCmpFunc over a row of pairs: two stretches side by side change places as wholes. -/
import Derived.Test.YtdolejafihgpmaaXa
namespace Go.Proofs.Ytdolejafihgpmaa
open Go.RowKit Go.Sort

theorem Held.kept {w wr : World} {g B d n : Nat} {ps : Array Pr} (h : Held w wr g B d n ps) (hB : B ≤ g) (hg : g < w.heap.size) : Kept 0 B w wr := fun i _ hi => h.near.block i (by omega) (by omega)
theorem Held.re {w wr : World} {g B d n : Nat} {ps : Array Pr} (h : Held w wr g B d n ps) (hB : B ≤ g) (hg : g < w.heap.size) : Held wr wr g B d n ps :=
  ⟨h.sz, h.row, Near.refl _ _, fun j hj => ⟨Rd.imp (h.kept hB hg) (Nat.le_refl _) (Nat.le_refl _) (Nat.le_refl _) (h.els j hj).1, Rd.imp (h.kept hB hg) (Nat.le_refl _) (Nat.le_refl _) (Nat.le_refl _) (h.els j hj).2⟩⟩
theorem Held.on {w wr wx : World} {g B d n : Nat} {ps qs : Array Pr} (h : Held w wr g B d n ps) (hB : B ≤ g) (hg : g < w.heap.size) (k : Held wr wx g B d n qs) : Held w wx g B d n qs := by
  have hk : Kept 0 B wr w := fun i a b => (h.kept hB hg i a b).symm
  exact ⟨k.sz, k.row, h.near.trans k.near, fun j hj => ⟨Rd.imp hk (Nat.le_refl _) (Nat.le_refl _) (Nat.le_refl _) (k.els j hj).1, Rd.imp hk (Nat.le_refl _) (Nat.le_refl _) (Nat.le_refl _) (k.els j hj).2⟩⟩
theorem Held.gz {w wr : World} {g B d n : Nat} {ps : Array Pr} (h : Held w wr g B d n ps) (hg : g < w.heap.size) : g < wr.heap.size := Nat.lt_of_lt_of_le hg h.near.size

theorem swapRange_at (w : World) (g B d n cap : Nat) (ps : Array Pr) (h : Held w w g B d n ps) (a b k : Nat) (x y z : Int) (hx : x = (a : Int)) (hy : y = (b : Int)) (hz : z = (k : Int)) (hab : a + k ≤ b) (hb : b + k ≤ n) (hn : n ≤ 100000) :
    Calls Try.prog 67 #[.slice (some ⟨g, 0, none⟩) n cap, .int .i64 x, .int .i64 y, .int .i64 z, .func (.func 60) #[] #[]] w fun e w' => e = .returned (.tuple #[]) ∧ Held w w' g B d n (swpR ps a b k) := by
  subst hx hy hz
  exact swapRange_any w g B d n cap ps h a b k hab hb hn

def RotPost (w : World) (g B d n : Nat) (ps : Array Pr) (a m b : Nat) (e : Ending) (w' : World) : Prop := e = .returned (.tuple #[]) ∧ ∃ ps', Held w w' g B d n ps' ∧ Rot ps a m b ps'
set_option maxHeartbeats 4000000 in
set_option maxRecDepth 100000 in
theorem rotate_any (w : World) (g B d n cap : Nat) (ps : Array Pr) (h : Held w w g B d n ps) (hB : B ≤ g) (hg : g < w.heap.size) (a m b : Nat) (ham : a < m) (hmb : m < b) (hb : b ≤ n) (hn : n ≤ 100000) :
    Calls Try.prog 66 #[.slice (some ⟨g, 0, none⟩) n cap, .int .i64 a, .int .i64 m, .int .i64 b, .func (.func 60) #[] #[]] w (RotPost w g B d n ps a m b) := by
  have H := Lib.hid h
  clear h
  go_enter Try.func66, Try.ntmps66
  go_wp2
  go_loopw [10, 11] (fun vi vj wr => ∃ (i j : Nat) (dk : Array Pr), vi = .int .i64 i ∧ vj = .int .i64 j ∧ 0 < i ∧ 0 < j ∧ i ≤ m ∧ m + j ≤ n ∧ Hid (Held w wr g B d n dk) ∧ Hid (∀ d', Rot dk (m - i) m (m + j) d' → Rot ps a m b d')) (fun vi vj _ => (intOf vi).toNat + (intOf vj).toNat)
  case atStart =>
    exact ⟨m - a, b - m, ps, by go_num, by go_num, by omega, by omega, by omega, by omega, H, Lib.hid fun d' hd => by
      rwa [show m - (m - a) = a by omega, show m + (b - m) = b by omega] at hd⟩
  case round =>
    obtain ⟨i, j, dk, rfl, rfl, hi0, hj0, him, hjn, hH, HR⟩ := hrel
    have SZ := Lib.hid hH.out.sz
    rcases Nat.lt_trichotomy i j with hlt | heq | hlt
    · have b1 : ((i : Int) != (j : Int)) = true := by simp; omega
      have b2 : ¬ (j : Int) < (i : Int) := by omega
      go_wp2_with fail
      refine (swapRange_at _ g B d n cap dk (hH.out.re hB hg) (m - i) (m + j - i) i _ _ _ (by omega) (by omega) rfl (by omega) (by omega) hn).mono ?_
      rintro e w1 ⟨rfl, hh⟩
      have HH := Lib.hid (hH.out.on hB hg hh)
      clear hh
      go_wp2
      go_roundw
      case rel =>
        exact ⟨i, j - i, _, rfl, by go_num, hi0, by omega, him, by omega, HH, Lib.hid fun d' hd => HR.out d' (rot_less hlt him (by rw [SZ.out]; omega) hd)⟩
      case measure => simp [intOf]; omega
    · subst heq
      have b1 : ((i : Int) != (i : Int)) = false := by simp
      go_wp2_with fail
      refine (swapRange_at _ g B d n cap dk (hH.out.re hB hg) (m - i) m i _ _ _ (by omega) (by omega) rfl (by omega) (by omega) hn).mono ?_
      rintro e w1 ⟨rfl, hh⟩
      have HH := Lib.hid (hH.out.on hB hg hh)
      clear hh
      go_wp2
      go_end0
      exact ⟨rfl, _, HH.out, HR.out _ (rot_even dk i m him (by rw [SZ.out]; omega))⟩
    · have b1 : ((i : Int) != (j : Int)) = true := by simp; omega
      have b2 : (j : Int) < (i : Int) := by omega
      go_wp2_with fail
      refine (swapRange_at _ g B d n cap dk (hH.out.re hB hg) (m - i) m j _ _ _ (by omega) (by omega) rfl (by omega) (by omega) hn).mono ?_
      rintro e w1 ⟨rfl, hh⟩
      have HH := Lib.hid (hH.out.on hB hg hh)
      clear hh
      go_wp2
      go_roundw
      case rel =>
        exact ⟨i - j, j, _, by go_num, rfl, by omega, hj0, by omega, hjn, HH, Lib.hid fun d' hd => HR.out d' (rot_more hlt him (by rw [SZ.out]; omega) hd)⟩
      case measure => simp [intOf]; omega
end Go.Proofs.Ytdolejafihgpmaa
