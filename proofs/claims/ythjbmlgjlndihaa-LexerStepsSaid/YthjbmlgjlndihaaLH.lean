/- What the chapter's examples fix. -/
import Derived.Test.YthjbmlgjlndihaaLG
import Derived.Lib.SlBytesConst
import Derived.Lib.ConvBytes
namespace Go.Proofs.Ythjbmlgjlndihaa
set_option maxRecDepth 100000
open Go.RowKit

def kb1 : Bs := [103, 46, 104, 97, 115, 40, 39, 97, 92, 39, 98, 39, 44, 32, 45, 49, 50, 41]
def kb2 : Bs := [103, 32, 49, 50, 120]
def kt1 : List TK := [⟨1, 0, [103], 0⟩, ⟨4, 1, [46], 0⟩, ⟨1, 2, [104, 97, 115], 0⟩, ⟨4, 5, [40], 0⟩, ⟨3, 6, [97, 39, 98], 0⟩, ⟨4, 12, [44], 0⟩, ⟨2, 14, [45, 49, 50], -12⟩, ⟨4, 17, [41], 0⟩]
theorem known1 : allL kb1 = (kt1, 0, 0) := by kernel_rfl
theorem known2 : allL kb2 = ([], 2, 30) := by kernel_rfl
theorem all_post {w : World} {l : Bs} {e : Ending} {w' : World} {ts : List TK} {p r : Int} (hR : allL l = (ts, p, r)) (h : AllPost w l e w') :
    ∃ A c, e = .returned (.tuple #[.slice A ts.length c, .int .i64 p, .int .i64 r]) ∧ TOwn w' w.heap.size A ts.length c ts ∧ Below w.heap.size w w' := by
  unfold AllPost at h
  rw [hR] at h
  exact h
theorem brow_new (w : World) (l : Bs) (m : Nat × Nat) (h : l.length ≤ maxLen) : BRow (w.alloc (.cells (l.map u8v).toArray 5 m)) (some ⟨w.heap.size, 0, none⟩) l.length l :=
  ⟨Nat.le_refl _, h, fun e => (by cases e), fun h0 => ⟨w.heap.size, 0, rfl, by simp, fun j x hj => by
    have := World.alloc_heap_new w (.cells (l.map u8v).toArray 5 m)
    unfold World.cell?
    simp only [this]
    simp [hj]⟩⟩
set_option maxHeartbeats 3200000 in
theorem known_any (w : World) : Calls Try.prog 9 #[] w fun e w' => e = .returned (.bool true) ∧ Below w.heap.size w w' := by
  have cA : Hid (∀ W, BRow W (some ⟨w.heap.size, 0, none⟩) 18 kb1 → Calls Try.prog 13 #[.slice (some ⟨w.heap.size, 0, none⟩) 18 18] W (AllPost W kb1)) := Lib.hid (fun W h => all_short W _ 18 kb1 h (by decide))
  have cB : Hid (∀ W g, BRow W (some ⟨g, 0, none⟩) 5 kb2 → Calls Try.prog 13 #[.slice (some ⟨g, 0, none⟩) 5 5] W (AllPost W kb2)) := Lib.hid (fun W g h => all_short W _ 5 kb2 h (by decide))
  have b1 := Lib.hid (brow_new w kb1 (18, 19) (by unfold maxLen; decide))
  have b2 := Lib.hid (fun W => brow_new W kb2 (5, 6) (by unfold maxLen; decide))
  have n1 := Lib.hid (below_new w (.cells (kb1.map u8v).toArray 5 (18, 19)))
  have n2 := Lib.hid (fun W => below_new W (.cells (kb2.map u8v).toArray 5 (5, 6)))
  have kc := fun (w : World) (C : Array Value) (n c : Nat) => Lib.run_convert_bytes_const (P := Try.prog) w 22 5 C n c Try.underlying22 Try.underlying5
  have s91 : Hid (∀ W, Calls Try.prog 16 #[.int .u8 91] W fun e w' => e = .returned (.bool true) ∧ W = w') := Lib.hid (fun W => sign_any 91 W)
  have s97 : Hid (∀ W, Calls Try.prog 16 #[.int .u8 97] W fun e w' => e = .returned (.bool false) ∧ W = w') := Lib.hid (fun W => sign_any 97 W)
  go_enter Try.func9, Try.ntmps9
  go_wp2_with fail
  refine (cA.out _ b1.out).mono ?_
  intro e w1 h1
  obtain ⟨A, c, he, hO, hB⟩ := all_post known1 h1
  rw [show kt1.length = 8 from rfl] at he hO
  subst he
  have hR := hO.row
  have HB1 := Lib.hid (bnext n1.out hB)
  clear h1 hO hB
  go_wp2_with fail
  refine (cB.out _ _ (b2.out _)).mono ?_
  intro e w2 h2
  obtain ⟨A2, c2, rfl, hO2, hB2⟩ := all_post known2 h2
  have hR2 := (hR.next (n2.out w1)).next hB2
  have HB2 := Lib.hid (bnext HB1.out (bnext (n2.out w1) hB2))
  clear h2 hO2 hB2 hR
  obtain ⟨b, off, rfl, hb, hc⟩ := hR2.at_ (by decide)
  obtain ⟨S1, hS1⟩ : ∃ S, S = bs [104, 97, 115] := ⟨_, rfl⟩
  obtain ⟨S2, hS2⟩ : ∃ S, S = bs [97, 39, 98] := ⟨_, rfl⟩
  obtain ⟨S3, hS3⟩ : ∃ S, S = bs [41] := ⟨_, rfl⟩
  have e22 : w2.cell? ⟨b, off + 8 + 2, none⟩ = some (.string S1) := by rw [hS1]; exact (hc 2 _ rfl).c2
  have e40 : w2.cell? ⟨b, off + 16, none⟩ = some (.int .i64 3) := (hc 4 _ rfl).c0
  have e41 : w2.cell? ⟨b, off + 16 + 1, none⟩ = some (.int .i64 6) := (hc 4 _ rfl).c1
  have e42 : w2.cell? ⟨b, off + 16 + 2, none⟩ = some (.string S2) := by rw [hS2]; exact (hc 4 _ rfl).c2
  have e63 : w2.cell? ⟨b, off + 24 + 3, none⟩ = some (.int .i64 (-12)) := (hc 6 _ rfl).c3
  have e72 : w2.cell? ⟨b, off + 28 + 2, none⟩ = some (.string S3) := by rw [hS3]; exact (hc 7 _ rfl).c2
  have t1 : (S1.toList == [104, 97, 115]) = true := by rw [hS1, bs_toList]; rfl
  have t2 : (S2.toList == [97, 39, 98]) = true := by rw [hS2, bs_toList]; rfl
  have t3 : (S3.toList == [41]) = true := by rw [hS3, bs_toList]; rfl
  clear hc hR2 hS1 hS2 hS3
  go_wp2_with fail
  refine (s91.out _).mono ?_
  rintro e w' ⟨rfl, rfl⟩
  go_wp2_with fail
  refine (s97.out _).mono ?_
  rintro e w' ⟨rfl, rfl⟩
  go_wp2
  go_ret
  exact ⟨rfl, HB2.out⟩
end Go.Proofs.Ythjbmlgjlndihaa
