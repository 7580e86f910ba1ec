/- IntsDigits: of any number and any text the law's call answers true. -/
import Derived.Test.YtgjimgopfpaimaaDe
import Derived.Test.YtgjimgopfpaimaaK
namespace Go.Proofs.Ytgjimgopfpaimaa
open Go.RowKit

set_option maxHeartbeats 800000 in
theorem digits_big (n : Int) (s : ByteArray) (w : World) (h : 300 < s.size) :
    Calls Try.prog 5 #[.int .i64 n, .string s] w fun e w' => e = .returned (.bool true) ∧ Below w.heap.size w w' := by
  have hi : (300 : Int) < (s.size : Int) := by omega
  go_enter Try.func5, Try.ntmps5
  go_wp2_with fail
  refine (known_any _).mono ?_
  rintro e w1 ⟨rfl, hb⟩
  have B1 := Lib.hid hb
  clear hb
  go_wp2
  go_ret
  exact ⟨rfl, B1.out⟩

set_option maxHeartbeats 800000 in
theorem digits_small (n : Int) (s : ByteArray) (w : World) (h : s.size ≤ 300) (hf : fitsB n = true) :
    Calls Try.prog 5 #[.int .i64 n, .string s] w fun e w' => e = .returned (.bool true) ∧ Below w.heap.size w w' := by
  have hi : ¬ (300 : Int) < (s.size : Int) := by omega
  have C1 := Lib.hid (parse_any s)
  have C2 := Lib.hid (fun W => refParse_any s W h)
  have C3 := Lib.hid (fun W => digits_any n W hf)
  have C4 := Lib.hid (parse_any ⟨(digL n).toArray⟩)
  rw [ByteArray.toList_mk, (parse_digL n hf).1, (parse_digL n hf).2] at C4
  have C5 := Lib.hid (fun W => refDigits_any n W hf)
  clear hf h
  generalize parseV s.toList = V at C1 C2
  generalize parseE s.toList = E at C1 C2
  generalize digL n = d at C3 C4 C5
  go_enter Try.func5, Try.ntmps5
  go_wp2_with fail
  refine (C1.out _).mono ?_
  rintro e w1 ⟨rfl, hb⟩
  have B1 := Lib.hid hb
  clear hb
  go_wp2_with fail
  refine (C2.out _).mono ?_
  rintro e w2 ⟨rfl, hb⟩
  have B2 := Lib.hid hb
  clear hb
  go_wp2_with fail
  refine (C3.out _).mono ?_
  rintro e w3 ⟨rfl, hb⟩
  have B3 := Lib.hid hb
  clear hb
  go_wp2_with fail
  refine (C4.out _).mono ?_
  rintro e w4 ⟨rfl, hb⟩
  have B4 := Lib.hid hb
  clear hb
  go_wp2_with fail
  refine (C3.out _).mono ?_
  rintro e w5 ⟨rfl, hb⟩
  have B5 := Lib.hid hb
  clear hb
  go_wp2_with fail
  refine (C5.out _).mono ?_
  rintro e w6 ⟨rfl, hb⟩
  have B6 := Lib.hid hb
  clear hb
  go_wp2_with fail
  refine (known_any _).mono ?_
  rintro e w7 ⟨rfl, hb⟩
  have B7 := Lib.hid hb
  clear hb
  go_wp2
  go_ret
  exact ⟨rfl, bnext (bnext (bnext (bnext (bnext (bnext B1.out B2.out) B3.out) B4.out) B5.out) B6.out) B7.out⟩

theorem digits_walk (n : Int) (s : ByteArray) (w : World) (hf : fitsB n = true) :
    Calls Try.prog 5 #[.int .i64 n, .string s] w fun e w' => e = .returned (.bool true) ∧ Below w.heap.size w w' := by
  by_cases h : 300 < s.size
  · exact digits_big n s w h
  · exact digits_small n s w (by omega) hf
end Go.Proofs.Ytgjimgopfpaimaa
