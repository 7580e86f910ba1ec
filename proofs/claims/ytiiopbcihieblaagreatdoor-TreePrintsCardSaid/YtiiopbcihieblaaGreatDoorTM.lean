/- Carried over from an earlier seat. -/
import Derived.Test.YtiiopbcihieblaaGreatDoorTL
import Derived.Test.YtiiopbcihieblaaGreatDoorTK
import Derived.Test.YtiiopbcihieblaaGreatDoorUC
namespace Go.Proofs.YtiiopbcihieblaaGreatDoor
set_option maxRecDepth 100000
set_option maxRecDepth 100000
open Go.RowKit Go.Sort

def v0 : V := .mk 0 0 ⟨#[]⟩ [] []
def tx (s : ByteArray) : V := .mk 3 0 s [] []
def p0 : P := .mk 0 [] []
def at0 (t : V) : At := ⟨t, none, 0, none, 0⟩
def pt0 : Pt := ⟨p0, none, 0, none, 0⟩
/-- An argument without rows. -/
def gA (k : Int) (t : V) (s : ByteArray) : Gt := ⟨k, at0 t, pt0, [], none, 0, s⟩
theorem at0_in (w : World) (t : V) (hl : t.l = []) (hm : t.m = []) (hf : Fld t) : Rd w 0 w.heap.size 1 t none 0 none 0 :=
  ⟨hf, by rw [hl]; exact rw_nil _ _ _ _, by rw [hm]; exact rw_nil _ _ _ _⟩
theorem pt0_in (w : World) : Pd w 0 w.heap.size 1 p0 none 0 none 0 := ⟨⟨by decide, by decide⟩, ⟨0, rw_nil _ _ _ _⟩, pw_nil _ _ _ _⟩
theorem v0_fld : Fld v0 := ⟨by decide, by decide, by decide, by decide, by decide⟩
theorem gA_in (w : World) (d : Nat) (k : Int) (t : V) (s : ByteArray) (k0 : -9223372036854775808 ≤ k) (k1 : k ≤ 9223372036854775807) (hl : t.l = []) (hm : t.m = []) (hf : Fld t) (hs : s.size ≤ 140737488355328) : (gA k t s).In w d :=
  ⟨k0, k1, hs, ⟨1, at0_in w t hl hm hf⟩, ⟨1, pt0_in w⟩, ch_none _ _ _ _⟩
def kGt : Ag := ⟨2, v0, .mk 5 [.mk 2 30 ⟨#[]⟩ [] []] [], [], ⟨#[]⟩⟩
def kIn : List C := [.mk ⟨#[111, 117, 116]⟩ [(gA 1 (tx ⟨#[105, 116, 39, 115]⟩) ⟨#[]⟩).t]]
def kL : List C := [.mk ⟨#[86]⟩ [], .mk ⟨#[104, 97, 115]⟩ [(gA 1 (tx ⟨#[97, 103, 101]⟩) ⟨#[]⟩).t, kGt], .mk ⟨#[119, 104, 101, 114, 101]⟩ [⟨3, v0, p0, kIn, ⟨#[]⟩⟩], .mk ⟨#[111, 114, 100, 101, 114]⟩ [(gA 4 v0 ⟨#[97, 115, 99]⟩).t]]
def kS : ByteArray := ⟨#[103, 46, 86, 40, 41, 46, 104, 97, 115, 40, 39, 97, 103, 101, 39, 44, 32, 103, 116, 40, 51, 48, 41, 41, 46, 119, 104, 101, 114, 101, 40, 95, 95, 46, 111, 117, 116, 40, 39, 105, 116, 92, 39, 115, 39, 41, 41, 46, 111, 114, 100, 101, 114, 40, 97, 115, 99, 41]⟩
theorem known_lay (w K : World) (hK : (((((((((w.alloc (.cells #[.int .i64 1, .int .i64 3, .int .i64 0, .string ⟨#[97, 103, 101]⟩, .slice none 0 0, .slice none 0 0, .int .i64 0, .slice none 0 0, .slice none 0 0, .slice none 0 0, .string ⟨#[]⟩] 44)).alloc (.cells #[.int .i64 2, .int .i64 30, .string ⟨#[]⟩, .slice none 0 0, .slice none 0 0] 39)).alloc (.cells #[.int .i64 2, .int .i64 0, .int .i64 0, .string ⟨#[]⟩, .slice none 0 0, .slice none 0 0, .int .i64 5, .slice (some ⟨w.heap.size + 1, 0, none⟩) 1 1, .slice none 0 0, .slice none 0 0, .string ⟨#[]⟩] 44)).alloc (.cells #[.int .i64 1, .int .i64 3, .int .i64 0, .string ⟨#[105, 116, 39, 115]⟩, .slice none 0 0, .slice none 0 0, .int .i64 0, .slice none 0 0, .slice none 0 0, .slice none 0 0, .string ⟨#[]⟩] 44)).alloc (.cells #[.string ⟨#[111, 117, 116]⟩, .slice (some ⟨w.heap.size + 1 + 1 + 1, 0, none⟩) 1 1] 36)).alloc (.cells #[.int .i64 1, .int .i64 3, .int .i64 0, .string ⟨#[97, 103, 101]⟩, .slice none 0 0, .slice none 0 0, .int .i64 0, .slice none 0 0, .slice none 0 0, .slice none 0 0, .string ⟨#[]⟩, .int .i64 2, .int .i64 0, .int .i64 0, .string ⟨#[]⟩, .slice none 0 0, .slice none 0 0, .int .i64 5, .slice (some ⟨w.heap.size + 1, 0, none⟩) 1 1, .slice none 0 0, .slice none 0 0, .string ⟨#[]⟩] 44)).alloc (.cells #[.int .i64 3, .int .i64 0, .int .i64 0, .string ⟨#[]⟩, .slice none 0 0, .slice none 0 0, .int .i64 0, .slice none 0 0, .slice none 0 0, .slice (some ⟨w.heap.size + 1 + 1 + 1 + 1, 0, none⟩) 1 1, .string ⟨#[]⟩] 44)).alloc (.cells #[.int .i64 4, .int .i64 0, .int .i64 0, .string ⟨#[]⟩, .slice none 0 0, .slice none 0 0, .int .i64 0, .slice none 0 0, .slice none 0 0, .slice none 0 0, .string ⟨#[97, 115, 99]⟩] 44)).alloc (.cells #[.string ⟨#[86]⟩, .slice none 0 0, .string ⟨#[104, 97, 115]⟩, .slice (some ⟨w.heap.size + 1 + 1 + 1 + 1 + 1, 0, none⟩) 2 2, .string ⟨#[119, 104, 101, 114, 101]⟩, .slice (some ⟨w.heap.size + 1 + 1 + 1 + 1 + 1 + 1, 0, none⟩) 1 1, .string ⟨#[111, 114, 100, 101, 114]⟩, .slice (some ⟨w.heap.size + 1 + 1 + 1 + 1 + 1 + 1 + 1, 0, none⟩) 1 1] 36)) = K) : Below w.heap.size w K ∧ Ch K 0 K.heap.size 1 (some ⟨w.heap.size + 1 + 1 + 1 + 1, 0, none⟩) 1 kIn ∧ Ch K 0 K.heap.size 2 (some ⟨w.heap.size + 1 + 1 + 1 + 1 + 1 + 1 + 1 + 1, 0, none⟩) 4 kL := by
  obtain ⟨w1, e1⟩ : ∃ q, q = w.alloc (.cells #[.int .i64 1, .int .i64 3, .int .i64 0, .string ⟨#[97, 103, 101]⟩, .slice none 0 0, .slice none 0 0, .int .i64 0, .slice none 0 0, .slice none 0 0, .slice none 0 0, .string ⟨#[]⟩] 44) := ⟨_, rfl⟩
  have b1 : Below w.heap.size w w1 := by rw [e1]; exact below_new _ _
  have s1 : w1.heap.size = w.heap.size + 1 := by rw [e1]; simp
  rw [← e1] at hK
  clear e1
  obtain ⟨w2, e2⟩ : ∃ q, q = w1.alloc (.cells #[.int .i64 2, .int .i64 30, .string ⟨#[]⟩, .slice none 0 0, .slice none 0 0] 39) := ⟨_, rfl⟩
  have b2 : Below w1.heap.size w1 w2 := by rw [e2]; exact below_new _ _
  have s2 : w2.heap.size = w1.heap.size + 1 := by rw [e2]; simp
  have r2 : Rw w2 0 w2.heap.size 1 (some ⟨w.heap.size + 1, 0, none⟩) 1 [.mk 2 30 ⟨#[]⟩ [] []] := by
    rw [e2, ← s1]
    exact row_lay w1 1 [at0 (.mk 2 30 ⟨#[]⟩ [] [])] (fun x hx => by rw [List.mem_singleton.1 hx]; exact at0_in w1 _ rfl rfl ⟨by decide, by decide, by decide, by decide, by decide⟩) (by decide)
  rw [← e2] at hK
  clear e2
  obtain ⟨w3, e3⟩ : ∃ q, q = w2.alloc (.cells #[.int .i64 2, .int .i64 0, .int .i64 0, .string ⟨#[]⟩, .slice none 0 0, .slice none 0 0, .int .i64 5, .slice (some ⟨w.heap.size + 1, 0, none⟩) 1 1, .slice none 0 0, .slice none 0 0, .string ⟨#[]⟩] 44) := ⟨_, rfl⟩
  have b3 : Below w2.heap.size w2 w3 := by rw [e3]; exact below_new _ _
  have s3 : w3.heap.size = w2.heap.size + 1 := by rw [e3]; simp
  rw [← e3] at hK
  clear e3
  obtain ⟨w4, e4⟩ : ∃ q, q = w3.alloc (.cells #[.int .i64 1, .int .i64 3, .int .i64 0, .string ⟨#[105, 116, 39, 115]⟩, .slice none 0 0, .slice none 0 0, .int .i64 0, .slice none 0 0, .slice none 0 0, .slice none 0 0, .string ⟨#[]⟩] 44) := ⟨_, rfl⟩
  have b4 : Below w3.heap.size w3 w4 := by rw [e4]; exact below_new _ _
  have s4 : w4.heap.size = w3.heap.size + 1 := by rw [e4]; simp
  have r4 : Aw w4 0 (some ⟨w.heap.size + 1 + 1 + 1, 0, none⟩) 1 [(gA 1 (tx ⟨#[105, 116, 39, 115]⟩) ⟨#[]⟩).t] := by
    rw [e4, show w.heap.size + 1 + 1 + 1 = w3.heap.size by omega]
    exact grow_lay Gt.cs_len 44 w3 (fun g => g.In w3 0) _ [gA 1 (tx ⟨#[105, 116, 39, 115]⟩) ⟨#[]⟩] (fun x hx => by rw [List.mem_singleton.1 hx]; exact gA_in _ _ _ _ _ (by decide) (by decide) rfl rfl ⟨by decide, by decide, by decide, by decide, by decide⟩ (by decide)) (fun g h => h.next (below_new _ _)) (Nat.le_of_ble_eq_true rfl) (Nat.le_of_ble_eq_true rfl)
  rw [← e4] at hK
  clear e4
  obtain ⟨w5, e5⟩ : ∃ q, q = w4.alloc (.cells #[.string ⟨#[111, 117, 116]⟩, .slice (some ⟨w.heap.size + 1 + 1 + 1, 0, none⟩) 1 1] 36) := ⟨_, rfl⟩
  have b5 : Below w4.heap.size w4 w5 := by rw [e5]; exact below_new _ _
  have s5 : w5.heap.size = w4.heap.size + 1 := by rw [e5]; simp
  have r5 : Ch w5 0 w5.heap.size 1 (some ⟨w.heap.size + 1 + 1 + 1 + 1, 0, none⟩) 1 kIn := by
    rw [e5, show w.heap.size + 1 + 1 + 1 + 1 = w4.heap.size by omega]
    exact grow_lay Ct.cs_len 36 w4 (fun g => g.In w4 0) _ [⟨⟨#[111, 117, 116]⟩, [(gA 1 (tx ⟨#[105, 116, 39, 115]⟩) ⟨#[]⟩).t], some ⟨w.heap.size + 1 + 1 + 1, 0, none⟩, 1⟩] (fun x hx => by rw [List.mem_singleton.1 hx]; exact ⟨Nat.le_of_ble_eq_true rfl, r4⟩) (fun g h => h.next (below_new _ _)) (Nat.le_of_ble_eq_true rfl) (Nat.le_of_ble_eq_true rfl)
  rw [← e5] at hK
  clear e5
  obtain ⟨w6, e6⟩ : ∃ q, q = w5.alloc (.cells #[.int .i64 1, .int .i64 3, .int .i64 0, .string ⟨#[97, 103, 101]⟩, .slice none 0 0, .slice none 0 0, .int .i64 0, .slice none 0 0, .slice none 0 0, .slice none 0 0, .string ⟨#[]⟩, .int .i64 2, .int .i64 0, .int .i64 0, .string ⟨#[]⟩, .slice none 0 0, .slice none 0 0, .int .i64 5, .slice (some ⟨w.heap.size + 1, 0, none⟩) 1 1, .slice none 0 0, .slice none 0 0, .string ⟨#[]⟩] 44) := ⟨_, rfl⟩
  have b6 : Below w5.heap.size w5 w6 := by rw [e6]; exact below_new _ _
  have s6 : w6.heap.size = w5.heap.size + 1 := by rw [e6]; simp
  have r6 : Aw w6 1 (some ⟨w.heap.size + 1 + 1 + 1 + 1 + 1, 0, none⟩) 2 [(gA 1 (tx ⟨#[97, 103, 101]⟩) ⟨#[]⟩).t, kGt] := by
    rw [e6, show w.heap.size + 1 + 1 + 1 + 1 + 1 = w5.heap.size by omega]
    refine grow_lay Gt.cs_len 44 w5 (fun g => g.In w5 1) _ [gA 1 (tx ⟨#[97, 103, 101]⟩) ⟨#[]⟩, ⟨2, at0 v0, ⟨.mk 5 [.mk 2 30 ⟨#[]⟩ [] []] [], some ⟨w.heap.size + 1, 0, none⟩, 1, none, 0⟩, [], none, 0, ⟨#[]⟩⟩] (fun x hx => ?_) (fun g h => h.next (below_new _ _)) (Nat.le_of_ble_eq_true rfl) (Nat.le_of_ble_eq_true rfl)
    rcases List.mem_cons.1 hx with rfl | hx
    · exact gA_in _ _ _ _ _ (by decide) (by decide) rfl rfl ⟨by decide, by decide, by decide, by decide, by decide⟩ (by decide)
    · rw [List.mem_singleton.1 hx]
      exact ⟨(by decide : (-9223372036854775808 : Int) ≤ 2), (by decide : (2 : Int) ≤ 9223372036854775807), Nat.le_of_ble_eq_true rfl, ⟨1, at0_in _ _ rfl rfl v0_fld⟩, ⟨1, ⟨(by decide : (-9223372036854775808 : Int) ≤ 5), (by decide : (5 : Int) ≤ 9223372036854775807)⟩, ⟨1, (((r2.next b3).next b4).next b5)⟩, pw_nil _ _ _ _⟩, ch_none _ _ _ _⟩
  rw [← e6] at hK
  clear e6
  obtain ⟨w7, e7⟩ : ∃ q, q = w6.alloc (.cells #[.int .i64 3, .int .i64 0, .int .i64 0, .string ⟨#[]⟩, .slice none 0 0, .slice none 0 0, .int .i64 0, .slice none 0 0, .slice none 0 0, .slice (some ⟨w.heap.size + 1 + 1 + 1 + 1, 0, none⟩) 1 1, .string ⟨#[]⟩] 44) := ⟨_, rfl⟩
  have b7 : Below w6.heap.size w6 w7 := by rw [e7]; exact below_new _ _
  have s7 : w7.heap.size = w6.heap.size + 1 := by rw [e7]; simp
  have r7 : Aw w7 1 (some ⟨w.heap.size + 1 + 1 + 1 + 1 + 1 + 1, 0, none⟩) 1 [⟨3, v0, p0, kIn, ⟨#[]⟩⟩] := by
    rw [e7, show w.heap.size + 1 + 1 + 1 + 1 + 1 + 1 = w6.heap.size by omega]
    exact grow_lay Gt.cs_len 44 w6 (fun g => g.In w6 1) _ [⟨3, at0 v0, pt0, kIn, some ⟨w.heap.size + 1 + 1 + 1 + 1, 0, none⟩, 1, ⟨#[]⟩⟩] (fun x hx => by rw [List.mem_singleton.1 hx]; exact ⟨(by decide : (-9223372036854775808 : Int) ≤ 3), (by decide : (3 : Int) ≤ 9223372036854775807), Nat.le_of_ble_eq_true rfl, ⟨1, at0_in _ _ rfl rfl v0_fld⟩, ⟨1, pt0_in _⟩, (r5.next b6)⟩) (fun g h => h.next (below_new _ _)) (Nat.le_of_ble_eq_true rfl) (Nat.le_of_ble_eq_true rfl)
  rw [← e7] at hK
  clear e7
  obtain ⟨w8, e8⟩ : ∃ q, q = w7.alloc (.cells #[.int .i64 4, .int .i64 0, .int .i64 0, .string ⟨#[]⟩, .slice none 0 0, .slice none 0 0, .int .i64 0, .slice none 0 0, .slice none 0 0, .slice none 0 0, .string ⟨#[97, 115, 99]⟩] 44) := ⟨_, rfl⟩
  have b8 : Below w7.heap.size w7 w8 := by rw [e8]; exact below_new _ _
  have s8 : w8.heap.size = w7.heap.size + 1 := by rw [e8]; simp
  have r8 : Aw w8 1 (some ⟨w.heap.size + 1 + 1 + 1 + 1 + 1 + 1 + 1, 0, none⟩) 1 [(gA 4 v0 ⟨#[97, 115, 99]⟩).t] := by
    rw [e8, show w.heap.size + 1 + 1 + 1 + 1 + 1 + 1 + 1 = w7.heap.size by omega]
    exact grow_lay Gt.cs_len 44 w7 (fun g => g.In w7 1) _ [gA 4 v0 ⟨#[97, 115, 99]⟩] (fun x hx => by rw [List.mem_singleton.1 hx]; exact gA_in _ _ _ _ _ (by decide) (by decide) rfl rfl v0_fld (by decide)) (fun g h => h.next (below_new _ _)) (Nat.le_of_ble_eq_true rfl) (Nat.le_of_ble_eq_true rfl)
  rw [← e8] at hK
  clear e8
  have b9 : Below w8.heap.size w8 K := by rw [← hK]; exact below_new _ _
  have b09 := bnext (bnext (bnext (bnext (bnext (bnext (bnext (bnext b1 b2) b3) b4) b5) b6) b7) b8) b9
  refine ⟨b09, ((((r5.next b6).next b7).next b8).next b9), ?_⟩
  rw [← hK, show w.heap.size + 1 + 1 + 1 + 1 + 1 + 1 + 1 + 1 = w8.heap.size by omega]
  refine grow_lay Ct.cs_len 36 w8 (fun g => g.In w8 1) _ [⟨⟨#[86]⟩, [], none, 0⟩, ⟨⟨#[104, 97, 115]⟩, [(gA 1 (tx ⟨#[97, 103, 101]⟩) ⟨#[]⟩).t, kGt], some ⟨w.heap.size + 1 + 1 + 1 + 1 + 1, 0, none⟩, 2⟩, ⟨⟨#[119, 104, 101, 114, 101]⟩, [⟨3, v0, p0, kIn, ⟨#[]⟩⟩], some ⟨w.heap.size + 1 + 1 + 1 + 1 + 1 + 1, 0, none⟩, 1⟩, ⟨⟨#[111, 114, 100, 101, 114]⟩, [(gA 4 v0 ⟨#[97, 115, 99]⟩).t], some ⟨w.heap.size + 1 + 1 + 1 + 1 + 1 + 1 + 1, 0, none⟩, 1⟩] (fun x hx => ?_) (fun g h => h.next (below_new _ _)) (Nat.le_of_ble_eq_true rfl) (Nat.le_of_ble_eq_true rfl)
  rcases List.mem_cons.1 hx with rfl | hx
  · exact ⟨Nat.le_of_ble_eq_true rfl, grow_none _ _ _ _⟩
  rcases List.mem_cons.1 hx with rfl | hx
  · exact ⟨Nat.le_of_ble_eq_true rfl, ((r6.next b7).next b8)⟩
  rcases List.mem_cons.1 hx with rfl | hx
  · exact ⟨Nat.le_of_ble_eq_true rfl, (r7.next b8)⟩
  rw [List.mem_singleton.1 hx]
  exact ⟨Nat.le_of_ble_eq_true rfl, r8⟩
theorem kL_ok : qOk kL = true := by kernel_rfl
theorem kL_txt : txC 10 [103] kL = kS.toList := by kernel_rfl
theorem kL_nest : nestV 10 kL = 2 := by kernel_rfl
theorem kL_calls : callsV kL = 5 := by kernel_rfl
theorem kL_same : sameC 11 kL (copyC 11 kL) = true := by kernel_rfl
theorem kL_other : sameC 11 kL kIn = false := by kernel_rfl
theorem kL_flat : allF 11 (copyC 11 kL) = true := by kernel_rfl
theorem kIn_flat : allF 11 kIn = true := by kernel_rfl
theorem kL_prt : (⟨(prtS kL).toArray⟩ : ByteArray) = kS := by
  unfold prtS
  rw [if_pos kL_ok, kL_txt]
  kernel_rfl
theorem kS_len : kS.toList.length ≤ MX := Nat.le_of_ble_eq_true (by kernel_rfl)
theorem none_prt : (⟨(prtS []).toArray⟩ : ByteArray) = ⟨#[]⟩ := by kernel_rfl
theorem none_ok : qOk [] = false := by kernel_rfl

set_option maxHeartbeats 3200000 in
theorem known_any (w : World) (hm : NM w) : Calls Tryz.prog 8 #[] w fun e w' => e = .returned (.bool true) ∧ Below w.heap.size w w' := by
  have HM := Lib.hid hm
  clear hm
  go_enter Tryz.func8, Tryz.ntmps8
  go_upto_region 5 with fail
  generalize hK : World.alloc (World.alloc (World.alloc (World.alloc (World.alloc (World.alloc (World.alloc (World.alloc (World.alloc w _) _) _) _) _) _) _) _) _ = K
  obtain ⟨hb, hin, hl⟩ := known_lay w K hK
  have HB := Lib.hid hb
  have HIN := Lib.hid hin
  have HLL := Lib.hid hl
  obtain ⟨a4, h4⟩ : ∃ q, q = w.heap.size + 1 + 1 + 1 + 1 := ⟨_, rfl⟩
  obtain ⟨a8, h8⟩ : ∃ q, q = w.heap.size + 1 + 1 + 1 + 1 + 1 + 1 + 1 + 1 := ⟨_, rfl⟩
  rw [← h4] at HIN
  rw [← h8] at HLL
  rw [← h8, ← h4]
  have CT : Calls Tryz.prog 9 #[.slice (some ⟨a8, 0, none⟩) 4 4] K fun e w' => e = .returned (.tuple #[.string kS, .int .i64 0]) ∧ Below K.heap.size K w' :=
    (tprint_any K (HM.out.next HB.out) 2 _ 4 kL HLL.out (fun _ => by rw [kL_txt]; exact kS_len)).mono (fun e w' h => by rw [kL_prt, kL_ok] at h; exact h)
  replace CT := Lib.hid CT
  clear hK hb hin hl h4 h8
  have hsk : kS.toList == [103, 46, 86, 40, 41, 46, 104, 97, 115, 40, 39, 97, 103, 101, 39, 44, 32, 103, 116, 40, 51, 48, 41, 41, 46, 119, 104, 101, 114, 101, 40, 95, 95, 46, 111, 117, 116, 40, 39, 105, 116, 92, 39, 115, 39, 41, 41, 46, 111, 114, 100, 101, 114, 40, 97, 115, 99, 41] := by kernel_rfl
  go_wp2_with fail
  refine CT.out.mono ?_
  rintro e K1 ⟨rfl, hb⟩
  replace HB := Lib.hid (bnext HB.out hb)
  replace HIN := Lib.hid (HIN.out.next hb)
  replace HLL := Lib.hid (HLL.out.next hb)
  clear CT hb
  have CT : Calls Tryz.prog 9 #[.slice none 0 0] K1 fun e w' => e = .returned (.tuple #[.string ⟨#[]⟩, .int .i64 2]) ∧ Below K1.heap.size K1 w' :=
    (tprint_any K1 (HM.out.next HB.out) 0 none 0 [] (ch_none _ _ _ _) (fun h => by rw [none_ok] at h; cases h)).mono (fun e w' h => by rw [none_prt, none_ok] at h; exact h)
  replace CT := Lib.hid CT
  go_wp2_with fail
  refine CT.out.mono ?_
  rintro e K2 ⟨rfl, hb⟩
  replace HB := Lib.hid (bnext HB.out hb)
  replace HIN := Lib.hid (HIN.out.next hb)
  replace HLL := Lib.hid (HLL.out.next hb)
  clear CT hb
  have CT : Calls Tryz.prog 13 #[.slice (some ⟨a8, 0, none⟩) 4 4] K2 fun e w' => e = .returned (.int .i64 2) ∧ Below K2.heap.size K2 w' :=
    (nest_any K2 2 _ 4 kL HLL.out).mono (fun e w' h => by rw [kL_nest] at h; exact h)
  replace CT := Lib.hid CT
  go_wp2_with fail
  refine CT.out.mono ?_
  rintro e K3 ⟨rfl, hb⟩
  replace HB := Lib.hid (bnext HB.out hb)
  replace HIN := Lib.hid (HIN.out.next hb)
  replace HLL := Lib.hid (HLL.out.next hb)
  clear CT hb
  have CT : Calls Tryz.prog 15 #[.slice (some ⟨a8, 0, none⟩) 4 4] K3 fun e w' => e = .returned (.int .i64 5) ∧ Below K3.heap.size K3 w' :=
    (calls_any K3 2 _ 4 kL HLL.out).mono (fun e w' h => by rw [kL_calls] at h; exact h)
  replace CT := Lib.hid CT
  go_wp2_with fail
  refine CT.out.mono ?_
  rintro e K4 ⟨rfl, hb⟩
  replace HB := Lib.hid (bnext HB.out hb)
  replace HIN := Lib.hid (HIN.out.next hb)
  replace HLL := Lib.hid (HLL.out.next hb)
  clear CT hb
  have CT : Calls Tryz.prog 18 #[.slice (some ⟨a8, 0, none⟩) 4 4] K4 (NewCs K4 11 (copyC 11 kL)) := tcopy_any K4 2 _ 4 kL HLL.out
  replace CT := Lib.hid CT
  go_wp2_with fail
  refine CT.out.mono ?_
  rintro e K5 ⟨D, rfl, hb, h0, h1⟩
  have HX := Lib.hid ((NewCs.ch ⟨D, rfl, hb, h0, h1⟩ (by decide)).more (Nat.zero_le _) (Nat.le_refl _) (Nat.le_refl _))
  replace HB := Lib.hid (bnext HB.out hb)
  replace HIN := Lib.hid (HIN.out.next hb)
  replace HLL := Lib.hid (HLL.out.next hb)
  clear CT hb h0 h1
  have CT : Calls Tryz.prog 17 #[.slice (some ⟨a8, 0, none⟩) 4 4, .slice D (copyC 11 kL).length (copyC 11 kL).length] K5 fun e w' => e = .returned (.bool true) ∧ Below K5.heap.size K5 w' :=
    (tsame_anyQ (fun p => p.p = []) (fun X q x y => samePred_flat X q x y) K5 (11 + 1) _ 4 kL _ _ _ (allF_ok _ _ kL_flat) (HLL.out.up (by omega)) HX.out).mono (fun e w' h => by rw [kL_same] at h; exact h)
  replace CT := Lib.hid CT
  go_wp2_with fail
  refine CT.out.mono ?_
  rintro e K6 ⟨rfl, hb⟩
  replace HB := Lib.hid (bnext HB.out hb)
  replace HIN := Lib.hid (HIN.out.next hb)
  replace HLL := Lib.hid (HLL.out.next hb)
  clear CT hb HX
  have CT : Calls Tryz.prog 17 #[.slice (some ⟨a8, 0, none⟩) 4 4, .slice (some ⟨a4, 0, none⟩) 1 1] K6 fun e w' => e = .returned (.bool false) ∧ Below K6.heap.size K6 w' :=
    (tsame_anyQ (fun p => p.p = []) (fun X q x y => samePred_flat X q x y) K6 2 _ 4 kL _ 1 kIn (allF_ok _ _ kIn_flat) HLL.out (HIN.out.up (by omega))).mono (fun e w' h => by rw [kL_other] at h; exact h)
  replace CT := Lib.hid CT
  go_wp2_with fail
  refine CT.out.mono ?_
  rintro e K7 ⟨rfl, hb⟩
  replace HB := Lib.hid (bnext HB.out hb)
  clear CT hb
  go_wp2
  go_ret
  exact ⟨rfl, HB.out⟩
end Go.Proofs.YtiiopbcihieblaaGreatDoor

