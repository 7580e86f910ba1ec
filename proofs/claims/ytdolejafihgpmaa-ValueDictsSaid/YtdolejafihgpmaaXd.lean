/- Contract of slices.symMergeCmpFunc over a row of pairs, where one side has just one. -/
import Derived.Test.YtdolejafihgpmaaXa
namespace Go.Proofs.Ytdolejafihgpmaa
open Go.RowKit Go.Sort

theorem ord_cmpP : Ord cmpP := ⟨fun x y => (ord_cmpV 12).anti x.x y.x, fun x y => (ord_cmpV 12).tri x.x y.x, fun x y z => (ord_cmpV 12).trans x.x y.x z.x⟩
def TstL (ps : Array Pr) (m x : Nat) : Prop := ¬ cmpP ps[m]! ps[x]! < 0
def TstB (ps : Array Pr) (p c : Nat) : Prop := ¬ cmpP ps[p - c]! ps[c]! < 0
def MrgPost (w : World) (g B d n : Nat) (ps : Array Pr) (a b : Nat) (e : Ending) (w' : World) : Prop := e = .returned (.tuple #[]) ∧ ∃ ps', Held w w' g B d n ps' ∧ Mgd cmpP a b ps ps'
set_option maxHeartbeats 4000000 in
set_option maxRecDepth 100000 in
theorem symMerge_first (w : World) (g B d n cap : Nat) (ps : Array Pr) (h : Held w w g B d n ps) (hB : B ≤ g) (hg : g < w.heap.size) (a b : Nat) (hab : a + 1 < b) (hb : b ≤ n) (hn : n ≤ 100000) (hs : SrtOn cmpP ps (a + 1) b) :
    Calls Try.prog 65 #[.slice (some ⟨g, 0, none⟩) n cap, .int .i64 a, .int .i64 ((a : Int) + 1), .int .i64 b, .func (.func 60) #[] #[]] w (MrgPost w g B d n ps a b) := by
  have SZ := Lib.hid h.sz
  have H := Lib.hid h
  have mono := Lib.hid (fun (x y : Nat) (h1 : a + 1 ≤ x) (h2 : x ≤ y) (h3 : y < b) (hy : cmpP ps[y]! ps[a]! < 0) => show cmpP ps[x]! ps[a]! < 0 from ord_cmpP.le_lt (hs.le ord_cmpP x y h1 h2 h3) hy)
  have HS := Lib.hid hs
  clear h hs
  go_enter Try.func65, Try.ntmps65
  go_wp2_with fail
  go_loopw [10, 11] (fun vi vj wr => ∃ i j : Nat, vi = .int .i64 i ∧ vj = .int .i64 j ∧ a + 1 ≤ i ∧ i ≤ j ∧ j ≤ b ∧ Hid (Held w wr g B d n ps) ∧ Hid (Srch (fun x => cmpP ps[x]! ps[a]! < 0) (a + 1) b i j)) (fun vi vj _ => (intOf vj).toNat - (intOf vi).toNat)
  case atStart => exact ⟨a + 1, b, by go_num, rfl, by omega, by omega, by omega, H, Lib.hid (Srch.start _ _ _ (by omega))⟩
  case round =>
    obtain ⟨i, j, rfl, rfl, hai, hij, hjb, hH, HF⟩ := hrel
    by_cases hlt : i < j
    · have hltz : (i : Int) < (j : Int) := by omega
      go_upto_region 5 with fail
      obtain ⟨h, hh⟩ : ∃ h : Nat, ((i : Int) + (j : Int)) / 2 = (h : Int) := ⟨(i + j) / 2, by omega⟩
      have h1 : i ≤ h := by omega
      have h2 : h < j := by omega
      rw [hh]
      clear hh
      have h3 : (h : Int) < (n : Int) := by omega
      have a3 : (a : Int) < (n : Int) := by omega
      generalize hxj : ps[h]! = xj
      generalize hxp : ps[a]! = xp
      have HX := Lib.hid hxj
      have HY := Lib.hid hxp
      have cQ := Lib.hid (hH.out.cmp hB hg (h) (a) (by omega) (by omega) hxj hxp)
      clear hxj hxp
      obtain ⟨q0, q1, q2, q3, q4, q5, q6, q7, q8, q9, zq0, zq1, zq2, zq3, zq4, zq5, zq6, zq7, zq8, zq9⟩ := hH.out.ten (h) (by omega) HX.out
      obtain ⟨p0, p1, p2, p3, p4, p5, p6, p7, p8, p9, zp0, zp1, zp2, zp3, zp4, zp5, zp6, zp7, zp8, zp9⟩ := hH.out.ten (a) (by omega) HY.out
      replace q0 := cell_regrown q0
      replace p0 := cell_regrown p0
      replace q1 := cell_regrown q1
      replace p1 := cell_regrown p1
      replace q2 := cell_regrown q2
      replace p2 := cell_regrown p2
      replace q3 := cell_regrown q3
      replace p3 := cell_regrown p3
      replace q4 := cell_regrown q4
      replace p4 := cell_regrown p4
      replace q5 := cell_regrown q5
      replace p5 := cell_regrown p5
      replace q6 := cell_regrown q6
      replace p6 := cell_regrown p6
      replace q7 := cell_regrown q7
      replace p7 := cell_regrown p7
      replace q8 := cell_regrown q8
      replace p8 := cell_regrown p8
      replace q9 := cell_regrown q9
      replace p9 := cell_regrown p9
      clear zq0 zp0 zq1 zp1 zq2 zp2 zq3 zp3 zq4 zp4 zq5 zp5 zq6 zp6 zq7 zp7 zq8 zp8 zq9 zp9
      generalize hr : cmpP xj xp = r at cQ
      have HR := Lib.hid hr
      clear hr
      refine wp_region_quiet_below (by kernel_rfl) (by kernel_rfl) ?_
      repeat (first | go_big_quiet_step (exact cQ.out _ _) | quiet_step (exact cQ.out _ _))
      refine wpQuiet_nil ?_
      intro _ hw'
      obtain ⟨⟨dq, osq⟩, hw''⟩ := hw'
      subst hw''
      have HQ := Lib.hid (hH.out.below (below_regrown wr dq osq) (hg))
      generalize grow (redrawn wr dq) osq = wq at HQ
      clear q0 p0 q1 p1 q2 p2 q3 p3 q4 p4 q5 p5 q6 p6 q7 p7 q8 p8 q9 p9
      by_cases hlv : r < 0
      · go_wp2
        go_roundw
        case rel => exact ⟨h + 1, j, by go_num, rfl, by omega, by omega, hjb, HQ, Lib.hid (HF.out.up h1 h2 mono.out (show cmpP ps[h]! ps[a]! < 0 by rw [HX.out, HY.out, HR.out]; exact hlv))⟩
        case measure => simp [intOf]; omega
      · go_wp2
        go_roundw
        case rel => exact ⟨i, h, rfl, rfl, hai, h1, by omega, HQ, Lib.hid (HF.out.down h1 h2 mono.out (show ¬ cmpP ps[h]! ps[a]! < 0 by rw [HX.out, HY.out, HR.out]; exact hlv))⟩
        case measure => simp [intOf]; omega
    · obtain rfl : i = j := by omega
      go_wp2_with fail
      go_loopw [13] (fun vk wx => ∃ (k : Nat) (dk : Array Pr), vk = .int .i64 k ∧ a ≤ k ∧ k + 1 ≤ i ∧ Hid (Held w wx g B d n dk) ∧ Hid (Rot ps a (a + 1) (k + 1) dk)) (fun vk _ => i - (intOf vk).toNat)
      case atStart => exact ⟨a, ps, rfl, by omega, by omega, hH, Lib.hid (rot_none ps _ _ _ (.inr rfl) (by omega) (by omega))⟩
      case round =>
        obtain ⟨k, dk, rfl, hak, hki, hJ, HR⟩ := hrel
        have SD := Lib.hid hJ.out.sz
        by_cases hk : k + 1 < i
        · have hkz : (k : Int) < (i : Int) - 1 := by omega
          have k3 : (k : Int) + 1 < (n : Int) := by omega
          have k4 : (k : Int) < (n : Int) := by omega
          have k5 : (0 : Int) ≤ (k : Int) + 1 := by omega
          have k6 : ((k : Int) + 1).toNat = k + 1 := by omega
          have k7 : IntKind.i64.wrap ((k : Int) + 1) = (k : Int) + 1 := IntWalk.i64_in _ (by omega)
          go_wp2_with fail
          generalize hxj : dk[k]! = xj
          generalize hxp : dk[k + 1]! = xp
          have HX := Lib.hid hxj
          have HY := Lib.hid hxp
          clear hxj hxp
          obtain ⟨q0, q1, q2, q3, q4, q5, q6, q7, q8, q9, zq0, zq1, zq2, zq3, zq4, zq5, zq6, zq7, zq8, zq9⟩ := hJ.out.ten (k) (by omega) HX.out
          obtain ⟨p0, p1, p2, p3, p4, p5, p6, p7, p8, p9, zp0, zp1, zp2, zp3, zp4, zp5, zp6, zp7, zp8, zp9⟩ := hJ.out.ten (k + 1) (by omega) HY.out
          have SW := hJ.out.swap10 (k) (k + 1) (by omega) (by omega) HX.out HY.out
          unfold put10 at SW
          have SWH := Lib.hid SW
          clear SW
          go_region
          all_goals
            go_wp2
            go_roundw
            case rel => exact ⟨k + 1, _, by go_num, by omega, by omega, SWH, Lib.hid (rot_on HR.out hak (by rw [SZ.out]; omega))⟩
            case measure => simp [intOf]; omega
        · obtain rfl : i = k + 1 := by omega
          have hkz : ¬ (k : Int) < (k : Int) + 1 - 1 := by omega
          go_wp2
          go_end0
          exact ⟨rfl, _, hJ.out, mgd_first ord_cmpP (by rw [SZ.out]; omega) HS.out HF.out HR.out⟩
set_option maxHeartbeats 4000000 in
set_option maxRecDepth 100000 in
theorem symMerge_last (w : World) (g B d n cap : Nat) (ps : Array Pr) (h : Held w w g B d n ps) (hB : B ≤ g) (hg : g < w.heap.size) (a m : Nat) (ham : a + 1 < m) (hb : m + 1 ≤ n) (hn : n ≤ 100000) (hs : SrtOn cmpP ps a m) :
    Calls Try.prog 65 #[.slice (some ⟨g, 0, none⟩) n cap, .int .i64 a, .int .i64 m, .int .i64 ((m : Int) + 1), .func (.func 60) #[] #[]] w (MrgPost w g B d n ps a (m + 1)) := by
  have SZ := Lib.hid h.sz
  have H := Lib.hid h
  have mono := Lib.hid (fun (x y : Nat) (h1 : a ≤ x) (h2 : x ≤ y) (h3 : y < m) (hy : TstL ps m y) => show TstL ps m x from fun hx => hy (ord_cmpP.lt_le hx (hs.le ord_cmpP x y h1 h2 h3)))
  have HS := Lib.hid hs
  clear h hs
  have e0 : ((m : Int) - (a : Int) == 1) = false := by simp; omega
  have m3 : (m : Int) < (n : Int) := by omega
  go_enter Try.func65, Try.ntmps65
  go_wp2_with fail
  go_loopw [14, 15] (fun vi vj wr => ∃ i j : Nat, vi = .int .i64 i ∧ vj = .int .i64 j ∧ a ≤ i ∧ i ≤ j ∧ j ≤ m ∧ Hid (Held w wr g B d n ps) ∧ Hid (Srch (TstL ps m) a m i j)) (fun vi vj _ => (intOf vj).toNat - (intOf vi).toNat)
  case atStart => exact ⟨a, m, rfl, rfl, by omega, by omega, by omega, H, Lib.hid (Srch.start _ _ _ (by omega))⟩
  case round =>
    obtain ⟨i, j, rfl, rfl, hai, hij, hjb, hH, HF⟩ := hrel
    by_cases hlt : i < j
    · have hltz : (i : Int) < (j : Int) := by omega
      go_upto_region 17 with fail
      obtain ⟨h, hh⟩ : ∃ h : Nat, ((i : Int) + (j : Int)) / 2 = (h : Int) := ⟨(i + j) / 2, by omega⟩
      have h1 : i ≤ h := by omega
      have h2 : h < j := by omega
      rw [hh]
      clear hh
      have h3 : (h : Int) < (n : Int) := by omega
      generalize hxj : ps[m]! = xj
      generalize hxp : ps[h]! = xp
      have HX := Lib.hid hxj
      have HY := Lib.hid hxp
      have cQ := Lib.hid (hH.out.cmp hB hg (m) (h) (by omega) (by omega) hxj hxp)
      clear hxj hxp
      obtain ⟨q0, q1, q2, q3, q4, q5, q6, q7, q8, q9, zq0, zq1, zq2, zq3, zq4, zq5, zq6, zq7, zq8, zq9⟩ := hH.out.ten (m) (by omega) HX.out
      obtain ⟨p0, p1, p2, p3, p4, p5, p6, p7, p8, p9, zp0, zp1, zp2, zp3, zp4, zp5, zp6, zp7, zp8, zp9⟩ := hH.out.ten (h) (by omega) HY.out
      replace q0 := cell_regrown q0
      replace p0 := cell_regrown p0
      replace q1 := cell_regrown q1
      replace p1 := cell_regrown p1
      replace q2 := cell_regrown q2
      replace p2 := cell_regrown p2
      replace q3 := cell_regrown q3
      replace p3 := cell_regrown p3
      replace q4 := cell_regrown q4
      replace p4 := cell_regrown p4
      replace q5 := cell_regrown q5
      replace p5 := cell_regrown p5
      replace q6 := cell_regrown q6
      replace p6 := cell_regrown p6
      replace q7 := cell_regrown q7
      replace p7 := cell_regrown p7
      replace q8 := cell_regrown q8
      replace p8 := cell_regrown p8
      replace q9 := cell_regrown q9
      replace p9 := cell_regrown p9
      clear zq0 zp0 zq1 zp1 zq2 zp2 zq3 zp3 zq4 zp4 zq5 zp5 zq6 zp6 zq7 zp7 zq8 zp8 zq9 zp9
      generalize hr : cmpP xj xp = r at cQ
      have HR := Lib.hid hr
      clear hr
      refine wp_region_quiet_below (by kernel_rfl) (by kernel_rfl) ?_
      repeat (first | go_big_quiet_step (exact cQ.out _ _) | quiet_step (exact cQ.out _ _))
      refine wpQuiet_nil ?_
      intro _ hw'
      obtain ⟨⟨dq, osq⟩, hw''⟩ := hw'
      subst hw''
      have HQ := Lib.hid (hH.out.below (below_regrown wr dq osq) (hg))
      generalize grow (redrawn wr dq) osq = wq at HQ
      clear q0 p0 q1 p1 q2 p2 q3 p3 q4 p4 q5 p5 q6 p6 q7 p7 q8 p8 q9 p9
      cases hlb : (!decide (r < 0))
      · have hlv : r < 0 := by simpa using hlb
        clear hlb
        go_wp2
        go_roundw
        case rel => exact ⟨i, h, rfl, rfl, hai, h1, by omega, HQ, Lib.hid (HF.out.down h1 h2 mono.out (show ¬ ¬ cmpP ps[m]! ps[h]! < 0 by rw [HX.out, HY.out, HR.out]; exact fun hx => hx hlv))⟩
        case measure => simp [intOf]; omega
      · have hlv : ¬ r < 0 := by simpa using hlb
        clear hlb
        go_wp2
        go_roundw
        case rel => exact ⟨h + 1, j, by go_num, rfl, by omega, by omega, hjb, HQ, Lib.hid (HF.out.up h1 h2 mono.out (show ¬ cmpP ps[m]! ps[h]! < 0 by rw [HX.out, HY.out, HR.out]; exact hlv))⟩
        case measure => simp [intOf]; omega
    · obtain rfl : i = j := by omega
      go_wp2_with fail
      go_loopw [17] (fun vk wx => ∃ (k : Nat) (dk : Array Pr), vk = .int .i64 k ∧ i ≤ k ∧ k ≤ m ∧ Hid (Held w wx g B d n dk) ∧ Hid (Rot ps k m (m + 1) dk)) (fun vk _ => (intOf vk).toNat)
      case atStart => exact ⟨m, ps, rfl, by omega, by omega, hH, Lib.hid (rot_none ps _ _ _ (.inl rfl) (by omega) (by omega))⟩
      case round =>
        obtain ⟨k, dk, rfl, hik, hkm, hJ, HR⟩ := hrel
        have SD := Lib.hid hJ.out.sz
        by_cases hk : i < k
        · obtain ⟨k, rfl⟩ : ∃ kp, k = kp + 1 := ⟨k - 1, by omega⟩
          have hkz : (i : Int) < (k : Int) + 1 := by omega
          have k3 : (k : Int) + 1 < (n : Int) := by omega
          have k4 : (k : Int) < (n : Int) := by omega
          have k5 : (0 : Int) ≤ (k : Int) + 1 := by omega
          have k6 : ((k : Int) + 1).toNat = k + 1 := by omega
          have k7 : IntKind.i64.wrap (k : Int) = (k : Int) := IntWalk.i64_in _ (by omega)
          go_wp2_with fail
          generalize hxj : dk[k + 1]! = xj
          generalize hxp : dk[k]! = xp
          have HX := Lib.hid hxj
          have HY := Lib.hid hxp
          clear hxj hxp
          obtain ⟨q0, q1, q2, q3, q4, q5, q6, q7, q8, q9, zq0, zq1, zq2, zq3, zq4, zq5, zq6, zq7, zq8, zq9⟩ := hJ.out.ten (k + 1) (by omega) HX.out
          obtain ⟨p0, p1, p2, p3, p4, p5, p6, p7, p8, p9, zp0, zp1, zp2, zp3, zp4, zp5, zp6, zp7, zp8, zp9⟩ := hJ.out.ten (k) (by omega) HY.out
          have SW := hJ.out.swap10 (k + 1) (k) (by omega) (by omega) HX.out HY.out
          unfold put10 at SW
          have SWH := Lib.hid SW
          clear SW
          go_region
          all_goals
            go_wp2
            go_roundw
            case rel => exact ⟨k, _, by go_num, by omega, by omega, SWH, Lib.hid (rot_back HR.out (by omega) (by rw [SZ.out]; omega))⟩
            case measure => simp [intOf]
        · obtain rfl : i = k := by omega
          go_wp2
          go_end0
          exact ⟨rfl, _, hJ.out, mgd_last ord_cmpP (by rw [SZ.out]; omega) HS.out HF.out HR.out⟩
end Go.Proofs.Ytdolejafihgpmaa
