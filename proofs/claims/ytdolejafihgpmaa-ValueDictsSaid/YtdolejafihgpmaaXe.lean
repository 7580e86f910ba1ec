/- Contract of slices.symMergeCmpFunc over a row of pairs: two sorted stretches side by side become one, what is alike in the order in which it stood. -/
import Derived.Test.YtdolejafihgpmaaXd
namespace Go.Proofs.Ytdolejafihgpmaa
open Go.RowKit Go.Sort

theorem rotate_at (w : World) (g B d n cap : Nat) (ps : Array Pr) (h : Held w w g B d n ps) (hB : B ≤ g) (hg : g < w.heap.size) (a m b : Nat) (x y z : Int) (hx : x = (a : Int)) (hy : y = (m : Int)) (hz : z = (b : Int)) (ham : a < m) (hmb : m < b) (hb : b ≤ n) (hn : n ≤ 100000) :
    Calls Try.prog 66 #[.slice (some ⟨g, 0, none⟩) n cap, .int .i64 x, .int .i64 y, .int .i64 z, .func (.func 60) #[] #[]] w (RotPost w g B d n ps a m b) := by
  subst hx hy hz
  exact rotate_any w g B d n cap ps h hB hg a m b ham hmb hb hn
/-- The merge of two stretches that are together no longer than k. -/
def MrgOk (n k : Nat) : Prop := ∀ (w : World) (g B d cap : Nat) (ps : Array Pr) (a m b : Nat) (x y z : Int), x = (a : Int) → y = (m : Int) → z = (b : Int) → b - a ≤ k → Held w w g B d n ps → B ≤ g → g < w.heap.size → a < m → m < b → b ≤ n → SrtOn cmpP ps a m → SrtOn cmpP ps m b →
    Calls Try.prog 65 #[.slice (some ⟨g, 0, none⟩) n cap, .int .i64 x, .int .i64 y, .int .i64 z, .func (.func 60) #[] #[]] w (MrgPost w g B d n ps a b)
def CutP (ps : Array Pr) (a b s mid e : Nat) (d1 : Array Pr) : Prop := Cut cmpP ps a b s mid e d1
def MgdP (a b : Nat) (d1 d2 : Array Pr) : Prop := Mgd cmpP a b d1 d2
def SrtP (d : Array Pr) (a b : Nat) : Prop := SrtOn cmpP d a b
def WhereP (a m b mid s0 r0 : Nat) : Prop := m > mid ∧ s0 = mid + m - b ∧ r0 = mid ∨ m ≤ mid ∧ s0 = a ∧ r0 = m
theorem half_left {ps d1 : Array Pr} {a b s mid e : Nat} (h : CutP ps a b s mid e d1) (hc : s = a ∨ s = mid) : SrtOn cmpP d1 a mid := by
  rcases hc with rfl | rfl
  · exact h.s2
  · exact h.s1
theorem half_right {ps d1 : Array Pr} {a b s mid e : Nat} (h : CutP ps a b s mid e d1) (hc : e = mid ∨ e = b) : SrtOn cmpP d1 mid b := by
  rcases hc with rfl | rfl
  · exact h.s4
  · exact h.s3
theorem srt_out {a mid : Nat} {d1 d2 : Array Pr} (h : MgdP a mid d1 d2) {x y : Nat} (hx : mid ≤ x) (k : SrtOn cmpP d1 x y) : SrtOn cmpP d2 x y := fun i j i1 i2 i3 => by
  rw [h.out i (by omega), h.out j (by omega)]; exact k i j i1 i2 i3
set_option maxHeartbeats 4000000 in
set_option maxRecDepth 100000 in
theorem symMerge_both (n k : Nat) (ih : MrgOk n k) (w : World) (g B d cap : Nat) (ps : Array Pr) (h : Held w w g B d n ps) (hB : B ≤ g) (hg : g < w.heap.size) (a m b : Nat) (hk : b - a ≤ k + 1) (ham : a + 1 < m) (hmb : m + 1 < b) (hb : b ≤ n) (hn : n ≤ 100000) (hs1 : SrtOn cmpP ps a m) (hs2 : SrtOn cmpP ps m b) :
    Calls Try.prog 65 #[.slice (some ⟨g, 0, none⟩) n cap, .int .i64 a, .int .i64 m, .int .i64 b, .func (.func 60) #[] #[]] w (MrgPost w g B d n ps a b) := by
  have SZ := Lib.hid h.sz
  have H := Lib.hid h
  have S1 := Lib.hid hs1
  have S2 := Lib.hid hs2
  have IH := Lib.hid ih
  clear h hs1 hs2 ih
  have e0 : ((m : Int) - (a : Int) == 1) = false := by simp; omega
  have e1 : ((b : Int) - (m : Int) == 1) = false := by simp; omega
  go_enter Try.func65, Try.ntmps65
  go_upto_region 25 with fail
  obtain ⟨mid, hh⟩ : ∃ h : Nat, ((a : Int) + (b : Int)) / 2 = (h : Int) := ⟨(a + b) / 2, by omega⟩
  have HMID : Hid (mid = (a + b) / 2) := Lib.hid (by omega)
  have hmd1 : 2 * mid ≤ a + b := by omega
  have hmd2 : a + b ≤ 2 * mid + 1 := by omega
  rw [hh]
  clear hh
  go_upto_if 140 with fail
  go_cut [20, 21] (fun vs vr wx => ∃ s0 r0 : Nat, vs = .int .i64 s0 ∧ vr = .int .i64 r0 ∧ a ≤ s0 ∧ s0 ≤ r0 ∧ r0 ≤ m ∧ r0 ≤ mid ∧ mid + m ≤ s0 + b ∧ Hid (WhereP a m b mid s0 r0) ∧ w = wx)
  case first =>
    by_cases hmm : mid < m
    · have hmz : (mid : Int) < (m : Int) := by omega
      go_wp2_with fail
      go_meet
      exact ⟨mid + m - b, mid, by go_num, rfl, by omega, by omega, by omega, by omega, by omega, Lib.hid (.inl ⟨hmm, rfl, rfl⟩), rfl⟩
    · have hmz : ¬ (mid : Int) < (m : Int) := by omega
      go_wp2_with fail
      go_meet
      exact ⟨a, m, rfl, rfl, by omega, by omega, by omega, by omega, by omega, Lib.hid (.inr ⟨by omega, rfl, rfl⟩), rfl⟩
  case rest =>
    obtain ⟨s0, r0, rfl, rfl, ds1, ds2, ds3, ds4, ds5, HW, rfl⟩ := hcut
    go_wp2_with fail
    go_loopw [20, 21] (fun vs vr wr => ∃ s r : Nat, vs = .int .i64 s ∧ vr = .int .i64 r ∧ s0 ≤ s ∧ s ≤ r ∧ r ≤ r0 ∧ Hid (Held w wr g B d n ps) ∧ Hid (Srch (TstB ps (mid + m - 1)) s0 r0 s r)) (fun vs vr _ => (intOf vr).toNat - (intOf vs).toNat)
    case atStart => exact ⟨s0, r0, rfl, rfl, Nat.le_refl _, ds2, Nat.le_refl _, H, Lib.hid (Srch.start _ _ _ ds2)⟩
    case round =>
      obtain ⟨s, r1, rfl, rfl, hs0, hsr, hr0, hH, HF⟩ := hrel
      have mono := Lib.hid (show ∀ x y, s0 ≤ x → x ≤ y → y < r0 → TstB ps (mid + m - 1) y → TstB ps (mid + m - 1) x from both_mono ord_cmpP S1.out S2.out (by omega) (by omega) (fun c c1 c2 => by omega))
      by_cases hlt : s < r1
      · as_aux_lemma =>
        have hltz : (s : Int) < (r1 : Int) := by omega
        go_upto_region 35 with fail
        obtain ⟨h, hh⟩ : ∃ h : Nat, ((s : Int) + (r1 : Int)) / 2 = (h : Int) := ⟨(s + r1) / 2, by omega⟩
        have h1 : s ≤ h := by omega
        have h2 : h < r1 := by omega
        rw [hh]
        clear hh
        have h3 : (h : Int) < (n : Int) := by omega
        have p1 : IntKind.i64.wrap ((mid : Int) + (m : Int) - 1 - (h : Int)) = (mid : Int) + (m : Int) - 1 - (h : Int) := IntWalk.i64_in _ (by omega)
        have p2 : (0 : Int) ≤ (mid : Int) + (m : Int) - 1 - (h : Int) := by omega
        have p3 : (mid : Int) + (m : Int) - 1 - (h : Int) < (n : Int) := by omega
        have p4 : ((mid : Int) + (m : Int) - 1 - (h : Int)).toNat = mid + m - 1 - h := by omega
        generalize hxj : ps[mid + m - 1 - h]! = xj
        generalize hxp : ps[h]! = xp
        have HX := Lib.hid hxj
        have HY := Lib.hid hxp
        have cQ := Lib.hid (hH.out.cmp hB hg (mid + m - 1 - h) (h) (by omega) (by omega) hxj hxp)
        clear hxj hxp
        obtain ⟨q0, q1, q2, q3, q4, q5, q6, q7, q8, q9, zq0, zq1, zq2, zq3, zq4, zq5, zq6, zq7, zq8, zq9⟩ := hH.out.ten (mid + m - 1 - h) (by omega) HX.out
        obtain ⟨p0, p1, p2, p3, p4, p5, p6, p7, p8, p9, zp0, zp1, zp2, zp3, zp4, zp5, zp6, zp7, zp8, zp9⟩ := hH.out.ten (h) (by omega) HY.out
        replace q0 := cell_regrown q0
        replace p0 := cell_regrown p0
        replace q1 := cell_regrown q1
        replace p1 := cell_regrown p1
        replace q2 := cell_regrown q2
        replace p2 := cell_regrown p2
        replace q3 := cell_regrown q3
        replace p3 := cell_regrown p3
        replace q4 := cell_regrown q4
        replace p4 := cell_regrown p4
        replace q5 := cell_regrown q5
        replace p5 := cell_regrown p5
        replace q6 := cell_regrown q6
        replace p6 := cell_regrown p6
        replace q7 := cell_regrown q7
        replace p7 := cell_regrown p7
        replace q8 := cell_regrown q8
        replace p8 := cell_regrown p8
        replace q9 := cell_regrown q9
        replace p9 := cell_regrown p9
        clear zq0 zp0 zq1 zp1 zq2 zp2 zq3 zp3 zq4 zp4 zq5 zp5 zq6 zp6 zq7 zp7 zq8 zp8 zq9 zp9
        generalize hr : cmpP xj xp = r at cQ
        have HR := Lib.hid hr
        clear hr
        refine wp_region_quiet_below (by kernel_rfl) (by kernel_rfl) ?_
        repeat (first | go_big_quiet_step (exact cQ.out _ _) | quiet_step (exact cQ.out _ _))
        refine wpQuiet_nil ?_
        intro _ hw'
        obtain ⟨⟨dq, osq⟩, hw''⟩ := hw'
        subst hw''
        have HQ := Lib.hid (hH.out.below (below_regrown wr dq osq) (hg))
        generalize grow (redrawn wr dq) osq = wq at HQ
        clear q0 p0 q1 p1 q2 p2 q3 p3 q4 p4 q5 p5 q6 p6 q7 p7 q8 p8 q9 p9
        cases hlb : (!decide (r < 0))
        · have hlv : r < 0 := by simpa using hlb
          clear hlb p1 p4
          go_wp2
          go_roundw
          case rel => exact ⟨s, h, rfl, rfl, hs0, h1, by omega, HQ, Lib.hid (HF.out.down h1 h2 mono.out (show ¬ ¬ cmpP ps[mid + m - 1 - h]! ps[h]! < 0 by rw [HX.out, HY.out, HR.out]; exact fun hx => hx hlv))⟩
          case measure => simp [intOf]; omega
        · have hlv : ¬ r < 0 := by simpa using hlb
          clear hlb p1 p4
          go_wp2
          go_roundw
          case rel => exact ⟨h + 1, r1, by go_num, rfl, by omega, by omega, hr0, HQ, Lib.hid (HF.out.up h1 h2 mono.out (show ¬ cmpP ps[mid + m - 1 - h]! ps[h]! < 0 by rw [HX.out, HY.out, HR.out]; exact hlv))⟩
          case measure => simp [intOf]; omega
      · obtain rfl : s = r1 := by omega
        clear hlt mono
        have CUT := Lib.hid (fun (d1 : Array Pr) (hr : Rot ps s m (mid + m - s) d1) => show CutP ps a b s mid (mid + m - s) d1 from cut_both ord_cmpP (by rw [SZ.out]; exact hb) (by omega) (by omega) HMID.out S1.out S2.out HW.out HF.out hr)
        have hsm : s ≤ m := by omega
        have hsd : s ≤ mid := by omega
        by_cases q1 : s < m
        · by_cases q4 : s < mid
          · by_cases q3 : a < s
            · by_cases q6 : mid + m - s < b
              · as_aux_lemma =>
                have t1 : (s : Int) < (m : Int) := by omega
                have t2 : (m : Int) < (mid : Int) + (m : Int) - (s : Int) := by omega
                have t3 : (a : Int) < (s : Int) := by omega
                have t4 : (s : Int) < (mid : Int) := by omega
                have t5 : (mid : Int) < (mid : Int) + (m : Int) - (s : Int) := by omega
                have t6 : (mid : Int) + (m : Int) - (s : Int) < (b : Int) := by omega
                go_wp2_with fail
                refine (rotate_at _ g B d n cap ps (hH.out.re hB hg) hB (hH.out.gz hg) s m (mid + m - s) _ _ _ rfl rfl (by omega) (by omega) (by omega) (by omega) hn).mono ?_
                rintro e w1 ⟨rfl, d1, hh, hr⟩
                have H1 := Lib.hid (hH.out.on hB hg hh)
                have C1 := Lib.hid (CUT.out d1 hr)
                clear hh hr
                go_wp2_with fail
                refine (IH.out _ g B d cap d1 a s mid _ _ _ rfl rfl rfl (by omega) (H1.out.re hB hg) hB (H1.out.gz hg) (by omega) (by omega) (by omega) C1.out.s1 C1.out.s2).mono ?_
                rintro e w2 ⟨rfl, d2, hh, hr⟩
                have H2 := Lib.hid (H1.out.on hB hg hh)
                have C2 := Lib.hid (show MgdP a mid d1 d2 from hr)
                clear hh hr
                go_wp2_with fail
                refine (IH.out _ g B d cap d2 mid (mid + m - s) b _ _ _ rfl (by omega) rfl (by omega) (H2.out.re hB hg) hB (H2.out.gz hg) (by omega) (by omega) (by omega) (srt_out C2.out (Nat.le_refl _) C1.out.s3) (srt_out C2.out (by omega) C1.out.s4)).mono ?_
                rintro e w3 ⟨rfl, d3, hh, hr⟩
                have H3 := Lib.hid (H2.out.on hB hg hh)
                have C3 := Lib.hid (show MgdP mid b d2 d3 from hr)
                clear hh hr
                go_wp2_with fail
                go_end0
                exact ⟨rfl, d3, H3.out, C1.out.join (by omega) (by omega) C2.out C3.out⟩
              · as_aux_lemma =>
                have t1 : (s : Int) < (m : Int) := by omega
                have t2 : (m : Int) < (mid : Int) + (m : Int) - (s : Int) := by omega
                have t3 : (a : Int) < (s : Int) := by omega
                have t4 : (s : Int) < (mid : Int) := by omega
                have t5 : (mid : Int) < (mid : Int) + (m : Int) - (s : Int) := by omega
                have t6 : ¬ (mid : Int) + (m : Int) - (s : Int) < (b : Int) := by omega
                go_wp2_with fail
                refine (rotate_at _ g B d n cap ps (hH.out.re hB hg) hB (hH.out.gz hg) s m (mid + m - s) _ _ _ rfl rfl (by omega) (by omega) (by omega) (by omega) hn).mono ?_
                rintro e w1 ⟨rfl, d1, hh, hr⟩
                have H1 := Lib.hid (hH.out.on hB hg hh)
                have C1 := Lib.hid (CUT.out d1 hr)
                clear hh hr
                go_wp2_with fail
                refine (IH.out _ g B d cap d1 a s mid _ _ _ rfl rfl rfl (by omega) (H1.out.re hB hg) hB (H1.out.gz hg) (by omega) (by omega) (by omega) C1.out.s1 C1.out.s2).mono ?_
                rintro e w2 ⟨rfl, d2, hh, hr⟩
                have H2 := Lib.hid (H1.out.on hB hg hh)
                have C2 := Lib.hid (show MgdP a mid d1 d2 from hr)
                clear hh hr
                go_wp2_with fail
                go_end0
                exact ⟨rfl, d2, H2.out, C1.out.join (by omega) (by omega) C2.out (Mgd.refl _ _ _ _ (srt_out C2.out (Nat.le_refl _) (half_right C1.out (by omega))))⟩
            · by_cases q6 : mid + m - s < b
              · as_aux_lemma =>
                have t1 : (s : Int) < (m : Int) := by omega
                have t2 : (m : Int) < (mid : Int) + (m : Int) - (s : Int) := by omega
                have t3 : ¬ (a : Int) < (s : Int) := by omega
                have t4 : (s : Int) < (mid : Int) := by omega
                have t5 : (mid : Int) < (mid : Int) + (m : Int) - (s : Int) := by omega
                have t6 : (mid : Int) + (m : Int) - (s : Int) < (b : Int) := by omega
                go_wp2_with fail
                refine (rotate_at _ g B d n cap ps (hH.out.re hB hg) hB (hH.out.gz hg) s m (mid + m - s) _ _ _ rfl rfl (by omega) (by omega) (by omega) (by omega) hn).mono ?_
                rintro e w1 ⟨rfl, d1, hh, hr⟩
                have H1 := Lib.hid (hH.out.on hB hg hh)
                have C1 := Lib.hid (CUT.out d1 hr)
                clear hh hr
                have H2 := H1
                have C2 : Hid (MgdP a mid d1 d1) := Lib.hid (Mgd.refl _ _ _ _ (half_left C1.out (by omega)))
                go_wp2_with fail
                refine (IH.out _ g B d cap d1 mid (mid + m - s) b _ _ _ rfl (by omega) rfl (by omega) (H2.out.re hB hg) hB (H2.out.gz hg) (by omega) (by omega) (by omega) (srt_out C2.out (Nat.le_refl _) C1.out.s3) (srt_out C2.out (by omega) C1.out.s4)).mono ?_
                rintro e w3 ⟨rfl, d3, hh, hr⟩
                have H3 := Lib.hid (H2.out.on hB hg hh)
                have C3 := Lib.hid (show MgdP mid b d1 d3 from hr)
                clear hh hr
                go_wp2_with fail
                go_end0
                exact ⟨rfl, d3, H3.out, C1.out.join (by omega) (by omega) C2.out C3.out⟩
              · as_aux_lemma =>
                have t1 : (s : Int) < (m : Int) := by omega
                have t2 : (m : Int) < (mid : Int) + (m : Int) - (s : Int) := by omega
                have t3 : ¬ (a : Int) < (s : Int) := by omega
                have t4 : (s : Int) < (mid : Int) := by omega
                have t5 : (mid : Int) < (mid : Int) + (m : Int) - (s : Int) := by omega
                have t6 : ¬ (mid : Int) + (m : Int) - (s : Int) < (b : Int) := by omega
                go_wp2_with fail
                refine (rotate_at _ g B d n cap ps (hH.out.re hB hg) hB (hH.out.gz hg) s m (mid + m - s) _ _ _ rfl rfl (by omega) (by omega) (by omega) (by omega) hn).mono ?_
                rintro e w1 ⟨rfl, d1, hh, hr⟩
                have H1 := Lib.hid (hH.out.on hB hg hh)
                have C1 := Lib.hid (CUT.out d1 hr)
                clear hh hr
                have H2 := H1
                have C2 : Hid (MgdP a mid d1 d1) := Lib.hid (Mgd.refl _ _ _ _ (half_left C1.out (by omega)))
                go_wp2_with fail
                go_end0
                exact ⟨rfl, d1, H2.out, C1.out.join (by omega) (by omega) C2.out (Mgd.refl _ _ _ _ (srt_out C2.out (Nat.le_refl _) (half_right C1.out (by omega))))⟩
          · as_aux_lemma =>
            have q6 : mid + m - s < b := by omega
            have q3 : a < s := by omega
            have t1 : (s : Int) < (m : Int) := by omega
            have t2 : ¬ (m : Int) < (mid : Int) + (m : Int) - (s : Int) := by omega
            have t3 : (a : Int) < (s : Int) := by omega
            have t4 : ¬ (s : Int) < (mid : Int) := by omega
            have t5 : (mid : Int) < (mid : Int) + (m : Int) - (s : Int) := by omega
            have t6 : (mid : Int) + (m : Int) - (s : Int) < (b : Int) := by omega
            have H1 := hH
            have C1 := Lib.hid (CUT.out ps (rot_none _ _ _ _ (by omega) (by omega) (by omega)))
            have H2 := H1
            have C2 : Hid (MgdP a mid ps ps) := Lib.hid (Mgd.refl _ _ _ _ (half_left C1.out (by omega)))
            go_wp2_with fail
            refine (IH.out _ g B d cap ps mid (mid + m - s) b _ _ _ rfl (by omega) rfl (by omega) (H2.out.re hB hg) hB (H2.out.gz hg) (by omega) (by omega) (by omega) (srt_out C2.out (Nat.le_refl _) C1.out.s3) (srt_out C2.out (by omega) C1.out.s4)).mono ?_
            rintro e w3 ⟨rfl, d3, hh, hr⟩
            have H3 := Lib.hid (H2.out.on hB hg hh)
            have C3 := Lib.hid (show MgdP mid b ps d3 from hr)
            clear hh hr
            go_wp2_with fail
            go_end0
            exact ⟨rfl, d3, H3.out, C1.out.join (by omega) (by omega) C2.out C3.out⟩
        · by_cases q4 : a < s ∧ s < mid
          · obtain ⟨q3, q4⟩ := q4
            as_aux_lemma =>
            have t1 : ¬ (s : Int) < (m : Int) := by omega
            have t3 : (a : Int) < (s : Int) := by omega
            have t4 : (s : Int) < (mid : Int) := by omega
            have t5 : ¬ (mid : Int) < (mid : Int) + (m : Int) - (s : Int) := by omega
            have H1 := hH
            have C1 := Lib.hid (CUT.out ps (rot_none _ _ _ _ (by omega) (by omega) (by omega)))
            go_wp2_with fail
            refine (IH.out _ g B d cap ps a s mid _ _ _ rfl rfl rfl (by omega) (H1.out.re hB hg) hB (H1.out.gz hg) (by omega) (by omega) (by omega) C1.out.s1 C1.out.s2).mono ?_
            rintro e w2 ⟨rfl, d2, hh, hr⟩
            have H2 := Lib.hid (H1.out.on hB hg hh)
            have C2 := Lib.hid (show MgdP a mid ps d2 from hr)
            clear hh hr
            go_wp2_with fail
            go_end0
            exact ⟨rfl, d2, H2.out, C1.out.join (by omega) (by omega) C2.out (Mgd.refl _ _ _ _ (srt_out C2.out (Nat.le_refl _) (half_right C1.out (by omega))))⟩
          · by_cases q3 : a < s
            · as_aux_lemma =>
              have q5 : ¬ s < mid := by omega
              clear q4
              have t1 : ¬ (s : Int) < (m : Int) := by omega
              have t3 : (a : Int) < (s : Int) := by omega
              have t4 : ¬ (s : Int) < (mid : Int) := by omega
              have t5 : ¬ (mid : Int) < (mid : Int) + (m : Int) - (s : Int) := by omega
              have H1 := hH
              have C1 := Lib.hid (CUT.out ps (rot_none _ _ _ _ (by omega) (by omega) (by omega)))
              have H2 := H1
              have C2 : Hid (MgdP a mid ps ps) := Lib.hid (Mgd.refl _ _ _ _ (half_left C1.out (by omega)))
              go_wp2_with fail
              go_end0
              exact ⟨rfl, ps, H2.out, C1.out.join (by omega) (by omega) C2.out (Mgd.refl _ _ _ _ (srt_out C2.out (Nat.le_refl _) (half_right C1.out (by omega))))⟩
            · as_aux_lemma =>
              clear q4
              have t1 : ¬ (s : Int) < (m : Int) := by omega
              have t3 : ¬ (a : Int) < (s : Int) := by omega
              have t5 : ¬ (mid : Int) < (mid : Int) + (m : Int) - (s : Int) := by omega
              have H1 := hH
              have C1 := Lib.hid (CUT.out ps (rot_none _ _ _ _ (by omega) (by omega) (by omega)))
              have H2 := H1
              have C2 : Hid (MgdP a mid ps ps) := Lib.hid (Mgd.refl _ _ _ _ (half_left C1.out (by omega)))
              go_wp2_with fail
              go_end0
              exact ⟨rfl, ps, H2.out, C1.out.join (by omega) (by omega) C2.out (Mgd.refl _ _ _ _ (srt_out C2.out (Nat.le_refl _) (half_right C1.out (by omega))))⟩
theorem symMerge_ok (n : Nat) (hn : n ≤ 100000) : ∀ k, MrgOk n k
  | 0 => fun w g B d cap ps a m b x y z hx hy hz hk => fun _ _ _ h1 h2 => by omega
  | k + 1 => fun w g B d cap ps a m b x y z hx hy hz hk h hB hg h1 h2 hb s1 s2 => by
    subst hx hy hz
    by_cases e1 : m = a + 1
    · subst e1
      exact symMerge_first w g B d n cap ps h hB hg a b h2 hb hn s2
    · by_cases e2 : b = m + 1
      · subst e2
        exact symMerge_last w g B d n cap ps h hB hg a m (by omega) hb hn s1
      · exact symMerge_both n k (symMerge_ok n hn k) w g B d cap ps h hB hg a m b (by omega) (by omega) (by omega) hb hn s1 s2
end Go.Proofs.Ytdolejafihgpmaa
