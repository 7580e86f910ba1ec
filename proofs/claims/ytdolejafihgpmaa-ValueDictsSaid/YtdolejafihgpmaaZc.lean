/- Contract of the document's Dict. -/
import Derived.Test.YtdolejafihgpmaaZd
import Derived.Deep.CutBlock
import Derived.Deep.DeepCutAuto
import Derived.Deep.Cut
namespace Go.Proofs.Ytdolejafihgpmaa
open Go.RowKit Go.Sort
attribute [local go_sem ↓] Go.wp_at_zero Go.wp_at_succ

theorem refCmp_grown {w : World} {d d' : Nat} {x y : At} (hx : x.In w d) (hy : y.In w d') (n : Nat) (os : Array Obj) : Calls Try.prog 13 #[x.v, y.v] (grow (redrawn w n) os) fun e w'' => e = .returned (.int .i64 (cmpV 12 x.t y.t)) ∧ ∃ p : Regrown, w'' = grow (redrawn w p.d) p.os :=
  Calls.regrown_of (refCmp_any _ d d' x.t y.t _ _ _ _ _ _ _ _ (hx.next (below_regrown w n os)) (hy.next (below_regrown w n os)))
theorem refSame_grown {w : World} {d d' : Nat} {x y : At} (hx : x.In w d) (hy : y.In w d') (n : Nat) (os : Array Obj) : Calls Try.prog 20 #[x.v, y.v] (grow (redrawn w n) os) fun e w'' => e = .returned (.bool (cmpV 12 x.t y.t == 0)) ∧ ∃ p : Regrown, w'' = grow (redrawn w p.d) p.os :=
  refSame_regrown hx hy n os
theorem news_one (w : World) (q : At) : ∀ (j : Nat) (z : At), [q][j]? = some z → cells5 (w.alloc (.cells #[.int .i64 q.t.k, .int .i64 q.t.n, .string q.t.s, .slice q.A q.t.l.length q.c, .slice q.A' q.t.m.length q.c'] 24)) w.heap.size (0 + j * 5) z.t z.A z.c z.A' z.c' := fun j z h => by
  have hj := (List.getElem?_eq_some_iff.1 h).1
  simp at hj
  subst hj
  simp at h
  subst h
  have := Cell.new w (.int .i64 q.t.k) (.int .i64 q.t.n) (.string q.t.s) (.slice q.A q.t.l.length q.c) (.slice q.A' q.t.m.length q.c')
  exact ⟨this.c0, this.c1, this.c2, this.c3, this.c4⟩
theorem St.begin (w W : World) (hW : (w.alloc (.cells #[.int .i64 0, .int .i64 0, .string ⟨#[]⟩, .slice none 0 0, .slice none 0 0] 24)).alloc (.cells #[.int .i64 7, .int .i64 0, .string ⟨#[]⟩, .slice none 0 0, .slice none 0 0] 24) = W) :
    St w W w.heap.size (w.heap.size + 1) W.heap.size [w.heap.size, w.heap.size + 1] [] none 0 none 0 [] [] none 0 none 0 [] [] := by
  obtain ⟨k1, k2, hz, hb⟩ := cells2 _ _ _ _ _ _ _ _ _ _ _ _ hW
  exact ⟨hb, (by intro b hb; simp at hb; omega), (by simp), (by simp), (by simp), (by omega), (by omega), (by omega), Nat.le_refl _, k1.blk, k2, VG.nil _ _ _, VG.nil _ _ _, (fun b e => by cases e), (fun b e => by cases e), (by simp), VG.nil _ _ _, VG.nil _ _ _, (fun b e => by cases e), (fun b e => by cases e), (fun b e => by cases e), (by simp)⟩
theorem lows {Zl Zm : List At} {x : V} {n : Nat} {q u : At} (h : ∀ j z, j < n → (zz Zl Zm)[j]? = some z → cmpV 12 z.1 x < 0) (hq : Zl[n]? = some q) (hu : Zm[n]? = some u) (hr : cmpV 12 q.t x < 0) : ∀ j z, j < n + 1 → (zz Zl Zm)[j]? = some z → cmpV 12 z.1 x < 0 := fun j z hj hz => by
  by_cases e : j = n
  · subst e
    unfold zz at hz
    rw [List.getElem?_zipWith, hq, hu] at hz
    injection hz with hz
    subst hz
    exact hr
  · exact h j z (by omega) hz
set_option maxHeartbeats 8000000 in
set_option maxRecDepth 100000 in
theorem refDict_even (w : World) (d : Nat) (A : Option Addr) (c : Nat) (l : List V) (h : Rw w 0 w.heap.size d A c l) (hev : l.length % 2 = 0) (hn : l.length ≤ 200000) : Calls Try.prog 23 #[.slice A l.length c] w (DictM w l) := by
  have hm : ((l.length : Int) % 2 == 1) = false := by simp; omega
  have H := Lib.hid h
  have EV := Lib.hid hev
  clear h hev
  go_enter Try.func23, Try.ntmps23
  go_upto_region 4 with fail
  generalize hW : World.alloc (World.alloc _ _) _ = W
  have ST0 := Lib.hid (St.begin w W hW)
  clear hW hm
  generalize w.heap.size + 1 = g4 at ST0
  generalize hr0 : w.heap.size = r0 at ST0
  clear hr0
  go_wp2_with fail
  go_loopw [5] (fun vi wr => ∃ (i : Nat) (Zl Zm : List At) (AL : Option Addr) (cL : Nat) (AM : Option Addr) (cM : Nat) (own : List Nat) (vals : List At), vi = .int .i64 i ∧ i ≤ l.length ∧ Zl.length ≤ i ∧ Hid (i % 2 = 0) ∧ Hid (Zl.length = Zm.length) ∧ Hid (St w wr r0 g4 wr.heap.size own vals AL cL AM cM Zl Zm none 0 none 0 [] []) ∧ Hid ((pairUp (l.drop i)).foldl insC (zz Zl Zm) = (pairUp l).foldl insC [])) (fun vi _ => l.length - (intOf vi).toNat)
  case atStart => exact ⟨0, [], [], none, 0, none, 0, _, [], rfl, by omega, by simp, Lib.hid rfl, Lib.hid rfl, ST0, Lib.hid (by simp [zz])⟩
  case round =>
    obtain ⟨i, Zl, Zm, AL, cL, AM, cM, own, vals, rfl, hil, hzl, hie, hLM, hS, hF⟩ := hrel
    by_cases hlt : i + 1 < l.length
    · skip
      generalize wr.heap.size = base at hS
      obtain ⟨b, off, x, hA, ex⟩ := el_of H.out (show i < l.length by omega)
      subst hA
      obtain ⟨y, ey⟩ := el_at H.out hlt
      have EX := Lib.hid ex
      have EY := Lib.hid ey
      clear ex ey
      have i0 : (0 : Int) ≤ (i : Int) := by omega
      have i1 : (i : Int) < (l.length : Int) := by omega
      have i2 : (i : Int) + 1 < (l.length : Int) := by omega
      go_upto_block 2 with fail
      go_cut [6, 7, 8] (fun vk vv vn wx => ∃ (n : Nat) (ks vs : List At) (AK : Option Addr) (cK : Nat) (AV : Option Addr) (cV : Nat) (own : List Nat), vk = .slice AK ks.length cK ∧ vv = .slice AV vs.length cV ∧ vn = .int .i64 n ∧ n ≤ Zl.length ∧ Hid (ks = Zl.take n) ∧ Hid (vs = Zm.take n) ∧ Hid (St w wx r0 g4 base own vals AL cL AM cM Zl Zm AK cK AV cV ks vs) ∧ Hid (∀ j q, j < n → (zz Zl Zm)[j]? = some q → cmpV 12 q.1 x.t < 0) ∧ Hid (∀ q, Zl[n]? = some q → ¬ cmpV 12 q.t x.t < 0))
      case first =>
        go_wp2_with fail
        go_loopw [6, 7, 8] (fun vk vv vn wr => ∃ (n : Nat) (ks vs : List At) (AK : Option Addr) (cK : Nat) (AV : Option Addr) (cV : Nat) (own : List Nat), vk = .slice AK ks.length cK ∧ vv = .slice AV vs.length cV ∧ vn = .int .i64 n ∧ n ≤ Zl.length ∧ ks.length ≤ n ∧ vs.length ≤ n ∧ Hid (ks = Zl.take n) ∧ Hid (vs = Zm.take n) ∧ Hid (St w wr r0 g4 base own vals AL cL AM cM Zl Zm AK cK AV cV ks vs) ∧ Hid (∀ j q, j < n → (zz Zl Zm)[j]? = some q → cmpV 12 q.1 x.t < 0)) (fun _ _ vn _ => Zl.length - (intOf vn).toNat)
        case atStart => exact ⟨0, [], [], none, 0, none, 0, own, rfl, rfl, rfl, by omega, by simp, by simp, Lib.hid (by simp), Lib.hid (by simp), hS, Lib.hid (fun j q h => by omega)⟩
        case round =>
          clear hS
          obtain ⟨n, ks, vs, AK, cK, AV, cV, own, rfl, rfl, rfl, hnl, hkl, hvl, hK, hV, hS, hC⟩ := hrel
          by_cases hnt : n < Zl.length
          · skip
            obtain ⟨gL, q, hAL, _, hgl, hq, hqm, cq, _⟩ := vg_item hS.out.vl hnt
            subst hAL
            have QV := Lib.hid (hS.out.sub q (List.mem_append_left _ hqm))
            have HQ := Lib.hid hq
            clear hq hqm
            obtain ⟨m0, m1, m2, m3, m4, _⟩ := hS.out.box
            obtain ⟨q0, q1, q2, q3, q4⟩ := cq
            obtain ⟨p0, p1, p2, p3, p4⟩ := EX.out.now hS.out.bel
            have cQ := Lib.hid (refCmp_grown (hS.out.into QV.out) (EX.out.into hS.out.bel))
            replace q0 := cell_regrown q0
            replace p0 := cell_regrown p0
            replace q1 := cell_regrown q1
            replace p1 := cell_regrown p1
            replace q2 := cell_regrown q2
            replace p2 := cell_regrown p2
            replace q3 := cell_regrown q3
            replace p3 := cell_regrown p3
            replace q4 := cell_regrown q4
            replace p4 := cell_regrown p4
            replace m3 := cell_regrown m3
            have hnz : (n : Int) < (Zl.length : Int) := by omega
            have hn0 : (0 : Int) ≤ (n : Int) := by omega
            generalize hr : cmpV 12 q.t x.t = r at cQ
            have HR := Lib.hid hr
            clear hr
            go_wp2_with fail
            refine wp_region_quiet_below (by kernel_rfl) (by kernel_rfl) ?_
            repeat (first | go_big_quiet_step (exact cQ.out _ _) | quiet_step (exact cQ.out _ _))
            refine wpQuiet_nil ?_
            intro _ hw'
            obtain ⟨⟨dq, osq⟩, hw''⟩ := hw'
            subst hw''
            have HNX := Lib.hid (below_regrown wr dq osq)
            generalize grow (redrawn wr dq) osq = wq at HNX
            have HS := Lib.hid (hS.out.next HNX.out)
            clear q0 q1 q2 q3 q4 p0 p1 p2 p3 p4 m0 m1 m2 m3 m4 cQ HNX hS
            by_cases hlv : r < 0
            · (skip
               obtain ⟨gM, u, hAM, _, _, hu, hum, cu, _⟩ := vg_item HS.out.vm (show n < Zm.length by have := hLM.out; omega)
               subst hAM
               have hnm : (n : Int) < (Zm.length : Int) := by have := hLM.out; omega
               have UV := Lib.hid (HS.out.sub u (List.mem_append_right _ hum))
               have HU := Lib.hid hu
               clear hu hum cu
               obtain ⟨m0, m1, m2, m3, m4, _⟩ := HS.out.box
               obtain ⟨q0, q1, q2, q3, q4⟩ := vg_at HS.out.vl HQ.out
               go_wp2_with (first | (at_builtin; refine append_some rfl (.tmp 50) (.tmp 56) rfl base AV cV vs [u] rfl (HS2.out.next (below_new wN (.cells #[.int .i64 u.t.k, .int .i64 u.t.n, .string u.t.s, .slice u.A u.t.l.length u.c, .slice u.A' u.t.m.length u.c'] 24))).vv wN.heap.size 0 1 1 rfl rfl (news_one wN u) (by simp) (by simp; omega) (by have := HS2.out.b0; simp; omega) ?_; intro gV cVN wM hvN hgN hatN hltN; have HS3 := Lib.hid ((HS2.out.next (below_new wN (.cells #[.int .i64 u.t.k, .int .i64 u.t.n, .string u.t.s, .slice u.A u.t.l.length u.c, .slice u.A' u.t.m.length u.c'] 24))).pushV hgN hatN hltN hvN (fun z hz => by simp at hz; subst hz; exact UV.out)); clear hvN hgN hatN hltN) | (at_builtin; refine append_some rfl (.tmp 42) (.tmp 48) rfl base AK cK ks [q] rfl (HS.out.next (below_new wq (.cells #[.int .i64 q.t.k, .int .i64 q.t.n, .string q.t.s, .slice q.A q.t.l.length q.c, .slice q.A' q.t.m.length q.c'] 24))).vk wq.heap.size 0 1 1 rfl rfl (news_one wq q) (by simp) (by simp; omega) (by have := HS.out.b0; simp; omega) ?_; intro gK cKN wN hvN hgN hatN hltN; have HS2 := Lib.hid ((HS.out.next (below_new wq (.cells #[.int .i64 q.t.k, .int .i64 q.t.n, .string q.t.s, .slice q.A q.t.l.length q.c, .slice q.A' q.t.m.length q.c'] 24))).pushK hgN hatN hltN hvN (fun z hz => by simp at hz; subst hz; exact QV.out)); clear hvN hgN hatN hltN; clear q0 q1 q2 q3 q4 m0 m1 m2 m3 m4; obtain ⟨m0, m1, m2, m3, m4, _⟩ := HS2.out.box; obtain ⟨q0, q1, q2, q3, q4⟩ := vg_at HS2.out.vm HU.out))
               go_roundw
               case rel => exact ⟨n + 1, ks ++ [q], vs ++ [u], _, _, _, _, _, by simp, by simp, by go_num, by omega, by simp; omega, by simp; omega, Lib.hid (take_on hK.out HQ.out), Lib.hid (take_on hV.out HU.out), HS3, Lib.hid (lows hC.out HQ.out HU.out (by rw [HR.out]; exact hlv))⟩
               case measure => simp [intOf]; omega)
            · go_wp2_with fail
              go_meet
              exact ⟨n, ks, vs, AK, cK, AV, cV, _, rfl, rfl, rfl, hnl, hK, hV, HS, hC, Lib.hid (fun z hz => by rw [HQ.out] at hz; injection hz with hz; subst hz; rw [HR.out]; exact hlv)⟩
          · skip
            have hnz : ¬ (n : Int) < (Zl.length : Int) := by omega
            obtain ⟨m0, m1, m2, m3, m4, _⟩ := hS.out.box
            replace m3 := cell_regrown m3
            go_wp2_with fail
            refine wp_region_quiet_below (by kernel_rfl) (by kernel_rfl) ?_
            repeat (first | go_big_quiet_step (fail) | quiet_step (fail))
            refine wpQuiet_nil ?_
            intro _ hw'
            obtain ⟨⟨dq, osq⟩, hw''⟩ := hw'
            subst hw''
            have HNX := Lib.hid (below_regrown wr dq osq)
            generalize grow (redrawn wr dq) osq = wq at HNX
            have HS := Lib.hid (hS.out.next HNX.out)
            clear m0 m1 m2 m3 m4 HNX hS
            go_wp2_with fail
            go_meet
            exact ⟨n, ks, vs, AK, cK, AV, cV, _, rfl, rfl, rfl, hnl, hK, hV, HS, hC, Lib.hid (fun z hz => by have := (List.getElem?_eq_some_iff.1 hz).1; omega)⟩
      case rest =>
        clear hS
        obtain ⟨n, ks, vs, AK, cK, AV, cV, own, rfl, rfl, rfl, hnl, hK, hV, hS, hC, hG⟩ := hcut
        obtain ⟨p0, p1, p2, p3, p4⟩ := EX.out.now hS.out.bel
        go_wp2_with fail
        refine (refCopy_full wc _ x (EX.out.into hS.out.bel)).mono ?_
        rintro e w1 ⟨C1, hc1, rfl, rd1, hb1⟩
        have HC1 := Lib.hid hc1
        have HS1 := Lib.hid ((hS.out.next hb1).val rd1 (fun b hb => (hS.out.lo b hb).2) hS.out.bel.size)
        clear hS hc1 rd1 hb1 p0 p1 p2 p3 p4
        have HS2 := Lib.hid (HS1.out.fresh (below_new w1 (.cells #[.int .i64 C1.t.k, .int .i64 C1.t.n, .string C1.t.s, .slice C1.A C1.t.l.length C1.c, .slice C1.A' C1.t.m.length C1.c'] 24)) (Nat.le_refl _) (by simp))
        have C9 := Lib.hid (Cell.new w1 (.int .i64 C1.t.k) (.int .i64 C1.t.n) (.string C1.t.s) (.slice C1.A C1.t.l.length C1.c) (.slice C1.A' C1.t.m.length C1.c'))
        have HF := Lib.hid (show r0 < w1.heap.size ∧ g4 < w1.heap.size ∧ (∀ b, Value.ownBlock (.slice AL Zl.length cL) = some b → b < w1.heap.size) ∧ (∀ b, Value.ownBlock (.slice AM Zm.length cM) = some b → b < w1.heap.size) ∧ (∀ b, Value.ownBlock (.slice AK ks.length cK) = some b → b < w1.heap.size) ∧ (∀ b, Value.ownBlock (.slice AV vs.length cV) = some b → b < w1.heap.size) from ⟨(HS1.out.lo r0 HS1.out.rin).2, (HS1.out.lo g4 HS1.out.gin).2, fun b e => (HS1.out.lo b (HS1.out.ol b e).1).2, fun b e => (HS1.out.lo b (HS1.out.om b e).1).2, fun b e => (HS1.out.lo b (HS1.out.okk b e)).2, fun b e => (HS1.out.lo b (HS1.out.ovv b e)).2⟩)
        go_upto_region 15 with fail
        generalize World.alloc w1 _ = W at HS2 C9
        generalize w1.heap.size = g9 at HS2 C9 HF
        go_cut [81] (fun vb wx => ∃ b : Bool, vb = .bool b ∧ Hid (b = true → ∃ q, Zl[n]? = some q ∧ cmpV 12 q.t x.t = 0) ∧ Hid (b = false → ∀ q, Zl[n]? = some q → cmpV 12 q.t x.t ≠ 0) ∧ Hid (Below W.heap.size W wx))
        case first =>
          obtain ⟨m0, m1, m2, m3, m4, _⟩ := HS2.out.box
          replace m3 := cell_regrown m3
          by_cases hnt : n < Zl.length
          · obtain ⟨gL, q, hAL, _, hgl, hq, hqm, cq, _⟩ := vg_item HS2.out.vl hnt
            subst hAL
            have QV := Lib.hid (HS2.out.sub q (List.mem_append_left _ hqm))
            have HQ := Lib.hid hq
            clear hq hqm
            obtain ⟨q0, q1, q2, q3, q4⟩ := cq
            obtain ⟨p0, p1, p2, p3, p4⟩ := EX.out.now HS2.out.bel
            have cQ := Lib.hid (refSame_grown (HS2.out.into QV.out) (EX.out.into HS2.out.bel))
            replace q0 := cell_regrown q0
            replace p0 := cell_regrown p0
            replace q1 := cell_regrown q1
            replace p1 := cell_regrown p1
            replace q2 := cell_regrown q2
            replace p2 := cell_regrown p2
            replace q3 := cell_regrown q3
            replace p3 := cell_regrown p3
            replace q4 := cell_regrown q4
            replace p4 := cell_regrown p4
            have hnz : (n : Int) < (Zl.length : Int) := by omega
            have hn0 : (0 : Int) ≤ (n : Int) := by omega
            generalize hr : cmpV 12 q.t x.t = r at cQ
            have HR := Lib.hid hr
            clear hr
            refine wp_region_quiet_below (by kernel_rfl) (by kernel_rfl) ?_
            repeat (first | go_big_quiet_step (exact cQ.out _ _) | quiet_step (exact cQ.out _ _))
            refine wpQuiet_nil ?_
            intro _ hw'
            obtain ⟨⟨dq, osq⟩, hw''⟩ := hw'
            subst hw''
            have HNX := Lib.hid (below_regrown W dq osq)
            generalize grow (redrawn W dq) osq = wq at HNX
            clear q0 q1 q2 q3 q4 p0 p1 p2 p3 p4 m0 m1 m2 m3 m4 cQ
            go_wp2_with fail
            go_meet
            exact ⟨r == 0, rfl, Lib.hid (fun h => ⟨q, HQ.out, by rw [HR.out]; simpa using h⟩), Lib.hid (fun h z hz => by rw [HQ.out] at hz; injection hz with hz; subst hz; rw [HR.out]; simpa using h), HNX⟩
          · have hnz : ¬ (n : Int) < (Zl.length : Int) := by omega
            refine wp_region_quiet_below (by kernel_rfl) (by kernel_rfl) ?_
            repeat (first | go_big_quiet_step (fail) | quiet_step (fail))
            refine wpQuiet_nil ?_
            intro _ hw'
            obtain ⟨⟨dq, osq⟩, hw''⟩ := hw'
            subst hw''
            have HNX := Lib.hid (below_regrown W dq osq)
            generalize grow (redrawn W dq) osq = wq at HNX
            clear m0 m1 m2 m3 m4
            go_wp2_with fail
            go_meet
            exact ⟨false, rfl, Lib.hid (fun h => by cases h), Lib.hid (fun h z hz => by have := (List.getElem?_eq_some_iff.1 hz).1; omega), HNX⟩
        case rest =>
          obtain ⟨b, rfl, hT, hN, hB⟩ := hcut
          have HS3 := Lib.hid (HS2.out.next hB.out)
          have C9b := Lib.hid (C9.out.next hB.out)
          clear HS2 C9 hB
          go_upto_if 81 with fail
          go_cut [8] (fun vn wx => ∃ (n2 : Nat) (k : At), vn = .int .i64 n2 ∧ n2 ≤ Zl.length ∧ ks.length ≤ n2 ∧ Hid (ks.length = vs.length) ∧ Hid (k ∈ C1 :: vals) ∧ Hid (Lays Zl Zm x.t y.t ks vs k n2) ∧ Hid (Cell wx g9 (.int .i64 k.t.k) (.int .i64 k.t.n) (.string k.t.s) (.slice k.A k.t.l.length k.c) (.slice k.A' k.t.m.length k.c')) ∧ Hid (St w wx r0 g4 base (g9 :: own) (C1 :: vals) AL cL AM cM Zl Zm AK cK AV cV ks vs))
          case first =>
            cases b
            · go_wp2_with fail
              go_meet
              exact ⟨n, C1, rfl, hnl, by rw [hK.out]; simp; omega, Lib.hid (by rw [hK.out, hV.out]; have := hLM.out; simp; omega), Lib.hid (by simp), Lib.hid (by rw [hK.out, hV.out]; exact lays_more hLM.out hC.out (fun q hq => ⟨by have := hG.out q hq; omega, hN.out (by simp) q hq⟩) HC1.out), C9b, HS3⟩
            · obtain ⟨q, hq, he⟩ := hT.out rfl
              have hnt := (List.getElem?_eq_some_iff.1 hq).1
              obtain ⟨gL, q', hAL, _, hgl, hq', hqm, cq, _⟩ := vg_item HS3.out.vl hnt
              rw [hq] at hq'
              injection hq' with hq'
              subst hq'
              subst hAL
              have QV := Lib.hid (HS3.out.sub q (List.mem_append_left _ hqm))
              have HQ := Lib.hid hq
              have HE := Lib.hid he
              clear hq hqm he
              obtain ⟨q0, q1, q2, q3, q4⟩ := cq
              obtain ⟨m0, m1, m2, m3, m4, _⟩ := HS3.out.box
              obtain ⟨d0, d1, d2, d3, d4, z0, z1, z2, z3, z4, blk9⟩ := C9b.out
              have hnz : (n : Int) < (Zl.length : Int) := by omega
              have hn0 : (0 : Int) ≤ (n : Int) := by omega
              obtain ⟨F, hF, cF, _⟩ := ret_box blk9 (.int .i64 q.t.k) (.int .i64 q.t.n) (.string q.t.s) (.slice q.A q.t.l.length q.c) (.slice q.A' q.t.m.length q.c')
              have HP := Lib.hid (HS3.out.keep (own' := g9 :: own) (t := some g9) (wx := F) (by rw [hF]; exact grown_put5 wc g9 0 _ _ _ _ _) (fun b e => by obtain ⟨h1, h2, h3, h4, h5, h6⟩ := HF.out; injection e with e; subst e; exact ⟨List.mem_cons_self, by omega, by omega, fun h => absurd (h3 _ h) (Nat.lt_irrefl _), fun h => absurd (h4 _ h) (Nat.lt_irrefl _), fun h => absurd (h5 _ h) (Nat.lt_irrefl _), fun h => absurd (h6 _ h) (Nat.lt_irrefl _)⟩) (fun b hb => .inl hb) (fun b hb => hb))
              have HCF := Lib.hid cF
              have HFE := Lib.hid hF
              clear HS3 blk9 cF hF
              go_wp2_with fail
              rw [← HFE.out]
              go_meet
              exact ⟨n + 1, q, by go_num, by omega, by rw [hK.out]; simp; omega, Lib.hid (by rw [hK.out, hV.out]; have := hLM.out; simp; omega), QV, Lib.hid (by rw [hK.out, hV.out]; exact lays_same hLM.out hC.out HQ.out HE.out), HCF, HP⟩
          case rest =>
            obtain ⟨n2, k, rfl, hn2, hk2, hkv, KV, HL, C9c, HS4⟩ := hcut
            clear HS3 C9b hT hN hC hG hK hV
            obtain ⟨d0, d1, d2, d3, d4, _⟩ := C9c.out
            have hvs : vs.length ≤ n2 := by have := hkv.out; omega
            go_upto_region 19 with (at_builtin; refine append_some rfl (.tmp 89) (.tmp 91) rfl base AK cK ks [k] rfl (HS4.out.next (below_new wc (.cells #[.int .i64 k.t.k, .int .i64 k.t.n, .string k.t.s, .slice k.A k.t.l.length k.c, .slice k.A' k.t.m.length k.c'] 24))).vk wc.heap.size 0 1 1 rfl rfl (news_one wc k) (by simp) (by simp; omega) (by have := HS4.out.b0; simp; omega) ?_; intro gK cKN w18 hvN hgN hatN hltN; have HS5 := Lib.hid ((HS4.out.next (below_new wc (.cells #[.int .i64 k.t.k, .int .i64 k.t.n, .string k.t.s, .slice k.A k.t.l.length k.c, .slice k.A' k.t.m.length k.c'] 24))).pushK hgN hatN hltN hvN (fun z hz => by simp at hz; subst hz; exact KV.out)); clear hvN hgN hatN hltN; obtain ⟨K1, hK1⟩ : ∃ K1, ks ++ [k] = K1 := ⟨_, rfl⟩; rw [hK1] at HS5; have hk1 : ks.length + 1 = K1.length := (by rw [← hK1]; simp); rw [hk1]; have HK1 := Lib.hid hK1; have kl1 : K1.length ≤ n2 + 1 := (by omega); clear hK1 hk1 d0 d1 d2 d3 d4)
            obtain ⟨p0, p1, p2, p3, p4⟩ := EY.out.now HS5.out.bel
            go_wp2_with fail
            refine (refCopy_full w18 _ y (EY.out.into HS5.out.bel)).mono ?_
            rintro e w19 ⟨C2, hc2, rfl, rd2, hb2⟩
            have HC2 := Lib.hid hc2
            have HS6 := Lib.hid ((HS5.out.next hb2).val rd2 (fun b hb => (HS5.out.lo b hb).2) HS5.out.bel.size)
            clear HS5 hc2 rd2 hb2 p0 p1 p2 p3 p4 HS4
            go_upto_region 20 with (at_builtin; refine append_some rfl (.tmp 93) (.tmp 100) rfl base AV cV vs [C2] rfl (HS6.out.next (below_new w19 (.cells #[.int .i64 C2.t.k, .int .i64 C2.t.n, .string C2.t.s, .slice C2.A C2.t.l.length C2.c, .slice C2.A' C2.t.m.length C2.c'] 24))).vv w19.heap.size 0 1 1 rfl rfl (news_one w19 C2) (by simp) (by simp; omega) (by have := HS6.out.b0; simp; omega) ?_; intro gV cVN w20 hvN hgN hatN hltN; have HS7 := Lib.hid ((HS6.out.next (below_new w19 (.cells #[.int .i64 C2.t.k, .int .i64 C2.t.n, .string C2.t.s, .slice C2.A C2.t.l.length C2.c, .slice C2.A' C2.t.m.length C2.c'] 24))).pushV hgN hatN hltN hvN (fun z hz => by simp at hz; subst hz; exact List.mem_cons_self)); clear hvN hgN hatN hltN; obtain ⟨V1, hV1⟩ : ∃ V1, vs ++ [C2] = V1 := ⟨_, rfl⟩; rw [hV1] at HS7; have hv1 : vs.length + 1 = V1.length := (by rw [← hV1]; simp); rw [hv1]; have HV1 := Lib.hid hV1; have vl1 : V1.length ≤ n2 + 1 := (by omega); clear hV1 hv1)
            clear HS6
            have q0 : (0 : Int) ≤ (n2 : Int) := by omega
            have hle : (n2 : Int) ≤ (Zl.length : Int) := by omega
            have hml : Zm.length ≤ i := by have := hLM.out; omega
            have hme : (n2 : Int) ≤ (Zm.length : Int) := by have := hLM.out; omega
            skip
            go_cut [6] (fun vk wx => ∃ (gK2 : Nat) (K2 : List At) (cK2 : Nat) (own2 : List Nat), vk = .slice (some ⟨gK2, 0, none⟩) K2.length cK2 ∧ Hid (K2 = K1 ++ Zl.drop n2) ∧ Hid (St w wx r0 g4 base own2 (C2 :: C1 :: vals) AL cL AM cM Zl Zm (some ⟨gK2, 0, none⟩) cK2 (some ⟨gV, 0, none⟩) cVN K2 V1))
            case first =>
              have hcap := (vg_cap HS7.out.vl).2.2
              by_cases hlast : n2 < Zl.length
              · obtain ⟨gL, _, hAL, _, _, _, _, _, _⟩ := vg_item HS7.out.vl hlast
                subst hAL
                obtain ⟨m0, m1, m2, m3, m4, _⟩ := HS7.out.box
                go_wp2_with (at_builtin; refine append_some rfl (.tmp 102) (.tmp 106) rfl base (some ⟨gK, 0, none⟩) cKN K1 (Zl.drop n2) rfl HS7.out.vk gL (n2 * 5) (cL - n2) (Zl.length - n2) (by simp) rfl (vg_drop HS7.out.vl) (by simp; omega) (by simp; omega) HS7.out.b0 ?_; intro gK2 cK2 wN hvN hgN hatN hltN; have HSN := Lib.hid (HS7.out.pushK hgN hatN hltN hvN (mem_drop_left HS7.out.sub)); clear hvN hgN hatN hltN)
                go_meet
                exact ⟨gK2, K1 ++ Zl.drop n2, cK2, _, by simp, Lib.hid rfl, HSN⟩
              · have hnil : K1 = K1 ++ Zl.drop n2 := by rw [List.drop_eq_nil_of_le (by omega)]; simp
                have HNIL := Lib.hid hnil
                clear hnil
                have HSO := HS7
                rcases hA : AL with _ | ad
                · rw [hA] at HS7
                  obtain ⟨hc0, hz0⟩ := (vg_cap HS7.out.vl).1 rfl
                  have hz1 : Zl.length = 0 := by rw [hz0]; rfl
                  obtain rfl : n2 = 0 := by omega
                  subst hc0
                  obtain ⟨m0, m1, m2, m3, m4, _⟩ := HS7.out.box
                  rw [hz1] at m3
                  clear hz1 hz0 hA
                  go_wp2_with (at_builtin; refine append_nil rfl (.tmp 102) (.tmp 106) rfl base gK cKN K1 rfl HS7.out.vk _ _ _ rfl (by first | rfl | omega) (by intro h; first | rfl | cases h) ?_)
                  go_meet
                  exact ⟨gK, K1, cKN, _, rfl, HNIL, HSO⟩
                · rw [hA] at HS7
                  obtain ⟨gL, rfl⟩ := (vg_cap HS7.out.vl).2.1 ad rfl
                  obtain ⟨m0, m1, m2, m3, m4, _⟩ := HS7.out.box
                  clear hA
                  by_cases hcc : n2 < cL
                  all_goals
                    go_wp2_with (at_builtin; refine append_nil rfl (.tmp 102) (.tmp 106) rfl base gK cKN K1 rfl HS7.out.vk _ _ _ rfl (by first | rfl | omega) (by intro h; first | rfl | cases h) ?_)
                    go_meet
                    exact ⟨gK, K1, cKN, _, rfl, HNIL, HSO⟩
            case rest =>
              obtain ⟨gK2, K2, cK2, own2, rfl, HK2, HS8⟩ := hcut
              clear HS7
              go_upto_region 21 with fail
              go_cut [7] (fun vk wx => ∃ (gV2 : Nat) (V2 : List At) (cV2 : Nat) (own2 : List Nat), vk = .slice (some ⟨gV2, 0, none⟩) V2.length cV2 ∧ Hid (V2 = V1 ++ Zm.drop n2) ∧ Hid (St w wx r0 g4 base own2 (C2 :: C1 :: vals) AL cL AM cM Zl Zm (some ⟨gK2, 0, none⟩) cK2 (some ⟨gV2, 0, none⟩) cV2 K2 V2))
              case first =>
                have hcap := (vg_cap HS8.out.vm).2.2
                by_cases hlast : n2 < Zm.length
                · obtain ⟨gL, _, hAL, _, _, _, _, _, _⟩ := vg_item HS8.out.vm hlast
                  subst hAL
                  obtain ⟨m0, m1, m2, m3, m4, _⟩ := HS8.out.box
                  go_wp2_with (at_builtin; refine append_some rfl (.tmp 108) (.tmp 112) rfl base (some ⟨gV, 0, none⟩) cVN V1 (Zm.drop n2) rfl HS8.out.vv gL (n2 * 5) (cM - n2) (Zm.length - n2) (by simp) rfl (vg_drop HS8.out.vm) (by simp; omega) (by simp; omega) HS8.out.b0 ?_; intro gV2 cV2 wN hvN hgN hatN hltN; have HSN := Lib.hid (HS8.out.pushV hgN hatN hltN hvN (mem_drop_right HS8.out.sub)); clear hvN hgN hatN hltN)
                  go_meet
                  exact ⟨gV2, V1 ++ Zm.drop n2, cV2, _, by simp, Lib.hid rfl, HSN⟩
                · have hnil : V1 = V1 ++ Zm.drop n2 := by rw [List.drop_eq_nil_of_le (by omega)]; simp
                  have HNIL := Lib.hid hnil
                  clear hnil
                  have HSO := HS8
                  rcases hA : AM with _ | ad
                  · rw [hA] at HS8
                    obtain ⟨hc0, hz0⟩ := (vg_cap HS8.out.vm).1 rfl
                    have hz1 : Zm.length = 0 := by rw [hz0]; rfl
                    obtain rfl : n2 = 0 := by omega
                    subst hc0
                    obtain ⟨m0, m1, m2, m3, m4, _⟩ := HS8.out.box
                    rw [hz1] at m4
                    clear hz1 hz0 hA
                    go_wp2_with (at_builtin; refine append_nil rfl (.tmp 108) (.tmp 112) rfl base gV cVN V1 rfl HS8.out.vv _ _ _ rfl (by first | rfl | omega) (by intro h; first | rfl | cases h) ?_)
                    go_meet
                    exact ⟨gV, V1, cVN, _, rfl, HNIL, HSO⟩
                  · rw [hA] at HS8
                    obtain ⟨gL, rfl⟩ := (vg_cap HS8.out.vm).2.1 ad rfl
                    obtain ⟨m0, m1, m2, m3, m4, _⟩ := HS8.out.box
                    clear hA
                    by_cases hcc : n2 < cM
                    all_goals
                      go_wp2_with (at_builtin; refine append_nil rfl (.tmp 108) (.tmp 112) rfl base gV cVN V1 rfl HS8.out.vv _ _ _ rfl (by first | rfl | omega) (by intro h; first | rfl | cases h) ?_)
                      go_meet
                      exact ⟨gV, V1, cVN, _, rfl, HNIL, HSO⟩
              case rest =>
                obtain ⟨gV2, V2, cV2, own2, rfl, HV2, HS9⟩ := hcut
                clear HS8
                obtain ⟨m0, m1, m2, m3, m4, f0, f1, f2, f3, f4, _⟩ := HS9.out.box
                have HT := Lib.hid HS9.out.turn
                go_wp2_with fail
                go_roundw
                case rel =>
                  have HK2o := HK2.out
                  have HV2o := HV2.out
                  rw [← HK1.out] at HK2o
                  rw [← HV1.out] at HV2o
                  have hKV : K2.length = V2.length := by rw [HK2o, HV2o]; have := hLM.out; have := hkv.out; simp; omega
                  have hKl : K2.length ≤ i + 2 := by rw [HK2o]; simp; omega
                  have hz := HL.out C2 HC2.out
                  rw [← HK2o, ← HV2o] at hz
                  have hp := pair_next EX.out.get EY.out.get
                  have hF2 := hF.out
                  rw [hp, List.foldl_cons, hz] at hF2
                  exact ⟨i + 2, K2, V2, _, _, _, _, _, _, by simp, by omega, hKl, Lib.hid (by have := hie.out; omega), Lib.hid hKV, HT, Lib.hid hF2⟩
                case measure => simp [intOf]; omega
    · obtain rfl : i = l.length := by have := EV.out; have := hie.out; omega
      have MP : Hid (mapV (zz Zl Zm) = refMap l) := Lib.hid (by unfold refMap; rw [← hF.out, pair_end _ _ (by omega)]; rfl)
      have MR : Hid (mapR l = if okV 12 (refMap l) = true then (refMap l, 0) else (zeroV, 2)) := Lib.hid (by unfold mapR; by_cases h : okV 12 (refMap l) = true <;> simp [EV.out, h])
      clear hF hie hlt
      obtain ⟨m, hmd⟩ : ∃ m : At, m = ⟨mapV (zz Zl Zm), AL, cL, AM, cM⟩ := ⟨_, rfl⟩
      have IM : Hid (m.In wr 14) := Lib.hid (by rw [hmd]; exact hS.out.map_rd hLM.out (by omega) rfl (fun _ _ => rfl))
      have BM : Hid (Bx wr g4 m) := Lib.hid (by rw [hmd]; exact hS.out.map_bx hLM.out)
      have FA : Hid (∀ wx F : World, Below wr.heap.size wr wx → F.heap.size = wx.heap.size → (∀ k, k ≠ r0 → F.heap[k]? = wx.heap[k]?) → m.In F 14) := Lib.hid (fun wx F hb h1 h2 => by rw [hmd]; exact (hS.out.next hb).map_rd hLM.out (by omega) h1 h2)
      have MT : Hid (m.t = refMap l) := Lib.hid (by rw [hmd]; exact MP.out)
      clear hmd
      obtain ⟨m0, m1, m2, m3, m4, _⟩ := BM.out
      go_wp2_with fail
      refine (refCheck_at wr 14 m IM.out).mono ?_
      rintro e w1 ⟨rfl, hb1⟩
      have HB1 := Lib.hid hb1
      have HS1 := Lib.hid (hS.out.next hb1)
      have RES := Lib.hid HS1.out.res
      obtain ⟨u0, hu0⟩ := RES.out.cell (i := 0) (by omega)
      obtain ⟨u1, hu1⟩ := RES.out.cell (i := 1) (by omega)
      obtain ⟨u2, hu2⟩ := RES.out.cell (i := 2) (by omega)
      obtain ⟨u3, hu3⟩ := RES.out.cell (i := 3) (by omega)
      obtain ⟨u4, hu4⟩ := RES.out.cell (i := 4) (by omega)
      have z0 := RES.out.frozen 0
      have z1 := RES.out.frozen 1
      have z2 := RES.out.frozen 2
      have z3 := RES.out.frozen 3
      have z4 := RES.out.frozen 4
      clear hb1 m0 m1 m2 m3 m4
      obtain ⟨m0, m1, m2, m3, m4, _⟩ := BM.out.next HB1.out
      rw [MT.out]
      cases hq : okV 12 (refMap l)
      · have hE : errI false = 2 := rfl
        have MR2 : Hid (mapR l = (zeroV, 2)) := Lib.hid (by rw [MR.out, hq]; rfl)
        have HR := Lib.hid (ret_box RES.out (.int .i64 0) (.int .i64 0) (.string ⟨#[]⟩) (.slice none 0 0) (.slice none 0 0))
        clear hq
        go_wp2
        obtain ⟨F, hF, ⟨r0', r1', r2', r3', r4', _⟩, hk, hs, hbel⟩ := HR.out
        rw [← hF]
        clear hF
        exact bodyPost_ret (v := .tuple #[vl zeroV none 0 none 0, .int .i64 2]) (by simp [results, Try.results23, go_sem, r0', r1', r2', r3', r4']; exact ⟨rfl, rfl, rfl, rfl, rfl⟩) rfl ⟨⟨zeroV, none, 0, none, 0⟩, by rw [MR2.out], by rw [MR2.out], rd_zero _ _ _ _, hbel _ _ (HS1.out.lo r0 HS1.out.rin).1 HS1.out.bel⟩
      · have hE : errI true = 0 := rfl
        have MR2 : Hid (mapR l = (refMap l, 0)) := Lib.hid (by rw [MR.out, hq]; rfl)
        have HR := Lib.hid (ret_box RES.out (.int .i64 m.t.k) (.int .i64 m.t.n) (.string m.t.s) (.slice m.A m.t.l.length m.c) (.slice m.A' m.t.m.length m.c'))
        clear hq
        go_wp2
        obtain ⟨F, hF, ⟨r0', r1', r2', r3', r4', _⟩, hk, hs, hbel⟩ := HR.out
        rw [← hF]
        clear hF
        exact bodyPost_ret (v := .tuple #[m.v, .int .i64 0]) (by simp [results, Try.results23, go_sem, r0', r1', r2', r3', r4']) rfl ⟨m, by rw [MR2.out], by rw [MR2.out, MT.out], FA.out w1 F HB1.out hs (box_far hk hbel), hbel _ _ (HS1.out.lo r0 HS1.out.rin).1 HS1.out.bel⟩
end Go.Proofs.Ytdolejafihgpmaa
/- The document's Dict, whole: of a row of odd length there is no map. -/
namespace Go.Proofs.Ytdolejafihgpmaa
open Go.RowKit Go.Sort
attribute [local go_sem ↓] Go.wp_at_zero Go.wp_at_succ

set_option maxHeartbeats 1600000 in
theorem refDict_odd (w : World) (A : Option Addr) (c : Nat) (l : List V) (hbig : l.length ≤ 1759218604441) (hodd : l.length % 2 = 1) : Calls Try.prog 23 #[.slice A l.length c] w (DictM w l) := by
  have hm : (l.length : Int) % 2 = 1 := by omega
  have MR : Hid (mapR l = (zeroV, 2)) := Lib.hid (by unfold mapR; rw [if_neg (fun h => by omega)])
  clear hodd
  go_enter Try.func23, Try.ntmps23
  go_wp2
  exact bodyPost_ret (v := .tuple #[vl zeroV none 0 none 0, .int .i64 2]) (by simp [results, Try.results23, go_sem]; exact ⟨rfl, rfl, rfl, rfl, rfl⟩) rfl ⟨⟨zeroV, none, 0, none, 0⟩, by rw [MR.out], by rw [MR.out], rd_zero _ _ _ _, below_new _ _⟩
theorem refDict_ok : RefDictOk := fun w d A c l h hn => by
  by_cases he : l.length % 2 = 0
  · exact refDict_even w d A c l h he (by omega)
  · exact refDict_odd w A c l h.big (by omega)
end Go.Proofs.Ytdolejafihgpmaa
