/- The parser's call, chain, query. -/
import Derived.Test.YtllkimdlmnjoiaaGreatDoorXK
namespace Go.Proofs.YtllkimdlmnjoiaaGreatDoor
set_option maxRecDepth 100000
open Go.RowKit Go.Sort

theorem rdA_less {arg : List Tk → Nat → Rs Ag} (hv : ∀ l n x l2 n2, arg l n = .ok x l2 n2 → l2.length < l.length) : ∀ k l n x l2 n2, rdA arg k l n = .ok x l2 n2 → l2.length < l.length := by
  intro k l n x l2 n2 h
  unfold rdA at h
  split at h
  · cases h
  · exact hv _ _ _ _ _ h
theorem arg_less {inner : List Tk → Nat → Rs (List C)} (hi : ∀ l n x l2 n2, inner l n = .ok x l2 n2 → l2.length < l.length) : ∀ l n x l2 n2, argT inner l n = .ok x l2 n2 → l2.length < l.length := by
  intro l n x l2 n2 h
  unfold argT at h
  split at h
  · obtain ⟨v, hv, _⟩ := map_ok h
    exact val_less _ _ _ _ _ _ hv
  split at h
  · obtain ⟨v, hv, _⟩ := map_ok h
    exact prd_less _ _ _ _ _ _ hv
  split at h
  · obtain ⟨v, hv, _⟩ := map_ok h
    exact hi _ _ _ _ _ hv
  split at h
  · rename_i hk
    simp only [Bool.and_eq_true, beq_iff_eq] at hk
    obtain ⟨y, r, rfl⟩ := k1_cons hk.1
    cases h
    simp
  · cases h
theorem nm_le {l : List Tk} {n : Nat} {s : List UInt8} {l2 : List Tk} {n2 : Nat} (h : nmT l n = .ok s l2 n2) : l2.length ≤ l.length := by
  unfold nmT at h
  split at h
  · split at h
    · cases h
    · cases h; simp
  · cases h
theorem cal_less {inner : List Tk → Nat → Rs (List C)} (hi : ∀ l n x l2 n2, inner l n = .ok x l2 n2 → l2.length < l.length) : ∀ l n x l2 n2, calT inner l n = .ok x l2 n2 → l2.length < l.length := by
  intro l n x l2 n2 h
  unfold calT at h
  split at h
  · split at h
    · rename_i s l3 n3 hn
      obtain ⟨v, hv, _⟩ := map_ok h
      have h1 := btw_less (rdA_less (arg_less hi)) hv
      have h2 := nm_le hn
      have h3 : l.tail.length ≤ l.length := by simp
      omega
    · cases h
  · cases h
theorem nm_size {l : List Tk} {n : Nat} {s : List UInt8} {l2 : List Tk} {n2 : Nat} (ht : ∀ t ∈ l, TkOk t) (h : nmT l n = .ok s l2 n2) : s.length ≤ 20000 := by
  have h0 := hd_ok ht
  unfold nmT at h
  split at h
  · split at h
    · cases h
    · cases h; exact h0.s1
  · cases h
set_option maxHeartbeats 3200000 in
theorem clos_A (d : Nat) (lev : Int) (inner : List Tk → Nat → Rs (List C)) (hin : InnerOk d lev inner) (hl : 1 ≤ lev ∧ lev ≤ 10) (w : World) (g b5 b8 : Nat) (q : Int) (h5 : w.heap[b5]? = some (.cells #[.pointer (some ⟨g, 0, none⟩)] 60 (0, 0))) (h8 : w.heap[b8]? = some (.cells #[.int .i64 lev] 3 (0, 0))) (n5 : b5 ≠ g) (n8 : b8 ≠ g) :
    ∀ (W : World) (l : List Tk) (n k : Nat), RK g w W → Rdr W g q l n → k ≤ 20001 → Calls Tryz.prog 94 #[.int .i64 (k : Int), .pointer (some ⟨b5, 0, none⟩), .pointer (some ⟨b8, 0, none⟩)] W (Got g q W (OkA d W) JkA (rdA (argT inner) k l n)) := by
  intro W l n k hk h hk2
  have c5 := bx_cells1 (hk.heap h5 n5)
  have c8 := bx_cells1 (hk.heap h8 n8)
  have l5 : b5 < W.heap.size := (Array.getElem?_eq_some_iff.1 (hk.heap h5 n5)).1
  have l8 : b8 < W.heap.size := (Array.getElem?_eq_some_iff.1 (hk.heap h8 n8)).1
  have H := Lib.hid h
  have IH := Lib.hid (fun w n l hr => arg_any d lev inner hin hl w g n q l hr)
  have C5 := Lib.hid c5
  have C8 := Lib.hid c8
  obtain ⟨RES, hRES⟩ : ∃ x, rdA (argT inner) k l n = x := ⟨_, rfl⟩
  rw [hRES]
  have HRES := Lib.hid hRES
  clear hk h hin h5 h8 c5 c8 hRES hl
  go_enter Tryz.func94, Tryz.ntmps94
  go_upto_region 1 with fail
  have k1 := new_blk W (.cells #[.int .i64 0, .int .i64 0, .int .i64 0, .string ⟨#[]⟩, .slice none 0 0, .slice none 0 0, .int .i64 0, .slice none 0 0, .slice none 0 0, .slice none 0 0, .string ⟨#[]⟩] 82)
  generalize hX : World.alloc W _ = X at k1
  have HB : Hid (Below W.heap.size W X) := Lib.hid (by rw [← hX]; exact below_new _ _)
  have SX : Hid (X.heap.size = W.heap.size + 1) := Lib.hid (by rw [← hX]; simp)
  have K1 := Lib.hid k1
  have x5 := cell_below HB.out C5.out l5
  have x8 := cell_below HB.out C8.out l8
  have HX := Lib.hid (H.out.next HB.out)
  clear hX k1
  by_cases hk1 : k = 50
  case pos =>
    have hk9 : ((k : Int) == 50) = true := by rw [hk1]; rfl
    have CT := Lib.hid (tooMany_any X g n q l HX.out)
    obtain ⟨er, her⟩ : ∃ x, x = tmE l := ⟨_, rfl⟩
    rw [← her] at CT
    have FIN := Lib.hid (show .bad l n er = RES by rw [← HRES.out, her]; unfold rdA; rw [if_pos hk1])
    have HNE := Lib.hid (show er ≠ 0 by rw [her]; exact tmE_ne l)
    clear her hk1
    go_wp2_with fail
    refine CT.out.mono ?_
    rintro e w1 ⟨rfl, hb⟩
    have K2 := Lib.hid ((hb.block _ (by have := SX.out; omega)).trans K1.out)
    have H2 := Lib.hid (HX.out.next hb)
    have B2 := Lib.hid (bnext HB.out hb)
    obtain ⟨z0, z1, z2, z3, z4, z5, z6, z7, z8, z9, z10, zf⟩ := bx_cells11 K2.out
    have f0 := zf 0
    have f1 := zf 1
    have f2 := zf 2
    have f3 := zf 3
    have f4 := zf 4
    have f5 := zf 5
    have f6 := zf 6
    have f7 := zf 7
    have f8 := zf 8
    have f9 := zf 9
    have f10 := zf 10
    have HS := Lib.hid (bx_set11 K2.out)
    clear zf
    clear CT hb
    go_wp2
    obtain ⟨F, hF, hbF, hsF⟩ := HS.out (.int .i64 0) (.int .i64 0) (.int .i64 0) (.string ⟨#[]⟩) (.slice none 0 0) (.slice none 0 0) (.int .i64 0) (.slice none 0 0) (.slice none 0 0) (.slice none 0 0) (.string ⟨#[]⟩)
    rw [← hF]
    obtain ⟨r0, r1, r2, r3, r4, r5, r6, r7, r8, r9, r10, _⟩ := bx_cells11 hbF
    refine bodyPost_ret (v := .tuple #[.agg #[.int .i64 0, .int .i64 0, .int .i64 0, .string ⟨#[]⟩, .slice none 0 0, .slice none 0 0, .int .i64 0, .slice none 0 0, .slice none 0 0, .slice none 0 0, .string ⟨#[]⟩], .int .i64 er]) (by simp [results, Tryz.results94, go_sem, r0, r1, r2, r3, r4, r5, r6, r7, r8, r9, r10]) rfl ?_
    rw [← FIN.out]
    exact ⟨⟨_, rfl, ⟨⟨0, ⟨zV, none, 0, none, 0⟩, ⟨zP, none, 0, none, 0⟩, [], none, 0, ⟨#[]⟩⟩, rfl⟩, HNE.out, H2.out.same hsF H.out.lt⟩, hsF.fresh (RK.of B2.out) (Nat.le_refl _)⟩
  have hk9 : ((k : Int) == 50) = false := by rw [beq_eq_false_iff_ne]; omega
  have CT := IH.out X n l HX.out
  rw [show argT inner l n = RES by rw [← HRES.out]; unfold rdA; rw [if_neg hk1]] at CT
  replace CT := Lib.hid CT
  clear hk1
  go_wp2_with fail
  refine CT.out.mono ?_
  rintro e w1 ⟨hgot, hk1⟩
  have K2 := Lib.hid (hk1.heap K1.out (by have := H.out.lt; omega))
  have R2 := Lib.hid ((RK.of (g := g) HB.out).trans hk1)
  obtain ⟨z0, z1, z2, z3, z4, z5, z6, z7, z8, z9, z10, zf⟩ := bx_cells11 K2.out
  have f0 := zf 0
  have f1 := zf 1
  have f2 := zf 2
  have f3 := zf 3
  have f4 := zf 4
  have f5 := zf 5
  have f6 := zf 6
  have f7 := zf 7
  have f8 := zf 8
  have f9 := zf 9
  have f10 := zf 10
  have HS := Lib.hid (bx_set11 K2.out)
  clear zf
  clear CT hk1
  cases RES with
  | bad l5 n5 er =>
    obtain ⟨v, rfl, ⟨y, rfl⟩, her, hr5⟩ := hgot
    have HR5 := Lib.hid hr5
    have HER := Lib.hid her
    clear her hr5
    go_wp2
    obtain ⟨F, hF, hbF, hsF⟩ := HS.out (.int .i64 y.k) (.int .i64 y.x.t.k) (.int .i64 y.x.t.n) (.string y.x.t.s) (.slice y.x.A y.x.t.l.length y.x.c) (.slice y.x.A' y.x.t.m.length y.x.c') (.int .i64 y.q.t.k) (.slice y.q.A y.q.t.v.length y.q.c) (.slice y.q.A' y.q.t.p.length y.q.c') (.slice y.A y.l.length y.c) (.string y.s)
    rw [← hF]
    obtain ⟨r0, r1, r2, r3, r4, r5, r6, r7, r8, r9, r10, _⟩ := bx_cells11 hbF
    refine bodyPost_ret (v := .tuple #[y.val, .int .i64 er]) (by simp [results, Tryz.results94, go_sem, r0, r1, r2, r3, r4, r5, r6, r7, r8, r9, r10]) rfl ?_
    exact ⟨⟨_, rfl, ⟨y, rfl⟩, HER.out, HR5.out.same hsF H.out.lt⟩, hsF.fresh R2.out (Nat.le_refl _)⟩
  | ok x l5 n5 =>
    obtain ⟨v, rfl, ⟨y, rfl, hyt, hyR⟩, hr5⟩ := hgot
    have HR5 := Lib.hid hr5
    have HY := Lib.hid (And.intro hyt hyR)
    clear hyt hyR hr5
    go_wp2
    obtain ⟨F, hF, hbF, hsF⟩ := HS.out (.int .i64 y.k) (.int .i64 y.x.t.k) (.int .i64 y.x.t.n) (.string y.x.t.s) (.slice y.x.A y.x.t.l.length y.x.c) (.slice y.x.A' y.x.t.m.length y.x.c') (.int .i64 y.q.t.k) (.slice y.q.A y.q.t.v.length y.q.c) (.slice y.q.A' y.q.t.p.length y.q.c') (.slice y.A y.l.length y.c) (.string y.s)
    rw [← hF]
    obtain ⟨r0, r1, r2, r3, r4, r5, r6, r7, r8, r9, r10, _⟩ := bx_cells11 hbF
    refine bodyPost_ret (v := .tuple #[y.val, .int .i64 0]) (by simp [results, Tryz.results94, go_sem, r0, r1, r2, r3, r4, r5, r6, r7, r8, r9, r10]) rfl ?_
    refine ⟨⟨_, rfl, ⟨y, rfl, HY.out.1, ?_⟩, HR5.out.same hsF H.out.lt⟩, hsF.fresh R2.out (Nat.le_refl _)⟩
    have sx := SX.out
    exact RG.wide (by omega) (Nat.le_of_eq hsF.size.symm) (RG.keep (hsF.kept (by omega)) HY.out.2)
def OkC (d : Nat) (w : World) (x : C) (w' : World) (v : Value) : Prop := ∃ y : Ct, v = y.val ∧ Ct.t y = x ∧ RCl d w' w.heap.size w'.heap.size y
def JkC (v : Value) : Prop := ∃ y : Ct, v = y.val
set_option maxHeartbeats 6400000 in
theorem cal_any (d : Nat) (lev : Int) (inner : List Tk → Nat → Rs (List C)) (hin : InnerOk d lev inner) (hl : 1 ≤ lev ∧ lev ≤ 10) (hless : ∀ l n x l2 n2, inner l n = .ok x l2 n2 → l2.length < l.length) (w : World) (g n : Nat) (q : Int) (l : List Tk) (h : Rdr w g q l n) :
    Calls Tryz.prog 65 #[.pointer (some ⟨g, 0, none⟩), .int .i64 lev] w (Got g q w (OkC d w) JkC (calT inner l n)) := by
  have H := Lib.hid h
  obtain ⟨RES, hRES⟩ : ∃ x, calT inner l n = x := ⟨_, rfl⟩
  rw [hRES]
  have CAL := Lib.hid (show RES = if sees l [46] = true then (match nmT l.tail n with
    | .ok s l2 n2 => (btw [40] [41] 0 true (rdA (argT inner)) l2 n2).map (fun a => .mk (bsT s) a)
    | .bad l2 n2 e => .bad l2 n2 e) else .bad l n 30 from hRES.symm)
  have IN := Lib.hid (And.intro hin (And.intro hl hless))
  have TOKS := Lib.hid h.tok
  clear h hRES hin hl hless
  go_enter Tryz.func65, Tryz.ntmps65
  go_upto_region 1 with fail
  generalize hX : World.alloc (World.alloc (World.alloc w _) _) _ = X
  obtain ⟨k1, k2, k3⟩ : X.heap[w.heap.size]? = some (.cells #[.pointer (some ⟨g, 0, none⟩)] 60 (0, 0)) ∧ X.heap[w.heap.size + 1]? = some (.cells #[.int .i64 lev] 3 (0, 0)) ∧ X.heap[w.heap.size + 1 + 1]? = some (.cells #[.string ⟨#[]⟩, .slice none 0 0] 74 (0, 0)) := by rw [← hX]; exact three_new _ _ _ _
  have HB : Hid (Below w.heap.size w X) := Lib.hid (by rw [← hX]; exact below_new3 _ _ _ _)
  have SX : Hid (X.heap.size = w.heap.size + 3) := Lib.hid (by rw [← hX]; simp)
  have K1 := Lib.hid k1
  have K2 := Lib.hid k2
  have K3 := Lib.hid k3
  have p0 := bx_cells1 k1
  have HX := Lib.hid (H.out.next HB.out)
  have HG := Lib.hid H.out.lt
  have CT := take_any X g n q l [46] HX.out
  rw [show bsT [46] = ⟨#[46]⟩ from rfl] at CT
  obtain ⟨b0, hb0⟩ : ∃ b, sees l [46] = b := ⟨_, rfl⟩
  rw [hb0] at CT CAL
  replace CT := Lib.hid CT
  clear hX k1 k2 k3 hb0
  go_wp2_with fail
  refine CT.out.mono ?_
  rintro e w1 ⟨rfl, hr, hk⟩
  have R1 := Lib.hid ((RK.of (g := g) HB.out).trans hk)
  have J1 := Lib.hid (hk.heap K1.out (by have := HG.out; omega))
  have J2 := Lib.hid (hk.heap K2.out (by have := HG.out; omega))
  have J3 := Lib.hid (hk.heap K3.out (by have := HG.out; omega))
  have S1 := Lib.hid hk.size
  clear CT hk p0 K1 K2 K3
  cases b0
  case false =>
    have HR1 := Lib.hid (show Rdr w1 g q l n from hr)
    have FIN := Lib.hid (show .bad l n 30 = RES by rw [CAL.out, if_neg (by simp)])
    clear hr
    obtain ⟨z0, z1, zf⟩ := bx_cells2 J3.out
    have f0 := zf 0
    have f1 := zf 1
    have HS := Lib.hid (bx_set2 J3.out)
    clear zf
    go_wp2
    obtain ⟨F, hF, hbF, hsF⟩ := HS.out (.string ⟨#[]⟩) (.slice none 0 0)
    rw [← hF]
    obtain ⟨r0, r1, _⟩ := bx_cells2 hbF
    refine bodyPost_ret (v := .tuple #[.agg #[.string ⟨#[]⟩, .slice none 0 0], .int .i64 30]) (by simp [results, Tryz.results65, go_sem, r0, r1]) rfl ?_
    rw [← FIN.out]
    exact ⟨⟨_, rfl, ⟨⟨⟨#[]⟩, [], none, 0⟩, rfl⟩, by decide, HR1.out.same hsF (by have := HG.out; omega)⟩, hsF.fresh R1.out (by omega)⟩
  have HR1 := Lib.hid (show Rdr w1 g q l.tail n from hr)
  replace CAL := Lib.hid (show RES = (match nmT l.tail n with
    | .ok s l2 n2 => (btw [40] [41] 0 true (rdA (argT inner)) l2 n2).map (fun a => .mk (bsT s) a)
    | .bad l2 n2 e => .bad l2 n2 e) by rw [CAL.out, if_pos rfl])
  have p1 := bx_cells1 J1.out
  have CN := nm_any w1 g n q l.tail HR1.out
  obtain ⟨R2, hR2⟩ : ∃ z, nmT l.tail n = z := ⟨_, rfl⟩
  have NSZ := Lib.hid (fun (s : List UInt8) (l2 : List Tk) (n2 : Nat) (e : R2 = .ok s l2 n2) => nm_size (l := l.tail) (n := n) (s := s) (l2 := l2) (n2 := n2) HR1.out.tok (hR2.trans e))
  rw [hR2] at CN CAL
  replace CN := Lib.hid CN
  clear hR2 hr
  go_wp2_with fail
  refine CN.out.mono ?_
  rintro e w2 ⟨hgot, hk⟩
  have RR2 := Lib.hid (R1.out.trans hk)
  have L1 := Lib.hid (hk.heap J1.out (by have := HG.out; omega))
  have L2 := Lib.hid (hk.heap J2.out (by have := HG.out; omega))
  have L3 := Lib.hid (hk.heap J3.out (by have := HG.out; omega))
  have S2 := Lib.hid hk.size
  clear CN hk p1 J1 J2 J3
  cases R2 with
  | bad l5 n5 er =>
    obtain ⟨v, rfl, rfl, her, hr5⟩ := hgot
    have HR5 := Lib.hid hr5
    have HER := Lib.hid her
    have e9 : (er == 0) = false := by rw [beq_eq_false_iff_ne]; exact her
    have FIN := Lib.hid (show .bad l5 n5 er = RES from CAL.out.symm)
    clear her hr5
    obtain ⟨z0, z1, zf⟩ := bx_cells2 L3.out
    have f0 := zf 0
    have f1 := zf 1
    have HS := Lib.hid (bx_set2 L3.out)
    clear zf
    go_wp2
    obtain ⟨F, hF, hbF, hsF⟩ := HS.out (.string ⟨#[]⟩) (.slice none 0 0)
    rw [← hF]
    obtain ⟨r0, r1, _⟩ := bx_cells2 hbF
    refine bodyPost_ret (v := .tuple #[.agg #[.string ⟨#[]⟩, .slice none 0 0], .int .i64 er]) (by simp [results, Tryz.results65, go_sem, r0, r1]) rfl ?_
    rw [← FIN.out]
    exact ⟨⟨_, rfl, ⟨⟨⟨#[]⟩, [], none, 0⟩, rfl⟩, HER.out, HR5.out.same hsF (by have := HG.out; omega)⟩, hsF.fresh RR2.out (by omega)⟩
  | ok s l5 n5 =>
    obtain ⟨v, rfl, rfl, hr5⟩ := hgot
    have HR5 := Lib.hid hr5
    have SSZ := Lib.hid (NSZ.out s l5 n5 rfl)
    replace CAL := Lib.hid (show RES = (btw [40] [41] 0 true (rdA (argT inner)) l5 n5).map (fun a => .mk (bsT s) a) from CAL.out)
    have p2 := bx_cells1 L1.out
    have hg := HG.out
    have CB := btw_A g n5 d q w2 l5 [40] [41] 0 true (rdA (argT inner)) (.pointer (some ⟨w.heap.size, 0, none⟩)) (.pointer (some ⟨w.heap.size + 1, 0, none⟩)) hr5 (rdA_less (arg_less IN.out.2.2)) (clos_A d lev inner IN.out.1 IN.out.2.1 w2 g _ _ q L1.out L2.out (by omega) (by omega))
    rw [show bsT [40] = ⟨#[40]⟩ from rfl, show bsT [41] = ⟨#[41]⟩ from rfl] at CB
    obtain ⟨R3, hR3⟩ : ∃ z, btw [40] [41] 0 true (rdA (argT inner)) l5 n5 = z := ⟨_, rfl⟩
    rw [hR3] at CB CAL
    replace CB := Lib.hid CB
    clear hR3 hr5 hg
    go_wp2_with fail
    refine CB.out.mono ?_
    rintro e w3 ⟨hgot, hk⟩
    have R4 := Lib.hid (RR2.out.trans hk)
    have M3 := Lib.hid (hk.heap L3.out (by have := HG.out; omega))
    clear CB hk p2
    cases R3 with
    | bad l6 n6 er =>
      obtain ⟨v, rfl, rfl, her, hr6⟩ := hgot
      have HR6 := Lib.hid hr6
      have HER := Lib.hid her
      have FIN := Lib.hid (show .bad l6 n6 er = RES from CAL.out.symm)
      clear her hr6
      obtain ⟨z0, z1, zf⟩ := bx_cells2 M3.out
      have f0 := zf 0
      have f1 := zf 1
      have HS := Lib.hid (bx_set2 M3.out)
      clear zf
      go_wp2
      obtain ⟨F, hF, hbF, hsF⟩ := HS.out (.string (bsT s)) (.slice none 0 0)
      rw [← hF]
      obtain ⟨r0, r1, _⟩ := bx_cells2 hbF
      refine bodyPost_ret (v := .tuple #[.agg #[.string (bsT s), .slice none 0 0], .int .i64 er]) (by simp [results, Tryz.results65, go_sem, r0, r1]) rfl ?_
      rw [← FIN.out]
      exact ⟨⟨_, rfl, ⟨⟨bsT s, [], none, 0⟩, rfl⟩, HER.out, HR6.out.same hsF (by have := HG.out; omega)⟩, hsF.fresh R4.out (by omega)⟩
    | ok ags l6 n6 =>
      obtain ⟨v, rfl, ⟨AA, c, rfl, hrow⟩, hr6⟩ := hgot
      have HR6 := Lib.hid hr6
      have HROW := Lib.hid hrow
      have FIN := Lib.hid (show .ok (.mk (bsT s) ags) l6 n6 = RES from CAL.out.symm)
      clear hrow hr6
      obtain ⟨z0, z1, zf⟩ := bx_cells2 M3.out
      have f0 := zf 0
      have f1 := zf 1
      have HS := Lib.hid (bx_set2 M3.out)
      clear zf
      go_wp2
      obtain ⟨F, hF, hbF, hsF⟩ := HS.out (.string (bsT s)) (.slice AA ags.length c)
      rw [← hF]
      obtain ⟨r0, r1, _⟩ := bx_cells2 hbF
      refine bodyPost_ret (v := .tuple #[.agg #[.string (bsT s), .slice AA ags.length c], .int .i64 0]) (by simp [results, Tryz.results65, go_sem, r0, r1]) rfl ?_
      rw [← FIN.out]
      refine ⟨⟨_, rfl, ⟨⟨bsT s, ags, AA, c⟩, rfl, rfl, ?_⟩, HR6.out.same hsF (by have := HG.out; omega)⟩, hsF.fresh R4.out (by omega)⟩
      have sx := SX.out
      have s1 := S1.out
      have s2 := S2.out
      exact ⟨by rw [E8.bs_size]; have := SSZ.out; omega, GRow.imp HROW.out (hsF.kept (by omega)) (by omega) (Nat.le_of_eq hsF.size.symm) (fun _ h => RG.wide (by omega) (Nat.le_of_eq hsF.size.symm) (RG.keep (hsF.kept (by omega)) h))⟩
theorem chl_less {cal : List Tk → Nat → Rs C} (hc : ∀ l n x l2 n2, cal l n = .ok x l2 n2 → l2.length < l.length) : ∀ f acc l n vs l2 n2, chl cal f acc l n = .ok vs l2 n2 → l2.length ≤ l.length ∧ (acc = [] → l2.length < l.length) := by
  intro f
  induction f with
  | zero => intro acc l n vs l2 n2 h; cases h
  | succ f ih =>
    intro acc l n vs l2 n2 h
    rw [chl] at h
    split at h
    · split at h
      · rename_i x l3 n3 hx
        have h1 := hc _ _ _ _ _ hx
        have h2 := (ih _ _ _ _ _ _ h).1
        exact ⟨by omega, fun _ => by omega⟩
      · cases h
    · rename_i hb
      cases h
      refine ⟨Nat.le_refl _, fun e => ?_⟩
      subst e
      simp at hb
theorem chn_less : ∀ r l n x l2 n2, chnT r l n = .ok x l2 n2 → l2.length < l.length := by
  intro r
  induction r with
  | zero => intro l n x l2 n2 h; cases h
  | succ r ih =>
    intro l n x l2 n2 h
    rw [chnT] at h
    refine (chl_less (cal_less (fun l n x l2 n2 h => ?_)) _ _ _ _ _ _ _ h).2 rfl
    split at h
    · cases h
    · have := ih _ _ _ _ _ h
      have h3 : l.tail.length ≤ l.length := by simp
      omega
def chk (cal : List Tk → Nat → Rs C) (f : Nat) (acc : List C) : Rs C → Rs (List C)
  | .ok x l2 n2 => chl cal f (acc ++ [x]) l2 n2
  | .bad l2 n2 e => .bad l2 n2 e
theorem chl_go (cal : List Tk → Nat → Rs C) (f : Nat) (acc : List C) (l : List Tk) (n : Nat) (h : (acc.length == 0 || sees l [46]) = true) : chl cal (f + 1) acc l n = chk cal f acc (cal l n) := by
  rw [chl, if_pos h]
  cases cal l n <;> rfl
theorem chl_stop (cal : List Tk → Nat → Rs C) (f : Nat) (acc : List C) (l : List Tk) (n : Nat) (h : (acc.length == 0 || sees l [46]) = false) : chl cal (f + 1) acc l n = .ok acc l n := by rw [chl, if_neg (by rw [h]; simp)]
set_option maxHeartbeats 12800000 in
theorem chain_step (d : Nat) (lev : Int) (cal : List Tk → Nat → Rs C) (hcal : ∀ (w : World) (g n : Nat) (q : Int) (l : List Tk), Rdr w g q l n → Calls Tryz.prog 65 #[.pointer (some ⟨g, 0, none⟩), .int .i64 lev] w (Got g q w (OkC d w) JkC (cal l n)))
    (hp : ∀ l n x l2 n2, cal l n = .ok x l2 n2 → l2.length < l.length) (w : World) (g n : Nat) (q : Int) (l : List Tk) (h : Rdr w g q l n) :
    Calls Tryz.prog 44 #[.pointer (some ⟨g, 0, none⟩), .int .i64 lev] w (Got g q w (OkCh (d + 1) w) (fun v => v = .slice none 0 0) (chl cal (l.length + 1) [] l n)) := by
  have HG := Lib.hid h.lt
  have H := Lib.hid h
  have CL := Lib.hid hcal
  have HP := Lib.hid hp
  have hbig := h.big
  obtain ⟨RES, hRES⟩ : ∃ r, chl cal (l.length + 1) [] l n = r := ⟨_, rfl⟩
  rw [hRES]
  have EQ0 := Lib.hid hRES
  clear h hcal hp hRES
  go_enter Tryz.func44, Tryz.ntmps44
  obtain ⟨BS, hBS⟩ : ∃ b, b = w.heap.size := ⟨_, rfl⟩
  have HBS := Lib.hid hBS
  clear hBS
  go_wp2
  go_loopw [6] (fun u wr => ∃ (A : Option Addr) (m c : Nat) (xs : List Ct) (l2 : List Tk) (n2 f : Nat), u = .slice A m c ∧ Hid (chl cal f (xs.map Ct.t) l2 n2 = RES) ∧ Hid (xs.length = m) ∧ l2.length < f ∧ m + l2.length ≤ 20001 ∧ Hid (Rdr wr g q l2 n2) ∧ Hid (RK g w wr) ∧ Hid (Row Ct.cs 2 74 (RCl d) wr BS A m c xs) ∧ Hid (BS ≤ wr.heap.size)) (fun u _ => 20002 - lenOf u)
  case atStart => exact ⟨none, 0, 0, [], l, n, l.length + 1, rfl, EQ0, Lib.hid rfl, by omega, by omega, H, Lib.hid (RK.refl _ _), Lib.hid (row_nil _ _), Lib.hid (Nat.le_of_eq HBS.out)⟩
  case round =>
    obtain ⟨A, m, c, xs, l2, n2, f1, rfl, EQ, HXL, hf1, hml, HRD, HKR, HROW, HBR⟩ := hrel
    obtain ⟨f, rfl⟩ : ∃ f, f1 = f + 1 := ⟨f1 - 1, by omega⟩
    by_cases hm0 : m = 0
    case pos =>
      have EQN0 := Lib.hid (show chk cal f (xs.map Ct.t) (cal l2 n2) = RES by rw [← EQ.out, chl_go cal f (xs.map Ct.t) l2 n2 (by rw [List.length_map, HXL.out, hm0]; rfl)])
      have hm9 : ((m : Int) == 0) = true := by rw [hm0]; rfl
      have HRX := HRD
      have HKX := HKR
      have HROWX := HROW
      have HBX := HBR
      clear hm0 HRD HKR HROW HBR
      have CC := CL.out wr g n2 q l2 HRX.out
      obtain ⟨res, hres⟩ : ∃ r, cal l2 n2 = r := ⟨_, rfl⟩
      rw [hres] at CC
      have EQN := Lib.hid (show chk cal f (xs.map Ct.t) res = RES by rw [← hres]; exact EQN0.out)
      have PRG := Lib.hid (fun x l5 n5 (h : res = .ok x l5 n5) => HP.out l2 n2 x l5 n5 (hres.trans h))
      replace CC := Lib.hid CC
      clear hres EQN0
      go_wp2_with fail
      refine CC.out.mono ?_
      rintro e w5 ⟨hgot, hk5⟩
      have HK5 := Lib.hid (HKX.out.trans hk5)
      have HROW5 := Lib.hid (Row.next (R := RCl d) RCl.keep HROWX.out (fun k k1 k2 => hk5.block k k2 (by have := HG.out; have := HBS.out; omega)) hk5.size)
      have HB5 := Lib.hid (Nat.le_trans HBX.out hk5.size)
      have SZ5W := Lib.hid hk5.size
      clear hk5
      cases res with
      | bad l5 n5 er =>
        obtain ⟨v, rfl, ⟨y, rfl⟩, her, hr5⟩ := hgot
        have FIN := Lib.hid (show .bad l5 n5 er = RES from EQN.out)
        have HR5 := Lib.hid hr5
        have e9 : (er == 0) = false := by rw [beq_eq_false_iff_ne]; exact her
        have HER := Lib.hid her
        clear CC her hr5 EQN PRG
        go_wp2
        go_ret2
        rw [← FIN.out]
        exact ⟨⟨_, rfl, rfl, HER.out, HR5.out.next (below_new _ _)⟩, HK5.out.then (below_new _ _)⟩
      | ok x l5 n5 =>
        obtain ⟨v, rfl, ⟨y, rfl, hyt, hyR⟩, hr5⟩ := hgot
        have hlt5 := PRG.out x l5 n5 rfl
        have HYT := Lib.hid hyt
        have HR5 := Lib.hid hr5
        have HY := Lib.hid hyR
        clear CC hyt hr5 hyR PRG
        go_upto_region 6 with fail
        have k1 := new_blk w5 (.cells #[.string y.n, .slice y.A y.l.length y.c] 74)
        generalize hW6 : World.alloc w5 _ = W6 at k1
        have B6 : Hid (Below w5.heap.size w5 W6) := Lib.hid (by rw [← hW6]; exact below_new _ _)
        have S6 : Hid (W6.heap.size = w5.heap.size + 1) := Lib.hid (by rw [← hW6]; simp)
        obtain ⟨a0, a1, _⟩ := bx_cells2 k1
        clear hW6 k1
        have HROW7 := Lib.hid (fun o => Row.next (R := RCl d) RCl.keep (b := W6.alloc o) HROW5.out (fun k _ k2 => ((below_new W6 o).block k (by have := S6.out; omega)).trans (B6.out.block k k2)) (by have := S6.out; simp; omega))
        have HY7 := Lib.hid (fun o => RCl.keep (d := d) (b := W6.alloc o) (Kept.of_below (bnext B6.out (below_new W6 o)) (Nat.le_refl _)) HY.out)
        go_wp2_with (at_builtin; refine append_L Ct_cs_len (by decide) oneCt Tryz.underlying22 infoCt (by rfl) rfl (.tmp 27) (.tmp 29) rfl BS (HROW7.out _).own rfl (y := y) rfl (cells_lay Ct_cs_len 74 W6 [y]) (by unfold maxLen; omega) (by omega) (by have h1 := S6.out; have h2 := HB5.out; simp; omega) ?_; intro g9 c9 w9 ho hgr hn; have HO9 := Lib.hid ho; have HG9 := Lib.hid hgr; have HN9 := Lib.hid hn; clear ho hgr hn)
        go_wp2
        go_roundw
        case rel =>
          have bs := HBS.out
          have s6 := S6.out
          have hb5 := HB5.out
          have szx := SZ5W.out
          have hbl : Below BS w5 w9 := grown_low B6.out HG9.out hb5 (fun k hk => (World.ownsRow.lt HROW5.out.own k hk).1)
          have p1 : BS ≤ wr.heap.size := HBX.out
          have p3 : ∀ k, Value.ownBlock (.slice A m c) = some k → w5.heap.size ≤ k ∨ k < wr.heap.size := fun k hk => .inr (World.ownsRow.lt HROWX.out.own k hk).2
          refine ⟨_, m + 1, _, xs ++ [y], l5, n5, f, rfl, Lib.hid ?_, Lib.hid (by rw [List.length_append, HXL.out]; rfl), by omega, by omega, Lib.hid (HR5.out.low hbl (by have := HG.out; omega)), Lib.hid (HK5.out.low hbl (by omega)), Lib.hid (Row.push (R := RCl d) RCl.keep (HROW7.out _) (HY7.out _) p1 (by simp; omega) p3 HO9.out HG9.out HN9.out), Lib.hid (Nat.le_trans hb5 hbl.size)⟩
          rw [List.map_append, List.map_cons, List.map_nil, HYT.out]
          exact EQN.out
        case measure => simp [lenOf]; omega
    have hm9 : ((m : Int) == 0) = false := by rw [beq_eq_false_iff_ne]; omega
    have CS := sees_any wr g n2 q l2 [46] HRD.out
    rw [show bsT [46] = ⟨#[46]⟩ from rfl] at CS
    obtain ⟨b0, hb0⟩ : ∃ b, sees l2 [46] = b := ⟨_, rfl⟩
    rw [hb0] at CS
    replace CS := Lib.hid CS
    have HB0 := Lib.hid hb0
    have HM0 := Lib.hid hm0
    clear hb0 hm0
    go_wp2_with fail
    refine CS.out.mono ?_
    rintro e w2 ⟨rfl, hb⟩
    have HRX := Lib.hid (HRD.out.next hb)
    have HKX := Lib.hid (HKR.out.then hb)
    have HROWX := Lib.hid (Row.next (R := RCl d) RCl.keep HROW.out (fun k _ k2 => hb.block k k2) hb.size)
    have HBX := Lib.hid (Nat.le_trans HBR.out hb.size)
    clear CS hb HRD HKR HROW HBR
    cases b0
    case false =>
      have FIN := Lib.hid (show .ok (xs.map Ct.t) l2 n2 = RES by rw [← EQ.out, chl_stop cal f (xs.map Ct.t) l2 n2 (by rw [List.length_map, HXL.out, HB0.out, beq_eq_false_iff_ne.2 HM0.out]; rfl)])
      go_wp2
      go_ret2
      rw [← FIN.out]
      have hbs := HBS.out
      refine ⟨⟨_, rfl, ⟨A, c, by rw [List.length_map, HXL.out]; rfl, ?_⟩, HRX.out⟩, HKX.out⟩
      exact GRow.imp (GOwn.row (tr := Ct.t) (M := 3518437208780) Ct_cs_len (by decide) HROWX.out.own (by omega) (Row.all (R := RCl d) RCl.wide HROWX.out)) (Kept.refl _ _ _) (by omega) (Nat.le_refl _) (fun _ h => RCl.wide (by omega) (Nat.le_refl _) h)
    case true =>
      have EQN0 := Lib.hid (show chk cal f (xs.map Ct.t) (cal l2 n2) = RES by rw [← EQ.out, chl_go cal f (xs.map Ct.t) l2 n2 (by rw [HB0.out, Bool.or_true])])
      have CC := CL.out w2 g n2 q l2 HRX.out
      obtain ⟨res, hres⟩ : ∃ r, cal l2 n2 = r := ⟨_, rfl⟩
      rw [hres] at CC
      have EQN := Lib.hid (show chk cal f (xs.map Ct.t) res = RES by rw [← hres]; exact EQN0.out)
      have PRG := Lib.hid (fun x l5 n5 (h : res = .ok x l5 n5) => HP.out l2 n2 x l5 n5 (hres.trans h))
      replace CC := Lib.hid CC
      clear hres EQN0
      go_wp2_with fail
      refine CC.out.mono ?_
      rintro e w5 ⟨hgot, hk5⟩
      have HK5 := Lib.hid (HKX.out.trans hk5)
      have HROW5 := Lib.hid (Row.next (R := RCl d) RCl.keep HROWX.out (fun k k1 k2 => hk5.block k k2 (by have := HG.out; have := HBS.out; omega)) hk5.size)
      have HB5 := Lib.hid (Nat.le_trans HBX.out hk5.size)
      have SZ5W := Lib.hid hk5.size
      clear hk5
      cases res with
      | bad l5 n5 er =>
        obtain ⟨v, rfl, ⟨y, rfl⟩, her, hr5⟩ := hgot
        have FIN := Lib.hid (show .bad l5 n5 er = RES from EQN.out)
        have HR5 := Lib.hid hr5
        have e9 : (er == 0) = false := by rw [beq_eq_false_iff_ne]; exact her
        have HER := Lib.hid her
        clear CC her hr5 EQN PRG
        go_wp2
        go_ret2
        rw [← FIN.out]
        exact ⟨⟨_, rfl, rfl, HER.out, HR5.out.next (below_new _ _)⟩, HK5.out.then (below_new _ _)⟩
      | ok x l5 n5 =>
        obtain ⟨v, rfl, ⟨y, rfl, hyt, hyR⟩, hr5⟩ := hgot
        have hlt5 := PRG.out x l5 n5 rfl
        have HYT := Lib.hid hyt
        have HR5 := Lib.hid hr5
        have HY := Lib.hid hyR
        clear CC hyt hr5 hyR PRG
        go_upto_region 6 with fail
        have k1 := new_blk w5 (.cells #[.string y.n, .slice y.A y.l.length y.c] 74)
        generalize hW6 : World.alloc w5 _ = W6 at k1
        have B6 : Hid (Below w5.heap.size w5 W6) := Lib.hid (by rw [← hW6]; exact below_new _ _)
        have S6 : Hid (W6.heap.size = w5.heap.size + 1) := Lib.hid (by rw [← hW6]; simp)
        obtain ⟨a0, a1, _⟩ := bx_cells2 k1
        clear hW6 k1
        have HROW7 := Lib.hid (fun o => Row.next (R := RCl d) RCl.keep (b := W6.alloc o) HROW5.out (fun k _ k2 => ((below_new W6 o).block k (by have := S6.out; omega)).trans (B6.out.block k k2)) (by have := S6.out; simp; omega))
        have HY7 := Lib.hid (fun o => RCl.keep (d := d) (b := W6.alloc o) (Kept.of_below (bnext B6.out (below_new W6 o)) (Nat.le_refl _)) HY.out)
        go_wp2_with (at_builtin; refine append_L Ct_cs_len (by decide) oneCt Tryz.underlying22 infoCt (by rfl) rfl (.tmp 27) (.tmp 29) rfl BS (HROW7.out _).own rfl (y := y) rfl (cells_lay Ct_cs_len 74 W6 [y]) (by unfold maxLen; omega) (by omega) (by have h1 := S6.out; have h2 := HB5.out; simp; omega) ?_; intro g9 c9 w9 ho hgr hn; have HO9 := Lib.hid ho; have HG9 := Lib.hid hgr; have HN9 := Lib.hid hn; clear ho hgr hn)
        go_wp2
        go_roundw
        case rel =>
          have bs := HBS.out
          have s6 := S6.out
          have hb5 := HB5.out
          have szx := SZ5W.out
          have hbl : Below BS w5 w9 := grown_low B6.out HG9.out hb5 (fun k hk => (World.ownsRow.lt HROW5.out.own k hk).1)
          have p1 : BS ≤ w2.heap.size := HBX.out
          have p3 : ∀ k, Value.ownBlock (.slice A m c) = some k → w5.heap.size ≤ k ∨ k < w2.heap.size := fun k hk => .inr (World.ownsRow.lt HROWX.out.own k hk).2
          refine ⟨_, m + 1, _, xs ++ [y], l5, n5, f, rfl, Lib.hid ?_, Lib.hid (by rw [List.length_append, HXL.out]; rfl), by omega, by omega, Lib.hid (HR5.out.low hbl (by have := HG.out; omega)), Lib.hid (HK5.out.low hbl (by omega)), Lib.hid (Row.push (R := RCl d) RCl.keep (HROW7.out _) (HY7.out _) p1 (by simp; omega) p3 HO9.out HG9.out HN9.out), Lib.hid (Nat.le_trans hb5 hbl.size)⟩
          rw [List.map_append, List.map_cons, List.map_nil, HYT.out]
          exact EQN.out
        case measure => simp [lenOf]; omega
def ChnOk (r : Nat) : Prop := ∀ (w : World) (g n : Nat) (q lev : Int) (l : List Tk), lev = 11 - r → 1 ≤ r → r ≤ 10 → Rdr w g q l n →
  Calls Tryz.prog 44 #[.pointer (some ⟨g, 0, none⟩), .int .i64 lev] w (Got g q w (OkCh r w) (fun v => v = .slice none 0 0) (chnT r l n))
set_option maxHeartbeats 3200000 in
theorem inner_any (r : Nat) (hr : r ≤ 9) (ih : ChnOk r) (lev : Int) (hlev : lev = 10 - r) : InnerOk r lev (fun l n => if r = 0 then .bad l n 3 else chnT r l.tail n) := by
  intro w g n q l hne h
  obtain ⟨x, l3, rfl⟩ : ∃ x r, l = x :: r := by
    cases l with
    | nil => exact absurd rfl hne
    | cons x r => exact ⟨x, r, rfl⟩
  have H := Lib.hid h
  have IH := Lib.hid ih
  obtain ⟨lv, hlv⟩ : ∃ z, z = lev + 1 := ⟨_, rfl⟩
  rw [← hlv]
  have HLV := Lib.hid (show lv = 11 - (r : Int) by omega)
  clear hlv hlev h ih hne
  by_cases h0 : r = 0
  case pos =>
    have h10 : 10 < lv := by have := HLV.out; omega
    subst h0
    show Calls Tryz.prog 119 #[.pointer (some ⟨g, 0, none⟩), .int .i64 lv] w (Got g q w (OkCh 0 w) (fun v => v = .slice none 0 0) (.bad (x :: l3) n 3))
    go_enter Tryz.func119, Tryz.ntmps119
    go_wp2
    go_ret2
    exact ⟨⟨_, rfl, rfl, by decide, H.out⟩, RK.refl _ _⟩
  have h10 : ¬ 10 < lv := by have := HLV.out; omega
  have CS := Lib.hid (skip_any w g n q x l3 H.out)
  show Calls Tryz.prog 119 #[.pointer (some ⟨g, 0, none⟩), .int .i64 lv] w (Got g q w (OkCh r w) (fun v => v = .slice none 0 0) (if r = 0 then Rs.bad (x :: l3) n 3 else chnT r l3 n))
  rw [if_neg h0]
  obtain ⟨RES, hRES⟩ : ∃ z, chnT r l3 n = z := ⟨_, rfl⟩
  rw [hRES]
  have HRES := Lib.hid hRES
  have HR0 := Lib.hid (And.intro h0 hr)
  clear hRES h0 hr
  go_enter Tryz.func119, Tryz.ntmps119
  go_wp2_with fail
  refine CS.out.mono ?_
  rintro e w1 ⟨rfl, hr, hk⟩
  have HR1 := Lib.hid hr
  have K1 := Lib.hid hk
  have CC := IH.out w1 g n q lv l3 HLV.out (by have := HR0.out.1; omega) (by have := HR0.out.2; omega) hr
  rw [HRES.out] at CC
  replace CC := Lib.hid CC
  clear CS hr hk
  go_wp2_with fail
  refine CC.out.mono ?_
  rintro e w2 hgot
  obtain ⟨v9, er9, rfl⟩ := Got.form hgot
  have HGOT := Lib.hid hgot
  clear CC hgot
  go_wp2
  go_ret2
  refine ⟨?_, K1.out.trans HGOT.out.2⟩
  have hg := HGOT.out.1
  have ks := K1.out.size
  cases RES with
  | ok cs l n =>
    obtain ⟨v, e, ⟨A, c, rfl, hc⟩, rr⟩ := hg
    exact ⟨_, e, ⟨A, c, rfl, Ch.imp (Kept.refl _ _ _) ks (Nat.le_refl _) (Nat.le_refl _) hc⟩, rr⟩
  | bad l n er => exact hg
theorem chn_any : ∀ r, ChnOk r
  | 0 => fun _ _ _ _ _ _ _ h => by omega
  | r + 1 => fun w g n q lev l hlev h1 h2 h => by
    rw [chnT]
    have hless : ∀ l n x l2 n2, (fun l n => if r = 0 then Rs.bad l n 3 else chnT r l.tail n) l n = .ok x l2 n2 → l2.length < l.length := fun l n x l2 n2 h => by
      have h' : (if r = 0 then Rs.bad l n 3 else chnT r l.tail n) = .ok x l2 n2 := h
      split at h'
      · cases h'
      · have := chn_less _ _ _ _ _ _ h'
        have h3 : l.tail.length ≤ l.length := by simp
        omega
    exact chain_step r lev _ (fun w g n q l hr => cal_any r lev _ (inner_any r (by omega) (chn_any r) lev (by omega)) ⟨by omega, by omega⟩ hless w g n q l hr) (cal_less hless) w g n q l h
set_option maxHeartbeats 3200000 in
theorem qry_any (w : World) (g : Nat) (q : Int) (l : List Tk) (h : Rdr w g q l 0) : Calls Tryz.prog 24 #[.pointer (some ⟨g, 0, none⟩)] w (Got g q w (OkCh 10 w) (fun v => v = .slice none 0 0) (qryT l)) := by
  have H := Lib.hid h
  obtain ⟨RES, hRES⟩ : ∃ x, qryT l = x := ⟨_, rfl⟩
  rw [hRES]
  have QRY := Lib.hid (show RES = if isN (hdT l) [103] = true then (match chnT 10 l.tail 0 with
    | .ok c l2 n2 => if 0 < l2.length then .bad l2 n2 30 else .ok c l2 n2
    | .bad l2 n2 e => .bad l2 n2 e) else .bad l 0 30 from hRES.symm)
  have CN := next_any w g 0 q l h
  have K1C := Lib.hid (fun (e : isN (hdT l) [103] = true) => k1_cons (isN_k e))
  generalize hdT l = t at CN QRY K1C
  replace CN := Lib.hid CN
  clear h hRES
  go_enter Tryz.func24, Tryz.ntmps24
  go_wp2_with fail
  refine CN.out.mono ?_
  rintro e w1 ⟨rfl, hb⟩
  have B1 := Lib.hid hb
  have CI := isN_any w1 t [103]
  rw [show bsT [103] = ⟨#[103]⟩ from rfl] at CI
  obtain ⟨b0, hb0⟩ : ∃ b, isN t [103] = b := ⟨_, rfl⟩
  rw [hb0] at CI QRY K1C
  replace CI := Lib.hid CI
  clear CN hb hb0
  go_wp2_with fail
  refine CI.out.mono ?_
  rintro e w2 ⟨rfl, hb⟩
  have B2 := Lib.hid (bnext B1.out hb)
  have HR2 := Lib.hid (H.out.next B2.out)
  clear CI hb
  cases b0
  case false =>
    have FIN := Lib.hid (show .bad l 0 30 = RES by rw [QRY.out, if_neg (by simp)])
    go_wp2
    go_ret2
    rw [← FIN.out]
    exact ⟨⟨_, rfl, rfl, by decide, HR2.out⟩, RK.of B2.out⟩
  obtain ⟨x, l3, rfl⟩ := K1C.out rfl
  have CS := Lib.hid (skip_any w2 g 0 q x l3 HR2.out)
  replace QRY := Lib.hid (show RES = (match chnT 10 l3 0 with
    | .ok c l2 n2 => if 0 < l2.length then .bad l2 n2 30 else .ok c l2 n2
    | .bad l2 n2 e => .bad l2 n2 e) by rw [QRY.out, if_pos rfl]; rfl)
  go_wp2_with fail
  refine CS.out.mono ?_
  rintro e w3 ⟨rfl, hr, hk⟩
  have R3 := Lib.hid ((RK.of (g := g) B2.out).trans hk)
  have S3 := Lib.hid R3.out.size
  have CC := chn_any 10 w3 g 0 q 1 l3 (by decide) (by decide) (by decide) hr
  obtain ⟨R2, hR2⟩ : ∃ z, chnT 10 l3 0 = z := ⟨_, rfl⟩
  rw [hR2] at CC QRY
  replace CC := Lib.hid CC
  clear CS hr hk hR2
  go_wp2_with fail
  refine CC.out.mono ?_
  rintro e w4 ⟨hgot, hk⟩
  have R4 := Lib.hid (R3.out.trans hk)
  clear CC hk
  cases R2 with
  | bad l5 n5 er =>
    obtain ⟨v, rfl, rfl, her, hr5⟩ := hgot
    have HR5 := Lib.hid hr5
    have HER := Lib.hid her
    have e9 : (er == 0) = false := by rw [beq_eq_false_iff_ne]; exact her
    have FIN := Lib.hid (show .bad l5 n5 er = RES from QRY.out.symm)
    clear her hr5
    go_wp2
    go_ret2
    rw [← FIN.out]
    exact ⟨⟨_, rfl, rfl, HER.out, HR5.out⟩, R4.out⟩
  | ok cs l5 n5 =>
    obtain ⟨v, rfl, ⟨A, c, rfl, hc⟩, hr5⟩ := hgot
    have HR5 := Lib.hid hr5
    have HC := Lib.hid hc
    obtain ⟨AA, cc, eb, _⟩ := hr5.blk
    obtain ⟨c0, c1, c2, _⟩ := bx_cells3 eb
    clear hc hr5 eb
    by_cases hz : 0 < l5.length
    · have FIN := Lib.hid (show .bad l5 n5 30 = RES by rw [QRY.out]; show Rs.bad l5 n5 30 = (if 0 < l5.length then Rs.bad l5 n5 30 else Rs.ok cs l5 n5); rw [if_pos hz])
      have hz9 : (0 : Int) < (l5.length : Int) := by omega
      clear hz
      go_wp2
      go_ret2
      rw [← FIN.out]
      exact ⟨⟨_, rfl, rfl, by decide, HR5.out⟩, R4.out⟩
    · have FIN := Lib.hid (show .ok cs l5 n5 = RES by rw [QRY.out]; show Rs.ok cs l5 n5 = (if 0 < l5.length then Rs.bad l5 n5 30 else Rs.ok cs l5 n5); rw [if_neg hz])
      have hz9 : ¬ (0 : Int) < (l5.length : Int) := by omega
      clear hz
      go_wp2
      go_ret2
      rw [← FIN.out]
      exact ⟨⟨_, rfl, ⟨A, c, rfl, Ch.imp (Kept.refl _ _ _) S3.out (Nat.le_refl _) (Nat.le_refl _) HC.out⟩, HR5.out⟩, R4.out⟩
end Go.Proofs.YtllkimdlmnjoiaaGreatDoor
