/- Parse: the value of a text, or none. -/
import Derived.Test.YtmgjiipooffggaaKM
import Derived.Test.YtmgjiipooffggaaVJ
namespace Go.Proofs.Ytmgjiipooffggaa
set_option maxRecDepth 100000
open Go.RowKit Go.Sort

theorem isValue_at (w : World) (d : Nat) (x : At) (hx : x.In w d) : Calls Try.prog 25 #[x.v] w fun e w' => e = .returned (.bool (okV 12 x.t)) ∧ Below w.heap.size w w' := by
  have b0 := below_new w (.cells #[.int .i64 x.t.k, .int .i64 x.t.n, .string x.t.s, .slice x.A x.t.l.length x.c, .slice x.A' x.t.m.length x.c'] 24)
  have CK := Lib.hid (check_any _ d x.t _ _ _ _ (hx.next b0))
  have B0 := Lib.hid b0
  clear hx b0
  unfold vl at CK
  generalize okV 12 x.t = b at *
  unfold At.v
  go_enter Try.func25, Try.ntmps25
  go_wp2_with fail
  refine CK.out.mono ?_
  rintro e w1 ⟨rfl, hb1⟩
  have HB := Lib.hid (bnext B0.out hb1)
  clear hb1
  cases b
  · go_wp2
    go_ret
    exact ⟨rfl, HB.out⟩
  · go_wp2
    go_ret
    exact ⟨rfl, HB.out⟩

/-- The value of a text, or none. -/
def prs (l : Bs) : Option V :=
  match rd 12 l with
  | none => none
  | some (t, r) => if r.isEmpty && okV 12 t then some t else none
theorem prs_none {l : Bs} (h : rd 12 l = none) : prs l = none := by simp only [prs, h]
theorem prs_some {l r : Bs} {t : V} (h : rd 12 l = some (t, r)) : prs l = if r.isEmpty && okV 12 t then some t else none := by simp only [prs, h]
def ParsePost (w : World) (o : Option V) (e : Ending) (w' : World) : Prop :=
  ∃ q : At, e = .returned (.tuple #[q.v, .int .i64 (if o.isSome then 0 else 30)]) ∧ Rd w' w.heap.size w'.heap.size 14 q.t q.A q.c q.A' q.c' ∧ Below w.heap.size w w' ∧ (∀ t, o = some t → q.t = t) ∧ (o = none → q.t = zeroV)
theorem code_end {w w1 F : World} {r0 lo d : Nat} {q : At} {o : Option V} {n : Int} (hn : n = if o.isSome then 0 else 30) (hr : w.heap.size ≤ r0) (hk : ∀ lo B, r0 < lo → Kept lo B w1 F) (hs : F.heap.size = w1.heap.size) (hbel : ∀ B w0, B ≤ r0 → Below B w0 w1 → Below B w0 F)
    (hb : Below w.heap.size w w1) (hq : Rd w1 lo w1.heap.size d q.t q.A q.c q.A' q.c') (hlo : r0 < lo) (hd : d ≤ 14) (h1 : ∀ t, o = some t → q.t = t) (h2 : o = none → q.t = zeroV) :
    ParsePost w o (.returned (.tuple #[q.v, .int .i64 n])) F :=
  ⟨q, by rw [hn], Rd.imp (hk lo w1.heap.size hlo) (by omega) (by rw [hs]; exact Nat.le_refl _) hd hq, hbel _ _ hr hb, h1, h2⟩

set_option maxHeartbeats 3200000 in
theorem parse_code (w : World) (s : ByteArray) (hs : s.size ≤ 140737488355328) : Calls Try.prog 18 #[.string s] w (ParsePost w (prs s.toList)) := by
  have P1 := Lib.hid (fun h => prs_none (l := s.toList) h)
  have P2 := Lib.hid (fun r t h => prs_some (l := s.toList) (r := r) (t := t) h)
  have RDA := Lib.hid (fun W g (h : RL W g s s.toList) => read_any 12 W g s s.toList 1 (by omega) (by omega) h)
  generalize hG : prs s.toList = G at *
  clear hG
  generalize hO : rd 12 s.toList = O at *
  clear hO
  have S0 : Hid (∃ p : Nat, s.toList.drop p = s.toList ∧ p = 0) := Lib.hid ⟨0, rfl, rfl⟩
  go_enter Try.func18, Try.ntmps18
  go_upto_region 2 with fail
  have z0 := below_new w (.cells #[.int .i64 0, .int .i64 0, .string ⟨#[]⟩, .slice none 0 0, .slice none 0 0] 24)
  have c0 := Cell.new w (.int .i64 0) (.int .i64 0) (.string ⟨#[]⟩) (.slice none 0 0) (.slice none 0 0)
  generalize hW : World.alloc w (.cells #[.int .i64 0, .int .i64 0, .string ⟨#[]⟩, .slice none 0 0, .slice none 0 0] 24) = W0 at z0 c0 ⊢
  have hz0 : W0.heap.size = w.heap.size + 1 := by rw [← hW]; simp
  clear hW
  have z1 := below_new W0 (.cells #[.string s, .int .i64 0] 63)
  have r1 : RL (World.alloc W0 (.cells #[.string s, .int .i64 0] 63)) W0.heap.size s s.toList := ⟨0, heap_alloc_new W0 _, Nat.zero_le _, hs, rfl⟩
  rw [← hz0]
  generalize World.alloc W0 (.cells #[.string s, .int .i64 0] 63) = W1 at z1 r1 ⊢
  have R1 := Lib.hid r1
  have B1 := Lib.hid (bnext z0 z1)
  have C1 := Lib.hid (c0.below z1 c0.blk.lt)
  have hgr := Lib.hid (show w.heap.size < W0.heap.size by omega)
  have hg1 := Lib.hid r1.lt
  clear z0 z1 c0 r1 hz0
  generalize W0.heap.size = g at *
  obtain ⟨r0, hr0⟩ : ∃ r0 : Nat, r0 = w.heap.size := ⟨_, rfl⟩
  rw [← hr0] at C1
  rw [← hr0]
  replace hr0 := Lib.hid hr0
  go_wp2_with fail
  refine (RDA.out W1 g R1.out).mono ?_
  rintro e w2 ⟨q, b, l', rfl, rq, r2, k2, hx, hn⟩
  have R2 := Lib.hid r2
  have B2 := Lib.hid (B1.out.trans (k2.1.mono (by have := hgr.out; omega)))
  have C2 := Lib.hid (C1.out.kept (k2.other r0 C1.out.blk.lt (fun e => by have := hgr.out; have := hr0.out; omega)))
  have RQ := Lib.hid rq
  have LO := Lib.hid (show r0 < W1.heap.size from C1.out.blk.lt)
  have HX := Lib.hid hx
  have HN := Lib.hid hn
  clear r2 k2 rq hx hn RDA
  go_upto_region 3 with fail
  have bn := below_new w2 (.cells #[.int .i64 q.t.k, .int .i64 q.t.n, .string q.t.s, .slice q.A q.t.l.length q.c, .slice q.A' q.t.m.length q.c'] 24)
  have hbx := Bx.new w2 q
  generalize hW3 : World.alloc w2 _ = W3 at bn hbx ⊢
  clear hW3
  have R3 := Lib.hid (R2.out.next bn)
  have B3 := Lib.hid (B2.out.trans (bn.mono B2.out.size))
  have C3 := Lib.hid (C2.out.below bn C2.out.blk.lt)
  have RQ3 := Lib.hid (Rd.imp (Kept.of_below bn (Nat.le_refl _)) (Nat.le_refl _) bn.size (Nat.le_refl _) RQ.out)
  have HBX := Lib.hid hbx
  clear bn hbx R2 B2 C2 RQ
  generalize w2.heap.size = gv at *
  have AE := Lib.hid (fun W (h : RL W g s l') => atEnd_any W g s l' h)
  generalize hE : l'.isEmpty = E at AE
  have HE := Lib.hid hE
  clear hE
  cases b with
  | false =>
    have hO1 : O = none := by
      cases hOO : O with
      | none => rfl
      | some tr => have := (HX.out tr.1 tr.2 hOO).1; cases this
    have hG : G = none := P1.out hO1
    subst hG
    clear hO1
    obtain ⟨s0, s1, s2, s3, s4, f0, f1, f2, f3, f4, hblk⟩ := C3.out
    have HRB := Lib.hid (ret_box hblk (.int .i64 0) (.int .i64 0) (.string ⟨#[]⟩) (.slice none 0 0) (.slice none 0 0))
    clear hblk
    go_wp2
    obtain ⟨F, hF, ⟨r0', r1', r2', r3', r4', _⟩, hk', hs', hbel'⟩ := HRB.out
    rw [← hF]
    clear hF
    refine bodyPost_ret (v := .tuple #[.agg #[.int .i64 0, .int .i64 0, .string ⟨#[]⟩, .slice none 0 0, .slice none 0 0], .int .i64 30]) (by simp [results, Try.results18, go_sem, r0', r1', r2', r3', r4']) rfl
      (code_end (q := zAt) (lo := r0 + 1) (d := 1) (by rfl) (Nat.le_of_eq hr0.out.symm) hk' hs' hbel' B3.out (rd_plain _ _ _ _ 0 0 _ (fld_mk _ _ (by decide) (by decide) (by decide) (by decide) (by decide))) (Nat.lt_succ_self _) (by omega) (by simp) (fun _ => rfl))
  | true =>
    obtain ⟨t, rr, hO1⟩ : ∃ t rr, O = some (t, rr) := by
      cases hOO : O with
      | none => have := HN.out hOO; cases this
      | some tr => exact ⟨tr.1, tr.2, rfl⟩
    obtain ⟨_, ht, hl⟩ := HX.out t rr hO1
    subst hl
    have HT := Lib.hid ht
    have HGE := Lib.hid (P2.out l' t hO1)
    clear ht hO1 HX HN P1 P2
    rw [HE.out] at HGE
    go_wp2_with fail
    refine (AE.out W3 R3.out).mono ?_
    rintro e w4 ⟨rfl, hb4⟩
    have B4 := Lib.hid (B3.out.trans (hb4.mono B3.out.size))
    have C4 := Lib.hid (C3.out.below hb4 C3.out.blk.lt)
    have RQ4 := Lib.hid (Rd.imp (Kept.of_below hb4 (Nat.le_refl _)) (Nat.le_refl _) hb4.size (Nat.le_refl _) RQ3.out)
    have HBX4 := Lib.hid (HBX.out.next hb4)
    clear hb4 B3 C3 RQ3 HBX R3
    cases E with
    | false =>
      have hG : G = none := by rw [HGE.out]; rfl
      subst hG
      obtain ⟨s0, s1, s2, s3, s4, f0, f1, f2, f3, f4, hblk⟩ := C4.out
      have HRB := Lib.hid (ret_box hblk (.int .i64 0) (.int .i64 0) (.string ⟨#[]⟩) (.slice none 0 0) (.slice none 0 0))
      clear hblk
      go_wp2
      obtain ⟨F, hF, ⟨r0', r1', r2', r3', r4', _⟩, hk', hs', hbel'⟩ := HRB.out
      rw [← hF]
      clear hF
      refine bodyPost_ret (v := .tuple #[.agg #[.int .i64 0, .int .i64 0, .string ⟨#[]⟩, .slice none 0 0, .slice none 0 0], .int .i64 30]) (by simp [results, Try.results18, go_sem, r0', r1', r2', r3', r4']) rfl
        (code_end (q := zAt) (lo := r0 + 1) (d := 1) (by rfl) (Nat.le_of_eq hr0.out.symm) hk' hs' hbel' B4.out (rd_plain _ _ _ _ 0 0 _ (fld_mk _ _ (by decide) (by decide) (by decide) (by decide) (by decide))) (Nat.lt_succ_self _) (by omega) (by simp) (fun _ => rfl))
    | true =>
      have HGE' : Hid (G = if okV 12 t then some t else none) := Lib.hid (by rw [HGE.out]; simp)
      clear HGE
      obtain ⟨q0, q1, q2, q3, q4, _⟩ := HBX4.out
      go_wp2_with fail
      refine (isValue_at w4 13 q (Rd.more RQ4.out (Nat.zero_le _) (Nat.le_refl _) (Nat.le_refl _))).mono ?_
      rintro e w5 ⟨rfl, hb5⟩
      have B5 := Lib.hid (B4.out.trans (hb5.mono B4.out.size))
      have C5 := Lib.hid (C4.out.below hb5 C4.out.blk.lt)
      have RQ5 := Lib.hid (Rd.imp (Kept.of_below hb5 (Nat.le_refl _)) (Nat.le_refl _) hb5.size (Nat.le_refl _) RQ4.out)
      have HBX5 := Lib.hid (HBX4.out.next hb5)
      clear hb5 B4 C4 RQ4 HBX4 q0 q1 q2 q3 q4
      have HOK := Lib.hid (show okV 12 q.t = okV 12 t by rw [HT.out])
      rw [HOK.out]
      generalize hok : okV 12 t = ok at *
      clear hok HOK
      cases ok with
      | false =>
        have hG : G = none := by rw [HGE'.out]; rfl
        subst hG
        clear HGE'
        obtain ⟨s0, s1, s2, s3, s4, f0, f1, f2, f3, f4, hblk⟩ := C5.out
        have HRB := Lib.hid (ret_box hblk (.int .i64 0) (.int .i64 0) (.string ⟨#[]⟩) (.slice none 0 0) (.slice none 0 0))
        clear hblk
        go_wp2
        obtain ⟨F, hF, ⟨r0', r1', r2', r3', r4', _⟩, hk', hs', hbel'⟩ := HRB.out
        rw [← hF]
        clear hF
        refine bodyPost_ret (v := .tuple #[.agg #[.int .i64 0, .int .i64 0, .string ⟨#[]⟩, .slice none 0 0, .slice none 0 0], .int .i64 30]) (by simp [results, Try.results18, go_sem, r0', r1', r2', r3', r4']) rfl
          (code_end (q := zAt) (lo := r0 + 1) (d := 1) (by rfl) (Nat.le_of_eq hr0.out.symm) hk' hs' hbel' B5.out (rd_plain _ _ _ _ 0 0 _ (fld_mk _ _ (by decide) (by decide) (by decide) (by decide) (by decide))) (Nat.lt_succ_self _) (by omega) (by simp) (fun _ => rfl))
      | true =>
        have hG : G = some t := by rw [HGE'.out]; rfl
        subst hG
        clear HGE'
        obtain ⟨q0, q1, q2, q3, q4, _⟩ := HBX5.out
        obtain ⟨s0, s1, s2, s3, s4, f0, f1, f2, f3, f4, hblk⟩ := C5.out
        have HRB := Lib.hid (ret_box hblk (.int .i64 q.t.k) (.int .i64 q.t.n) (.string q.t.s) (.slice q.A q.t.l.length q.c) (.slice q.A' q.t.m.length q.c'))
        clear hblk
        go_wp2
        obtain ⟨F, hF, ⟨r0', r1', r2', r3', r4', _⟩, hk', hs', hbel'⟩ := HRB.out
        rw [← hF]
        clear hF
        refine bodyPost_ret (v := .tuple #[.agg #[.int .i64 q.t.k, .int .i64 q.t.n, .string q.t.s, .slice q.A q.t.l.length q.c, .slice q.A' q.t.m.length q.c'], .int .i64 0]) (by simp [results, Try.results18, go_sem, r0', r1', r2', r3', r4']) rfl
          (code_end (q := q) (lo := W1.heap.size) (d := 13) (by rfl) (Nat.le_of_eq hr0.out.symm) hk' hs' hbel' B5.out RQ5.out LO.out (by omega) (by rintro t' ⟨⟩; exact HT.out) (by simp))
end Go.Proofs.Ytmgjiipooffggaa
