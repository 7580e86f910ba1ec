/- Carried over from an earlier seat. -/
import Derived.Test.YtllkimdlmnjoiaaGreatDoorTG
namespace Go.Proofs.YtllkimdlmnjoiaaGreatDoor
set_option maxRecDepth 100000
set_option maxRecDepth 100000
set_option maxRecDepth 100000
open Go.RowKit Go.Sort

def ChainOk (d : Nat) (f : List C → Bool) : Prop := ∀ (w : World) (A : Option Addr) (c : Nat) (l : List C), NM w → Ch w 0 w.heap.size d A c l →
  Calls Tryz.prog 29 #[.slice A l.length c] w fun e w' => e = .returned (.bool (f l)) ∧ Below w.heap.size w w'
theorem argOk_fits (f : List C → Bool) (g : Ag) (h : fitsA g = false) : argOk f g = false := by unfold argOk; rw [h]; rfl
theorem argOk_1 (f : List C → Bool) (g : Ag) (h : fitsA g = true) (hk : g.k = 1) : argOk f g = (okV 12 g.v && wrV 12 g.v) := by unfold argOk; rw [h, if_pos hk]; rfl
theorem argOk_2 (f : List C → Bool) (g : Ag) (h : fitsA g = true) (hk : g.k = 2) : argOk f g = (okP 12 g.p && wrP 12 g.p) := by unfold argOk; rw [h, if_neg (by omega), if_pos hk]; rfl
theorem argOk_3 (f : List C → Bool) (g : Ag) (h : fitsA g = true) (hk : g.k = 3) : argOk f g = f g.c := by unfold argOk; rw [h, if_neg (by omega), if_neg (by omega), if_pos hk]; rfl
theorem argOk_4 (f : List C → Bool) (g : Ag) (h : fitsA g = true) (hk : g.k = 4) : argOk f g = (nameB g.s && !takenB g.s) := by unfold argOk; rw [h, if_neg (by omega), if_neg (by omega), if_neg (by omega), if_pos hk]; rfl
theorem argOk_no (f : List C → Bool) (g : Ag) (h : fitsA g = true) (hk : ¬ (g.k = 1 ∨ g.k = 2 ∨ g.k = 3 ∨ g.k = 4)) : argOk f g = false := by
  unfold argOk; rw [h, if_neg (by omega), if_neg (by omega), if_neg (by omega), if_neg (by omega)]; rfl
set_option maxHeartbeats 6400000 in
theorem isArg_any (d : Nat) (f : List C → Bool) (hf : ChainOk d f) (w : World) (hm : NM w) (g : Gt) (hg : g.In w d) :
    Calls Tryz.prog 69 #[g.val] w fun e w' => e = .returned (.bool (argOk f g.t)) ∧ Below w.heap.size w w' := by
  have HG := Lib.hid hg
  have HM := Lib.hid hm
  have HF := Lib.hid hf
  have F0 := Lib.hid (argOk_fits f g.t)
  have F1 := Lib.hid (argOk_1 f g.t)
  have F2 := Lib.hid (argOk_2 f g.t)
  have F3 := Lib.hid (argOk_3 f g.t)
  have F4 := Lib.hid (argOk_4 f g.t)
  have FN := Lib.hid (argOk_no f g.t)
  have hsz := hg.s1
  have hbg := hg.c.big
  obtain ⟨ans, hans⟩ : ∃ b, b = argOk f g.t := ⟨_, rfl⟩
  rw [← hans] at F0 F1 F2 F3 F4 FN ⊢
  clear hg hm hf hans
  go_enter Tryz.func69, Tryz.ntmps69
  go_upto_region 1 with fail
  generalize hW : World.alloc w _ = W
  obtain ⟨k1, hb⟩ := box44 _ _ _ hW
  have K1 := Lib.hid k1
  have HB := Lib.hid hb
  obtain ⟨a0, a1, a2, a3, a4, a5, a6, a7, a8, a9, a10, _⟩ := k1
  clear hW hb
  have CT := Lib.hid (fitsA_any W d g (HG.out.next HB.out))
  go_wp2_with fail
  refine CT.out.mono ?_
  rintro e w1 ⟨rfl, hb⟩
  have HB1 := Lib.hid (bnext HB.out hb)
  have K2 := Lib.hid (K1.out.next hb)
  clear hb CT a0 a1 a2 a3 a4 a5 a6 a7 a8 a9 a10
  obtain ⟨a0, a1, a2, a3, a4, a5, a6, a7, a8, a9, a10, _⟩ := K2.out
  cases hfit : fitsA g.t
  case false =>
    have FIN := Lib.hid (F0.out hfit)
    clear hfit
    go_wp2
    go_ret
    exact ⟨by rw [FIN.out]; rfl, HB1.out⟩
  by_cases h : g.k = 1 ∨ g.k = 2 ∨ g.k = 3 ∨ g.k = 4
  · rcases h with hk | hk | hk | hk
    · have FIN := Lib.hid (F1.out hfit hk)
      have n1 : (g.k == 1) = true := by rw [hk]; rfl
      clear hfit hk
      obtain ⟨nv, hv⟩ := (HG.out.next HB1.out).v
      have HV := Lib.hid (show g.x.In w1 nv from hv)
      have CT := Lib.hid (check_at w1 nv g.x HV.out)
      have OK := Lib.hid (fun (h : okV 12 g.x.t = true) (X : World) (hX : Below w1.heap.size w1 X) => wr_any 12 X nv g.x h (HV.out.next hX))
      replace FIN := Lib.hid (show ans = (okV 12 g.x.t && wrV 12 g.x.t) from FIN.out)
      generalize okV 12 g.x.t = b1 at *
      generalize wrV 12 g.x.t = b2 at *
      clear hv
      go_wp2_with fail
      refine CT.out.mono ?_
      rintro e w2 ⟨rfl, hb⟩
      have HB2 := Lib.hid (bnext HB1.out hb)
      have K3 := Lib.hid (K2.out.next hb)
      have HX := Lib.hid hb
      clear hb CT a0 a1 a2 a3 a4 a5 a6 a7 a8 a9 a10
      obtain ⟨a0, a1, a2, a3, a4, a5, a6, a7, a8, a9, a10, _⟩ := K3.out
      cases b1
      · rw [show errI false = 2 from rfl]
        go_wp2_with fail
        go_ret
        exact ⟨by rw [FIN.out]; rfl, HB2.out⟩
      · rw [show errI true = 0 from rfl]
        have CW := Lib.hid (OK.out rfl w2 HX.out)
        go_wp2_with fail
        refine CW.out.mono ?_
        rintro e w3 ⟨rfl, hb⟩
        have HB3 := Lib.hid (bnext HB2.out hb)
        clear hb CW
        go_wp2
        go_ret
        exact ⟨by rw [FIN.out]; rfl, HB3.out⟩
    · have FIN := Lib.hid (F2.out hfit hk)
      have n1 : (g.k == 1) = false := by rw [hk]; rfl
      have n2 : (g.k == 2) = true := by rw [hk]; rfl
      clear hfit hk
      obtain ⟨np, hp⟩ := (HG.out.next HB1.out).p
      have HP := Lib.hid (show g.q.In w1 np from hp)
      have CT := Lib.hid (pcheck_any w1 np g.q HP.out)
      have OK := Lib.hid (fun (h : okP 12 g.q.t = true) (X : World) (hX : Below w1.heap.size w1 X) => wrP_any 12 X np g.q h (HP.out.next hX))
      replace FIN := Lib.hid (show ans = (okP 12 g.q.t && wrP 12 g.q.t) from FIN.out)
      generalize okP 12 g.q.t = b1 at *
      generalize wrP 12 g.q.t = b2 at *
      clear hp
      go_wp2_with fail
      refine CT.out.mono ?_
      rintro e w2 ⟨rfl, hb⟩
      have HB2 := Lib.hid (bnext HB1.out hb)
      have K3 := Lib.hid (K2.out.next hb)
      have HX := Lib.hid hb
      clear hb CT a0 a1 a2 a3 a4 a5 a6 a7 a8 a9 a10
      obtain ⟨a0, a1, a2, a3, a4, a5, a6, a7, a8, a9, a10, _⟩ := K3.out
      cases b1
      · rw [show errI false = 2 from rfl]
        go_wp2_with fail
        go_ret
        exact ⟨by rw [FIN.out]; rfl, HB2.out⟩
      · rw [show errI true = 0 from rfl]
        have CW := Lib.hid (OK.out rfl w2 HX.out)
        go_wp2_with fail
        refine CW.out.mono ?_
        rintro e w3 ⟨rfl, hb⟩
        have HB3 := Lib.hid (bnext HB2.out hb)
        clear hb CW
        go_wp2
        go_ret
        exact ⟨by rw [FIN.out]; rfl, HB3.out⟩
    · have FIN := Lib.hid (F3.out hfit hk)
      have n1 : (g.k == 1) = false := by rw [hk]; rfl
      have n2 : (g.k == 2) = false := by rw [hk]; rfl
      have n3 : (g.k == 3) = true := by rw [hk]; rfl
      clear hfit hk
      have CT := Lib.hid (HF.out w1 g.A g.c g.l (HM.out.next HB1.out) (HG.out.next HB1.out).c)
      replace FIN := Lib.hid (show ans = f g.l from FIN.out)
      generalize f g.l = b1 at *
      go_wp2_with fail
      refine CT.out.mono ?_
      rintro e w2 ⟨rfl, hb⟩
      have HB2 := Lib.hid (bnext HB1.out hb)
      clear hb CT
      go_wp2
      go_ret
      exact ⟨by rw [FIN.out]; rfl, HB2.out⟩
    · have FIN := Lib.hid (F4.out hfit hk)
      have n1 : (g.k == 1) = false := by rw [hk]; rfl
      have n2 : (g.k == 2) = false := by rw [hk]; rfl
      have n3 : (g.k == 3) = false := by rw [hk]; rfl
      have n4 : (g.k == 4) = true := by rw [hk]; rfl
      clear hfit hk
      have CT := Lib.hid (name_any g.s w1)
      have CK := Lib.hid (taken_any g.s w1 (HM.out.next HB1.out))
      replace FIN := Lib.hid (show ans = (nameB g.s && !takenB g.s) from FIN.out)
      generalize nameB g.s = b1 at *
      generalize takenB g.s = b2 at *
      go_wp2_with fail
      refine CT.out.mono ?_
      rintro e w2 ⟨rfl, rfl⟩
      cases b1
      · go_wp2_with fail
        go_ret
        exact ⟨by rw [FIN.out]; rfl, HB1.out⟩
      · go_wp2_with fail
        refine CK.out.mono ?_
        rintro e w3 ⟨rfl, rfl⟩
        go_wp2
        go_ret
        exact ⟨by rw [FIN.out]; rfl, HB1.out⟩
  · have FIN := Lib.hid (FN.out hfit h)
    have n1 : (g.k == 1) = false := beq_eq_false_iff_ne.2 (by omega)
    have n2 : (g.k == 2) = false := beq_eq_false_iff_ne.2 (by omega)
    have n3 : (g.k == 3) = false := beq_eq_false_iff_ne.2 (by omega)
    have n4 : (g.k == 4) = false := beq_eq_false_iff_ne.2 (by omega)
    clear hfit h
    go_wp2
    go_ret
    exact ⟨by rw [FIN.out]; rfl, HB1.out⟩

theorem entArg : Enters 68 := fun _ _ => by kernel_rfl
theorem entCall : Enters 49 := fun _ _ => by kernel_rfl
set_option maxHeartbeats 800000 in
theorem closure_arg (d : Nat) (f : List C → Bool) (hf : ChainOk d f) (w : World) (hm : NM w) : PredsA 68 #[] w d (fun _ => True) (fun g => !argOk f g) := by
  intro W g _ hb hg
  have b0 := below_new W (.cells #[.int .i64 g.k, .int .i64 g.x.t.k, .int .i64 g.x.t.n, .string g.x.t.s, .slice g.x.A g.x.t.l.length g.x.c, .slice g.x.A' g.x.t.m.length g.x.c', .int .i64 g.q.t.k, .slice g.q.A g.q.t.v.length g.q.c, .slice g.q.A' g.q.t.p.length g.q.c', .slice g.A g.l.length g.c, .string g.s] 82)
  have CK := Lib.hid (isArg_any d f hf _ ((hm.next hb).next b0) g (hg.next b0))
  have B0 := Lib.hid b0
  clear hf hm hb hg b0
  show Calls Tryz.prog 68 #[g.val] W fun e w' => e = .returned (.bool (!argOk f g.t)) ∧ Below W.heap.size W w'
  generalize argOk f g.t = b at *
  unfold Gt.val at *
  go_enter Tryz.func68, Tryz.ntmps68
  go_wp2_with fail
  refine CK.out.mono ?_
  rintro e w1 ⟨rfl, hb⟩
  have HB := Lib.hid (bnext B0.out hb)
  clear hb CK
  go_wp2
  go_ret
  exact ⟨rfl, HB.out⟩
set_option maxHeartbeats 3200000 in
theorem isCall_any (d : Nat) (f : List C → Bool) (hf : ChainOk d f) (w : World) (hm : NM w) (x : Ct) (hx : x.In w d) :
    Calls Tryz.prog 50 #[x.val] w fun e w' => e = .returned (.bool (callOk f x.t)) ∧ Below w.heap.size w w' := by
  have HX := Lib.hid hx
  have HM := Lib.hid hm
  have HF := Lib.hid hf
  have hbx := hx.a.big
  have FIN := Lib.hid (show callOk f x.t = (nameB x.n && !(x.n.toList == [95, 95]) && decide ((x.l.length : Int) ≤ 50) && !x.l.any (fun g => !argOk f g)) by
    rw [any_notT, Bool.not_not, show decide ((x.l.length : Int) ≤ 50) = decide (x.l.length ≤ 50) by rw [decide_eq_decide]; omega]; rfl)
  obtain ⟨ans, hans⟩ : ∃ b, b = callOk f x.t := ⟨_, rfl⟩
  rw [← hans] at FIN ⊢
  clear hx hm hf hans
  go_enter Tryz.func50, Tryz.ntmps50
  go_upto_region 1 with fail
  generalize hW : World.alloc w _ = W
  obtain ⟨k1, hb⟩ := box36 _ _ _ hW
  have K1 := Lib.hid k1
  have HB := Lib.hid hb
  obtain ⟨a0, a1, _⟩ := k1
  clear hW hb
  have CT := Lib.hid (name_any x.n W)
  generalize nameB x.n = b1 at *
  go_wp2_with fail
  refine CT.out.mono ?_
  rintro e w1 ⟨rfl, rfl⟩
  clear CT
  cases b1
  case false =>
    go_wp2_with fail
    go_ret
    exact ⟨by rw [FIN.out]; rfl, HB.out⟩
  cases h2 : (x.n.toList == [95, 95])
  case true =>
    rw [h2] at FIN
    go_wp2_with fail
    go_ret
    exact ⟨by rw [FIN.out]; rfl, HB.out⟩
  rw [h2] at FIN
  by_cases h3 : (x.l.length : Int) ≤ 50
  · rw [decide_eq_true h3] at FIN
    have CA := Lib.hid (containsAS 68 entArg #[] (fun _ => True) (fun g => !argOk f g) W d (closure_arg d f HF.out W (HM.out.next HB.out)) x.A x.c x.l (fun _ _ => trivial) (HX.out.next HB.out).a)
    generalize x.l.any (fun g => !argOk f g) = b3 at *
    go_wp2_with fail
    refine CA.out.mono ?_
    rintro e w2 ⟨rfl, hb⟩
    have HB2 := Lib.hid (bnext HB.out hb)
    clear hb CA
    go_wp2
    go_ret
    exact ⟨by rw [FIN.out]; rfl, HB2.out⟩
  · rw [decide_eq_false h3] at FIN
    go_wp2_with fail
    go_ret
    exact ⟨by rw [FIN.out]; first | rfl | (simp only [decide_eq_false h3]; rfl), HB.out⟩
set_option maxHeartbeats 800000 in
theorem closure_call (d : Nat) (f : List C → Bool) (hf : ChainOk d f) (w : World) (hm : NM w) : PredsC 49 #[] w d (fun _ => True) (fun x => !callOk f x) := by
  intro W x _ hb hx
  have b0 := below_new W (.cells #[.string x.n, .slice x.A x.l.length x.c] 74)
  have CK := Lib.hid (isCall_any d f hf _ ((hm.next hb).next b0) x (hx.next b0))
  have B0 := Lib.hid b0
  clear hf hm hb hx b0
  show Calls Tryz.prog 49 #[x.val] W fun e w' => e = .returned (.bool (!callOk f x.t)) ∧ Below W.heap.size W w'
  generalize callOk f x.t = b at *
  unfold Ct.val at *
  go_enter Tryz.func49, Tryz.ntmps49
  go_wp2_with fail
  refine CK.out.mono ?_
  rintro e w1 ⟨rfl, hb⟩
  have HB := Lib.hid (bnext B0.out hb)
  clear hb CK
  go_wp2
  go_ret
  exact ⟨rfl, HB.out⟩
theorem ch_zero {w : World} {lo B : Nat} {A : Option Addr} {c : Nat} {l : List C} (h : Ch w lo B 0 A c l) : l = [] := by
  cases l with
  | nil => rfl
  | cons x r =>
    obtain ⟨_, _, _, _, _, _, _, _, h⟩ := GRow.elem (k := 0) h (by simp)
    exact h.elim
set_option maxHeartbeats 800000 in
theorem isChain_none (w : World) (A : Option Addr) (c : Nat) : Calls Tryz.prog 29 #[.slice A (List.length (α := C) []) c] w fun e w' => e = .returned (.bool false) ∧ Below w.heap.size w w' := by
  go_enter Tryz.func29, Tryz.ntmps29
  go_wp2
  go_ret
  exact ⟨rfl, Below.refl _ _⟩
set_option maxHeartbeats 1600000 in
theorem isChain_any : ∀ d, ChainOk d (chOk d)
  | 0 => fun w A c l _ h => by
    obtain rfl := ch_zero h
    exact isChain_none w A c
  | d + 1 => by
    intro w A c l hm hx
    by_cases hl : l.length = 0
    · obtain rfl := List.eq_nil_of_length_eq_zero hl
      exact isChain_none w A c
    · have hl' : (0 : Int) < (l.length : Int) := by omega
      have hbig := hx.big
      have FIN := Lib.hid (show chOk (d + 1) l = !l.any (fun x => !callOk (chOk d) x) by
        rw [any_notT, Bool.not_not]
        show (decide (0 < l.length) && l.all (callOk (chOk d))) = _
        rw [decide_eq_true (by omega)]; rfl)
      obtain ⟨ans, hans⟩ : ∃ b, b = chOk (d + 1) l := ⟨_, rfl⟩
      rw [← hans] at FIN ⊢
      have CA := Lib.hid (containsCS 49 entCall #[] (fun _ => True) (fun x => !callOk (chOk d) x) w d (closure_call d _ (isChain_any d) w hm) A c l (fun _ _ => trivial) hx)
      generalize l.any (fun x => !callOk (chOk d) x) = b at *
      clear hx hm hans hl
      go_enter Tryz.func29, Tryz.ntmps29
      go_wp2_with fail
      refine CA.out.mono ?_
      rintro e w1 ⟨rfl, hb⟩
      have HB := Lib.hid hb
      clear hb CA
      go_wp2
      go_ret
      exact ⟨by rw [FIN.out]; rfl, HB.out⟩

/-- The three tests together say: it is a query. -/
theorem chk_same (d : Nat) (l : List C) : (decide (min (cntP 11 l) 201 ≤ 200) && (decide (nestV 10 l ≤ 10) && chOk (10 + d) l)) = qOk l := by
  unfold qOk
  by_cases h : nestV 10 l ≤ 10
  · rw [decide_eq_true h, nest_ch 10 d l h, Bool.true_and]
    congr 1
    rw [decide_eq_decide]
    omega
  · rw [decide_eq_false h]
    have : chOk 10 l = false := by
      cases hc : chOk 10 l
      · rfl
      · exact absurd (ch_nest 10 l hc) h
    rw [this]; simp
set_option maxHeartbeats 3200000 in
theorem tcheck_any (w : World) (hm : NM w) (d : Nat) (A : Option Addr) (c : Nat) (l : List C) (h : Ch w 0 w.heap.size d A c l) :
    Calls Tryz.prog 15 #[.slice A l.length c] w fun e w' => e = .returned (.int .i64 (errI (qOk l))) ∧ Below w.heap.size w w' := by
  have H := Lib.hid (h.up (d' := 10 + d) (by omega))
  have HM := Lib.hid hm
  have FIN := Lib.hid (chk_same d l).symm
  have CT := Lib.hid (calls_any w _ A c l h)
  have CN := Lib.hid (fun (X : World) (hX : Below w.heap.size w X) => nest_any X _ A c l (H.out.next hX))
  have CC := Lib.hid (fun (X : World) (hX : Below w.heap.size w X) => isChain_any _ X A c l (HM.out.next hX) (H.out.next hX))
  have hbig := h.big
  unfold callsV at CT
  generalize min (cntP 11 l) 201 = n1 at *
  generalize nestV 10 l = n2 at *
  generalize chOk (10 + d) l = b at *
  obtain ⟨ans, hans⟩ : ∃ b, b = qOk l := ⟨_, rfl⟩
  rw [← hans] at FIN ⊢
  clear h hm hans
  go_enter Tryz.func15, Tryz.ntmps15
  go_wp2_with fail
  refine CT.out.mono ?_
  rintro e w1 ⟨rfl, hb⟩
  have HB := Lib.hid hb
  clear hb CT
  by_cases h1 : n1 ≤ 200
  case neg =>
    have h1' : (200 : Int) < (n1 : Int) := by omega
    rw [decide_eq_false h1] at FIN
    clear h1
    go_wp2_with fail
    go_ret
    exact ⟨by rw [FIN.out]; rfl, HB.out⟩
  have h1' : ¬ (200 : Int) < (n1 : Int) := by omega
  rw [decide_eq_true h1, Bool.true_and] at FIN
  clear h1
  have CN2 := Lib.hid (CN.out w1 HB.out)
  go_wp2_with fail
  refine CN2.out.mono ?_
  rintro e w2 ⟨rfl, hb⟩
  have HB2 := Lib.hid (bnext HB.out hb)
  clear hb CN2
  by_cases h2 : n2 ≤ 10
  case neg =>
    have h2' : (10 : Int) < (n2 : Int) := by omega
    rw [decide_eq_false h2] at FIN
    clear h2
    go_wp2_with fail
    go_ret
    exact ⟨by rw [FIN.out]; rfl, HB2.out⟩
  have h2' : ¬ (10 : Int) < (n2 : Int) := by omega
  rw [decide_eq_true h2, Bool.true_and] at FIN
  clear h2
  have CC2 := Lib.hid (CC.out w2 HB2.out)
  go_wp2_with fail
  refine CC2.out.mono ?_
  rintro e w3 ⟨rfl, hb⟩
  have HB3 := Lib.hid (bnext HB2.out hb)
  clear hb CC2
  cases b
  · go_wp2
    go_ret
    exact ⟨by rw [FIN.out]; rfl, HB3.out⟩
  · go_wp2
    go_ret
    exact ⟨by rw [FIN.out]; rfl, HB3.out⟩
end Go.Proofs.YtllkimdlmnjoiaaGreatDoor



