/- Carried over from an earlier seat. -/
import Derived.Test.YtllkimdlmnjoiaaGreatDoorTB
import Derived.IntWalk
namespace Go.Proofs.YtllkimdlmnjoiaaGreatDoor
set_option maxRecDepth 100000
set_option maxRecDepth 100000
set_option maxRecDepth 100000
open Go.RowKit Go.Sort

/-- A call's box; an argument's box. -/
structure BC (w : World) (g : Nat) (x : Ct) : Prop where
  c0 : w.cell? ⟨g, 0, none⟩ = some (.string x.n)
  c1 : w.cell? ⟨g, 1, none⟩ = some (.slice x.A x.l.length x.c)
  lt : g < w.heap.size
theorem BC.new (w : World) (x : Ct) : BC (w.alloc (.cells #[.string x.n, .slice x.A x.l.length x.c] 74)) w.heap.size x := by
  constructor <;> first | (simp; done) | (rw [World.cell?_alloc_at _ _ _ _ rfl]; rfl)
structure BG (w : World) (b : Nat) (g : Gt) : Prop where
  c0 : w.cell? ⟨b, 0, none⟩ = some (.int .i64 g.k)
  c1 : w.cell? ⟨b, 1, none⟩ = some (.int .i64 g.x.t.k)
  c2 : w.cell? ⟨b, 2, none⟩ = some (.int .i64 g.x.t.n)
  c3 : w.cell? ⟨b, 3, none⟩ = some (.string g.x.t.s)
  c4 : w.cell? ⟨b, 4, none⟩ = some (.slice g.x.A g.x.t.l.length g.x.c)
  c5 : w.cell? ⟨b, 5, none⟩ = some (.slice g.x.A' g.x.t.m.length g.x.c')
  c6 : w.cell? ⟨b, 6, none⟩ = some (.int .i64 g.q.t.k)
  c7 : w.cell? ⟨b, 7, none⟩ = some (.slice g.q.A g.q.t.v.length g.q.c)
  c8 : w.cell? ⟨b, 8, none⟩ = some (.slice g.q.A' g.q.t.p.length g.q.c')
  c9 : w.cell? ⟨b, 9, none⟩ = some (.slice g.A g.l.length g.c)
  c10 : w.cell? ⟨b, 10, none⟩ = some (.string g.s)
  lt : b < w.heap.size
theorem BG.new (w : World) (g : Gt) : BG (w.alloc (.cells #[.int .i64 g.k, .int .i64 g.x.t.k, .int .i64 g.x.t.n, .string g.x.t.s, .slice g.x.A g.x.t.l.length g.x.c, .slice g.x.A' g.x.t.m.length g.x.c', .int .i64 g.q.t.k, .slice g.q.A g.q.t.v.length g.q.c, .slice g.q.A' g.q.t.p.length g.q.c', .slice g.A g.l.length g.c, .string g.s] 82)) w.heap.size g := by
  constructor <;> first | (simp; done) | (rw [World.cell?_alloc_at _ _ _ _ rfl]; rfl)
theorem BG.next {w w' : World} {b : Nat} {g : Gt} (h : BG w b g) (hb : Below w.heap.size w w') : BG w' b g :=
  ⟨(hb.cell h.lt).trans h.c0, (hb.cell h.lt).trans h.c1, (hb.cell h.lt).trans h.c2, (hb.cell h.lt).trans h.c3, (hb.cell h.lt).trans h.c4, (hb.cell h.lt).trans h.c5, (hb.cell h.lt).trans h.c6, (hb.cell h.lt).trans h.c7, (hb.cell h.lt).trans h.c8, (hb.cell h.lt).trans h.c9, (hb.cell h.lt).trans h.c10, Nat.lt_of_lt_of_le h.lt hb.size⟩

def DeepOk (r : Nat) : Prop :=
  ∀ (w : World) (d : Nat) (A : Option Addr) (c : Nat) (l : List C) (lev : Int), lev = 11 - r → r ≤ 10 → Ch w 0 w.heap.size d A c l →
    Calls Tryz.prog 48 #[.slice A l.length c, .int .i64 lev] w fun e w' => e = .returned (.int .i64 (10 - r + nestV r l)) ∧ Below w.heap.size w w'
theorem stepN_none (r : Nat) (g : Ag) (h : g.c.length = 0) : stepN r g = 0 := by
  cases r with
  | zero => rfl
  | succ r => rw [List.length_eq_zero_iff] at h; simp [stepN, nestA, h]
theorem stepN_some (r : Nat) (g : Ag) (h : 0 < g.c.length) : stepN (r + 1) g = nestV r g.c := by
  show nestA (nestV r) g = nestV r g.c
  unfold nestA
  rw [if_neg (by cases hc : g.c <;> simp_all)]

set_option maxHeartbeats 3200000 in
theorem deep_step (r : Nat) (ih : ∀ s, r = s + 1 → DeepOk s) : DeepOk r := by
  intro w d A c l lev hlev hr hx
  have H := Lib.hid hx
  have hbig := hx.big
  have IH := Lib.hid ih
  have HLEV := Lib.hid (And.intro hlev hr)
  have hl0 : 1 ≤ lev := by omega
  have hl1 : lev ≤ 11 := by omega
  have LE := Lib.hid (nestV_le r l)
  have EQ := Lib.hid (nestV_eq r l)
  have TK := Lib.hid (fun k => topL_take (fun x : C => topL (stepN r) x.a) l k)
  have NX := Lib.hid (fun (k : Nat) (x : C) (h : l[k]? = some x) => topL_next (fun x : C => topL (stepN r) x.a) l k h)
  have TM := Lib.hid (fun (x : C) (h : x ∈ l) => topL_mem (fun x : C => topL (stepN r) x.a) l x h)
  obtain ⟨F, hF⟩ : ∃ F : C → Nat, F = fun x : C => topL (stepN r) x.a := ⟨_, rfl⟩
  rw [← hF] at EQ TK NX TM
  have FX := Lib.hid (fun x : C => congrFun hF x)
  obtain ⟨ans, hans⟩ : ∃ z : Int, z = 10 - r + nestV r l := ⟨_, rfl⟩
  rw [← hans]
  have ANS := Lib.hid hans
  clear hx ih hlev hr hF hans
  go_enter Tryz.func48, Tryz.ntmps48
  go_wp2
  go_loopw [5, 13] (fun u i wr => ∃ (k m : Nat), k ≤ l.length ∧ i = .int .i64 k ∧ u = .int .i64 (lev + m) ∧ m ≤ 10 ∧ Hid (m = topL F (l.take k)) ∧ Hid (Below w.heap.size w wr)) (fun _ i _ => l.length - (intOf i).toNat)
  case atStart => exact ⟨0, 0, by omega, rfl, by simp, by omega, Lib.hid rfl, Lib.hid (Below.refl _ _)⟩
  case round =>
    obtain ⟨k, m, hk, rfl, rfl, hm10, hm, hbel⟩ := hrel
    by_cases hlt : k < l.length
    · obtain ⟨b, off, x, e, rfl, rfl, hb, hx, q, hn, ra⟩ := (H.out.next hbel.out).elem hlt
      obtain ⟨q0, q1⟩ := q
      have RA := Lib.hid ra
      have HX := Lib.hid hx
      have hbx := ra.big
      clear ra hx hn
      go_upto_region 5 with fail
      have k1 := BC.new wr x
      generalize hW : World.alloc wr _ = W
      have K1 : Hid (BC W wr.heap.size x) := Lib.hid (by rw [← hW]; exact k1)
      have HB : Hid (Below wr.heap.size wr W) := Lib.hid (by rw [← hW]; exact below_new _ _)
      obtain ⟨a0, a1, _⟩ := K1.out
      clear hW k1 q0 q1
      go_wp2
      clear a0 a1
      obtain ⟨wo, hwo⟩ : ∃ q, q = wr := ⟨_, rfl⟩
      subst hwo
      go_loopw [5, 20] (fun u i wx => ∃ (j m2 : Nat), j ≤ x.l.length ∧ i = .int .i64 j ∧ u = .int .i64 (lev + m2) ∧ m2 ≤ 10 ∧ Hid (m2 = max m (topL (stepN r) (x.l.take j))) ∧ Hid (Below W.heap.size W wx)) (fun _ i _ => x.l.length - (intOf i).toNat)
      case atStart => exact ⟨0, m, by omega, rfl, rfl, hm10, Lib.hid (by simp [topL]), Lib.hid (Below.refl _ _)⟩
      case round =>
        obtain ⟨j, m2, hj, rfl, rfl, hm210, hm2, hbel2⟩ := hrel
        by_cases hlt2 : j < x.l.length
        · obtain ⟨b2, off2, g, eA, hb2, hg, q, rg⟩ := (RA.out.next (bnext HB.out hbel2.out)).elem hlt2
          rw [eA]
          obtain ⟨q0, q1, q2, q3, q4, q5, q6, q7, q8, q9, q10⟩ := q
          have RG := Lib.hid rg
          have HG := Lib.hid hg
          have hbg := rg.c.big
          clear rg hg eA
          go_upto_region 8 with fail
          have k1 := BG.new wr g
          generalize hW2 : World.alloc wr _ = W2
          have K2 : Hid (BG W2 wr.heap.size g) := Lib.hid (by rw [← hW2]; exact k1)
          have HB2 : Hid (Below wr.heap.size wr W2) := Lib.hid (by rw [← hW2]; exact below_new _ _)
          obtain ⟨_, _, _, _, _, _, _, _, _, a9, _, _⟩ := K2.out
          clear hW2 k1 q0 q1 q2 q3 q4 q5 q6 q7 q8 q9 q10
          have NB := Lib.hid (bnext hbel.out (bnext HB.out (bnext hbel2.out HB2.out)))
          have LEx := Lib.hid (show lev - 1 + 1 + (m2 : Int) ≤ ans by
            have h1 := TM.out _ (List.mem_of_getElem? HX.out)
            have h2 := TK.out k
            have h3 := FX.out x.t
            have h4 := topL_take (stepN r) x.l j
            have h5 := hm2.out
            have h6 := hm.out
            have h7 := EQ.out
            have h8 := ANS.out
            have h9 := HLEV.out.1
            have h10 : topL (stepN r) x.t.a = topL (stepN r) x.l := rfl
            omega)
          by_cases hgt : (10 : Int) < lev + m2
          · have FIN := Lib.hid (show lev + (m2 : Int) = ans by
              have := LEx.out
              have := LE.out
              have := ANS.out
              have := HLEV.out
              omega)
            go_wp2
            go_ret
            exact ⟨by rw [FIN.out]; rfl, NB.out⟩
          · obtain ⟨s, rfl⟩ : ∃ s, r = s + 1 := ⟨r - 1, by have := HLEV.out.1; omega⟩
            have i1 : IntKind.i64.wrap (lev + 1) = lev + 1 := IntWalk.i64_in _ (by omega)
            by_cases hz : g.l.length = 0
            · have hz' : ¬ (0 : Int) < (g.l.length : Int) := by omega
              have ST := Lib.hid (stepN_none (s + 1) g.t hz)
              have NXT := Lib.hid (topL_next (stepN (s + 1)) x.l j HG.out)
              clear hz
              go_wp2
              go_roundw
              case rel => exact ⟨j + 1, m2, by omega, by go_num, rfl, hm210, Lib.hid (by rw [NXT.out, ST.out, Nat.max_eq_left (Nat.zero_le _)]; exact hm2.out), Lib.hid (bnext hbel2.out HB2.out)⟩
              case measure => simp [intOf]; omega
            · have hz' : (0 : Int) < (g.l.length : Int) := by omega
              have ST := Lib.hid (stepN_some s g.t (show 0 < g.t.c.length from Nat.pos_of_ne_zero hz))
              have NXT := Lib.hid (topL_next (stepN (s + 1)) x.l j HG.out)
              have LE2 := Lib.hid (nestV_le s g.l)
              clear hz
              go_wp2_with fail
              refine (IH.out s rfl _ e g.A g.c g.l (lev + 1) (by have := HLEV.out.1; omega) (by have := HLEV.out.2; omega) (RG.out.next HB2.out).c).mono ?_
              rintro e1 w3 ⟨rfl, hb3⟩
              have HB3 := Lib.hid (bnext hbel2.out (bnext HB2.out hb3))
              clear hb3 i1
              obtain ⟨m3, hm3⟩ : ∃ m3 : Nat, m3 = max m2 (nestV s g.l) := ⟨_, rfl⟩
              have e3 : max (lev + (m2 : Int)) (10 - (s : Int) + (nestV s g.l : Int)) = lev + (m3 : Int) := by
                have := HLEV.out.1
                omega
              have HM3 := Lib.hid hm3
              clear hm3 a9
              go_wp2
              go_roundw
              case rel => exact ⟨j + 1, m3, by omega, by go_num, rfl, (by have := HM3.out; have := LE2.out; have := HLEV.out.2; omega), Lib.hid (by rw [NXT.out, ST.out, HM3.out, hm2.out, Nat.max_assoc]; rfl), HB3⟩
              case measure => simp [intOf]; omega
        · have NX1 := Lib.hid (NX.out k _ HX.out)
          have ALL := Lib.hid (show x.l.take j = x.l from List.take_of_length_le (by omega))
          go_wp2
          go_roundw
          case rel => exact ⟨k + 1, m2, by omega, by go_num, rfl, hm210, Lib.hid (by rw [NX1.out, hm2.out, ALL.out, hm.out]; rfl), Lib.hid (bnext hbel.out (bnext HB.out hbel2.out))⟩
          case measure => simp [intOf]; omega
    · have FIN := Lib.hid (show lev + (m : Int) = ans by
        have h1 := hm.out
        rw [List.take_of_length_le (by omega)] at h1
        have := EQ.out
        have := ANS.out
        have := HLEV.out.1
        omega)
      go_wp2
      go_ret
      exact ⟨by rw [FIN.out]; rfl, hbel.out⟩
theorem deep_any : ∀ r, DeepOk r
  | 0 => deep_step 0 (fun _ h => by omega)
  | r + 1 => deep_step (r + 1) (fun _ h => by cases h; exact deep_any r)
set_option maxHeartbeats 800000 in
theorem nest_any (w : World) (d : Nat) (A : Option Addr) (c : Nat) (l : List C) (h : Ch w 0 w.heap.size d A c l) :
    Calls Tryz.prog 28 #[.slice A l.length c] w fun e w' => e = .returned (.int .i64 (nestV 10 l)) ∧ Below w.heap.size w w' := by
  have CK := Lib.hid (deep_any 10 w d A c l 1 (by omega) (by omega) h)
  clear h
  have e0 : (10 : Int) - ((10 : Nat) : Int) + (nestV 10 l : Int) = (nestV 10 l : Int) := by omega
  rw [e0] at CK
  clear e0
  generalize (nestV 10 l : Int) = z at *
  go_enter Tryz.func28, Tryz.ntmps28
  go_wp2_with fail
  refine CK.out.mono ?_
  rintro e w1 ⟨rfl, hb⟩
  have HB := Lib.hid hb
  clear hb
  go_wp2
  go_ret
  exact ⟨rfl, HB.out⟩

def CountedOk (r : Nat) : Prop :=
  ∀ (w : World) (d : Nat) (A : Option Addr) (c : Nat) (l : List C) (n : Nat) (lev : Int), lev = 12 - r → r ≤ 11 → n ≤ 201 → Ch w 0 w.heap.size d A c l →
    Calls Tryz.prog 47 #[.int .i64 n, .slice A l.length c, .int .i64 lev] w fun e w' => e = .returned (.int .i64 (min (n + cntP r l) 201 : Nat)) ∧ Below w.heap.size w w'
set_option maxHeartbeats 800000 in
theorem counted_zero : CountedOk 0 := by
  intro w d A c l n lev hlev _ hn _
  have hl : (11 : Int) < lev := by omega
  have e0 : min (n + cntP 0 l) 201 = n := by simp only [cntP]; omega
  rw [e0]
  clear hlev e0
  go_enter Tryz.func47, Tryz.ntmps47
  go_wp2
  go_ret
  exact ⟨rfl, Below.refl _ _⟩
set_option maxHeartbeats 3200000 in
theorem counted_succ (r : Nat) (ih : CountedOk r) : CountedOk (r + 1) := by
  intro w d A c l n lev hlev hr hn hx
  have H := Lib.hid hx
  have hbig := hx.big
  have IH := Lib.hid ih
  have HLEV := Lib.hid (And.intro hlev hr)
  have hl0 : 1 ≤ lev := by omega
  have hl1 : ¬ (11 : Int) < lev := by omega
  have hl2 : lev ≤ 11 := by omega
  have EQ := Lib.hid (show cntP (r + 1) l = sumL (fun x : C => 1 + sumL (fun g => cntP r g.c) x.a) l from rfl)
  have TK := Lib.hid (fun k => sumL_take (fun x : C => 1 + sumL (fun g => cntP r g.c) x.a) l k)
  have NX := Lib.hid (fun (k : Nat) (x : C) (h : l[k]? = some x) => sumL_next (fun x : C => 1 + sumL (fun g => cntP r g.c) x.a) l k h)
  obtain ⟨F, hF⟩ : ∃ F : C → Nat, F = fun x : C => 1 + sumL (fun g => cntP r g.c) x.a := ⟨_, rfl⟩
  rw [← hF] at EQ TK NX
  have FX := Lib.hid (fun x : C => congrFun hF x)
  obtain ⟨ans, hans⟩ : ∃ z : Nat, z = min (n + cntP (r + 1) l) 201 := ⟨_, rfl⟩
  rw [← hans]
  have ANS := Lib.hid hans
  clear hx ih hlev hr hF hans
  have HN := Lib.hid hn
  go_enter Tryz.func47, Tryz.ntmps47
  go_wp2
  go_loopw [0, 16] (fun u i wr => ∃ (k m : Nat), k ≤ l.length ∧ i = .int .i64 k ∧ u = .int .i64 m ∧ m ≤ 201 ∧ Hid (m = min (n + sumL F (l.take k)) 201) ∧ Hid (Below w.heap.size w wr)) (fun _ i _ => l.length - (intOf i).toNat)
  case atStart => exact ⟨0, n, by omega, rfl, rfl, hn, Lib.hid (by simp [sumL]; omega), Lib.hid (Below.refl _ _)⟩
  case round =>
    clear hn
    obtain ⟨k, m, hk, rfl, rfl, hm201, hm, hbel⟩ := hrel
    by_cases hlt : k < l.length
    · obtain ⟨b, off, x, e, rfl, rfl, hb, hx, q, hn, ra⟩ := (H.out.next hbel.out).elem hlt
      obtain ⟨q0, q1⟩ := q
      have RA := Lib.hid ra
      have HX := Lib.hid hx
      have hbx := ra.big
      clear ra hx hn
      by_cases hgt : m = 201
      · have FIN := Lib.hid (show m = ans by
          have h1 := hm.out
          have h2 := TK.out k
          have h3 := ANS.out
          have h4 := EQ.out
          omega)
        have hgt' : (200 : Int) < (m : Int) := by omega
        clear hgt
        go_upto_region 6 with fail
        generalize hW : World.alloc wr _ = W
        have HB : Hid (Below wr.heap.size wr W) := Lib.hid (by rw [← hW]; exact below_new _ _)
        clear hW q0 q1
        go_wp2
        go_ret
        exact ⟨by rw [← FIN.out]; rfl, bnext hbel.out HB.out⟩
      have hle : ¬ (200 : Int) < (m : Int) := by omega
      have hm200 : m ≤ 200 := by omega
      clear hgt
      have i1 : IntKind.i64.wrap ((m : Int) + 1) = (m : Int) + 1 := IntWalk.i64_in _ (by omega)
      go_upto_region 6 with fail
      have k1 := BC.new wr x
      generalize hW : World.alloc wr _ = W
      have K1 : Hid (BC W wr.heap.size x) := Lib.hid (by rw [← hW]; exact k1)
      have HB : Hid (Below wr.heap.size wr W) := Lib.hid (by rw [← hW]; exact below_new _ _)
      obtain ⟨a0, a1, _⟩ := K1.out
      clear hW k1 q0 q1
      go_wp2
      clear a0 a1 i1
      obtain ⟨wo, hwo⟩ : ∃ q, q = wr := ⟨_, rfl⟩
      subst hwo
      go_loopw [0, 28] (fun u i wx => ∃ (j m2 : Nat), j ≤ x.l.length ∧ i = .int .i64 j ∧ u = .int .i64 m2 ∧ m2 ≤ 201 ∧ Hid (m2 = min (m + 1 + sumL (fun g : Ag => cntP r g.c) (x.l.take j)) 201) ∧ Hid (Below W.heap.size W wx)) (fun _ i _ => x.l.length - (intOf i).toNat)
      case atStart => exact ⟨0, m + 1, by omega, rfl, by go_num, by omega, Lib.hid (by simp [sumL]; omega), Lib.hid (Below.refl _ _)⟩
      case round =>
        obtain ⟨j, m2, hj, rfl, rfl, hm2201, hm2, hbel2⟩ := hrel
        by_cases hlt2 : j < x.l.length
        · obtain ⟨b2, off2, g, eA, hb2, hg, q, rg⟩ := (RA.out.next (bnext HB.out hbel2.out)).elem hlt2
          rw [eA]
          obtain ⟨q0, q1, q2, q3, q4, q5, q6, q7, q8, q9, q10⟩ := q
          have RG := Lib.hid rg
          have NXT := Lib.hid (sumL_next (fun g : Ag => cntP r g.c) x.l j hg)
          clear rg hg eA
          go_upto_region 12 with fail
          have k1 := BG.new wr g
          generalize hW2 : World.alloc wr _ = W2
          have K2 : Hid (BG W2 wr.heap.size g) := Lib.hid (by rw [← hW2]; exact k1)
          have HB2 : Hid (Below wr.heap.size wr W2) := Lib.hid (by rw [← hW2]; exact below_new _ _)
          obtain ⟨_, _, _, _, _, _, _, _, _, a9, _, _⟩ := K2.out
          clear hW2 k1 q0 q1 q2 q3 q4 q5 q6 q7 q8 q9 q10
          have i1 : IntKind.i64.wrap (lev + 1) = lev + 1 := IntWalk.i64_in _ (by omega)
          go_wp2_with fail
          refine (IH.out _ e g.A g.c g.l m2 (lev + 1) (by have := HLEV.out.1; omega) (by have := HLEV.out.2; omega) hm2201 (RG.out.next HB2.out).c).mono ?_
          rintro e1 w3 ⟨rfl, hb3⟩
          have HB3 := Lib.hid (bnext hbel2.out (bnext HB2.out hb3))
          clear hb3 i1 a9
          obtain ⟨m3, hm3⟩ : ∃ m3 : Nat, m3 = min (m2 + cntP r g.l) 201 := ⟨_, rfl⟩
          rw [← hm3]
          have HM3 := Lib.hid hm3
          clear hm3
          go_wp2
          go_roundw
          case rel => exact ⟨j + 1, m3, by omega, by go_num, rfl, (by have := HM3.out; omega), Lib.hid (by rw [NXT.out, HM3.out, hm2.out]; show _ = min (m + 1 + (_ + cntP r g.l)) 201; omega), HB3⟩
          case measure => simp [intOf]; omega
        · have NX1 := Lib.hid (NX.out k _ HX.out)
          have ALL := Lib.hid (show x.l.take j = x.l from List.take_of_length_le (by omega))
          go_wp2
          go_roundw
          case rel => exact ⟨k + 1, m2, by omega, by go_num, rfl, hm2201, Lib.hid (by
            have h1 := hm2.out
            rw [ALL.out] at h1
            have h2 := FX.out x.t
            have h3 : sumL (fun g : Ag => cntP r g.c) x.t.a = sumL (fun g : Ag => cntP r g.c) x.l := rfl
            rw [NX1.out]
            have h4 := hm.out
            omega), Lib.hid (bnext hbel.out (bnext HB.out hbel2.out))⟩
          case measure => simp [intOf]; omega
    · have FIN := Lib.hid (show m = ans by
        have h1 := hm.out
        rw [List.take_of_length_le (by omega)] at h1
        have := EQ.out
        have := ANS.out
        omega)
      go_wp2
      go_ret
      exact ⟨by rw [← FIN.out]; rfl, hbel.out⟩
theorem counted_any : ∀ r, CountedOk r
  | 0 => counted_zero
  | r + 1 => counted_succ r (counted_any r)
/-- How many calls, as the program counts them. -/
def callsV (l : List C) : Nat := min (cntP 11 l) 201
set_option maxHeartbeats 800000 in
theorem calls_any (w : World) (d : Nat) (A : Option Addr) (c : Nat) (l : List C) (h : Ch w 0 w.heap.size d A c l) :
    Calls Tryz.prog 27 #[.slice A l.length c] w fun e w' => e = .returned (.int .i64 (callsV l)) ∧ Below w.heap.size w w' := by
  have CK := Lib.hid (counted_any 11 w d A c l 0 1 (by omega) (by omega) (by omega) h)
  clear h
  rw [Nat.zero_add] at CK
  show Calls Tryz.prog 27 #[.slice A l.length c] w fun e w' => e = .returned (.int .i64 (min (cntP 11 l) 201 : Nat)) ∧ Below w.heap.size w w'
  generalize min (cntP 11 l) 201 = z at *
  go_enter Tryz.func27, Tryz.ntmps27
  go_wp2_with fail
  refine CK.out.mono ?_
  rintro e w1 ⟨rfl, hb⟩
  have HB := Lib.hid hb
  clear hb
  go_wp2
  go_ret
  exact ⟨rfl, HB.out⟩
end Go.Proofs.YtllkimdlmnjoiaaGreatDoor



