/- The document's nest, Nest. -/
import Derived.Test.YtiiopbcihieblaaGreatDoorWF
import Derived.Test.YtiiopbcihieblaaGreatDoorTX
import Derived.Test.YtiiopbcihieblaaGreatDoorKK
import Derived.Laws.Strings2
import Derived.Test.YtiiopbcihieblaaGreatDoorTC
namespace Go.Proofs.YtiiopbcihieblaaGreatDoor
set_option maxRecDepth 100000
open Go.RowKit Go.Sort

def RNest (r : Nat) : Prop := ∀ (w : World) (d : Nat) (A : Option Addr) (c : Nat) (l : List C), r ≤ 10 → Ch w 0 w.heap.size d A c l →
  Calls Tryz.prog 27 #[.slice A l.length c, .int .i64 (r : Int)] w fun e w' => e = .returned (.int .i64 (nestV r l : Nat)) ∧ Below w.heap.size w w'
set_option maxHeartbeats 6400000 in
theorem rnest_step (r : Nat) (ih : ∀ s, r = s + 1 → RNest s) : RNest r := by
  intro w d A c l hr hx
  have H := Lib.hid hx
  have hbig := hx.big
  have IH := Lib.hid ih
  have NX := Lib.hid (fun (k : Nat) (x : C) (h : l[k]? = some x) => topL_next (fun x : C => topL (stepN r) x.a) l k h)
  have LE := Lib.hid (fun k => Nat.le_trans (topL_take (fun x : C => topL (stepN r) x.a) l k) (show topL (fun x : C => topL (stepN r) x.a) l ≤ r by have h1 := nestV_le r l; rw [nestV_eq] at h1; omega))
  have EQ := Lib.hid (nestV_eq r l)
  obtain ⟨F, hF⟩ : ∃ F : C → Nat, F = fun x : C => topL (stepN r) x.a := ⟨_, rfl⟩
  rw [← hF] at EQ NX LE
  have FX := Lib.hid (fun x : C => congrFun hF x)
  obtain ⟨ans, hans⟩ : ∃ z : Nat, z = nestV r l := ⟨_, rfl⟩
  rw [← hans] at EQ ⊢
  have hr0 : (0 : Int) ≤ (r : Int) := by omega
  have hr10 : (r : Int) ≤ 10 := by omega
  clear hx ih hF hans
  go_enter Tryz.func27, Tryz.ntmps27
  go_wp2
  go_loopw [5, 6] (fun u i wr => ∃ (k m : Nat), k ≤ l.length ∧ i = .int .i64 k ∧ u = .int .i64 m ∧ m ≤ 10 ∧ Hid (m = topL F (l.take k)) ∧ Hid (Below w.heap.size w wr)) (fun _ i _ => l.length - (intOf i).toNat)
  case atStart => exact ⟨0, 0, by omega, rfl, rfl, by omega, Lib.hid (by simp [topL]), Lib.hid (Below.refl _ _)⟩
  case round =>
    obtain ⟨k, m, hk, rfl, rfl, hmm, hm, hbel⟩ := hrel
    have hm9 : (m : Int) ≤ 10 := by omega
    have i9 : IntKind.i64.wrap (1 + (m : Int)) = ((1 + m : Nat) : Int) := by rw [IntWalk.i64_in _ (by omega)]; omega
    by_cases hlt : k < l.length
    case neg =>
      have FIN := Lib.hid (show 1 + m = ans by
        have h1 := hm.out
        rw [List.take_of_length_le (by omega)] at h1
        rw [EQ.out, h1])
      have hk9 : ¬ (k : Int) < (l.length : Int) := by omega
      clear hlt
      go_wp2
      go_ret
      exact ⟨by rw [← FIN.out]; rfl, hbel.out⟩
    by_cases hrz : r = 0
    case pos =>
      have FIN := Lib.hid (show 1 + m = ans by
        have h1 := hm.out
        have h2 := LE.out k
        have h3 := LE.out l.length
        rw [List.take_length] at h3
        rw [EQ.out]
        omega)
      have hk9 : (k : Int) < (l.length : Int) := by omega
      have hr9 : ¬ (0 : Int) < (r : Int) := by omega
      clear hlt hrz
      go_wp2
      go_ret
      exact ⟨by rw [← FIN.out]; rfl, hbel.out⟩
    obtain ⟨s, hs⟩ : ∃ s, r = s + 1 := ⟨r - 1, by omega⟩
    obtain ⟨b, off, x, e, rfl, rfl, hb, hx, q, hn, ra⟩ := (H.out.next hbel.out).elem hlt
    have Q1 := Lib.hid q.c1
    have HBB := Lib.hid hb
    have RA := Lib.hid ra
    have HX := Lib.hid hx
    have HS := Lib.hid hs
    have hbx := ra.big
    have hk9 : (k : Int) < (l.length : Int) := by omega
    have hk7 : (0 : Int) ≤ (k : Int) := by omega
    have hr9 : (0 : Int) < (r : Int) := by omega
    have hr8 : 0 < r := by omega
    have FLE := Lib.hid (show topL (stepN r) x.l ≤ 10 by
      have h1 := LE.out (k + 1)
      have h2 := NX.out k _ HX.out
      have h3 : topL (stepN r) x.t.a = topL (stepN r) x.l := rfl
      omega)
    clear ra hx hb hn q hlt hrz hs i9
    go_wp2
    obtain ⟨wo, hwo⟩ : ∃ q, q = wr := ⟨_, rfl⟩
    subst hwo
    go_loopw [5, 7] (fun u i wr => ∃ (j m2 : Nat), j ≤ x.l.length ∧ i = .int .i64 j ∧ u = .int .i64 m2 ∧ m2 ≤ 10 ∧ Hid (m2 = max m (topL (stepN r) (x.l.take j))) ∧ Hid (Below wo.heap.size wo wr)) (fun _ i _ => x.l.length - (intOf i).toNat)
    case atStart => exact ⟨0, m, by omega, rfl, rfl, hmm, Lib.hid (by simp [topL]), Lib.hid (Below.refl _ _)⟩
    case round =>
      obtain ⟨j, m2, hj, rfl, rfl, hmm2, hm2', hbel2⟩ := hrel
      have s1 := cell_below hbel2.out Q1.out HBB.out
      by_cases hlt2 : j < x.l.length
      case neg =>
        have NX2 := Lib.hid (show m2 = topL F (l.take (k + 1)) by
          have h := hm2'.out
          rw [List.take_of_length_le (by omega)] at h
          have h2 := NX.out k _ HX.out
          have h3 : topL (stepN r) x.t.a = topL (stepN r) x.l := rfl
          rw [h2, h3, ← hm.out, h])
        have hj9 : ¬ (j : Int) < (x.l.length : Int) := by omega
        clear hlt2
        go_wp2
        go_roundw
        case rel => exact ⟨k + 1, m2, by omega, by go_num, rfl, hmm2, NX2, Lib.hid (bnext hbel.out hbel2.out)⟩
        case measure => simp [intOf]; omega
      have hj9 : (j : Int) < (x.l.length : Int) := by omega
      have hj7 : (0 : Int) ≤ (j : Int) := by omega
      obtain ⟨b2, off2, g, eA, hb2, hg, q, rg⟩ := (RA.out.next hbel2.out).elem hlt2
      rw [eA] at s1
      have Q9 := q.c9
      have NXT := Lib.hid (topL_next (stepN r) x.l j hg)
      have TOP := Lib.hid (show topL (stepN r) (x.l.take (j + 1)) ≤ 10 from Nat.le_trans (topL_take _ _ _) FLE.out)
      have hbg := rg.c.big
      by_cases hg0 : g.l.length = 0
      case pos =>
        have NZ := Lib.hid (show m2 = max m (topL (stepN r) (x.l.take (j + 1))) by
          have h := hm2'.out
          have h2 := NXT.out
          have h3 : stepN r g.t = 0 := by rw [HS.out]; show nestA (nestV s) g.t = 0; unfold nestA; rw [if_pos (by show g.l.isEmpty = true; rw [List.isEmpty_iff_length_eq_zero]; exact hg0)]
          rw [h2, h3]; omega)
        have hg9 : ¬ (0 : Int) < (g.l.length : Int) := by omega
        clear rg hg eA hb2 q hlt2 NXT hg0
        go_wp2
        go_roundw
        case rel => exact ⟨j + 1, m2, by omega, by go_num, rfl, hmm2, NZ, hbel2⟩
        case measure => simp [intOf]; omega
      have hg9 : (0 : Int) < (g.l.length : Int) := by omega
      have CT := IH.out s HS.out wr _ g.A g.c g.l (by have := HS.out; omega) rg.c
      obtain ⟨z, hz⟩ : ∃ z, nestV s g.l = z := ⟨_, rfl⟩
      rw [hz] at CT
      have i1 : IntKind.i64.wrap ((r : Int) - 1) = (s : Int) := by rw [IntWalk.i64_in _ (by omega)]; have := HS.out; omega
      have NZ := Lib.hid (show max m2 z = max m (topL (stepN r) (x.l.take (j + 1))) ∧ max m2 z ≤ 10 by
        have h := hm2'.out
        have h2 := NXT.out
        have h3 : stepN r g.t = z := by rw [HS.out]; show nestA (nestV s) g.t = z; unfold nestA; rw [if_neg (by show ¬ g.l.isEmpty = true; rw [List.isEmpty_iff_length_eq_zero]; exact hg0)]; exact hz
        have h4 := TOP.out
        constructor
        · rw [h2, h3]; omega
        · omega)
      have hz10 : (z : Int) ≤ 10 := by have := NZ.out.2; omega
      have hmz : (m2 : Int) ≤ 10 := by omega
      replace CT := Lib.hid CT
      clear rg hg eA hz hb2 q hlt2 NXT hg0
      go_wp2_with fail
      refine CT.out.mono ?_
      rintro e2 w2 ⟨rfl, hb⟩
      have HB2 := Lib.hid (bnext hbel2.out hb)
      obtain ⟨t, ht⟩ : ∃ t : Nat, t = max m2 z := ⟨_, rfl⟩
      have NT := NZ.out
      rw [← ht] at NT
      obtain ⟨nt1, nt2⟩ := NT
      have NT1 := Lib.hid nt1
      have hmx : max (m2 : Int) (z : Int) = (t : Int) := by omega
      have ht10 : (t : Int) ≤ 10 := by omega
      clear nt1 ht NZ
      clear hb CT s1 Q9 i1
      go_wp2
      go_roundw
      case rel => exact ⟨j + 1, t, by omega, by go_num, rfl, nt2, NT1, HB2⟩
      case measure => simp [intOf]; omega
theorem rnest_any : ∀ r, RNest r
  | 0 => rnest_step 0 (fun _ h => by omega)
  | r + 1 => rnest_step (r + 1) (fun s h => by cases h; exact rnest_any r)
set_option maxHeartbeats 1600000 in
theorem rNest_any (w : World) (d : Nat) (A : Option Addr) (c : Nat) (l : List C) (h : Ch w 0 w.heap.size d A c l) :
    Calls Tryz.prog 14 #[.slice A l.length c] w fun e w' => e = .returned (.int .i64 (nestV 10 l : Nat)) ∧ Below w.heap.size w w' := by
  have CT := rnest_any 10 w d A c l (by omega) h
  have hz : nestV 10 l ≤ 11 := nestV_le 10 l
  generalize nestV 10 l = z at CT hz ⊢
  rw [show ((10 : Nat) : Int) = 10 from rfl] at CT
  replace CT := Lib.hid CT
  clear h
  go_enter Tryz.func14, Tryz.ntmps14
  go_wp2_with fail
  refine CT.out.mono ?_
  rintro e w2 ⟨rfl, hb⟩
  have HB := Lib.hid hb
  clear hb CT
  go_wp2
  go_ret
  exact ⟨rfl, HB.out⟩
end Go.Proofs.YtiiopbcihieblaaGreatDoor
/- The document's comma. -/
namespace Go.Proofs.YtiiopbcihieblaaGreatDoor
set_option maxRecDepth 100000
open Go.RowKit Go.Sort

/-- One more behind others. -/
def jnT (s m : Bs) : Bs := if s = [] then m else s ++ ([44, 32] ++ m)
set_option maxHeartbeats 1600000 in
theorem comma_any (w : World) (s m : Bs) (hl : (jnT s m).length ≤ MX) :
    Calls Tryz.prog 38 #[.string ⟨s.toArray⟩, .string ⟨m.toArray⟩] w fun e w' => e = .returned (.string ⟨(jnT s m).toArray⟩) ∧ w' = w := by
  cases s with
  | nil =>
    obtain ⟨M, hM⟩ : ∃ q : ByteArray, q = ⟨m.toArray⟩ := ⟨_, rfl⟩
    obtain ⟨S, hS⟩ : ∃ q : ByteArray, q = ⟨([] : Bs).toArray⟩ := ⟨_, rfl⟩
    have e : (⟨(jnT [] m).toArray⟩ : ByteArray) = M := by rw [hM]; rfl
    have hemp : S.toList.isEmpty = true := by rw [hS, lit_list]; rfl
    rw [e, ← hM, ← hS]
    clear e hM hS hl
    go_enter Tryz.func38, Tryz.ntmps38
    go_wp2
    go_ret
    exact ⟨rfl, rfl⟩
  | cons c r =>
    obtain ⟨S, hS⟩ : ∃ q : ByteArray, q = ⟨(c :: r).toArray⟩ := ⟨_, rfl⟩
    obtain ⟨M, hM⟩ : ∃ q : ByteArray, q = ⟨m.toArray⟩ := ⟨_, rfl⟩
    obtain ⟨R, hR⟩ : ∃ q : ByteArray, q = ⟨(jnT (c :: r) m).toArray⟩ := ⟨_, rfl⟩
    have hemp : S.toList.isEmpty = false := by rw [hS, lit_list]; rfl
    have hsz : S.size + 2 + M.size ≤ MX := by
      have h1 : S.size = (c :: r).length := by rw [hS]; simp [ByteArray.size]
      have h2 : M.size = m.length := by rw [hM]; simp [ByteArray.size]
      have h3 : (jnT (c :: r) m).length = (c :: r).length + (2 + m.length) := by simp [jnT]; omega
      omega
    have hz1 : ¬ 9223372036854775807 < S.size + 2 := by unfold MX at hsz; omega
    have hz2 : ¬ 9223372036854775807 < S.size + 2 + M.size := by unfold MX at hsz; omega
    have hadd : S ++ (⟨#[44, 32]⟩ : ByteArray) ++ M = R := by
      rw [hS, hM, hR]
      apply ByteArray.ext
      simp [jnT]
    rw [← hS, ← hM, ← hR]
    clear hS hM hR hl hsz
    go_enter Tryz.func38, Tryz.ntmps38
    go_wp2
    go_ret
    exact ⟨rfl, rfl⟩
end Go.Proofs.YtiiopbcihieblaaGreatDoor
/- The document's text of a value. -/
namespace Go.Proofs.YtiiopbcihieblaaGreatDoor
set_option maxRecDepth 100000
open Go.RowKit Go.Sort

theorem lit_add (a b : Bs) : (⟨a.toArray⟩ : ByteArray) ++ ⟨b.toArray⟩ = ⟨(a ++ b).toArray⟩ := by apply ByteArray.ext; simp
theorem txV_ne (r : Nat) (v : V) : txV (r + 1) v ≠ [] := by
  unfold txV
  split
  · split <;> simp
  split
  · exact digL_ne _
  split
  · simp [qT]
  · simp
theorem jn_next {α : Type} (f : α → Bs) (l : List α) (k : Nat) {x : α} (h : l[k]? = some x) (hne : ∀ y ∈ l, f y ≠ []) : jnT (itemsT f 0 (l.take k)) (f x) = itemsT f 0 (l.take (k + 1)) := by
  rw [itemsT_next f l k h]
  cases k with
  | zero => simp [jnT, itemsT, cm]
  | succ k =>
    have hk : itemsT f 0 (l.take (k + 1)) ≠ [] := by
      cases l with
      | nil => simp at h
      | cons y l =>
        intro e
        have h1 := hne y (by simp)
        simp [itemsT] at e
        exact h1 e.1
    unfold jnT
    rw [if_neg hk]
    simp [cm]
theorem item_le {α : Type} (f : α → Bs) (l : List α) (k : Nat) {x : α} (h : l[k]? = some x) : (f x).length ≤ (itemsT f 0 l).length := by
  have h1 := itemsT_take_le f l (k + 1)
  rw [itemsT_next f l k h] at h1
  simp at h1
  omega
theorem q_take (s : Bs) (k : Nat) {c : UInt8} (h : s[k]? = some c) : (s.take (k + 1)).flatMap qC = (s.take k).flatMap qC ++ qC c := by
  rw [take_snoc s k h]; simp
theorem q_len : ∀ s : Bs, (s.flatMap qC).length ≤ 2 * s.length
  | [] => by simp
  | c :: r => by
    have := q_len r
    have h : (qC c).length ≤ 2 := by unfold qC; split <;> simp
    simp only [List.flatMap_cons, List.length_append, List.length_cons]
    omega
theorem ex_one (s : ByteArray) (k : Nat) (h : k < s.size) : s.extract k (k + 1) = ⟨#[s[k]'h]⟩ := by
  have hs : k < s.data.size := h
  apply ByteArray.ext
  rw [ByteArray.data_extract]
  apply Array.ext
  · rw [Array.size_extract]
    show min (k + 1) s.data.size - k = 1
    omega
  · intro i h1 h2
    have h3 : i = 0 := Nat.lt_one_iff.1 h2
    subst h3
    rw [Array.getElem_extract]
    rfl
def RTx (r : Nat) : Prop := ∀ (w : World) (d : Nat) (x : At), okV r x.t = true → (txV r x.t).length ≤ MX → x.In w d → Calls Tryz.prog 39 #[x.v] w fun e w' => e = .returned (.string ⟨(txV r x.t).toArray⟩) ∧ Below w.heap.size w w'
set_option maxHeartbeats 6400000 in
theorem rtx_succ (r : Nat) (ih : RTx r) : RTx (r + 1) := by
  intro w d x ho hlen hx
  obtain ⟨d', rfl⟩ : ∃ d', d = d' + 1 := by cases d with
    | zero => exact hx.elim
    | succ d' => exact ⟨d', rfl⟩
  have RL := Lib.hid hx.2.1
  have SZ := hx.1.s1
  have IH := Lib.hid ih
  have hs' : (x.t.s.size : Int) ≤ 140737488355328 := by omega
  have DG := Lib.hid (fun W => refDigits_any x.t.n W (by unfold fitsB; exact decide_eq_true ⟨hx.1.n0, hx.1.n1⟩))
  have hbig := hx.2.1.big
  obtain ⟨fv, ol, _, _⟩ := (ok_parts r x.t).1 ho
  have OL := Lib.hid ol
  have N01 := Lib.hid (show x.t.k = 1 → x.t.n = 0 ∨ x.t.n = 1 by
    intro h
    unfold fitsV at fv
    rw [if_pos h] at fv
    simp only [Bool.and_eq_true, Bool.or_eq_true, beq_iff_eq] at fv
    exact fv.1.1)
  have HLEN := Lib.hid hlen
  have SML := Lib.hid (show x.t.k = 3 → x.t.s.size ≤ 1000 by
    intro h
    unfold fitsV at fv
    rw [if_neg (by omega), if_neg (by omega), if_pos h] at fv
    simp only [Bool.and_eq_true, decide_eq_true_eq] at fv
    exact fv.1.2)
  have EQ := Lib.hid (show txV (r + 1) x.t = if x.t.k = 1 then (if x.t.n = 0 then [102, 97, 108, 115, 101] else [116, 114, 117, 101]) else if x.t.k = 2 then digL x.t.n else if x.t.k = 3 then qT x.t.s.toList else [91] ++ (itemsT (txV r) 0 x.t.l ++ [93]) from by rw [txV])
  obtain ⟨ans, hans⟩ : ∃ b, b = txV (r + 1) x.t := ⟨_, rfl⟩
  rw [← hans] at EQ HLEN ⊢
  clear hx ih hans ho hlen fv ol
  unfold At.v
  go_enter Tryz.func39, Tryz.ntmps39
  go_upto_region 1 with fail
  have k1 := Bx.new w x
  generalize hW : World.alloc w _ = W
  have K1 : Hid (Bx W w.heap.size x) := Lib.hid (by rw [← hW]; exact k1)
  have HB : Hid (Below w.heap.size w W) := Lib.hid (by rw [← hW]; exact below_new _ _)
  obtain ⟨a0, a1, a2, a3, a4, _⟩ := K1.out
  clear hW k1
  by_cases h1 : x.t.k = 1
  case pos =>
    have n1 : (x.t.k == 1) = true := by rw [h1]; rfl
    by_cases hn : x.t.n = 1
    · have m1 : (x.t.n == 1) = true := by rw [hn]; rfl
      have FIN := Lib.hid (show ans = [116, 114, 117, 101] by rw [EQ.out, if_pos h1, if_neg (by omega)])
      clear h1 hn
      go_wp2
      go_ret
      exact ⟨by rw [FIN.out]; rfl, HB.out⟩
    · have m1 : (x.t.n == 1) = false := by rw [beq_eq_false_iff_ne]; exact hn
      have FIN := Lib.hid (show ans = [102, 97, 108, 115, 101] by rw [EQ.out, if_pos h1, if_pos (by have := N01.out h1; omega)])
      clear h1
      go_wp2
      go_ret
      exact ⟨by rw [FIN.out]; rfl, HB.out⟩
  have n1 : (x.t.k == 1) = false := by rw [beq_eq_false_iff_ne]; exact h1
  by_cases h2 : x.t.k = 2
  case pos =>
    have n2 : (x.t.k == 2) = true := by rw [h2]; rfl
    have FIN := Lib.hid (show ans = digL x.t.n by rw [EQ.out, if_neg h1, if_pos h2])
    have CT := Lib.hid (DG.out W)
    rw [← FIN.out] at CT
    clear h1 h2
    go_wp2_with fail
    refine CT.out.mono ?_
    rintro e w1 ⟨rfl, hb⟩
    have HB1 := Lib.hid (bnext HB.out hb)
    clear hb CT
    go_wp2
    go_ret
    exact ⟨rfl, HB1.out⟩
  have n2 : (x.t.k == 2) = false := by rw [beq_eq_false_iff_ne]; exact h2
  by_cases h3 : x.t.k = 3
  case pos =>
    have n3 : (x.t.k == 3) = true := by rw [h3]; rfl
    have FIN := Lib.hid (show ans = qT x.t.s.toList by rw [EQ.out, if_neg h1, if_neg h2, if_pos h3])
    have hsm := SML.out h3
    clear h1 h2 h3
    go_wp2
    go_loopw [3, 4] (fun u i wr => ∃ (k : Nat) (S : ByteArray), k ≤ x.t.s.size ∧ i = .int .i64 k ∧ u = .string S ∧ S.size ≤ 2001 ∧ Hid (S = ⟨(39 :: (x.t.s.toList.take k).flatMap qC).toArray⟩) ∧ Hid (wr = W)) (fun _ i _ => x.t.s.size - (intOf i).toNat)
    case atStart => exact ⟨0, _, by omega, rfl, rfl, by decide, Lib.hid rfl, Lib.hid rfl⟩
    case round =>
      obtain ⟨k, S, hk, rfl, rfl, hS2, hS, hw⟩ := hrel
      obtain rfl := hw.out
      clear hw
      by_cases hlt : k < x.t.s.size
      case neg =>
        have hk9 : ¬ (k : Int) < (x.t.s.size : Int) := by omega
        have hz1 : ¬ 9223372036854775807 < S.size + 1 := by omega
        have FS := Lib.hid (show S ++ (⟨#[39]⟩ : ByteArray) = ⟨ans.toArray⟩ by
          have h := hS.out
          rw [List.take_of_length_le (by rw [toList_size]; omega)] at h
          rw [h, FIN.out]
          exact lit_add _ [39])
        clear hlt
        go_wp2
        go_ret
        exact ⟨by rw [← FS.out]; rfl, HB.out⟩
      have k0 : (0 : Int) ≤ (k : Int) := by omega
      have k9 : (k : Int) < (x.t.s.size : Int) := by omega
      have CE := Lib.hid (ex_one x.t.s k hlt)
      have NX := Lib.hid (q_take x.t.s.toList k (toList_at x.t.s k hlt))
      have FQ := Lib.hid (fun (X : Bs) => lit_add (39 :: (x.t.s.toList.take k).flatMap qC) X)
      rw [← hS.out] at FQ
      have i9 : ¬ 9223372036854775807 < S.size + 1 := by omega
      have SZ1 := Lib.hid (show ∀ S2 : ByteArray, S2 = ⟨(39 :: (x.t.s.toList.take (k + 1)).flatMap qC).toArray⟩ → S2.size ≤ 2001 from fun S2 h => by
        have h1 := q_len (x.t.s.toList.take (k + 1))
        rw [h, lit_size]
        simp only [List.length_cons, List.length_take] at h1 ⊢
        omega)
      obtain ⟨cc, hcc⟩ : ∃ q : UInt8, q = (x.t.s[k]'hlt) := ⟨_, rfl⟩
      rw [← hcc] at CE NX
      obtain ⟨CB, hCB⟩ : ∃ q : ByteArray, q = ⟨#[cc]⟩ := ⟨_, rfl⟩
      have hcs : CB.size = 1 := by rw [hCB]; rfl
      have HW := Lib.hid (show IntKind.i64.wrap ((k : Int) + 1) = (k : Int) + 1 from IntWalk.i64_in _ (by omega))
      have ES : (Instr.slice 9 (.string x.t.s) (some (.int .i64 (k : Int))) (some (.int .i64 ((k : Int) + 1))) none).run Tryz.prog wr = .ok (.string CB) wr := by
        rw [run_slice_string (P := Tryz.prog) wr 9 x.t.s .i64 .i64 (k : Int) ((k : Int) + 1) Tryz.underlying9 (by omega) (by omega) (by omega), hCB, ← CE.out]
        rfl
      by_cases hq : cc = 39 ∨ cc = 92
      · have QS := Lib.hid (show S ++ (⟨#[92]⟩ : ByteArray) ++ CB = ⟨(39 :: (x.t.s.toList.take (k + 1)).flatMap qC).toArray⟩ by
          rw [hCB, show (⟨#[92]⟩ : ByteArray) = ⟨([92] : Bs).toArray⟩ from rfl, FQ.out, show (⟨#[cc]⟩ : ByteArray) = ⟨([cc] : Bs).toArray⟩ from rfl, lit_add, NX.out]
          unfold qC; rw [if_pos hq]; simp)
        have i7 : ¬ 9223372036854775807 < S.size + 1 + CB.size := by omega
        by_cases hq1 : cc = 39
        · have b3 : ((((x.t.s[k]'hlt).toNat : Nat) : Int) == 39) = true := by rw [← hcc, hq1]; rfl
          clear hq hq1 hcc NX CE FQ hCB
          go_wp2
          go_roundw
          case rel => exact ⟨k + 1, _, by omega, by go_num, rfl, SZ1.out _ QS.out, QS, Lib.hid trivial⟩
          case measure => simp [intOf]; omega
        · have b3 : ((((x.t.s[k]'hlt).toNat : Nat) : Int) == 39) = false := by
            rw [beq_eq_false_iff_ne, ← hcc]; intro h
            exact hq1 (UInt8.toNat_inj.1 (by show cc.toNat = 39; omega))
          have b4 : ((((x.t.s[k]'hlt).toNat : Nat) : Int) == 92) = true := by rw [← hcc, hq.resolve_left hq1]; rfl
          clear hq hq1 hcc NX CE FQ hCB
          go_wp2
          go_roundw
          case rel => exact ⟨k + 1, _, by omega, by go_num, rfl, SZ1.out _ QS.out, QS, Lib.hid trivial⟩
          case measure => simp [intOf]; omega
      · have QS := Lib.hid (show S ++ CB = ⟨(39 :: (x.t.s.toList.take (k + 1)).flatMap qC).toArray⟩ by
          rw [hCB, show (⟨#[cc]⟩ : ByteArray) = ⟨([cc] : Bs).toArray⟩ from rfl, FQ.out, NX.out]
          unfold qC; rw [if_neg hq]; rfl)
        have i7 : ¬ 9223372036854775807 < S.size + CB.size := by omega
        have b3 : ((((x.t.s[k]'hlt).toNat : Nat) : Int) == 39) = false := by
          rw [beq_eq_false_iff_ne, ← hcc]; intro h
          exact hq (Or.inl (UInt8.toNat_inj.1 (by show cc.toNat = 39; omega)))
        have b4 : ((((x.t.s[k]'hlt).toNat : Nat) : Int) == 92) = false := by
          rw [beq_eq_false_iff_ne, ← hcc]; intro h
          exact hq (Or.inr (UInt8.toNat_inj.1 (by show cc.toNat = 92; omega)))
        clear hq hcc NX CE FQ hCB
        go_wp2
        go_roundw
        case rel => exact ⟨k + 1, _, by omega, by go_num, rfl, SZ1.out _ QS.out, QS, Lib.hid trivial⟩
        case measure => simp [intOf]; omega
  have n3 : (x.t.k == 3) = false := by rw [beq_eq_false_iff_ne]; exact h3
  have FIN := Lib.hid (show ans = [91] ++ (itemsT (txV r) 0 x.t.l ++ [93]) by rw [EQ.out, if_neg h1, if_neg h2, if_neg h3])
  clear h1 h2 h3 EQ SML DG
  go_wp2
  go_loopw [5, 6] (fun u i wr => ∃ (k : Nat) (S : ByteArray), k ≤ x.t.l.length ∧ i = .int .i64 k ∧ u = .string S ∧ Hid (S = ⟨(itemsT (txV r) 0 (x.t.l.take k)).toArray⟩) ∧ Hid (Below W.heap.size W wr)) (fun _ i _ => x.t.l.length - (intOf i).toNat)
  case atStart => exact ⟨0, _, by omega, rfl, rfl, Lib.hid rfl, Lib.hid (Below.refl _ _)⟩
  case round =>
    obtain ⟨k, S, hk, rfl, rfl, hS, hbel⟩ := hrel
    have K2 := Lib.hid (K1.out.next hbel.out)
    clear a0 a1 a2 a3 a4
    obtain ⟨a0, a1, a2, a3, a4, _⟩ := K2.out
    by_cases hlt : k < x.t.l.length
    case neg =>
      have hk9 : ¬ (k : Int) < (x.t.l.length : Int) := by omega
      have HSZ := Lib.hid (show S.size + 2 ≤ MX by
        have h := hS.out
        rw [List.take_of_length_le (by omega)] at h
        have h2 := HLEN.out
        rw [FIN.out] at h2
        rw [h, lit_size]
        simp at h2
        omega)
      have hz0 : ¬ 9223372036854775807 < 1 + S.size := by have := HSZ.out; unfold MX at this; omega
      have hz1 : ¬ 9223372036854775807 < 1 + S.size + 1 := by have := HSZ.out; unfold MX at this; omega
      have FS := Lib.hid (show (⟨#[91]⟩ : ByteArray) ++ S ++ (⟨#[93]⟩ : ByteArray) = ⟨ans.toArray⟩ by
        have h := hS.out
        rw [List.take_of_length_le (by omega)] at h
        rw [h, FIN.out, show (⟨#[91]⟩ : ByteArray) = ⟨([91] : Bs).toArray⟩ from rfl, show (⟨#[93]⟩ : ByteArray) = ⟨([93] : Bs).toArray⟩ from rfl, lit_add, lit_add, List.append_assoc])
      clear hlt
      go_wp2
      go_ret
      exact ⟨by rw [← FS.out]; rfl, bnext HB.out hbel.out⟩
    obtain ⟨b2, off, y0, A1, c1, A2, c2, eA, _, hb2, hy, q, ry⟩ := (RL.out.next (bnext HB.out hbel.out)).elem hlt
    obtain ⟨y, rfl, rfl, rfl, rfl, rfl⟩ : ∃ y : At, y0 = y.t ∧ A1 = y.A ∧ c1 = y.c ∧ A2 = y.A' ∧ c2 = y.c' := ⟨⟨y0, A1, c1, A2, c2⟩, rfl, rfl, rfl, rfl, rfl⟩
    rw [eA] at a3
    obtain ⟨q0, q1, q2, q3, q4⟩ := q
    have hoy := OL.out y.t (List.mem_of_getElem? hy)
    have LY := Lib.hid (show (txV r y.t).length ≤ MX by
      have h1 := item_le (txV r) x.t.l k hy
      have h2 := HLEN.out
      rw [FIN.out] at h2
      simp at h2
      omega)
    have CT := Lib.hid (IH.out wr _ y hoy LY.out ry)
    have NX := Lib.hid (jn_next (txV r) x.t.l k hy (fun v hv => by
      cases r with
      | zero => have := OL.out v hv; cases this
      | succ r => exact txV_ne r v))
    have LJ := Lib.hid (show (jnT (itemsT (txV r) 0 (x.t.l.take k)) (txV r y.t)).length ≤ MX by
      have h1 := itemsT_take_le (txV r) x.t.l (k + 1)
      have h2 := HLEN.out
      rw [FIN.out] at h2
      rw [NX.out]
      simp at h2
      omega)
    have j0 : (0 : Int) ≤ (k : Int) := by omega
    have j1 : (k : Int) < (x.t.l.length : Int) := by omega
    have CC := Lib.hid (fun W2 => comma_any W2 _ _ LJ.out)
    obtain ⟨Y, hY⟩ : ∃ q : ByteArray, q = ⟨(txV r y.t).toArray⟩ := ⟨_, rfl⟩
    rw [← hY, ← hS.out] at CC
    rw [← hY] at CT
    rw [NX.out] at CC
    obtain ⟨Z, hZ⟩ : ∃ q : ByteArray, q = ⟨(itemsT (txV r) 0 (x.t.l.take (k + 1))).toArray⟩ := ⟨_, rfl⟩
    rw [← hZ] at CC
    have HZ := Lib.hid hZ
    clear ry hy eA hY hZ hoy
    go_wp2_with fail
    refine CT.out.mono ?_
    rintro e w2 ⟨rfl, hb⟩
    have HB2 := Lib.hid (bnext hbel.out hb)
    have CW := Lib.hid (CC.out w2)
    clear hb CT CC a0 a1 a2 a3 a4 q0 q1 q2 q3 q4
    go_wp2_with fail
    refine CW.out.mono ?_
    rintro e w3 ⟨rfl, hw3⟩
    subst hw3
    clear CW
    go_wp2
    go_roundw
    case rel => exact ⟨k + 1, Z, by omega, by go_num, rfl, HZ, HB2⟩
    case measure => simp [intOf]; omega
theorem rtx_any : ∀ r, RTx r
  | 0 => fun _ _ _ h => by cases h
  | r + 1 => rtx_succ r (rtx_any r)
end Go.Proofs.YtiiopbcihieblaaGreatDoor
/- The document's text of a predicate. -/
namespace Go.Proofs.YtiiopbcihieblaaGreatDoor
set_option maxRecDepth 100000
open Go.RowKit Go.Sort

theorem fitsP_kd (t : P) (h : fitsP t = true) : 1 ≤ t.k ∧ t.k ≤ 14 ∧ (0 < t.p.length → t.v = []) := by
  unfold fitsP fitsN at h
  split at h
  · rename_i h1; simp only [Bool.and_eq_true, beq_iff_eq] at h; exact ⟨by omega, by omega, fun h2 => absurd h2 (by omega)⟩
  split at h
  · rename_i h1; simp only [Bool.and_eq_true, beq_iff_eq] at h; exact ⟨by omega, by omega, fun h2 => absurd h2 (by omega)⟩
  split at h
  · rename_i h1; simp only [Bool.and_eq_true, beq_iff_eq] at h; exact ⟨by omega, by omega, fun h2 => absurd h2 (by omega)⟩
  split at h
  · rename_i h1; simp only [Bool.and_eq_true, beq_iff_eq] at h; exact ⟨by omega, by omega, fun _ => List.eq_nil_of_length_eq_zero h.1⟩
  split at h
  · rename_i h1; simp only [Bool.and_eq_true, beq_iff_eq] at h; exact ⟨by omega, by omega, fun _ => List.eq_nil_of_length_eq_zero h.1⟩
  · cases h
theorem txP_ne (r : Nat) (p : P) : txP (r + 1) p ≠ [] := by unfold txP; simp
theorem name_cell (w : World) (k : Nat) {s : ByteArray} (h : namesL[k]? = some s) : (w.alloc (.cells (namesL.map Value.string).toArray 9)).cell? ⟨w.heap.size, k, none⟩ = some (.string s) := by
  rw [World.cell?_alloc_at _ _ _ _ rfl]
  simp [h]
theorem nameP_at (k : Nat) (h : k < 15) : ∃ s : ByteArray, namesL[k]? = some s ∧ s = ⟨(nameP (k : Int)).toArray⟩ ∧ s.size ≤ 7 := by
  have : ∀ k : Fin 15, ∃ s : ByteArray, namesL[k.val]? = some s ∧ s = ⟨(nameP (k.val : Int)).toArray⟩ ∧ s.size ≤ 7 := by
    intro k
    match k with
    | 0 | 1 | 2 | 3 | 4 | 5 | 6 | 7 | 8 | 9 | 10 | 11 | 12 | 13 | 14 => exact ⟨_, rfl, by rfl, by decide⟩
  exact this ⟨k, h⟩
def RTxP (r : Nat) : Prop := ∀ (w : World) (d : Nat) (x : Pt), okP r x.t = true → (txP r x.t).length ≤ MX → x.In w d → Calls Tryz.prog 40 #[x.val] w fun e w' => e = .returned (.string ⟨(txP r x.t).toArray⟩) ∧ Below w.heap.size w w'
set_option maxHeartbeats 6400000 in
theorem rtxP_succ (r : Nat) (ih : RTxP r) : RTxP (r + 1) := by
  intro w d x ho hlen hx
  obtain ⟨d', rfl⟩ := hx.pos
  obtain ⟨n, rv⟩ := hx.2.1
  have rp := hx.2.2
  have hbv := rv.big
  have hbp := rp.big
  obtain ⟨fp, ov, op⟩ := (okP_parts r x.t).1 ho
  obtain ⟨k1, k14, hpv⟩ := fitsP_kd x.t fp
  have RV := Lib.hid rv
  have RP := Lib.hid rp
  have OV := Lib.hid ov
  have OP := Lib.hid op
  have IH := Lib.hid ih
  have PV := Lib.hid hpv
  obtain ⟨kn, hkn⟩ : ∃ kn : Nat, x.t.k = (kn : Int) := ⟨x.t.k.toNat, by omega⟩
  obtain ⟨NK, hNK, eNK, sNK⟩ := nameP_at kn (by omega)
  obtain ⟨ans, hans⟩ : ∃ b, b = txP (r + 1) x.t := ⟨_, rfl⟩
  rw [← hans] at hlen ⊢
  have ANS := Lib.hid (show ans = nameP x.t.k ++ ([40] ++ (itemsT (txV 12) 0 x.t.v ++ itemsT (txP r) 0 x.t.p ++ [41])) by
    rw [hans]
    show nameP x.t.k ++ ([40] ++ ((if 0 < x.t.p.length then itemsT (txP r) 0 x.t.p else itemsT (txV 12) 0 x.t.v) ++ [41])) = _
    by_cases h : 0 < x.t.p.length
    · rw [if_pos h, hpv h]; rfl
    · rw [if_neg h, List.eq_nil_of_length_eq_zero (by omega : x.t.p.length = 0)]; simp [itemsT])
  have HLV := Lib.hid (show (nameP x.t.k).length + (itemsT (txV 12) 0 x.t.v).length + (itemsT (txP r) 0 x.t.p).length + 2 ≤ MX by
    have h := hlen
    rw [ANS.out] at h
    simp at h
    omega)
  have b1 : (1 : Int) ≤ (kn : Int) := by omega
  have b2 : (kn : Int) < 15 := by omega
  have b3 : kn < 15 := by omega
  have k0 : (0 : Int) ≤ (kn : Int) := by omega
  have ENK := Lib.hid eNK
  have HNK := Lib.hid hNK
  have HKN := Lib.hid hkn
  clear hx ih hans rv rp ho ov op fp k1 k14 hpv eNK hlen hNK hkn
  unfold Pt.val
  go_enter Tryz.func40, Tryz.ntmps40
  go_upto_region 1 with fail
  have k1 := BP.new w x
  generalize hW : World.alloc w _ = W
  have K1 : Hid (BP W w.heap.size x) := Lib.hid (by rw [← hW]; exact k1)
  have HB : Hid (Below w.heap.size w W) := Lib.hid (by rw [← hW]; exact below_new _ _)
  clear hW k1
  go_wp2
  go_loopw [3, 4] (fun u i wr => ∃ (k : Nat) (S : ByteArray), k ≤ x.t.v.length ∧ i = .int .i64 k ∧ u = .string S ∧ Hid (S = ⟨(itemsT (txV 12) 0 (x.t.v.take k)).toArray⟩) ∧ Hid (Below W.heap.size W wr)) (fun _ i _ => x.t.v.length - (intOf i).toNat)
  case atStart => exact ⟨0, _, by omega, rfl, rfl, Lib.hid rfl, Lib.hid (Below.refl _ _)⟩
  case round =>
    obtain ⟨k, S, hk, rfl, rfl, hS, hbel⟩ := hrel
    have K2 := Lib.hid (K1.out.next hbel.out)
    obtain ⟨a0, a1, a2, _⟩ := K2.out
    by_cases hlt : k < x.t.v.length
    · obtain ⟨b2', off, y0, A1, c1, A2, c2, eA, _, hb2, hy, q, ry⟩ := (RV.out.next (bnext HB.out hbel.out)).elem hlt
      obtain ⟨y, rfl, rfl, rfl, rfl, rfl⟩ : ∃ y : At, y0 = y.t ∧ A1 = y.A ∧ c1 = y.c ∧ A2 = y.A' ∧ c2 = y.c' := ⟨⟨y0, A1, c1, A2, c2⟩, rfl, rfl, rfl, rfl, rfl⟩
      rw [eA] at a1
      obtain ⟨q0, q1, q2, q3, q4⟩ := q
      have hoy := OV.out y.t (List.mem_of_getElem? hy)
      have LY := Lib.hid (show (txV 12 y.t).length ≤ MX by
        have h1 := item_le (txV 12) x.t.v k hy
        have h2 := HLV.out
        omega)
      have CT := Lib.hid (rtx_any 12 wr _ y hoy LY.out ry)
      have NX := Lib.hid (jn_next (txV 12) x.t.v k hy (fun v _ => txV_ne 11 v))
      have LJ := Lib.hid (show (jnT (itemsT (txV 12) 0 (x.t.v.take k)) (txV 12 y.t)).length ≤ MX by
        have h1 := itemsT_take_le (txV 12) x.t.v (k + 1)
        have h2 := HLV.out
        rw [NX.out]
        omega)
      have j0 : (0 : Int) ≤ (k : Int) := by omega
      have j1 : (k : Int) < (x.t.v.length : Int) := by omega
      have CC := Lib.hid (fun W2 => comma_any W2 _ _ LJ.out)
      obtain ⟨Y, hY⟩ : ∃ q : ByteArray, q = ⟨(txV 12 y.t).toArray⟩ := ⟨_, rfl⟩
      rw [← hY, ← hS.out] at CC
      rw [← hY] at CT
      rw [NX.out] at CC
      obtain ⟨Z, hZ⟩ : ∃ q : ByteArray, q = ⟨(itemsT (txV 12) 0 (x.t.v.take (k + 1))).toArray⟩ := ⟨_, rfl⟩
      rw [← hZ] at CC
      have HZ := Lib.hid hZ
      clear ry hy eA hY hZ hoy
      go_wp2_with fail
      refine CT.out.mono ?_
      rintro e w2 ⟨rfl, hb⟩
      have HB2 := Lib.hid (bnext hbel.out hb)
      have CW := Lib.hid (CC.out w2)
      clear hb CT CC a0 a1 a2 q0 q1 q2 q3 q4
      go_wp2_with fail
      refine CW.out.mono ?_
      rintro e w3 ⟨rfl, hw3⟩
      subst hw3
      clear CW
      go_wp2
      go_roundw
      case rel => exact ⟨k + 1, Z, by omega, by go_num, rfl, HZ, HB2⟩
      case measure => simp [intOf]; omega
    have SV := Lib.hid (show S = ⟨(itemsT (txV 12) 0 x.t.v).toArray⟩ by
      have h := hS.out
      rwa [List.take_of_length_le (by omega)] at h)
    have hk9 : ¬ (k : Int) < (x.t.v.length : Int) := by omega
    have HB9 := Lib.hid (bnext HB.out hbel.out)
    clear hlt hk hS
    go_wp2
    obtain ⟨wo, hwo⟩ : ∃ q, q = wr := ⟨_, rfl⟩
    subst hwo
    go_loopw [3, 5] (fun u i wx => ∃ (j : Nat) (S : ByteArray), j ≤ x.t.p.length ∧ i = .int .i64 j ∧ u = .string S ∧ Hid (S = ⟨(itemsT (txV 12) 0 x.t.v ++ itemsT (txP r) 0 (x.t.p.take j)).toArray⟩) ∧ Hid (Below wo.heap.size wo wx)) (fun _ i _ => x.t.p.length - (intOf i).toNat)
    case atStart => exact ⟨0, S, by omega, rfl, rfl, Lib.hid (by rw [SV.out]; simp [itemsT]), Lib.hid (Below.refl _ _)⟩
    case round =>
      obtain ⟨j, S2, hj, rfl, rfl, hS2, hbel2⟩ := hrel
      have K3 := Lib.hid (K2.out.next hbel2.out)
      clear a0 a1 a2
      obtain ⟨a0, a1, a2, _⟩ := K3.out
      by_cases hlt : j < x.t.p.length
      · obtain ⟨b2', off, y, eA, _, hb2, hy, q, ry⟩ := (RP.out.next (bnext HB9.out hbel2.out)).elem hlt
        rw [eA] at a2
        obtain ⟨q0, q1, q2⟩ := q
        have hoy := OP.out y.t (List.mem_of_getElem? hy)
        have hv0 := PV.out (by omega)
        have hS3 := hS2.out
        rw [hv0, show itemsT (txV 12) 0 ([] : List V) = [] from rfl, List.nil_append] at hS3
        have LY := Lib.hid (show (txP r y.t).length ≤ MX by
          have h1 := item_le (txP r) x.t.p j hy
          have h2 := HLV.out
          omega)
        have CT := Lib.hid (IH.out wr _ y hoy LY.out ry)
        have NX := Lib.hid (jn_next (txP r) x.t.p j hy (fun v hv => by
          cases r with
          | zero => have := OP.out v hv; cases this
          | succ r => exact txP_ne r v))
        have LJ := Lib.hid (show (jnT (itemsT (txP r) 0 (x.t.p.take j)) (txP r y.t)).length ≤ MX by
          have h1 := itemsT_take_le (txP r) x.t.p (j + 1)
          have h2 := HLV.out
          rw [NX.out]
          omega)
        have j0 : (0 : Int) ≤ (j : Int) := by omega
        have j1 : (j : Int) < (x.t.p.length : Int) := by omega
        have CC := Lib.hid (fun W2 => comma_any W2 _ _ LJ.out)
        obtain ⟨Y, hY⟩ : ∃ q : ByteArray, q = ⟨(txP r y.t).toArray⟩ := ⟨_, rfl⟩
        rw [← hY, ← hS3] at CC
        rw [← hY] at CT
        rw [NX.out] at CC
        obtain ⟨Z, hZ⟩ : ∃ q : ByteArray, q = ⟨(itemsT (txP r) 0 (x.t.p.take (j + 1))).toArray⟩ := ⟨_, rfl⟩
        rw [← hZ] at CC
        have HZ := Lib.hid (show Z = ⟨(itemsT (txV 12) 0 x.t.v ++ itemsT (txP r) 0 (x.t.p.take (j + 1))).toArray⟩ by rw [hZ, hv0]; rfl)
        clear ry hy eA hY hZ hoy hS3 hv0
        go_wp2_with fail
        refine CT.out.mono ?_
        rintro e w2 ⟨rfl, hb⟩
        have HB2 := Lib.hid (bnext hbel2.out hb)
        have CW := Lib.hid (CC.out w2)
        clear hb CT CC a0 a1 a2 q0 q1 q2
        go_wp2_with fail
        refine CW.out.mono ?_
        rintro e w3 ⟨rfl, hw3⟩
        subst hw3
        clear CW
        go_wp2
        go_roundw
        case rel => exact ⟨j + 1, Z, by omega, by go_num, rfl, HZ, HB2⟩
        case measure => simp [intOf]; omega
      have hj9 : ¬ (j : Int) < (x.t.p.length : Int) := by omega
      have S9 := Lib.hid (show S2 = ⟨(itemsT (txV 12) 0 x.t.v ++ itemsT (txP r) 0 x.t.p).toArray⟩ by
        have h := hS2.out
        rwa [List.take_of_length_le (by omega)] at h)
      have HSZ := Lib.hid (show S2.size + 9 ≤ MX + 7 by
        have h2 := HLV.out
        rw [S9.out, lit_size, List.length_append]
        omega)
      have HNS := Lib.hid sNK
      have i1 : ¬ 9223372036854775807 < NK.size + 1 := by omega
      have i2 : ¬ 9223372036854775807 < NK.size + 1 + S2.size := by have := HSZ.out; unfold MX at this; omega
      have i3 : ¬ 9223372036854775807 < NK.size + 1 + S2.size + 1 := by have := HSZ.out; unfold MX at this; omega
      have FS := Lib.hid (show NK ++ (⟨#[40]⟩ : ByteArray) ++ S2 ++ (⟨#[41]⟩ : ByteArray) = ⟨ans.toArray⟩ by
        rw [ENK.out, S9.out, ANS.out, HKN.out, show (⟨#[40]⟩ : ByteArray) = ⟨([40] : Bs).toArray⟩ from rfl, show (⟨#[41]⟩ : ByteArray) = ⟨([41] : Bs).toArray⟩ from rfl, lit_add, lit_add, lit_add]
        simp only [List.append_assoc])
      have CT := Lib.hid (rnames_any wr)
      clear hlt hj hS2
      go_wp2_with fail
      refine CT.out.mono ?_
      rintro e w9 ⟨rfl, hw9⟩
      clear a0 a1 a2
      have B9 : Hid (Below wr.heap.size wr w9) := Lib.hid (by rw [hw9]; exact below_new _ _)
      have q0 : w9.cell? ⟨wr.heap.size, kn, none⟩ = some (.string NK) := by rw [hw9]; exact name_cell wr kn HNK.out
      have K4 := Lib.hid (K3.out.next B9.out)
      obtain ⟨a0, a1, a2, _⟩ := K4.out
      rw [HKN.out] at a0
      have HBF := Lib.hid (bnext (bnext HB9.out hbel2.out) B9.out)
      clear CT hw9
      go_wp2
      go_ret
      exact ⟨by rw [← FS.out]; rfl, HBF.out⟩
theorem rtxP_any : ∀ r, RTxP r
  | 0 => fun _ _ _ h => by cases h
  | r + 1 => rtxP_succ r (rtxP_any r)
end Go.Proofs.YtiiopbcihieblaaGreatDoor
/- The document's text of calls. -/
namespace Go.Proofs.YtiiopbcihieblaaGreatDoor
set_option maxRecDepth 100000
open Go.RowKit Go.Sort

theorem fm_next {α : Type} (f : α → Bs) (l : List α) (k : Nat) {x : α} (h : l[k]? = some x) : (l.take (k + 1)).flatMap f = (l.take k).flatMap f ++ f x := by
  rw [take_snoc l k h]; simp
theorem fm_le {α : Type} (f : α → Bs) (l : List α) (k : Nat) : ((l.take k).flatMap f).length ≤ (l.flatMap f).length := by
  have h : l.flatMap f = (l.take k).flatMap f ++ (l.drop k).flatMap f := by rw [← List.flatMap_append, List.take_append_drop]
  rw [h]; simp
theorem name_nn {s : ByteArray} (h : nameB s = true) : s.toList ≠ [] := by
  intro e
  unfold nameB at h
  simp only [Bool.and_eq_true, decide_eq_true_eq] at h
  have := toList_size s
  rw [e] at this
  simp at this
  omega
theorem arg_more (f : List C → Bool) (g : Ag) (h : argOk f g = true) : (g.k = 1 → okV 12 g.v = true) ∧ (g.k = 2 → okP 12 g.p = true) ∧ (g.k = 4 → nameB g.s = true) := by
  unfold argOk at h
  rw [Bool.and_eq_true] at h
  obtain ⟨_, h2⟩ := h
  refine ⟨fun k => ?_, fun k => ?_, fun k => ?_⟩
  · rw [if_pos k, Bool.and_eq_true] at h2; exact h2.1
  · rw [if_neg (by omega), if_pos k, Bool.and_eq_true] at h2; exact h2.1
  · rw [if_neg (by omega), if_neg (by omega), if_neg (by omega), if_pos k] at h2
    unfold wordB at h2
    rw [Bool.and_eq_true] at h2
    exact h2.1
theorem txC2_ne (r : Nat) (l : List C) : txC r [95, 95] l ≠ [] := by cases r <;> simp [txC]
theorem txG_ne (r : Nat) (g : Ag) (h : argOk (chOk r) g = true) : txG (txC r [95, 95]) g ≠ [] := by
  have p := (argOk_parts _ g h).1
  have q := (arg_more _ g h).2.2
  unfold txG
  split
  · exact txV_ne 11 _
  split
  · exact txP_ne 11 _
  split
  · exact txC2_ne _ _
  · exact name_nn (q (by omega))
def RText (r : Nat) : Prop := ∀ (w : World) (d : Nat) (A : Option Addr) (c : Nat) (l : List C) (first : Bs), chOk r l = true → (txC r first l).length ≤ MX → Ch w 0 w.heap.size d A c l →
  Calls Tryz.prog 23 #[.string ⟨first.toArray⟩, .slice A l.length c] w fun e w' => e = .returned (.string ⟨(txC r first l).toArray⟩) ∧ Below w.heap.size w w'
set_option maxHeartbeats 12800000 in
theorem rtext_succ (r : Nat) (ih : RText r) : RText (r + 1) := by
  intro w d A c l first ho hlen hx
  have H := Lib.hid hx
  have hbig := hx.big
  have IH := Lib.hid ih
  have OKL := Lib.hid (show ∀ x ∈ l, callOk (chOk r) x = true by
    have h : (decide (0 < l.length) && l.all (callOk (chOk r))) = true := ho
    rw [Bool.and_eq_true, List.all_eq_true] at h
    exact h.2)
  obtain ⟨ans, hans⟩ : ∃ b, b = txC (r + 1) first l := ⟨_, rfl⟩
  rw [← hans] at hlen ⊢
  have ANS := Lib.hid (show ans = first ++ l.flatMap (txCall (txC r [95, 95])) from hans)
  have HLEN := Lib.hid hlen
  obtain ⟨SF, hSF⟩ : ∃ q : ByteArray, q = ⟨first.toArray⟩ := ⟨_, rfl⟩
  rw [← hSF]
  have FSF := Lib.hid hSF
  clear hx ih ho hlen hans hSF
  go_enter Tryz.func23, Tryz.ntmps23
  go_wp2
  go_loopw [5, 6] (fun u i wr => ∃ (k : Nat) (S : ByteArray), k ≤ l.length ∧ i = .int .i64 k ∧ u = .string S ∧ Hid (S = ⟨(first ++ (l.take k).flatMap (txCall (txC r [95, 95]))).toArray⟩) ∧ Hid (Below w.heap.size w wr)) (fun _ i _ => l.length - (intOf i).toNat)
  case atStart => exact ⟨0, SF, by omega, rfl, rfl, Lib.hid (by rw [FSF.out]; simp), Lib.hid (Below.refl _ _)⟩
  case round =>
    obtain ⟨k, S, hk, rfl, rfl, hS, hbel⟩ := hrel
    by_cases hlt : k < l.length
    case neg =>
      have FIN := Lib.hid (show S = ⟨ans.toArray⟩ by
        have h1 := hS.out
        rw [List.take_of_length_le (by omega)] at h1
        rw [ANS.out, h1])
      have hk9 : ¬ (k : Int) < (l.length : Int) := by omega
      clear hlt
      go_wp2
      go_ret
      exact ⟨by rw [← FIN.out]; rfl, hbel.out⟩
    obtain ⟨b, off, x, e, rfl, rfl, hb, hx, q, hn, ra⟩ := (H.out.next hbel.out).elem hlt
    have Q0 := Lib.hid q.c0
    have Q1 := Lib.hid q.c1
    have HBB := Lib.hid hb
    have RA := Lib.hid ra
    have hbx := ra.big
    have hk9 : (k : Int) < (l.length : Int) := by omega
    have hk7 : (0 : Int) ≤ (k : Int) := by omega
    have OKX := OKL.out x.t (List.mem_of_getElem? hx)
    obtain ⟨nmx, _, _, okg⟩ := call_parts OKX
    have OKG := Lib.hid (show ∀ g ∈ x.l, argOk (chOk r) g = true from okg)
    have NXT := Lib.hid (fm_next (txCall (txC r [95, 95])) l k hx)
    have LEX := Lib.hid (show (first ++ (l.take (k + 1)).flatMap (txCall (txC r [95, 95]))).length ≤ MX by
      have h1 := fm_le (txCall (txC r [95, 95])) l (k + 1)
      have h2 := HLEN.out
      rw [ANS.out] at h2
      simp only [List.length_append] at h2 ⊢
      omega)
    have TC := Lib.hid (show txCall (txC r [95, 95]) x.t = [46] ++ (x.n.toList ++ ([40] ++ (itemsT (txG (txC r [95, 95])) 0 x.l ++ [41]))) from rfl)
    have LEI := Lib.hid (show (first ++ (l.take k).flatMap (txCall (txC r [95, 95]))).length + x.n.size + (itemsT (txG (txC r [95, 95])) 0 x.l).length + 3 ≤ MX by
      have h := LEX.out
      rw [NXT.out, TC.out] at h
      have h3 := toList_size x.n
      simp only [List.length_append, List.length_cons, List.length_nil] at h ⊢
      omega)
    clear ra hx hb hn q hlt OKX okg nmx
    go_wp2
    obtain ⟨wo, hwo⟩ : ∃ q, q = wr := ⟨_, rfl⟩
    subst hwo
    go_loopw [7, 8] (fun u i wr => ∃ (j : Nat) (M : ByteArray), j ≤ x.l.length ∧ i = .int .i64 j ∧ u = .string M ∧ Hid (M = ⟨(itemsT (txG (txC r [95, 95])) 0 (x.l.take j)).toArray⟩) ∧ Hid (Below wo.heap.size wo wr)) (fun _ i _ => x.l.length - (intOf i).toNat)
    case atStart => exact ⟨0, _, by omega, rfl, rfl, Lib.hid rfl, Lib.hid (Below.refl _ _)⟩
    case round =>
      obtain ⟨j, M, hj, rfl, rfl, hM, hbel2⟩ := hrel
      have s1 := cell_below hbel2.out Q1.out HBB.out
      by_cases hlt2 : j < x.l.length
      case neg =>
        have s0 := cell_below hbel2.out Q0.out HBB.out
        have MM := Lib.hid (show M = ⟨(itemsT (txG (txC r [95, 95])) 0 x.l).toArray⟩ by
          have h := hM.out
          rwa [List.take_of_length_le (by omega)] at h)
        have hj9 : ¬ (j : Int) < (x.l.length : Int) := by omega
        have SZ := Lib.hid (show S.size + x.n.size + M.size + 3 ≤ MX by
          have h := LEI.out
          rw [hS.out, MM.out, lit_size, lit_size]
          exact h)
        have i1 : ¬ 9223372036854775807 < S.size + 1 := by have := SZ.out; unfold MX at this; omega
        have i2 : ¬ 9223372036854775807 < S.size + 1 + x.n.size := by have := SZ.out; unfold MX at this; omega
        have i3 : ¬ 9223372036854775807 < S.size + 1 + x.n.size + 1 := by have := SZ.out; unfold MX at this; omega
        have i4 : ¬ 9223372036854775807 < S.size + 1 + x.n.size + 1 + M.size := by have := SZ.out; unfold MX at this; omega
        have i5 : ¬ 9223372036854775807 < S.size + 1 + x.n.size + 1 + M.size + 1 := by have := SZ.out; unfold MX at this; omega
        have FS := Lib.hid (show S ++ (⟨#[46]⟩ : ByteArray) ++ x.n ++ (⟨#[40]⟩ : ByteArray) ++ M ++ (⟨#[41]⟩ : ByteArray) = ⟨(first ++ (l.take (k + 1)).flatMap (txCall (txC r [95, 95]))).toArray⟩ by
          rw [NXT.out, TC.out, hS.out, MM.out, show (⟨#[46]⟩ : ByteArray) = ⟨([46] : Bs).toArray⟩ from rfl, show (⟨#[40]⟩ : ByteArray) = ⟨([40] : Bs).toArray⟩ from rfl, show (⟨#[41]⟩ : ByteArray) = ⟨([41] : Bs).toArray⟩ from rfl]
          conv => lhs; rw [← toArr x.n]
          rw [lit_add, lit_add, lit_add, lit_add, lit_add]
          simp only [List.append_assoc])
        clear hlt2 hM
        go_wp2
        go_roundw
        case rel => exact ⟨k + 1, _, by omega, by go_num, rfl, FS, Lib.hid (bnext hbel.out hbel2.out)⟩
        case measure => simp [intOf]; omega
      have hj9 : (j : Int) < (x.l.length : Int) := by omega
      have hj7 : (0 : Int) ≤ (j : Int) := by omega
      obtain ⟨b2, off2, g, eA, hb2, hg, q, rg⟩ := (RA.out.next hbel2.out).elem hlt2
      rw [eA] at s1
      have okg := OKG.out g.t (List.mem_of_getElem? hg)
      obtain ⟨kk, k3, _⟩ := argOk_parts _ g.t okg
      obtain ⟨m1, m2, m4⟩ := arg_more _ g.t okg
      have K3 := Lib.hid (show g.k = 3 → chOk r g.l = true from k3)
      have M1 := Lib.hid (show g.k = 1 → okV 12 g.x.t = true from m1)
      have M2 := Lib.hid (show g.k = 2 → okP 12 g.q.t = true from m2)
      have kk' : g.k = 1 ∨ g.k = 2 ∨ g.k = 3 ∨ g.k = 4 := kk
      have hgs : g.s.size ≤ 140737488355328 := rg.s1
      have NX := Lib.hid (jn_next (txG (txC r [95, 95])) x.l j hg (fun y hy => txG_ne r y (OKG.out y hy)))
      have LY := Lib.hid (show (txG (txC r [95, 95]) g.t).length ≤ MX by
        have h1 := item_le (txG (txC r [95, 95])) x.l j hg
        have h2 := LEI.out
        omega)
      have LJ := Lib.hid (show (jnT (itemsT (txG (txC r [95, 95])) 0 (x.l.take j)) (txG (txC r [95, 95]) g.t)).length ≤ MX by
        have h1 := itemsT_take_le (txG (txC r [95, 95])) x.l (j + 1)
        have h2 := LEI.out
        rw [NX.out]
        omega)
      have CC := Lib.hid (fun W2 => comma_any W2 _ _ LJ.out)
      rw [← hM.out, NX.out] at CC
      obtain ⟨Z, hZ⟩ : ∃ q : ByteArray, q = ⟨(itemsT (txG (txC r [95, 95])) 0 (x.l.take (j + 1))).toArray⟩ := ⟨_, rfl⟩
      rw [← hZ] at CC
      have HZ := Lib.hid hZ
      have TG := Lib.hid (show txG (txC r [95, 95]) g.t = if g.k = 1 then txV 12 g.x.t else if g.k = 2 then txP 12 g.q.t else if g.k = 3 then txC r [95, 95] g.l else g.s.toList from rfl)
      obtain ⟨tx, htx⟩ : ∃ q : Bs, q = txG (txC r [95, 95]) g.t := ⟨_, rfl⟩
      rw [← htx] at CC TG LY
      obtain ⟨Y, hY⟩ : ∃ q : ByteArray, q = ⟨tx.toArray⟩ := ⟨_, rfl⟩
      rw [← hY] at CC
      have HY := Lib.hid hY
      have RG := Lib.hid rg
      obtain ⟨q0, q1, q2, q3, q4, q5, q6, q7, q8, q9, q10⟩ := q
      clear hg eA hb2 hlt2 hZ htx hY okg kk k3 m1 m2 m4 rg hS hM
      go_upto_region 10 with fail
      have kb := BG.new wr g
      generalize hW : World.alloc wr _ = W
      have KB : Hid (BG W wr.heap.size g) := Lib.hid (by rw [← hW]; exact kb)
      have HB : Hid (Below wr.heap.size wr W) := Lib.hid (by rw [← hW]; exact below_new _ _)
      obtain ⟨a0, a1, a2, a3, a4, a5, a6, a7, a8, a9, a10, _⟩ := KB.out
      clear hW kb q0 q1 q2 q3 q4 q5 q6 q7 q8 q9 q10 s1
      by_cases h1 : g.k = 1
      case pos =>
        have n1 : (g.k == 1) = true := by rw [h1]; rfl
        obtain ⟨nv, hv⟩ := RG.out.v
        have HV := Lib.hid (show g.x.In wr nv from hv)
        have EQ := Lib.hid (show tx = txV 12 g.x.t by rw [TG.out, if_pos h1])
        have CT := Lib.hid (rtx_any 12 W nv g.x (M1.out h1) (by rw [← EQ.out]; exact LY.out) (HV.out.next HB.out))
        rw [← EQ.out, ← HY.out] at CT
        clear hv h1
        go_wp2_with fail
        refine CT.out.mono ?_
        rintro e2 w2 ⟨rfl, hb⟩
        have HB2 := Lib.hid (bnext HB.out hb)
        have CW := Lib.hid (CC.out w2)
        clear hb CT CC a0 a1 a2 a3 a4 a5 a6 a7 a8 a9 a10
        go_wp2_with fail
        refine CW.out.mono ?_
        rintro e2 w3 ⟨rfl, hw3⟩
        subst hw3
        clear CW
        go_wp2
        go_roundw
        case rel => exact ⟨j + 1, Z, by omega, by go_num, rfl, HZ, Lib.hid (bnext hbel2.out HB2.out)⟩
        case measure => simp [intOf]; omega
      have n1 : (g.k == 1) = false := by rw [beq_eq_false_iff_ne]; exact h1
      by_cases h2 : g.k = 2
      case pos =>
        have n2 : (g.k == 2) = true := by rw [h2]; rfl
        obtain ⟨np, hp⟩ := RG.out.p
        have HP := Lib.hid (show g.q.In wr np from hp)
        have EQ := Lib.hid (show tx = txP 12 g.q.t by rw [TG.out, if_neg h1, if_pos h2])
        have CT := Lib.hid (rtxP_any 12 W np g.q (M2.out h2) (by rw [← EQ.out]; exact LY.out) (HP.out.next HB.out))
        rw [← EQ.out, ← HY.out] at CT
        clear hp h1 h2
        go_wp2_with fail
        refine CT.out.mono ?_
        rintro e2 w2 ⟨rfl, hb⟩
        have HB2 := Lib.hid (bnext HB.out hb)
        have CW := Lib.hid (CC.out w2)
        clear hb CT CC a0 a1 a2 a3 a4 a5 a6 a7 a8 a9 a10
        go_wp2_with fail
        refine CW.out.mono ?_
        rintro e2 w3 ⟨rfl, hw3⟩
        subst hw3
        clear CW
        go_wp2
        go_roundw
        case rel => exact ⟨j + 1, Z, by omega, by go_num, rfl, HZ, Lib.hid (bnext hbel2.out HB2.out)⟩
        case measure => simp [intOf]; omega
      have n2 : (g.k == 2) = false := by rw [beq_eq_false_iff_ne]; exact h2
      by_cases h3 : g.k = 3
      case pos =>
        have n3 : (g.k == 3) = true := by rw [h3]; rfl
        have HC := Lib.hid RG.out.c
        have EQ := Lib.hid (show tx = txC r [95, 95] g.l by rw [TG.out, if_neg h1, if_neg h2, if_pos h3])
        have hbg := RG.out.c.big
        have CT := Lib.hid (IH.out W _ g.A g.c g.l [95, 95] (K3.out h3) (by rw [← EQ.out]; exact LY.out) (HC.out.next HB.out))
        rw [← EQ.out, ← HY.out, show (⟨([95, 95] : Bs).toArray⟩ : ByteArray) = ⟨#[95, 95]⟩ from rfl] at CT
        clear h1 h2 h3
        go_wp2_with fail
        refine CT.out.mono ?_
        rintro e2 w2 ⟨rfl, hb⟩
        have HB2 := Lib.hid (bnext HB.out hb)
        have CW := Lib.hid (CC.out w2)
        clear hb CT CC a0 a1 a2 a3 a4 a5 a6 a7 a8 a9 a10
        go_wp2_with fail
        refine CW.out.mono ?_
        rintro e2 w3 ⟨rfl, hw3⟩
        subst hw3
        clear CW
        go_wp2
        go_roundw
        case rel => exact ⟨j + 1, Z, by omega, by go_num, rfl, HZ, Lib.hid (bnext hbel2.out HB2.out)⟩
        case measure => simp [intOf]; omega
      have n3 : (g.k == 3) = false := by rw [beq_eq_false_iff_ne]; exact h3
      have EQ := Lib.hid (show g.s = Y by rw [HY.out, TG.out, if_neg h1, if_neg h2, if_neg h3, toArr])
      have CW := Lib.hid (CC.out W)
      rw [← EQ.out] at CW
      clear h1 h2 h3 CC
      go_wp2_with fail
      refine CW.out.mono ?_
      rintro e2 w3 ⟨rfl, hw3⟩
      subst hw3
      clear CW
      go_wp2
      go_roundw
      case rel => exact ⟨j + 1, Z, by omega, by go_num, rfl, HZ, Lib.hid (bnext hbel2.out HB.out)⟩
      case measure => simp [intOf]; omega
theorem rtext_any : ∀ r, RText r
  | 0 => fun _ _ _ _ _ _ h => by cases h
  | r + 1 => rtext_succ r (rtext_any r)
set_option maxHeartbeats 1600000 in
/-- The document's Print. -/
theorem rPrint_any (w : World) (d : Nat) (A : Option Addr) (c : Nat) (l : List C) (hD : DpC 15 l) (hl : qOk l = true → (txC 10 [103] l).length ≤ MX) (h : Ch w 0 w.heap.size d A c l) :
    Calls Tryz.prog 10 #[.slice A l.length c] w fun e w' => e = .returned (.tuple #[.string ⟨(prtS l).toArray⟩, .int .i64 (errI (qOk l))]) ∧ Below w.heap.size w w' := by
  have H := Lib.hid h
  have CT := Lib.hid (rCheck_any w d A c l hD h)
  have RT := Lib.hid (fun (W : World) (hW : Ch W 0 W.heap.size d A c l) (ho : qOk l = true) => rtext_any 10 W d A c l [103] (by
    have h1 : (decide (cntP 11 l ≤ 200) && chOk 10 l) = true := ho
    rw [Bool.and_eq_true] at h1
    exact h1.2) (hl ho) hW)
  have PS := Lib.hid (show prtS l = if qOk l then txC 10 [103] l else [] from rfl)
  clear h hD hl
  cases hq : qOk l
  case false =>
    rw [hq] at CT PS
    go_enter Tryz.func10, Tryz.ntmps10
    go_wp2_with fail
    refine CT.out.mono ?_
    rintro e w2 ⟨rfl, hb⟩
    have HB := Lib.hid hb
    clear hb CT
    go_wp2
    go_ret2
    exact ⟨by rw [PS.out]; rfl, HB.out⟩
  case true =>
    rw [hq] at CT PS
    go_enter Tryz.func10, Tryz.ntmps10
    go_wp2_with fail
    refine CT.out.mono ?_
    rintro e w2 ⟨rfl, hb⟩
    have HB := Lib.hid hb
    have CT2 := Lib.hid (RT.out w2 (H.out.next hb) hq)
    rw [show (⟨([103] : Bs).toArray⟩ : ByteArray) = ⟨#[103]⟩ from rfl] at CT2
    obtain ⟨Z, hZ⟩ : ∃ q : ByteArray, q = ⟨(txC 10 [103] l).toArray⟩ := ⟨_, rfl⟩
    rw [← hZ] at CT2
    have FZ := Lib.hid (show Z = ⟨(prtS l).toArray⟩ by rw [PS.out]; exact hZ)
    clear hb CT hZ
    go_wp2_with fail
    refine CT2.out.mono ?_
    rintro e w3 ⟨rfl, hb⟩
    have HB3 := Lib.hid (bnext HB.out hb)
    clear hb CT2
    go_wp2
    go_ret2
    exact ⟨by rw [← FZ.out]; rfl, HB3.out⟩
end Go.Proofs.YtiiopbcihieblaaGreatDoor
/- The law of TreePrints. -/
namespace Go.Proofs.YtiiopbcihieblaaGreatDoor
set_option maxRecDepth 100000
open Go.RowKit Go.Sort

structure PJ (W : World) (d : Nat) (A : Option Addr) (c : Nat) (l : List C) (w : World) : Prop where
  bel : Below W.heap.size W w
  nm : NM w
  ch : Ch w 0 w.heap.size d A c l
theorem PJ.next {W : World} {d : Nat} {A : Option Addr} {c : Nat} {l : List C} {a b : World} (h : PJ W d A c l a) (hb : Below a.heap.size a b) : PJ W d A c l b := ⟨bnext h.bel hb, h.nm.next hb, h.ch.next hb⟩
set_option maxHeartbeats 6400000 in
theorem prints_law (W : World) (hm : NM W) (d : Nat) (A : Option Addr) (c : Nat) (l : List C) (hl : Ch W 0 W.heap.size d A c l) :
    Calls Tryz.prog 3 #[.slice A l.length c] W fun e w' => e = .returned (.bool true) ∧ Below W.heap.size W w' := by
  have HM := Lib.hid hm
  have HL := Lib.hid hl
  have hbl := hl.big
  have CT := Lib.hid (much_anyD W _ A c l hl)
  clear hm hl
  go_enter Tryz.func3, Tryz.ntmps3
  go_wp2_with fail
  refine CT.out.mono ?_
  rintro e w1 ⟨b1, rfl, hb, hs1⟩
  have B1 := Lib.hid hb
  have HS1 := Lib.hid hs1
  have HL1 := Lib.hid (HL.out.next hb)
  clear CT hb hs1 HL
  cases b1
  case true =>
    have CT := Lib.hid (known_any w1 (HM.out.next B1.out))
    go_wp2_with fail
    refine CT.out.mono ?_
    rintro e w2 ⟨rfl, hb⟩
    have B2 := Lib.hid (bnext B1.out hb)
    clear CT hb
    go_wp2
    go_ret
    exact ⟨rfl, B2.out⟩
  replace HS1 := Lib.hid (by first | exact HS1.out rfl | exact HS1.out trivial)
  have LEN := Lib.hid (show qOk l = true → (txC 10 [103] l).length ≤ MX from fun h => by have := HS1.out.1 h; unfold MX; omega)
  have DP := Lib.hid (show DpC 15 l from HS1.out.2)
  clear HS1
  obtain ⟨SA, hSA⟩ : ∃ s : ByteArray, s = ⟨(prtS l).toArray⟩ := ⟨_, rfl⟩
  obtain ⟨E, hE⟩ : ∃ z, z = errI (qOk l) := ⟨_, rfl⟩
  obtain ⟨nv, hnv⟩ : ∃ z, z = nestV 10 l := ⟨_, rfl⟩
  obtain ⟨cv, hcv⟩ : ∃ z, z = callsV l := ⟨_, rfl⟩
  have P1 : Hid (∀ w, PJ W d A c l w → Calls Tryz.prog 9 #[.slice A l.length c] w fun e w' => e = .returned (.tuple #[.string SA, .int .i64 E]) ∧ Below w.heap.size w w') := Lib.hid (fun w h => by rw [hSA, hE]; exact tprint_any w h.nm _ A c l h.ch LEN.out)
  have P2 : Hid (∀ w, PJ W d A c l w → Calls Tryz.prog 10 #[.slice A l.length c] w fun e w' => e = .returned (.tuple #[.string SA, .int .i64 E]) ∧ Below w.heap.size w w') := Lib.hid (fun w h => by rw [hSA, hE]; exact rPrint_any w _ A c l DP.out LEN.out h.ch)
  have CK1 : Hid (∀ w, PJ W d A c l w → Calls Tryz.prog 11 #[.slice A l.length c] w fun e w' => e = .returned (.int .i64 E) ∧ Below w.heap.size w w') := Lib.hid (fun w h => by rw [hE]; exact tcheck_any w h.nm _ A c l h.ch)
  have CK2 : Hid (∀ w, PJ W d A c l w → Calls Tryz.prog 12 #[.slice A l.length c] w fun e w' => e = .returned (.int .i64 E) ∧ Below w.heap.size w w') := Lib.hid (fun w h => by rw [hE]; exact rCheck_any w _ A c l DP.out h.ch)
  have CN1 : Hid (∀ w, PJ W d A c l w → Calls Tryz.prog 13 #[.slice A l.length c] w fun e w' => e = .returned (.int .i64 (nv : Int)) ∧ Below w.heap.size w w') := Lib.hid (fun w h => by rw [hnv]; exact nest_any w _ A c l h.ch)
  have CN2 : Hid (∀ w, PJ W d A c l w → Calls Tryz.prog 14 #[.slice A l.length c] w fun e w' => e = .returned (.int .i64 (nv : Int)) ∧ Below w.heap.size w w') := Lib.hid (fun w h => by rw [hnv]; exact rNest_any w _ A c l h.ch)
  have CC1 : Hid (∀ w, PJ W d A c l w → Calls Tryz.prog 15 #[.slice A l.length c] w fun e w' => e = .returned (.int .i64 (cv : Int)) ∧ Below w.heap.size w w') := Lib.hid (fun w h => by rw [hcv]; exact calls_any w _ A c l h.ch)
  have CC2 : Hid (∀ w, PJ W d A c l w → Calls Tryz.prog 16 #[.slice A l.length c] w fun e w' => e = .returned (.int .i64 (cv : Int)) ∧ Below w.heap.size w w') := Lib.hid (fun w h => by rw [hcv]; exact rCalls_any w _ A c l h.ch)
  have KN : Hid (∀ w, PJ W d A c l w → Calls Tryz.prog 8 #[] w fun e w' => e = .returned (.bool true) ∧ Below w.heap.size w w') := Lib.hid (fun w h => known_any w h.nm)
  have J1 := Lib.hid (show PJ W d A c l w1 from ⟨B1.out, HM.out.next B1.out, HL1.out⟩)
  clear hSA hE hnv hcv HM HL1 B1 LEN DP
  have CT := Lib.hid (P1.out w1 J1.out)
  go_wp2_with fail
  refine CT.out.mono ?_
  rintro e w2 ⟨rfl, hb⟩
  have J2 := Lib.hid (J1.out.next hb)
  clear CT hb J1 P1
  have CT := Lib.hid (P2.out w2 J2.out)
  go_wp2_with fail
  refine CT.out.mono ?_
  rintro e w3 ⟨rfl, hb⟩
  have HJ := Lib.hid (J2.out.next hb)
  clear CT hb J2 P2
  have hs : (SA.toList == SA.toList) = true := beq_self_eq_true _
  have he : (E == E) = true := beq_self_eq_true _
  have hn : ((nv : Int) == (nv : Int)) = true := beq_self_eq_true _
  have hc : ((cv : Int) == (cv : Int)) = true := beq_self_eq_true _
  have CT := Lib.hid (CK1.out w3 HJ.out)
  go_wp2_with fail
  refine CT.out.mono ?_
  rintro e w4 ⟨rfl, hb⟩
  replace HJ := Lib.hid (HJ.out.next hb)
  clear CT hb CK1
  have CT := Lib.hid (CK2.out w4 HJ.out)
  go_wp2_with fail
  refine CT.out.mono ?_
  rintro e w5 ⟨rfl, hb⟩
  replace HJ := Lib.hid (HJ.out.next hb)
  clear CT hb CK2
  have CT := Lib.hid (CN1.out w5 HJ.out)
  go_wp2_with fail
  refine CT.out.mono ?_
  rintro e w6 ⟨rfl, hb⟩
  replace HJ := Lib.hid (HJ.out.next hb)
  clear CT hb CN1
  have CT := Lib.hid (CN2.out w6 HJ.out)
  go_wp2_with fail
  refine CT.out.mono ?_
  rintro e w7 ⟨rfl, hb⟩
  replace HJ := Lib.hid (HJ.out.next hb)
  clear CT hb CN2
  have CT := Lib.hid (CC1.out w7 HJ.out)
  go_wp2_with fail
  refine CT.out.mono ?_
  rintro e w8 ⟨rfl, hb⟩
  replace HJ := Lib.hid (HJ.out.next hb)
  clear CT hb CC1
  have CT := Lib.hid (CC2.out w8 HJ.out)
  go_wp2_with fail
  refine CT.out.mono ?_
  rintro e w9 ⟨rfl, hb⟩
  replace HJ := Lib.hid (HJ.out.next hb)
  clear CT hb CC2
  have CT := Lib.hid (KN.out w9 HJ.out)
  go_wp2_with fail
  refine CT.out.mono ?_
  rintro e w10 ⟨rfl, hb⟩
  replace HJ := Lib.hid (HJ.out.next hb)
  clear CT hb KN
  go_wp2
  go_ret
  exact ⟨rfl, HJ.out.bel⟩
end Go.Proofs.YtiiopbcihieblaaGreatDoor
