/- Carried over from an earlier seat. -/
import Derived.Test.YtiiopbcihieblaaDoorTY
namespace Go.Proofs.YtiiopbcihieblaaDoor
set_option maxRecDepth 100000
set_option maxRecDepth 100000
set_option maxRecDepth 100000
open Go.RowKit Go.Sort

theorem txV_1 (r : Nat) (t : V) (h : (t.k == 1) = true) : txV (r + 1) t = (if t.n = 0 then [102, 97, 108, 115, 101] else [116, 114, 117, 101]) := by
  have h' : t.k = 1 := by simpa using h
  show (if _ then _ else _) = _
  rw [if_pos h']
theorem txV_2 (r : Nat) (t : V) (h : (t.k == 2) = true) : txV (r + 1) t = digL t.n := by
  have h' : t.k = 2 := by simpa using h
  show (if _ then _ else _) = _
  rw [if_neg (by omega), if_pos h']
theorem txV_3 (r : Nat) (t : V) (h : (t.k == 3) = true) : txV (r + 1) t = qT t.s.toList := by
  have h' : t.k = 3 := by simpa using h
  show (if _ then _ else _) = _
  rw [if_neg (by omega), if_neg (by omega), if_pos h']
theorem txV_6 (r : Nat) (t : V) (h : (t.k == 6) = true) : txV (r + 1) t = [91] ++ (itemsT (txV r) 0 t.l ++ [93]) := by
  have h' : t.k = 6 := by simpa using h
  show (if _ then _ else _) = _
  rw [if_neg (by omega), if_neg (by omega), if_neg (by omega)]
def VWrite (r : Nat) : Prop := ∀ (w : World) (B b : Nat) (bs : Bs) (d : Nat) (x : At), NM w → 0 < B → WB w B b bs → Rd w 0 B d x.t x.A x.c x.A' x.c' → okV r x.t = true → wrV r x.t = true → bs.length + (txV r x.t).length ≤ MX →
  Calls Tryd.prog 43 #[.pointer (some ⟨b, 0, none⟩), x.v] w (WPost B b (bs ++ txV r x.t) w)
set_option maxHeartbeats 3200000 in
theorem vwrite_succ (r : Nat) (ih : VWrite r) : VWrite (r + 1) := by
  intro w B b bs d x hm hB h hr ho hw hl
  have HB := hB
  clear hB
  obtain ⟨d', rfl⟩ := hr.pos
  have OL := Lib.hid ((ok_parts r x.t).1 ho).2.1
  have FN : Hid (fitsB x.t.n = true) := Lib.hid (by rw [fits_iff]; exact ⟨hr.1.n0, hr.1.n1⟩)
  have T1 := Lib.hid (txV_1 r x.t)
  have T2 := Lib.hid (txV_2 r x.t)
  have T3 := Lib.hid (txV_3 r x.t)
  have T6 := Lib.hid (txV_6 r x.t)
  have W6 := Lib.hid (wrV_6 r x.t)
  have WN := Lib.hid (wrV_no r x.t)
  have HW := Lib.hid hw
  have HL := Lib.hid hl
  have HM := Lib.hid hm
  have IH := Lib.hid ih
  have H := Lib.hid h
  have HR := Lib.hid hr
  obtain ⟨tx, htx⟩ : ∃ tx : Bs, tx = txV (r + 1) x.t := ⟨_, rfl⟩
  rw [← htx] at T1 T2 T3 T6 HL ⊢
  clear hm h hr ho hw hl ih htx
  have b0 := below_new w (.cells #[.int .i64 x.t.k, .int .i64 x.t.n, .string x.t.s, .slice x.A x.t.l.length x.c, .slice x.A' x.t.m.length x.c'] 32)
  have hbx := Bx.new w x
  unfold At.v
  go_enter Tryd.func43, Tryd.ntmps43
  go_upto_region 1 with fail
  generalize hW : World.alloc w _ = W at b0 hbx ⊢
  clear hW
  have WBW := Lib.hid (H.out.next b0)
  have K0 := Lib.hid (WK.below (b := b) b0 H.out.2)
  have RL := Lib.hid (HR.out.2.1.below (B' := B) (b0.mono H.out.2) (Nat.le_refl _))
  have HMW := Lib.hid (HM.out.next b0)
  obtain ⟨a0, a1, a2, a3, a4, _⟩ := hbx
  clear b0
  cases n1 : (x.t.k == 1)
  case true =>
    have TX := T1.out n1
    have WR := truth_any W B b bs x.t.n WBW.out (by have := HL.out; rwa [TX] at this)
    rw [← TX] at WR
    replace WR := Lib.hid WR
    clear TX
    go_wp2_with fail
    refine WR.out.mono ?_
    rintro e w2 ⟨rfl, hw⟩
    have HW2 := Lib.hid hw
    clear hw WR a0 a1 a2 a3 a4
    go_wp2
    go_end0
    exact ⟨rfl, HW2.out.1, K0.out.trans HW2.out.2⟩
  cases n2 : (x.t.k == 2)
  case true =>
    have TX := T2.out n2
    have HL2 := Lib.hid (show bs.length + (digL x.t.n).length ≤ MX by have := HL.out; rwa [TX] at this)
    replace TX := Lib.hid TX
    have DG := Lib.hid (fun X => digits_any x.t.n X FN.out)
    go_upto_region 5 with fail
    go_region_with (first
      | (go_at_call 57; (with_reducible refine (DG.out _).mono ?_); rintro e w2 ⟨rfl, hb⟩; have W2 := Lib.hid (WBW.out.drew.next hb); have K2 := Lib.hid ((K0.out.trans (WK.drew _ _ _)).trans (WK.below (b := b) hb WBW.out.drew.2)); clear hb; have WR := Lib.hid (str_lit w2 B b bs (digL x.t.n) W2.out HL2.out))
      | (go_at_call 23; (with_reducible refine WR.out.mono ?_); rintro e w3 ⟨rfl, hw⟩; have HW3 := Lib.hid hw; clear hw))
    all_goals
      clear a0 a1 a2 a3 a4
      go_wp2
      go_end0
      exact ⟨rfl, by rw [TX.out]; exact HW3.out.1, K2.out.trans HW3.out.2⟩
  cases n3 : (x.t.k == 3)
  case true =>
    have TX := T3.out n3
    have WR := wtxt_any W B b bs x.t.s WBW.out (by have := HL.out; rwa [TX] at this)
    rw [← TX] at WR
    replace WR := Lib.hid WR
    clear TX
    go_wp2_with fail
    refine WR.out.mono ?_
    rintro e w2 ⟨rfl, hw⟩
    have HW2 := Lib.hid hw
    clear hw WR a0 a1 a2 a3 a4
    go_wp2
    go_end0
    exact ⟨rfl, HW2.out.1, K0.out.trans HW2.out.2⟩
  cases n6 : (x.t.k == 6)
  case false =>
    have := WN.out n1 n2 n3 n6
    rw [HW.out] at this
    cases this
  have TX := T6.out n6
  have WL : ∀ y ∈ x.t.l, okV r y = true ∧ wrV r y = true := fun y hy => ⟨OL.out y hy, by
    have h1 := W6.out n6
    rw [HW.out] at h1
    exact List.all_eq_true.1 h1.symm y hy⟩
  have WR := writeRowV (txV r) (fun t => okV r t = true ∧ wrV r t = true) B b d' (fun X bs' y hmX hwb hrd hs hlen => IH.out X B b bs' d' y hmX HB hwb hrd hs.1 hs.2 hlen) W HMW.out HB bs [91] [93] ⟨#[91]⟩ ⟨#[93]⟩ (lit_list [91]) (lit_list [93]) x.A x.c x.t.l WBW.out RL.out WL (by have := HL.out; rwa [TX] at this)
  rw [← TX] at WR
  replace WR := Lib.hid WR
  clear TX WL
  go_wp2_with fail
  refine WR.out.mono ?_
  rintro e w2 ⟨rfl, hw⟩
  have HW2 := Lib.hid hw
  clear hw WR a0 a1 a2 a3 a4
  go_wp2
  go_end0
  exact ⟨rfl, HW2.out.1, K0.out.trans HW2.out.2⟩
theorem vwrite_any : ∀ r, VWrite r
  | 0 => fun _ _ _ _ _ _ _ _ _ _ h => by cases h
  | r + 1 => vwrite_succ r (vwrite_any r)
end Go.Proofs.YtiiopbcihieblaaDoor


