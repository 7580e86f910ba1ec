/- Rows: the texts of values, a line each. -/
import Derived.Test.YtmgjiipooffggaaNc
namespace Go.Proofs.Ytmgjiipooffggaa
set_option maxRecDepth 100000
open Go.RowKit Go.Sort

/-- The lines. -/
def rowsT : List V → Bs
  | [] => []
  | x :: r => txt 12 x ++ (10 :: rowsT r)
theorem rowsT_append : ∀ a b, rowsT (a ++ b) = rowsT a ++ rowsT b
  | [], b => rfl
  | x :: a, b => by simp [rowsT, rowsT_append a b]
theorem rowsT_next (l : List V) (k : Nat) {x : V} (h : l[k]? = some x) : rowsT (l.take (k + 1)) = rowsT (l.take k) ++ (txt 12 x ++ [10]) := by
  rw [take_next l k h, rowsT_append]; rfl
theorem rowsT_take_le (l : List V) (k : Nat) : (rowsT (l.take k)).length ≤ (rowsT l).length := by
  conv => rhs; rw [← List.take_append_drop k l, rowsT_append]
  simp

set_option maxHeartbeats 1600000 in
theorem rows_bad (w : World) (d : Nat) (A : Option Addr) (c : Nat) (l : List V) (h : Rw w 0 w.heap.size d A c l) (hno : (l.any fun x => !okV 12 x) = true) :
    Calls Try.prog 14 #[.slice A l.length c] w fun e w' => e = .returned (.tuple #[.string ⟨#[]⟩, .int .i64 2]) ∧ Below w.heap.size w w' := by
  have CN := containsNot w d A c l h
  rw [hno] at CN
  replace CN := Lib.hid CN
  clear h hno
  go_enter Try.func14, Try.ntmps14
  go_wp2_with fail
  refine CN.out.mono ?_
  rintro e w1 ⟨rfl, hb⟩
  have HB := Lib.hid hb
  clear hb CN
  go_wp2
  go_ret2
  exact ⟨rfl, HB.out⟩

set_option maxHeartbeats 3200000 in
theorem rows_good (w : World) (d : Nat) (A : Option Addr) (c : Nat) (l : List V) (h : Rw w 0 w.heap.size d A c l) (hok : ∀ x ∈ l, okV 12 x = true) (hl : (rowsT l).length ≤ 140737488355328) :
    Calls Try.prog 14 #[.slice A l.length c] w fun e w' => e = .returned (.tuple #[.string ⟨(rowsT l).toArray⟩, .int .i64 0]) ∧ Below w.heap.size w w' := by
  have hno : (l.any fun x => !okV 12 x) = false := by
    rw [List.any_eq_false]
    intro x hx
    simp [hok x hx]
  have CN := containsNot w d A c l h
  rw [hno] at CN
  replace CN := Lib.hid CN
  have HR := Lib.hid h
  have OK := Lib.hid hok
  have HL := Lib.hid hl
  have hbl := h.big
  clear h hno hok hl
  obtain ⟨PS, hPS⟩ : ∃ s : ByteArray, s = ⟨(rowsT l).toArray⟩ := ⟨_, rfl⟩
  rw [← hPS]
  replace hPS := Lib.hid hPS
  go_enter Try.func14, Try.ntmps14
  go_wp2_with fail
  refine CN.out.mono ?_
  rintro e w1 ⟨rfl, hb⟩
  have HB := Lib.hid hb
  have HR1 := Lib.hid (HR.out.next hb)
  clear hb CN HR
  have z0 := below_new w1 (.cells #[.pointer none, .slice none 0 0] 52)
  have wb := wb_start w1
  go_upto_region 5 with fail
  generalize hW2 : World.alloc w1 _ = W2 at z0 wb ⊢
  clear hW2
  have HWB := Lib.hid wb
  have HRB := Lib.hid (HR1.out.below (B' := w1.heap.size) z0 (Nat.le_refl _))
  have BB := Lib.hid (bnext HB.out z0)
  have HZ := Lib.hid z0
  clear z0 wb
  obtain ⟨b, hgb⟩ : ∃ g : Nat, g = w1.heap.size := ⟨_, rfl⟩
  rw [← hgb] at HZ HWB HRB ⊢
  replace hgb := Lib.hid hgb
  go_wp2_with fail
  go_loopw [13] (fun i wr => ∃ k : Nat, i = .int .i64 k ∧ k ≤ l.length ∧ Hid (WP b b (rowsT (l.take k)) W2 wr)) (fun i _ => l.length - (RowKit.intOf i).toNat)
  case atStart => exact ⟨0, rfl, by omega, Lib.hid ⟨by simpa [rowsT] using HWB.out, WK.refl _ _ _⟩⟩
  case round =>
    obtain ⟨k, rfl, hk, hp⟩ := hrel
    have TL := Lib.hid (rowsT_take_le l k)
    by_cases hlt : k < l.length
    · obtain ⟨bb, off, t, A1, c1, A2, c2, rfl, _, hb, ht, q, rt⟩ := (HRB.out.below (B' := b) hp.out.2.1 (Nat.le_refl _)).elem hlt
      obtain ⟨q0, q1, q2, q3, q4⟩ := q
      have RT := Lib.hid rt
      have OT := Lib.hid (OK.out t (List.mem_of_getElem? ht))
      have NX := Lib.hid (rowsT_next l k ht)
      have TL2 := Lib.hid (rowsT_take_le l (k + 1))
      have LN : Hid ((rowsT (l.take (k + 1))).length = (rowsT (l.take k)).length + ((txt 12 t).length + 1)) := Lib.hid (by rw [NX.out]; simp)
      have k0 : (0 : Int) ≤ (k : Int) := by omega
      have k1 : (k : Int) < (l.length : Int) := by omega
      clear rt ht
      obtain ⟨x, hx⟩ : ∃ x : At, x = ⟨t, A1, c1, A2, c2⟩ := ⟨_, rfl⟩
      have b0 := below_new wr (.cells #[.int .i64 t.k, .int .i64 t.n, .string t.s, .slice A1 t.l.length c1, .slice A2 t.m.length c2] 24)
      have hbx := Bx.new wr x
      have WR0 := Lib.hid hp.out.1
      have K0 := Lib.hid hp.out.2
      go_upto_region 8 with fail
      rw [hx] at hbx
      generalize hW : World.alloc wr _ = W at b0 hbx ⊢
      have hsz : wr.heap.size < W.heap.size := by rw [← hW]; simp
      clear hW hx
      have W0 := Lib.hid (WR0.out.next b0)
      have KW := Lib.hid (K0.out.trans (WK.below b0 WR0.out.2))
      have BW := Lib.hid (b0.mono WR0.out.2)
      have HBX := Lib.hid hbx
      have hgb2 := Lib.hid (show wr.heap.size ≠ b by have := WR0.out.lt; omega)
      clear b0 hbx q0 q1 q2 q3 q4
      generalize wr.heap.size = gx at *
      obtain ⟨q0, q1, q2, q3, q4, _⟩ := HBX.out
      have RT2 := Lib.hid (Rd.below RT.out BW.out (Nat.le_refl _))
      have WT := Lib.hid (write_any 12 W b b (rowsT (l.take k)) d ⟨t, A1, c1, A2, c2⟩ W0.out RT2.out OT.out (by show (rowsT (l.take k)).length + (txt 12 t).length ≤ _; have := HL.out; have := TL2.out; have := LN.out; omega))
      go_wp2_with fail
      refine WT.out.mono ?_
      rintro e w3 ⟨rfl, hw⟩
      have HW3 := Lib.hid hw
      clear hw WT q0 q1 q2 q3 q4
      have WE := Lib.hid (str_any w3 b b (rowsT (l.take k) ++ txt 12 t) ⟨#[10]⟩ HW3.out.1 (by have := HL.out; have := TL2.out; have := LN.out; rw [List.length_append]; show _ + 1 ≤ _; omega))
      go_wp2_with fail
      refine WE.out.mono ?_
      rintro e w4 ⟨rfl, hw⟩
      have HW4 := Lib.hid hw
      clear hw WE
      go_wp2
      go_roundw
      case rel => exact ⟨k + 1, by go_num, by omega, Lib.hid ⟨by rw [NX.out]; have := HW4.out.1; rw [show (⟨#[10]⟩ : ByteArray).toList = [10] from lit_list [10]] at this; simpa using this, (KW.out.trans HW3.out.2).trans HW4.out.2⟩⟩
      case measure => simp [RowKit.intOf]; omega
    · obtain rfl : k = l.length := by omega
      have ST := Lib.hid (string_any wr b b (rowsT (l.take l.length)) hp.out.1)
      rw [List.take_length, ← hPS.out] at ST
      go_wp2_with fail
      refine ST.out.mono ?_
      rintro e w2 ⟨rfl, hw⟩
      have HW2 := Lib.hid hw
      clear hw ST
      go_wp2
      go_ret2
      refine ⟨rfl, ?_⟩
      have h1 := HB.out
      have h2 := HZ.out
      have h3 := hp.out.2.1
      have h4 := HW2.out.2.1
      rw [hgb.out] at h2 h3 h4
      exact bnext h1 ((h2.trans h3).trans h4)

end Go.Proofs.Ytmgjiipooffggaa
