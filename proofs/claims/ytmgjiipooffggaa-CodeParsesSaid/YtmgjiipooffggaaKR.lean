/- writeRow, writeDict, write. -/
import Derived.Test.YtmgjiipooffggaaKP
namespace Go.Proofs.Ytmgjiipooffggaa
set_option maxRecDepth 100000
open Go.RowKit Go.Sort

theorem pair_zip {α β : Type} {l : List α} {m : List β} {k : Nat} {x : α} {y : β} (h1 : l[k]? = some x) (h2 : m[k]? = some y) : (l.zip m)[k]? = some (x, y) := by
  rw [List.getElem?_zip_eq_some]; exact ⟨h1, h2⟩

set_option maxHeartbeats 1600000 in
theorem writeRow_any (r : Nat) (ih : WriteOk r) (w : World) (B b : Nat) (bs L : Bs) (d : Nat) (A : Option Addr) (c : Nat) (l : List V) (h : WB w B b bs) (hr : Rw w 0 B d A c l) (hok : ∀ x ∈ l, okV r x = true) (hl : bs.length + (L ++ (itemsT (txt r) 0 l ++ [93])).length ≤ 140737488355328) :
    Calls Try.prog 44 #[.pointer (some ⟨b, 0, none⟩), .string ⟨L.toArray⟩, .slice A l.length c] w (WPost B b (bs ++ (L ++ (itemsT (txt r) 0 l ++ [93]))) w) := by
  have HL : Hid (bs.length + L.length + (itemsT (txt r) 0 l).length + 1 ≤ 140737488355328) := Lib.hid (by simp at hl; omega)
  have S1 := Lib.hid (str_lit w B b bs L h (by have := HL.out; omega))
  have HR := Lib.hid hr
  have OK := Lib.hid hok
  have IH := Lib.hid ih
  have BB := Lib.hid h.lt
  have hbig := hr.big
  clear h hr hok ih hl
  obtain ⟨sb, hsb⟩ : ∃ sb : ByteArray, sb = ⟨L.toArray⟩ := ⟨_, rfl⟩
  rw [← hsb] at S1 ⊢
  clear hsb
  go_enter Try.func44, Try.ntmps44
  go_wp2_with fail
  refine S1.out.mono ?_
  rintro e w1 ⟨rfl, hw⟩
  have HW := Lib.hid hw
  clear hw S1
  go_wp2_with fail
  go_loopw [13] (fun i wr => ∃ k : Nat, i = .int .i64 k ∧ k ≤ l.length ∧ Hid (WP B b (bs ++ L ++ itemsT (txt r) 0 (l.take k)) w wr)) (fun i _ => l.length - (RowKit.intOf i).toNat)
  case atStart => exact ⟨0, rfl, by omega, Lib.hid (by simpa [itemsT] using HW.out)⟩
  case round =>
    obtain ⟨k, rfl, hk, hp⟩ := hrel
    have TL := Lib.hid (itemsT_take_le (txt r) l k)
    by_cases hlt : k < l.length
    · obtain ⟨bb, off, t, A1, c1, A2, c2, rfl, _, hb, ht, q, rt⟩ := (HR.out.below (B' := B) hp.out.2.1 (Nat.le_refl _)).elem hlt
      obtain ⟨q0, q1, q2, q3, q4⟩ := q
      have RT := Lib.hid rt
      have OT := Lib.hid (OK.out t (List.mem_of_getElem? ht))
      have NX := Lib.hid (itemsT_next (txt r) l k ht)
      have TL2 := Lib.hid (itemsT_take_le (txt r) l (k + 1))
      have LN : Hid ((itemsT (txt r) 0 (l.take (k + 1))).length = (itemsT (txt r) 0 (l.take k)).length + ((cm k).length + (txt r t).length)) := Lib.hid (by rw [NX.out]; simp)
      have k0 : (0 : Int) ≤ (k : Int) := by omega
      have k1 : (k : Int) < (l.length : Int) := by omega
      clear rt ht
      obtain ⟨x, hx⟩ : ∃ x : At, x = ⟨t, A1, c1, A2, c2⟩ := ⟨_, rfl⟩
      have b0 := below_new wr (.cells #[.int .i64 t.k, .int .i64 t.n, .string t.s, .slice A1 t.l.length c1, .slice A2 t.m.length c2] 24)
      have hbx := Bx.new wr x
      have WR0 := Lib.hid hp.out.1
      have K0 := Lib.hid hp.out.2
      have HX := Lib.hid hx
      go_upto_region 4 with fail
      rw [hx] at hbx
      generalize hW : World.alloc wr _ = W at b0 hbx ⊢
      have hsz : wr.heap.size < W.heap.size := by rw [← hW]; simp
      clear hW hx
      have W0 := Lib.hid (WR0.out.next b0)
      have KW := Lib.hid (K0.out.trans (WK.below b0 WR0.out.2))
      have BW := Lib.hid (b0.mono WR0.out.2)
      have HBX := Lib.hid hbx
      have hgb := Lib.hid (show wr.heap.size ≠ b by have := WR0.out.lt; omega)
      clear b0 hbx q0 q1 q2 q3 q4
      generalize wr.heap.size = gx at *
      have WC := Lib.hid (writeComma_any W B b (bs ++ L ++ itemsT (txt r) 0 (l.take k)) k (by omega) W0.out (by have := HL.out; have := TL2.out; have := LN.out; simp; omega))
      go_wp2_with fail
      refine WC.out.mono ?_
      rintro e w2 ⟨rfl, hw⟩
      have HW2 := Lib.hid hw
      have KW2 := Lib.hid (KW.out.trans hw.2)
      obtain ⟨q0, q1, q2, q3, q4, _⟩ := Cell.kept HBX.out (hw.2.blk (Cell.blk HBX.out) hgb.out)
      clear hw WC
      have RT2 := Lib.hid (Rd.below RT.out (BW.out.trans HW2.out.2.1) (Nat.le_refl _))
      have WT := Lib.hid (IH.out w2 B b (bs ++ L ++ itemsT (txt r) 0 (l.take k) ++ cm k) d ⟨t, A1, c1, A2, c2⟩ HW2.out.1 RT2.out OT.out (by have := HL.out; have := TL2.out; have := LN.out; simp; omega))
      go_wp2_with fail
      refine WT.out.mono ?_
      rintro e w3 ⟨rfl, hw⟩
      have HW3 := Lib.hid hw
      clear hw WT q0 q1 q2 q3 q4
      go_wp2
      go_roundw
      case rel => exact ⟨k + 1, by go_num, by omega, Lib.hid ⟨by rw [NX.out]; have := HW3.out.1; simpa using this, KW2.out.trans HW3.out.2⟩⟩
      case measure => simp [RowKit.intOf]; omega
    · obtain rfl : k = l.length := by omega
      have WE := Lib.hid (str_lit wr B b (bs ++ L ++ itemsT (txt r) 0 (l.take l.length)) [93] hp.out.1 (by have := HL.out; have := TL.out; simp; omega))
      go_wp2_with fail
      refine WE.out.mono ?_
      rintro e w2 ⟨rfl, hw⟩
      have HW2 := Lib.hid hw
      clear hw WE
      go_wp2
      go_end0
      refine ⟨rfl, ?_, hp.out.2.trans HW2.out.2⟩
      have := HW2.out.1
      rw [List.take_length] at this
      simpa using this

set_option maxHeartbeats 1600000 in
theorem writeDict_any (r : Nat) (ih : WriteOk r) (w : World) (B b : Nat) (bs : Bs) (d : Nat) (A : Option Addr) (c : Nat) (l : List V) (A' : Option Addr) (c' : Nat) (m : List V) (h : WB w B b bs) (hr : Rw w 0 B d A c l) (hrm : Rw w 0 B d A' c' m) (hlm : m.length = l.length) (hok : ∀ x ∈ l, okV r x = true) (hokm : ∀ x ∈ m, okV r x = true) (hl : bs.length + ([123] ++ (itemsT (pairT (txt r)) 0 (l.zip m) ++ [125])).length ≤ 140737488355328) :
    Calls Try.prog 45 #[.pointer (some ⟨b, 0, none⟩), .slice A l.length c, .slice A' m.length c'] w (WPost B b (bs ++ ([123] ++ (itemsT (pairT (txt r)) 0 (l.zip m) ++ [125]))) w) := by
  have HL : Hid (bs.length + 1 + (itemsT (pairT (txt r)) 0 (l.zip m)).length + 1 ≤ 140737488355328) := Lib.hid (by simp at hl; omega)
  have S1 := Lib.hid (str_lit w B b bs [123] h (by have := HL.out; simp; omega))
  have HR := Lib.hid hr
  have HM := Lib.hid hrm
  have OK := Lib.hid hok
  have OM := Lib.hid hokm
  have IH := Lib.hid ih
  have LM := Lib.hid hlm
  have hbig := hr.big
  have hbigm := hrm.big
  have ZL : Hid ((l.zip m).length = l.length) := Lib.hid (by rw [List.length_zip]; omega)
  clear h hr hrm hok hokm ih hl hlm
  go_enter Try.func45, Try.ntmps45
  go_wp2_with fail
  refine S1.out.mono ?_
  rintro e w1 ⟨rfl, hw⟩
  have HW := Lib.hid hw
  clear hw S1
  go_wp2_with fail
  go_loopw [12] (fun i wr => ∃ k : Nat, i = .int .i64 k ∧ k ≤ l.length ∧ Hid (WP B b (bs ++ [123] ++ itemsT (pairT (txt r)) 0 ((l.zip m).take k)) w wr)) (fun i _ => l.length - (RowKit.intOf i).toNat)
  case atStart => exact ⟨0, rfl, by omega, Lib.hid (by simpa [itemsT] using HW.out)⟩
  case round =>
    obtain ⟨k, rfl, hk, hp⟩ := hrel
    have TL := Lib.hid (itemsT_take_le (pairT (txt r)) (l.zip m) k)
    by_cases hlt : k < l.length
    · obtain ⟨bb, off, t, A1, c1, A2, c2, rfl, _, hb, ht, q, rt⟩ := (HR.out.below (B' := B) hp.out.2.1 (Nat.le_refl _)).elem hlt
      obtain ⟨bm, offm, u, D1, d1, D2, d2, rfl, _, hbm, hu, qm, rum⟩ := (HM.out.below (B' := B) hp.out.2.1 (Nat.le_refl _)).elem (show k < m.length by have := LM.out; omega)
      obtain ⟨q0, q1, q2, q3, q4⟩ := q
      have QM := Lib.hid qm
      have RT := Lib.hid rt
      have RU := Lib.hid rum
      have OT := Lib.hid (OK.out t (List.mem_of_getElem? ht))
      have OU := Lib.hid (OM.out u (List.mem_of_getElem? hu))
      have NX := Lib.hid (itemsT_next (pairT (txt r)) (l.zip m) k (pair_zip ht hu))
      have TL2 := Lib.hid (itemsT_take_le (pairT (txt r)) (l.zip m) (k + 1))
      have LN : Hid ((itemsT (pairT (txt r)) 0 ((l.zip m).take (k + 1))).length = (itemsT (pairT (txt r)) 0 ((l.zip m).take k)).length + ((cm k).length + ((txt r t).length + (2 + (txt r u).length)))) := Lib.hid (by rw [NX.out]; simp [pairT]; omega)
      have k0 : (0 : Int) ≤ (k : Int) := by omega
      have k1 : (k : Int) < (l.length : Int) := by omega
      have k2 : (k : Int) < (m.length : Int) := by have := LM.out; omega
      clear rt rum ht hu qm
      obtain ⟨x, hx⟩ : ∃ x : At, x = ⟨t, A1, c1, A2, c2⟩ := ⟨_, rfl⟩
      have b0 := below_new wr (.cells #[.int .i64 t.k, .int .i64 t.n, .string t.s, .slice A1 t.l.length c1, .slice A2 t.m.length c2] 24)
      have hbx := Bx.new wr x
      have WR0 := Lib.hid hp.out.1
      have K0 := Lib.hid hp.out.2
      go_upto_region 4 with fail
      rw [hx] at hbx
      generalize hW : World.alloc wr _ = W at b0 hbx ⊢
      have hsz : wr.heap.size < W.heap.size := by rw [← hW]; simp
      clear hW hx
      have W0 := Lib.hid (WR0.out.next b0)
      have KW := Lib.hid (K0.out.trans (WK.below b0 WR0.out.2))
      have BW := Lib.hid (b0.mono WR0.out.2)
      have HBX := Lib.hid hbx
      have hgb := Lib.hid (show wr.heap.size ≠ b by have := WR0.out.lt; omega)
      clear b0 hbx q0 q1 q2 q3 q4
      generalize wr.heap.size = gx at *
      have WC := Lib.hid (writeComma_any W B b (bs ++ [123] ++ itemsT (pairT (txt r)) 0 ((l.zip m).take k)) k (by omega) W0.out (by have := HL.out; have := TL2.out; have := LN.out; simp; omega))
      go_wp2_with fail
      refine WC.out.mono ?_
      rintro e w2 ⟨rfl, hw⟩
      have HW2 := Lib.hid hw
      have KW2 := Lib.hid (KW.out.trans hw.2)
      obtain ⟨q0, q1, q2, q3, q4, _⟩ := Cell.kept HBX.out (hw.2.blk (Cell.blk HBX.out) hgb.out)
      clear hw WC
      have RT2 := Lib.hid (Rd.below RT.out (BW.out.trans HW2.out.2.1) (Nat.le_refl _))
      have WT := Lib.hid (IH.out w2 B b (bs ++ [123] ++ itemsT (pairT (txt r)) 0 ((l.zip m).take k) ++ cm k) d ⟨t, A1, c1, A2, c2⟩ HW2.out.1 RT2.out OT.out (by have := HL.out; have := TL2.out; have := LN.out; simp; omega))
      go_wp2_with fail
      refine WT.out.mono ?_
      rintro e w3 ⟨rfl, hw⟩
      have HW3 := Lib.hid hw
      have KW3 := Lib.hid (KW2.out.trans hw.2)
      clear hw WT q0 q1 q2 q3 q4
      have WS := Lib.hid (str_lit w3 B b (bs ++ [123] ++ itemsT (pairT (txt r)) 0 ((l.zip m).take k) ++ cm k ++ txt r t) [58, 32] HW3.out.1 (by have := HL.out; have := TL2.out; have := LN.out; simp; omega))
      go_wp2_with fail
      refine WS.out.mono ?_
      rintro e w4 ⟨rfl, hw⟩
      have HW4 := Lib.hid hw
      have KW4 := Lib.hid (KW3.out.trans hw.2)
      have B4 := Lib.hid (((BW.out.trans HW2.out.2.1).trans HW3.out.2.1).trans hw.2.1)
      clear hw WS
      obtain ⟨q0, q1, q2, q3, q4⟩ := QM.out.keep (lo := 0) (Kept.of_below B4.out (Nat.le_refl _)) (Nat.zero_le _) hbm
      have RU4 := Lib.hid (Rd.below RU.out B4.out (Nat.le_refl _))
      have WU := Lib.hid (IH.out w4 B b (bs ++ [123] ++ itemsT (pairT (txt r)) 0 ((l.zip m).take k) ++ cm k ++ txt r t ++ [58, 32]) d ⟨u, D1, d1, D2, d2⟩ HW4.out.1 RU4.out OU.out (by have := HL.out; have := TL2.out; have := LN.out; simp; omega))
      go_wp2_with fail
      refine WU.out.mono ?_
      rintro e w5 ⟨rfl, hw⟩
      have HW5 := Lib.hid hw
      clear hw WU q0 q1 q2 q3 q4
      go_wp2
      go_roundw
      case rel => exact ⟨k + 1, by go_num, by omega, Lib.hid ⟨by rw [NX.out]; have := HW5.out.1; simpa [pairT] using this, KW4.out.trans HW5.out.2⟩⟩
      case measure => simp [RowKit.intOf]; omega
    · obtain rfl : k = l.length := by omega
      have WE := Lib.hid (str_lit wr B b (bs ++ [123] ++ itemsT (pairT (txt r)) 0 ((l.zip m).take l.length)) [125] hp.out.1 (by have := HL.out; have := TL.out; simp; omega))
      go_wp2_with fail
      refine WE.out.mono ?_
      rintro e w2 ⟨rfl, hw⟩
      have HW2 := Lib.hid hw
      clear hw WE
      go_wp2
      go_end0
      refine ⟨rfl, ?_, hp.out.2.trans HW2.out.2⟩
      have := HW2.out.1
      rw [← ZL.out, List.take_length] at this
      simpa using this
end Go.Proofs.Ytmgjiipooffggaa
