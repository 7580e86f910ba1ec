/- The document's text of a value. -/
import Derived.Test.YtmgjiipooffggaaRq
import Derived.Test.YtmgjiipooffggaaVRr
namespace Go.Proofs.Ytmgjiipooffggaa
set_option maxRecDepth 100000
open Go.RowKit Go.Sort

/-- A text is answered. -/
def TxtPost (w : World) (bs : Bs) (e : Ending) (w' : World) : Prop := ∃ S : ByteArray, e = .returned (.string S) ∧ S.toList = bs ∧ Below w.heap.size w w'
def TextOk (r : Nat) : Prop := ∀ (w : World) (d : Nat) (x : At), x.In w d → okV r x.t = true → (txt r x.t).length ≤ 1000000000000 → Calls Try.prog 28 #[x.v] w (TxtPost w (txt r x.t))
theorem size_list {S : ByteArray} {l : Bs} (h : S.toList = l) : S.size = l.length := by rw [← toList_size, h]
theorem digits_txt (n : Int) (w : World) (h : fitsB n = true) : Calls Try.prog 46 #[.int .i64 n] w (TxtPost w (digL n)) := (refDigits_any n w h).mono (by rintro e w' ⟨rfl, hb⟩; exact ⟨_, rfl, lit_list _, hb⟩)
theorem quote_txt (s : ByteArray) (w : World) (h : s.size ≤ 1000000000000) : Calls Try.prog 17 #[.string s] w (TxtPost w (qL s.toList)) := (refQuote_any s w h).mono (by rintro e w' ⟨rfl, hb⟩; exact ⟨_, rfl, lit_list _, hb⟩)

set_option maxHeartbeats 1600000 in
theorem txtRow_any (r : Nat) (ih : TextOk r) (w : World) (d : Nat) (x : At) (hx : x.In w (d + 1)) (hok : ∀ y ∈ x.t.l, okV r y = true) (hl : (itemsT (txt r) 0 x.t.l).length ≤ 1000000000000) (hk7 : (x.t.k == 7) = false) :
    Calls Try.prog 47 #[x.v] w (TxtPost w (itemsT (txt r) 0 x.t.l)) := by
  have RL := Lib.hid hx.2.1
  have hbl := hx.2.1.big
  have RM := Lib.hid hx.2.2
  have hbm := hx.2.2.big
  have HL := Lib.hid hl
  have IH := Lib.hid ih
  have OK := Lib.hid hok
  clear hx ih hok hl
  unfold At.v
  go_enter Try.func47, Try.ntmps47
  go_wp2
  have k1 := Box.new w x.t x.A x.c x.A' x.c'
  generalize hW : World.alloc w _ = W
  have K1 : Hid (Box W w.heap.size x.t x.A x.c x.A' x.c') := Lib.hid (by rw [← hW]; exact k1)
  have HB : Hid (Below w.heap.size w W) := Lib.hid (by rw [← hW]; exact below_new _ _)
  have hz : w.heap.size < W.heap.size := by rw [← hW]; simp
  clear hW k1
  go_loopw [3, 4] (fun o i wr => ∃ (k : Nat) (O : ByteArray), o = .string O ∧ i = .int .i64 k ∧ k ≤ x.t.l.length ∧ Hid (Below W.heap.size W wr) ∧ Hid (O.toList = itemsT (txt r) 0 (x.t.l.take k))) (fun _ i _ => x.t.l.length - (RowKit.intOf i).toNat)
  case atStart => exact ⟨0, _, rfl, rfl, by omega, Lib.hid (Below.refl _ _), Lib.hid (by rw [show (⟨#[]⟩ : ByteArray).toList = [] from lit_list []]; simp [itemsT])⟩
  case round =>
    obtain ⟨k, O, rfl, rfl, hk, hbel, hO⟩ := hrel
    have hOs : O.size ≤ 1000000000000 := by rw [size_list hO.out]; exact Nat.le_trans (itemsT_take_le _ _ _) HL.out
    obtain ⟨c0, c1, c2, c3, c4⟩ := K1.out.below hbel.out hz
    by_cases hlt : k < x.t.l.length
    · obtain ⟨b, off, z, A1, e1, A2, e2, hA, _, hb, hzz, q, rz⟩ := (RL.out.next (bnext HB.out hbel.out)).elem hlt
      rw [hA] at c3
      obtain ⟨q0, q1, q2, q3, q4⟩ := q
      have RZ := Lib.hid rz
      have OZ := Lib.hid (OK.out z (List.mem_of_getElem? hzz))
      have NX := Lib.hid (itemsT_next (txt r) x.t.l k hzz)
      have TL2 := itemsT_take_le (txt r) x.t.l (k + 1)
      have LZ : Hid ((txt r z).length ≤ 1000000000000) := Lib.hid (by have := HL.out; rw [NX.out] at TL2; simp at TL2; omega)
      have k0 : (0 : Int) ≤ (k : Int) := by omega
      have k1 : (k : Int) < (x.t.l.length : Int) := by omega
      clear rz hzz hA TL2
      by_cases h0 : 0 < k
      · skip
        have CM : Hid (cm k = [44, 32]) := Lib.hid (if_pos h0)
        have g0 : (0 : Int) < (k : Int) := by omega
        clear h0
        go_wp2_with fail
        refine (IH.out wr d ⟨z, A1, e1, A2, e2⟩ RZ.out OZ.out LZ.out).mono ?_
        rintro e w2 ⟨S, rfl, hS, hb2⟩
        have hSs : S.size ≤ 1000000000000 := by rw [size_list hS]; exact LZ.out
        have HS := Lib.hid hS
        have BB := Lib.hid (bnext hbel.out hb2)
        clear hS hb2 c0 c1 c2 c3 c4 q0 q1 q2 q3 q4
        obtain ⟨c0, c1, c2, c3, c4⟩ := K1.out.below BB.out hz
        go_wp2
        go_roundw
        case rel => exact ⟨k + 1, _, rfl, by go_num, by omega, BB, Lib.hid (by rw [list_app, list_app, hO.out, NX.out, CM.out, HS.out, show (⟨#[44, 32]⟩ : ByteArray).toList = [44, 32] from lit_list [44, 32]]; simp)⟩
        case measure => simp [RowKit.intOf]; omega
      · skip
        have CM : Hid (cm k = []) := Lib.hid (if_neg h0)
        have g0 : ¬ (0 : Int) < (k : Int) := by omega
        clear h0
        go_wp2_with fail
        refine (IH.out wr d ⟨z, A1, e1, A2, e2⟩ RZ.out OZ.out LZ.out).mono ?_
        rintro e w2 ⟨S, rfl, hS, hb2⟩
        have hSs : S.size ≤ 1000000000000 := by rw [size_list hS]; exact LZ.out
        have HS := Lib.hid hS
        have BB := Lib.hid (bnext hbel.out hb2)
        clear hS hb2 c0 c1 c2 c3 c4 q0 q1 q2 q3 q4
        obtain ⟨c0, c1, c2, c3, c4⟩ := K1.out.below BB.out hz
        go_wp2
        go_roundw
        case rel => exact ⟨k + 1, _, rfl, by go_num, by omega, BB, Lib.hid (by rw [list_app, hO.out, NX.out, CM.out, HS.out]; simp)⟩
        case measure => simp [RowKit.intOf]; omega
    · skip
      have HE : Hid (O.toList = itemsT (txt r) 0 x.t.l) := Lib.hid (by rw [hO.out, List.take_of_length_le (by omega)])
      go_wp2
      go_ret
      exact ⟨O, rfl, HE.out, bnext HB.out hbel.out⟩

set_option maxHeartbeats 1600000 in
theorem txtDict_any (r : Nat) (ih : TextOk r) (w : World) (d : Nat) (x : At) (hx : x.In w (d + 1)) (hok : ∀ y ∈ x.t.l, okV r y = true) (hokm : ∀ y ∈ x.t.m, okV r y = true) (hlm : x.t.m.length = x.t.l.length) (hl : (itemsT (pairT (txt r)) 0 (x.t.l.zip x.t.m)).length ≤ 1000000000000) (hk7 : (x.t.k == 7) = true) :
    Calls Try.prog 47 #[x.v] w (TxtPost w (itemsT (pairT (txt r)) 0 (x.t.l.zip x.t.m))) := by
  have RL := Lib.hid hx.2.1
  have hbl := hx.2.1.big
  have RM := Lib.hid hx.2.2
  have hbm := hx.2.2.big
  have HL := Lib.hid hl
  have IH := Lib.hid ih
  have OK := Lib.hid hok
  have OM := Lib.hid hokm
  have LM := Lib.hid hlm
  clear hx ih hok hl hokm hlm
  unfold At.v
  go_enter Try.func47, Try.ntmps47
  go_wp2
  have k1 := Box.new w x.t x.A x.c x.A' x.c'
  generalize hW : World.alloc w _ = W
  have K1 : Hid (Box W w.heap.size x.t x.A x.c x.A' x.c') := Lib.hid (by rw [← hW]; exact k1)
  have HB : Hid (Below w.heap.size w W) := Lib.hid (by rw [← hW]; exact below_new _ _)
  have hz : w.heap.size < W.heap.size := by rw [← hW]; simp
  clear hW k1
  go_loopw [3, 4] (fun o i wr => ∃ (k : Nat) (O : ByteArray), o = .string O ∧ i = .int .i64 k ∧ k ≤ x.t.l.length ∧ Hid (Below W.heap.size W wr) ∧ Hid (O.toList = itemsT (pairT (txt r)) 0 ((x.t.l.zip x.t.m).take k))) (fun _ i _ => x.t.l.length - (RowKit.intOf i).toNat)
  case atStart => exact ⟨0, _, rfl, rfl, by omega, Lib.hid (Below.refl _ _), Lib.hid (by rw [show (⟨#[]⟩ : ByteArray).toList = [] from lit_list []]; simp [itemsT])⟩
  case round =>
    obtain ⟨k, O, rfl, rfl, hk, hbel, hO⟩ := hrel
    have hOs : O.size ≤ 1000000000000 := by rw [size_list hO.out]; exact Nat.le_trans (itemsT_take_le _ _ _) HL.out
    obtain ⟨c0, c1, c2, c3, c4⟩ := K1.out.below hbel.out hz
    by_cases hlt : k < x.t.l.length
    · obtain ⟨b, off, z, A1, e1, A2, e2, hA, _, hb, hzz, q, rz⟩ := (RL.out.next (bnext HB.out hbel.out)).elem hlt
      obtain ⟨bm, offm, u, D1, d1, D2, d2, hAm, _, hbm2, hu, qm, ru⟩ := (RM.out.next (bnext HB.out hbel.out)).elem (show k < x.t.m.length by have := LM.out; omega)
      rw [hA] at c3
      obtain ⟨q0, q1, q2, q3, q4⟩ := q
      have RZ := Lib.hid rz
      have OZ := Lib.hid (OK.out z (List.mem_of_getElem? hzz))
      have QM := Lib.hid qm
      have RU := Lib.hid ru
      have HBM := Lib.hid hbm2
      have HAM := Lib.hid hAm
      have OU := Lib.hid (OM.out u (List.mem_of_getElem? hu))
      have NX := Lib.hid (itemsT_next (pairT (txt r)) (x.t.l.zip x.t.m) k (pair_zip hzz hu))
      have TL2 := itemsT_take_le (pairT (txt r)) (x.t.l.zip x.t.m) (k + 1)
      have LZ : Hid ((txt r z).length ≤ 1000000000000) := Lib.hid (by have := HL.out; rw [NX.out] at TL2; simp [pairT] at TL2; omega)
      have LU : Hid ((txt r u).length ≤ 1000000000000) := Lib.hid (by have := HL.out; rw [NX.out] at TL2; simp [pairT] at TL2; omega)
      have k2 : (k : Int) < (x.t.m.length : Int) := by have := LM.out; omega
      clear qm ru hbm2 hu hAm
      have k0 : (0 : Int) ≤ (k : Int) := by omega
      have k1 : (k : Int) < (x.t.l.length : Int) := by omega
      clear rz hzz hA TL2
      by_cases h0 : 0 < k
      · skip
        have CM : Hid (cm k = [44, 32]) := Lib.hid (if_pos h0)
        have g0 : (0 : Int) < (k : Int) := by omega
        clear h0
        go_wp2_with fail
        refine (IH.out wr d ⟨z, A1, e1, A2, e2⟩ RZ.out OZ.out LZ.out).mono ?_
        rintro e w2 ⟨S, rfl, hS, hb2⟩
        have hSs : S.size ≤ 1000000000000 := by rw [size_list hS]; exact LZ.out
        have HS := Lib.hid hS
        have BB := Lib.hid (bnext hbel.out hb2)
        clear c0 c1 c2 c3 c4 q0 q1 q2 q3 q4
        obtain ⟨c0, c1, c2, c3, c4⟩ := K1.out.below BB.out hz
        rw [HAM.out] at c4
        obtain ⟨q0, q1, q2, q3, q4⟩ := QM.out.keep (lo := 0) (Kept.of_below hb2 (Nat.le_refl _)) (Nat.zero_le _) HBM.out
        have RU2 := Lib.hid (RU.out.next hb2)
        clear hS hb2
        go_wp2_with fail
        refine (IH.out w2 d ⟨u, D1, d1, D2, d2⟩ RU2.out OU.out LU.out).mono ?_
        rintro e w3 ⟨S3, rfl, hS3, hb3⟩
        have hSs3 : S3.size ≤ 1000000000000 := by rw [size_list hS3]; exact LU.out
        have HS3 := Lib.hid hS3
        have BB3 := Lib.hid (bnext BB.out hb3)
        clear hS3 hb3 c0 c1 c2 c3 c4 q0 q1 q2 q3 q4
        go_wp2
        go_roundw
        case rel => exact ⟨k + 1, _, rfl, by go_num, by omega, BB3, Lib.hid (by rw [list_app, list_app, list_app, list_app, hO.out, NX.out, CM.out, HS.out, HS3.out, show (⟨#[58, 32]⟩ : ByteArray).toList = [58, 32] from lit_list [58, 32], show (⟨#[44, 32]⟩ : ByteArray).toList = [44, 32] from lit_list [44, 32]]; simp [pairT])⟩
        case measure => simp [RowKit.intOf]; omega
      · skip
        have CM : Hid (cm k = []) := Lib.hid (if_neg h0)
        have g0 : ¬ (0 : Int) < (k : Int) := by omega
        clear h0
        go_wp2_with fail
        refine (IH.out wr d ⟨z, A1, e1, A2, e2⟩ RZ.out OZ.out LZ.out).mono ?_
        rintro e w2 ⟨S, rfl, hS, hb2⟩
        have hSs : S.size ≤ 1000000000000 := by rw [size_list hS]; exact LZ.out
        have HS := Lib.hid hS
        have BB := Lib.hid (bnext hbel.out hb2)
        clear c0 c1 c2 c3 c4 q0 q1 q2 q3 q4
        obtain ⟨c0, c1, c2, c3, c4⟩ := K1.out.below BB.out hz
        rw [HAM.out] at c4
        obtain ⟨q0, q1, q2, q3, q4⟩ := QM.out.keep (lo := 0) (Kept.of_below hb2 (Nat.le_refl _)) (Nat.zero_le _) HBM.out
        have RU2 := Lib.hid (RU.out.next hb2)
        clear hS hb2
        go_wp2_with fail
        refine (IH.out w2 d ⟨u, D1, d1, D2, d2⟩ RU2.out OU.out LU.out).mono ?_
        rintro e w3 ⟨S3, rfl, hS3, hb3⟩
        have hSs3 : S3.size ≤ 1000000000000 := by rw [size_list hS3]; exact LU.out
        have HS3 := Lib.hid hS3
        have BB3 := Lib.hid (bnext BB.out hb3)
        clear hS3 hb3 c0 c1 c2 c3 c4 q0 q1 q2 q3 q4
        go_wp2
        go_roundw
        case rel => exact ⟨k + 1, _, rfl, by go_num, by omega, BB3, Lib.hid (by rw [list_app, list_app, list_app, hO.out, NX.out, CM.out, HS.out, HS3.out, show (⟨#[58, 32]⟩ : ByteArray).toList = [58, 32] from lit_list [58, 32]]; simp [pairT])⟩
        case measure => simp [RowKit.intOf]; omega
    · skip
      have HE : Hid (O.toList = itemsT (pairT (txt r)) 0 (x.t.l.zip x.t.m)) := Lib.hid (by rw [hO.out, List.take_of_length_le (by rw [List.length_zip]; omega)])
      go_wp2
      go_ret
      exact ⟨O, rfl, HE.out, bnext HB.out hbel.out⟩

set_option maxHeartbeats 1600000 in
theorem text_1f (r : Nat) (ih : TextOk r) (w : World) (d : Nat) (x : At) (hx : x.In w d) (ho : okV (r + 1) x.t = true) (hl : (txt (r + 1) x.t).length ≤ 1000000000000) (hk : x.t.k = 1) (hn : x.t.n = 0) :
    Calls Try.prog 28 #[x.v] w (TxtPost w (txt (r + 1) x.t)) := by
  obtain ⟨d', rfl⟩ := Rd.pos hx
  obtain ⟨o1, o2, o3, _⟩ := (ok_parts r x.t).1 ho
  have TX : Hid (txt (r + 1) x.t = ([102, 97, 108, 115, 101])) := Lib.hid (by rw [txt_succ]; simp [hk, hn])
  have HL := Lib.hid hl
  have IH := Lib.hid ih
  have OL := Lib.hid o2
  have OM := Lib.hid o3
  have S3 : Hid (x.t.s.size ≤ 1000) := Lib.hid (fits_size o1)
  have FN : Hid (fitsB x.t.n = true) := Lib.hid (by rw [fits_iff]; exact ⟨hx.1.n0, hx.1.n1⟩)
  have DN : Hid ((digL x.t.n).length ≤ 21) := Lib.hid (digL_len _ FN.out)
  have hnb : (x.t.n == 0) = true := by simp [hn]
  clear hn
  have b0 := below_new w (.cells #[.int .i64 x.t.k, .int .i64 x.t.n, .string x.t.s, .slice x.A x.t.l.length x.c, .slice x.A' x.t.m.length x.c'] 24)
  have hbx := Bx.new w x
  have HX := Lib.hid hx
  clear hx ho hl ih o1 o2 o3
  unfold At.v
  go_enter Try.func28, Try.ntmps28
  go_upto_region 1 with fail
  (try rw [hk] at b0 hbx)
  generalize hW : World.alloc w _ = W at b0 hbx ⊢
  clear hW
  have B0 := Lib.hid b0
  have HBX := Lib.hid hbx
  have X1 := Lib.hid (HX.out.next b0)
  clear b0 hbx
  obtain ⟨q0, q1, q2, q3, q4, _⟩ := HBX.out
  (try rw [hk] at q0)
  go_wp2_with fail
  refine (digits_txt x.t.n W FN.out).mono ?_
  rintro e w2 ⟨N, rfl, hN, hb⟩
  have hNs : N.size ≤ 21 := by rw [size_list hN]; exact DN.out
  have HN := Lib.hid hN
  have B2 := Lib.hid (bnext B0.out hb)
  have X2 := Lib.hid (X1.out.next hb)
  have HBX2 := Lib.hid (HBX.out.next hb)
  clear hN hb q0 q1 q2 q3 q4
  obtain ⟨q0, q1, q2, q3, q4, _⟩ := HBX2.out
  (try rw [hk] at q0)
  go_wp2
  go_ret
  exact ⟨_, rfl, by rw [TX.out]; exact lit_list _, B2.out⟩
set_option maxHeartbeats 1600000 in
theorem text_1t (r : Nat) (ih : TextOk r) (w : World) (d : Nat) (x : At) (hx : x.In w d) (ho : okV (r + 1) x.t = true) (hl : (txt (r + 1) x.t).length ≤ 1000000000000) (hk : x.t.k = 1) (hn : ¬ x.t.n = 0) :
    Calls Try.prog 28 #[x.v] w (TxtPost w (txt (r + 1) x.t)) := by
  obtain ⟨d', rfl⟩ := Rd.pos hx
  obtain ⟨o1, o2, o3, _⟩ := (ok_parts r x.t).1 ho
  have TX : Hid (txt (r + 1) x.t = ([116, 114, 117, 101])) := Lib.hid (by rw [txt_succ]; simp [hk, hn])
  have HL := Lib.hid hl
  have IH := Lib.hid ih
  have OL := Lib.hid o2
  have OM := Lib.hid o3
  have S3 : Hid (x.t.s.size ≤ 1000) := Lib.hid (fits_size o1)
  have FN : Hid (fitsB x.t.n = true) := Lib.hid (by rw [fits_iff]; exact ⟨hx.1.n0, hx.1.n1⟩)
  have DN : Hid ((digL x.t.n).length ≤ 21) := Lib.hid (digL_len _ FN.out)
  have hnb : (x.t.n == 0) = false := by simp [hn]
  clear hn
  have b0 := below_new w (.cells #[.int .i64 x.t.k, .int .i64 x.t.n, .string x.t.s, .slice x.A x.t.l.length x.c, .slice x.A' x.t.m.length x.c'] 24)
  have hbx := Bx.new w x
  have HX := Lib.hid hx
  clear hx ho hl ih o1 o2 o3
  unfold At.v
  go_enter Try.func28, Try.ntmps28
  go_upto_region 1 with fail
  (try rw [hk] at b0 hbx)
  generalize hW : World.alloc w _ = W at b0 hbx ⊢
  clear hW
  have B0 := Lib.hid b0
  have HBX := Lib.hid hbx
  have X1 := Lib.hid (HX.out.next b0)
  clear b0 hbx
  obtain ⟨q0, q1, q2, q3, q4, _⟩ := HBX.out
  (try rw [hk] at q0)
  go_wp2_with fail
  refine (digits_txt x.t.n W FN.out).mono ?_
  rintro e w2 ⟨N, rfl, hN, hb⟩
  have hNs : N.size ≤ 21 := by rw [size_list hN]; exact DN.out
  have HN := Lib.hid hN
  have B2 := Lib.hid (bnext B0.out hb)
  have X2 := Lib.hid (X1.out.next hb)
  have HBX2 := Lib.hid (HBX.out.next hb)
  clear hN hb q0 q1 q2 q3 q4
  obtain ⟨q0, q1, q2, q3, q4, _⟩ := HBX2.out
  (try rw [hk] at q0)
  go_wp2
  go_ret
  exact ⟨_, rfl, by rw [TX.out]; exact lit_list _, B2.out⟩
set_option maxHeartbeats 1600000 in
theorem text_2 (r : Nat) (ih : TextOk r) (w : World) (d : Nat) (x : At) (hx : x.In w d) (ho : okV (r + 1) x.t = true) (hl : (txt (r + 1) x.t).length ≤ 1000000000000) (hk : x.t.k = 2) :
    Calls Try.prog 28 #[x.v] w (TxtPost w (txt (r + 1) x.t)) := by
  obtain ⟨d', rfl⟩ := Rd.pos hx
  obtain ⟨o1, o2, o3, _⟩ := (ok_parts r x.t).1 ho
  have TX : Hid (txt (r + 1) x.t = (digL x.t.n)) := Lib.hid (by rw [txt_succ]; simp [hk])
  have HL := Lib.hid hl
  have IH := Lib.hid ih
  have OL := Lib.hid o2
  have OM := Lib.hid o3
  have S3 : Hid (x.t.s.size ≤ 1000) := Lib.hid (fits_size o1)
  have FN : Hid (fitsB x.t.n = true) := Lib.hid (by rw [fits_iff]; exact ⟨hx.1.n0, hx.1.n1⟩)
  have DN : Hid ((digL x.t.n).length ≤ 21) := Lib.hid (digL_len _ FN.out)
  have b0 := below_new w (.cells #[.int .i64 x.t.k, .int .i64 x.t.n, .string x.t.s, .slice x.A x.t.l.length x.c, .slice x.A' x.t.m.length x.c'] 24)
  have hbx := Bx.new w x
  have HX := Lib.hid hx
  clear hx ho hl ih o1 o2 o3
  unfold At.v
  go_enter Try.func28, Try.ntmps28
  go_upto_region 1 with fail
  (try rw [hk] at b0 hbx)
  generalize hW : World.alloc w _ = W at b0 hbx ⊢
  clear hW
  have B0 := Lib.hid b0
  have HBX := Lib.hid hbx
  have X1 := Lib.hid (HX.out.next b0)
  clear b0 hbx
  obtain ⟨q0, q1, q2, q3, q4, _⟩ := HBX.out
  (try rw [hk] at q0)
  go_wp2_with fail
  refine (digits_txt x.t.n W FN.out).mono ?_
  rintro e w2 ⟨N, rfl, hN, hb⟩
  have hNs : N.size ≤ 21 := by rw [size_list hN]; exact DN.out
  have HN := Lib.hid hN
  have B2 := Lib.hid (bnext B0.out hb)
  have X2 := Lib.hid (X1.out.next hb)
  have HBX2 := Lib.hid (HBX.out.next hb)
  clear hN hb q0 q1 q2 q3 q4
  obtain ⟨q0, q1, q2, q3, q4, _⟩ := HBX2.out
  (try rw [hk] at q0)
  go_wp2
  go_ret
  exact ⟨_, rfl, by rw [TX.out]; exact HN.out, B2.out⟩
set_option maxHeartbeats 1600000 in
theorem text_3 (r : Nat) (ih : TextOk r) (w : World) (d : Nat) (x : At) (hx : x.In w d) (ho : okV (r + 1) x.t = true) (hl : (txt (r + 1) x.t).length ≤ 1000000000000) (hk : x.t.k = 3) :
    Calls Try.prog 28 #[x.v] w (TxtPost w (txt (r + 1) x.t)) := by
  obtain ⟨d', rfl⟩ := Rd.pos hx
  obtain ⟨o1, o2, o3, _⟩ := (ok_parts r x.t).1 ho
  have TX : Hid (txt (r + 1) x.t = (qL x.t.s.toList)) := Lib.hid (by rw [txt_succ]; simp [hk])
  have HL := Lib.hid hl
  have IH := Lib.hid ih
  have OL := Lib.hid o2
  have OM := Lib.hid o3
  have S3 : Hid (x.t.s.size ≤ 1000) := Lib.hid (fits_size o1)
  have FN : Hid (fitsB x.t.n = true) := Lib.hid (by rw [fits_iff]; exact ⟨hx.1.n0, hx.1.n1⟩)
  have DN : Hid ((digL x.t.n).length ≤ 21) := Lib.hid (digL_len _ FN.out)
  have b0 := below_new w (.cells #[.int .i64 x.t.k, .int .i64 x.t.n, .string x.t.s, .slice x.A x.t.l.length x.c, .slice x.A' x.t.m.length x.c'] 24)
  have hbx := Bx.new w x
  have HX := Lib.hid hx
  clear hx ho hl ih o1 o2 o3
  unfold At.v
  go_enter Try.func28, Try.ntmps28
  go_upto_region 1 with fail
  (try rw [hk] at b0 hbx)
  generalize hW : World.alloc w _ = W at b0 hbx ⊢
  clear hW
  have B0 := Lib.hid b0
  have HBX := Lib.hid hbx
  have X1 := Lib.hid (HX.out.next b0)
  clear b0 hbx
  obtain ⟨q0, q1, q2, q3, q4, _⟩ := HBX.out
  (try rw [hk] at q0)
  go_wp2_with fail
  refine (digits_txt x.t.n W FN.out).mono ?_
  rintro e w2 ⟨N, rfl, hN, hb⟩
  have hNs : N.size ≤ 21 := by rw [size_list hN]; exact DN.out
  have HN := Lib.hid hN
  have B2 := Lib.hid (bnext B0.out hb)
  have X2 := Lib.hid (X1.out.next hb)
  have HBX2 := Lib.hid (HBX.out.next hb)
  clear hN hb q0 q1 q2 q3 q4
  obtain ⟨q0, q1, q2, q3, q4, _⟩ := HBX2.out
  (try rw [hk] at q0)
  have QW := quote_txt x.t.s w2 (by have := S3.out; omega)
  replace QW := Lib.hid QW
  go_wp2_with fail
  refine QW.out.mono ?_
  rintro e w3 ⟨S, rfl, hS, hb3⟩
  have hSs : S.size ≤ 1000000000000 := by rw [size_list hS]; rw [← TX.out]; exact HL.out
  have HS := Lib.hid hS
  have B3 := Lib.hid (bnext B2.out hb3)
  clear hS hb3 QW q0 q1 q2 q3 q4
  go_wp2
  go_ret
  exact ⟨_, rfl, by rw [TX.out]; exact HS.out, B3.out⟩
set_option maxHeartbeats 1600000 in
theorem text_4 (r : Nat) (ih : TextOk r) (w : World) (d : Nat) (x : At) (hx : x.In w d) (ho : okV (r + 1) x.t = true) (hl : (txt (r + 1) x.t).length ≤ 1000000000000) (hk : x.t.k = 4) :
    Calls Try.prog 28 #[x.v] w (TxtPost w (txt (r + 1) x.t)) := by
  obtain ⟨d', rfl⟩ := Rd.pos hx
  obtain ⟨o1, o2, o3, _⟩ := (ok_parts r x.t).1 ho
  have TX : Hid (txt (r + 1) x.t = ([118, 91] ++ (digL x.t.n ++ [93]))) := Lib.hid (by rw [txt_succ]; simp [hk])
  have HL := Lib.hid hl
  have IH := Lib.hid ih
  have OL := Lib.hid o2
  have OM := Lib.hid o3
  have S3 : Hid (x.t.s.size ≤ 1000) := Lib.hid (fits_size o1)
  have FN : Hid (fitsB x.t.n = true) := Lib.hid (by rw [fits_iff]; exact ⟨hx.1.n0, hx.1.n1⟩)
  have DN : Hid ((digL x.t.n).length ≤ 21) := Lib.hid (digL_len _ FN.out)
  have b0 := below_new w (.cells #[.int .i64 x.t.k, .int .i64 x.t.n, .string x.t.s, .slice x.A x.t.l.length x.c, .slice x.A' x.t.m.length x.c'] 24)
  have hbx := Bx.new w x
  have HX := Lib.hid hx
  clear hx ho hl ih o1 o2 o3
  unfold At.v
  go_enter Try.func28, Try.ntmps28
  go_upto_region 1 with fail
  (try rw [hk] at b0 hbx)
  generalize hW : World.alloc w _ = W at b0 hbx ⊢
  clear hW
  have B0 := Lib.hid b0
  have HBX := Lib.hid hbx
  have X1 := Lib.hid (HX.out.next b0)
  clear b0 hbx
  obtain ⟨q0, q1, q2, q3, q4, _⟩ := HBX.out
  (try rw [hk] at q0)
  go_wp2_with fail
  refine (digits_txt x.t.n W FN.out).mono ?_
  rintro e w2 ⟨N, rfl, hN, hb⟩
  have hNs : N.size ≤ 21 := by rw [size_list hN]; exact DN.out
  have HN := Lib.hid hN
  have B2 := Lib.hid (bnext B0.out hb)
  have X2 := Lib.hid (X1.out.next hb)
  have HBX2 := Lib.hid (HBX.out.next hb)
  clear hN hb q0 q1 q2 q3 q4
  obtain ⟨q0, q1, q2, q3, q4, _⟩ := HBX2.out
  (try rw [hk] at q0)
  go_wp2
  go_ret
  exact ⟨_, rfl, by rw [TX.out, list_app, list_app, HN.out, show (⟨#[118, 91]⟩ : ByteArray).toList = [118, 91] from lit_list [118, 91], show (⟨#[93]⟩ : ByteArray).toList = [93] from lit_list [93]]; simp, B2.out⟩
set_option maxHeartbeats 1600000 in
theorem text_5 (r : Nat) (ih : TextOk r) (w : World) (d : Nat) (x : At) (hx : x.In w d) (ho : okV (r + 1) x.t = true) (hl : (txt (r + 1) x.t).length ≤ 1000000000000) (hk : x.t.k = 5) :
    Calls Try.prog 28 #[x.v] w (TxtPost w (txt (r + 1) x.t)) := by
  obtain ⟨d', rfl⟩ := Rd.pos hx
  obtain ⟨o1, o2, o3, _⟩ := (ok_parts r x.t).1 ho
  have TX : Hid (txt (r + 1) x.t = ([101, 91] ++ (digL x.t.n ++ [93]))) := Lib.hid (by rw [txt_succ]; simp [hk])
  have HL := Lib.hid hl
  have IH := Lib.hid ih
  have OL := Lib.hid o2
  have OM := Lib.hid o3
  have S3 : Hid (x.t.s.size ≤ 1000) := Lib.hid (fits_size o1)
  have FN : Hid (fitsB x.t.n = true) := Lib.hid (by rw [fits_iff]; exact ⟨hx.1.n0, hx.1.n1⟩)
  have DN : Hid ((digL x.t.n).length ≤ 21) := Lib.hid (digL_len _ FN.out)
  have b0 := below_new w (.cells #[.int .i64 x.t.k, .int .i64 x.t.n, .string x.t.s, .slice x.A x.t.l.length x.c, .slice x.A' x.t.m.length x.c'] 24)
  have hbx := Bx.new w x
  have HX := Lib.hid hx
  clear hx ho hl ih o1 o2 o3
  unfold At.v
  go_enter Try.func28, Try.ntmps28
  go_upto_region 1 with fail
  (try rw [hk] at b0 hbx)
  generalize hW : World.alloc w _ = W at b0 hbx ⊢
  clear hW
  have B0 := Lib.hid b0
  have HBX := Lib.hid hbx
  have X1 := Lib.hid (HX.out.next b0)
  clear b0 hbx
  obtain ⟨q0, q1, q2, q3, q4, _⟩ := HBX.out
  (try rw [hk] at q0)
  go_wp2_with fail
  refine (digits_txt x.t.n W FN.out).mono ?_
  rintro e w2 ⟨N, rfl, hN, hb⟩
  have hNs : N.size ≤ 21 := by rw [size_list hN]; exact DN.out
  have HN := Lib.hid hN
  have B2 := Lib.hid (bnext B0.out hb)
  have X2 := Lib.hid (X1.out.next hb)
  have HBX2 := Lib.hid (HBX.out.next hb)
  clear hN hb q0 q1 q2 q3 q4
  obtain ⟨q0, q1, q2, q3, q4, _⟩ := HBX2.out
  (try rw [hk] at q0)
  go_wp2
  go_ret
  exact ⟨_, rfl, by rw [TX.out, list_app, list_app, HN.out, show (⟨#[101, 91]⟩ : ByteArray).toList = [101, 91] from lit_list [101, 91], show (⟨#[93]⟩ : ByteArray).toList = [93] from lit_list [93]]; simp, B2.out⟩
set_option maxHeartbeats 1600000 in
theorem text_6 (r : Nat) (ih : TextOk r) (w : World) (d : Nat) (x : At) (hx : x.In w d) (ho : okV (r + 1) x.t = true) (hl : (txt (r + 1) x.t).length ≤ 1000000000000) (hk : x.t.k = 6) :
    Calls Try.prog 28 #[x.v] w (TxtPost w (txt (r + 1) x.t)) := by
  obtain ⟨d', rfl⟩ := Rd.pos hx
  obtain ⟨o1, o2, o3, _⟩ := (ok_parts r x.t).1 ho
  have TX : Hid (txt (r + 1) x.t = ([91] ++ (itemsT (txt r) 0 x.t.l ++ [93]))) := Lib.hid (by rw [txt_succ]; simp [hk])
  have HL := Lib.hid hl
  have IH := Lib.hid ih
  have OL := Lib.hid o2
  have OM := Lib.hid o3
  have S3 : Hid (x.t.s.size ≤ 1000) := Lib.hid (fits_size o1)
  have FN : Hid (fitsB x.t.n = true) := Lib.hid (by rw [fits_iff]; exact ⟨hx.1.n0, hx.1.n1⟩)
  have DN : Hid ((digL x.t.n).length ≤ 21) := Lib.hid (digL_len _ FN.out)
  have b0 := below_new w (.cells #[.int .i64 x.t.k, .int .i64 x.t.n, .string x.t.s, .slice x.A x.t.l.length x.c, .slice x.A' x.t.m.length x.c'] 24)
  have hbx := Bx.new w x
  have HX := Lib.hid hx
  clear hx ho hl ih o1 o2 o3
  unfold At.v
  go_enter Try.func28, Try.ntmps28
  go_upto_region 1 with fail
  (try rw [hk] at b0 hbx)
  generalize hW : World.alloc w _ = W at b0 hbx ⊢
  clear hW
  have B0 := Lib.hid b0
  have HBX := Lib.hid hbx
  have X1 := Lib.hid (HX.out.next b0)
  clear b0 hbx
  obtain ⟨q0, q1, q2, q3, q4, _⟩ := HBX.out
  (try rw [hk] at q0)
  go_wp2_with fail
  refine (digits_txt x.t.n W FN.out).mono ?_
  rintro e w2 ⟨N, rfl, hN, hb⟩
  have hNs : N.size ≤ 21 := by rw [size_list hN]; exact DN.out
  have HN := Lib.hid hN
  have B2 := Lib.hid (bnext B0.out hb)
  have X2 := Lib.hid (X1.out.next hb)
  have HBX2 := Lib.hid (HBX.out.next hb)
  clear hN hb q0 q1 q2 q3 q4
  obtain ⟨q0, q1, q2, q3, q4, _⟩ := HBX2.out
  (try rw [hk] at q0)
  have QW := txtRow_any r IH.out w2 d' x X2.out OL.out (by have := HL.out; rw [TX.out] at this; simp at this; omega) (by rw [hk]; rfl)
  unfold At.v at QW
  rw [hk] at QW
  replace QW := Lib.hid QW
  go_wp2_with fail
  refine QW.out.mono ?_
  rintro e w3 ⟨S, rfl, hS, hb3⟩
  have hSs : S.size ≤ 1000000000000 := by rw [size_list hS]; have := HL.out; rw [TX.out] at this; simp at this; omega
  have HS := Lib.hid hS
  have B3 := Lib.hid (bnext B2.out hb3)
  clear hS hb3 QW q0 q1 q2 q3 q4
  go_wp2
  go_ret
  exact ⟨_, rfl, by rw [TX.out, list_app, list_app, HS.out, show (⟨#[91]⟩ : ByteArray).toList = [91] from lit_list [91], show (⟨#[93]⟩ : ByteArray).toList = [93] from lit_list [93]]; simp, B3.out⟩
set_option maxHeartbeats 1600000 in
theorem text_7 (r : Nat) (ih : TextOk r) (w : World) (d : Nat) (x : At) (hx : x.In w d) (ho : okV (r + 1) x.t = true) (hl : (txt (r + 1) x.t).length ≤ 1000000000000) (hk : x.t.k = 7) :
    Calls Try.prog 28 #[x.v] w (TxtPost w (txt (r + 1) x.t)) := by
  obtain ⟨d', rfl⟩ := Rd.pos hx
  obtain ⟨o1, o2, o3, _⟩ := (ok_parts r x.t).1 ho
  have TX : Hid (txt (r + 1) x.t = ([123] ++ (itemsT (pairT (txt r)) 0 (x.t.l.zip x.t.m) ++ [125]))) := Lib.hid (by rw [txt_succ]; simp [hk])
  have HL := Lib.hid hl
  have IH := Lib.hid ih
  have OL := Lib.hid o2
  have OM := Lib.hid o3
  have S3 : Hid (x.t.s.size ≤ 1000) := Lib.hid (fits_size o1)
  have LM := Lib.hid (fits_7 o1 hk)
  have FN : Hid (fitsB x.t.n = true) := Lib.hid (by rw [fits_iff]; exact ⟨hx.1.n0, hx.1.n1⟩)
  have DN : Hid ((digL x.t.n).length ≤ 21) := Lib.hid (digL_len _ FN.out)
  have b0 := below_new w (.cells #[.int .i64 x.t.k, .int .i64 x.t.n, .string x.t.s, .slice x.A x.t.l.length x.c, .slice x.A' x.t.m.length x.c'] 24)
  have hbx := Bx.new w x
  have HX := Lib.hid hx
  clear hx ho hl ih o1 o2 o3
  unfold At.v
  go_enter Try.func28, Try.ntmps28
  go_upto_region 1 with fail
  (try rw [hk] at b0 hbx)
  generalize hW : World.alloc w _ = W at b0 hbx ⊢
  clear hW
  have B0 := Lib.hid b0
  have HBX := Lib.hid hbx
  have X1 := Lib.hid (HX.out.next b0)
  clear b0 hbx
  obtain ⟨q0, q1, q2, q3, q4, _⟩ := HBX.out
  (try rw [hk] at q0)
  go_wp2_with fail
  refine (digits_txt x.t.n W FN.out).mono ?_
  rintro e w2 ⟨N, rfl, hN, hb⟩
  have hNs : N.size ≤ 21 := by rw [size_list hN]; exact DN.out
  have HN := Lib.hid hN
  have B2 := Lib.hid (bnext B0.out hb)
  have X2 := Lib.hid (X1.out.next hb)
  have HBX2 := Lib.hid (HBX.out.next hb)
  clear hN hb q0 q1 q2 q3 q4
  obtain ⟨q0, q1, q2, q3, q4, _⟩ := HBX2.out
  (try rw [hk] at q0)
  have QW := txtDict_any r IH.out w2 d' x X2.out OL.out OM.out LM.out (by have := HL.out; rw [TX.out] at this; simp at this; omega) (by rw [hk]; rfl)
  unfold At.v at QW
  rw [hk] at QW
  replace QW := Lib.hid QW
  go_wp2_with fail
  refine QW.out.mono ?_
  rintro e w3 ⟨S, rfl, hS, hb3⟩
  have hSs : S.size ≤ 1000000000000 := by rw [size_list hS]; have := HL.out; rw [TX.out] at this; simp at this; omega
  have HS := Lib.hid hS
  have B3 := Lib.hid (bnext B2.out hb3)
  clear hS hb3 QW q0 q1 q2 q3 q4
  go_wp2
  go_ret
  exact ⟨_, rfl, by rw [TX.out, list_app, list_app, HS.out, show (⟨#[123]⟩ : ByteArray).toList = [123] from lit_list [123], show (⟨#[125]⟩ : ByteArray).toList = [125] from lit_list [125]]; simp, B3.out⟩
set_option maxHeartbeats 1600000 in
theorem text_8 (r : Nat) (ih : TextOk r) (w : World) (d : Nat) (x : At) (hx : x.In w d) (ho : okV (r + 1) x.t = true) (hl : (txt (r + 1) x.t).length ≤ 1000000000000) (hk : x.t.k = 8) :
    Calls Try.prog 28 #[x.v] w (TxtPost w (txt (r + 1) x.t)) := by
  obtain ⟨d', rfl⟩ := Rd.pos hx
  obtain ⟨o1, o2, o3, _⟩ := (ok_parts r x.t).1 ho
  have TX : Hid (txt (r + 1) x.t = ([112, 97, 116, 104, 91] ++ (itemsT (txt r) 0 x.t.l ++ [93]))) := Lib.hid (by rw [txt_succ]; simp [hk])
  have HL := Lib.hid hl
  have IH := Lib.hid ih
  have OL := Lib.hid o2
  have OM := Lib.hid o3
  have S3 : Hid (x.t.s.size ≤ 1000) := Lib.hid (fits_size o1)
  have FN : Hid (fitsB x.t.n = true) := Lib.hid (by rw [fits_iff]; exact ⟨hx.1.n0, hx.1.n1⟩)
  have DN : Hid ((digL x.t.n).length ≤ 21) := Lib.hid (digL_len _ FN.out)
  have b0 := below_new w (.cells #[.int .i64 x.t.k, .int .i64 x.t.n, .string x.t.s, .slice x.A x.t.l.length x.c, .slice x.A' x.t.m.length x.c'] 24)
  have hbx := Bx.new w x
  have HX := Lib.hid hx
  clear hx ho hl ih o1 o2 o3
  unfold At.v
  go_enter Try.func28, Try.ntmps28
  go_upto_region 1 with fail
  (try rw [hk] at b0 hbx)
  generalize hW : World.alloc w _ = W at b0 hbx ⊢
  clear hW
  have B0 := Lib.hid b0
  have HBX := Lib.hid hbx
  have X1 := Lib.hid (HX.out.next b0)
  clear b0 hbx
  obtain ⟨q0, q1, q2, q3, q4, _⟩ := HBX.out
  (try rw [hk] at q0)
  go_wp2_with fail
  refine (digits_txt x.t.n W FN.out).mono ?_
  rintro e w2 ⟨N, rfl, hN, hb⟩
  have hNs : N.size ≤ 21 := by rw [size_list hN]; exact DN.out
  have HN := Lib.hid hN
  have B2 := Lib.hid (bnext B0.out hb)
  have X2 := Lib.hid (X1.out.next hb)
  have HBX2 := Lib.hid (HBX.out.next hb)
  clear hN hb q0 q1 q2 q3 q4
  obtain ⟨q0, q1, q2, q3, q4, _⟩ := HBX2.out
  (try rw [hk] at q0)
  have QW := txtRow_any r IH.out w2 d' x X2.out OL.out (by have := HL.out; rw [TX.out] at this; simp at this; omega) (by rw [hk]; rfl)
  unfold At.v at QW
  rw [hk] at QW
  replace QW := Lib.hid QW
  go_wp2_with fail
  refine QW.out.mono ?_
  rintro e w3 ⟨S, rfl, hS, hb3⟩
  have hSs : S.size ≤ 1000000000000 := by rw [size_list hS]; have := HL.out; rw [TX.out] at this; simp at this; omega
  have HS := Lib.hid hS
  have B3 := Lib.hid (bnext B2.out hb3)
  clear hS hb3 QW q0 q1 q2 q3 q4
  go_wp2
  go_ret
  exact ⟨_, rfl, by rw [TX.out, list_app, list_app, HS.out, show (⟨#[112, 97, 116, 104, 91]⟩ : ByteArray).toList = [112, 97, 116, 104, 91] from lit_list [112, 97, 116, 104, 91], show (⟨#[93]⟩ : ByteArray).toList = [93] from lit_list [93]]; simp, B3.out⟩

theorem text_succ (r : Nat) (ih : TextOk r) : TextOk (r + 1) := by
  intro w d x hx ho hl
  rcases fits_kind ((ok_parts r x.t).1 ho).1 with h | h | h | h | h | h | h | h
  · by_cases hn : x.t.n = 0
    · exact text_1f r ih w d x hx ho hl h hn
    · exact text_1t r ih w d x hx ho hl h hn
  · exact text_2 r ih w d x hx ho hl h
  · exact text_3 r ih w d x hx ho hl h
  · exact text_4 r ih w d x hx ho hl h
  · exact text_5 r ih w d x hx ho hl h
  · exact text_6 r ih w d x hx ho hl h
  · exact text_7 r ih w d x hx ho hl h
  · exact text_8 r ih w d x hx ho hl h
theorem vtext_any : ∀ r, TextOk r
  | 0 => fun _ _ _ _ h _ => by cases h
  | r + 1 => text_succ r (vtext_any r)
end Go.Proofs.Ytmgjiipooffggaa
