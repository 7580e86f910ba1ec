/- write at any value; Print, Rows. -/
import Derived.Test.YtmgjiipooffggaaKR
import Derived.Test.YtmgjiipooffggaaVRr
import Derived.Test.YtmgjiipooffggaaVOp
namespace Go.Proofs.Ytmgjiipooffggaa
set_option maxRecDepth 100000
open Go.RowKit Go.Sort

theorem fits_kind {t : V} (h : fitsV t = true) : t.k = 1 ∨ t.k = 2 ∨ t.k = 3 ∨ t.k = 4 ∨ t.k = 5 ∨ t.k = 6 ∨ t.k = 7 ∨ t.k = 8 := by
  unfold fitsV at h
  split at h; · omega
  split at h; · omega
  split at h; · omega
  split at h; · omega
  split at h; · omega
  split at h; · omega
  cases h
theorem fits_7 {t : V} (h : fitsV t = true) (hk : t.k = 7) : t.m.length = t.l.length := by
  unfold fitsV at h
  rw [if_neg (by omega), if_neg (by omega), if_neg (by omega), if_neg (by omega), if_neg (by omega), if_pos hk] at h
  simp at h; exact h.2
theorem fits_3 {t : V} (h : fitsV t = true) (hk : t.k = 3) : t.s.size ≤ 1000 := by
  unfold fitsV at h
  rw [if_neg (by omega), if_neg (by omega), if_pos hk] at h
  simp at h; exact h.1.2
theorem txt_succ (r : Nat) (t : V) : txt (r + 1) t =
    if t.k = 1 then (if t.n = 0 then [102, 97, 108, 115, 101] else [116, 114, 117, 101])
    else if t.k = 2 then digL t.n
    else if t.k = 3 then qL t.s.toList
    else if t.k = 4 then [118, 91] ++ (digL t.n ++ [93])
    else if t.k = 5 then [101, 91] ++ (digL t.n ++ [93])
    else if t.k = 6 then [91] ++ (itemsT (txt r) 0 t.l ++ [93])
    else if t.k = 7 then [123] ++ (itemsT (pairT (txt r)) 0 (t.l.zip t.m) ++ [125])
    else if t.k = 8 then [112, 97, 116, 104, 91] ++ (itemsT (txt r) 0 t.l ++ [93])
    else [] := rfl

theorem write_zero : WriteOk 0 := fun _ _ _ _ _ _ _ _ ho => by cases ho
set_option maxHeartbeats 1600000 in
theorem write_1 (r : Nat) (ih : WriteOk r) (w : World) (B b : Nat) (bs : Bs) (d : Nat) (x : At) (h : WB w B b bs) (hr : Rd w 0 B d x.t x.A x.c x.A' x.c') (ho : okV (r + 1) x.t = true) (hl : bs.length + (txt (r + 1) x.t).length ≤ 140737488355328) (hk : x.t.k = 1) :
    Calls Try.prog 26 #[.pointer (some ⟨b, 0, none⟩), x.v] w (WPost B b (bs ++ txt (r + 1) x.t) w) := by
  obtain ⟨d', rfl⟩ := hr.pos
  obtain ⟨o1, o2, o3, _⟩ := (ok_parts r x.t).1 ho
  have TX : Hid (txt (r + 1) x.t = (if x.t.n = 0 then [102, 97, 108, 115, 101] else [116, 114, 117, 101])) := Lib.hid (by rw [txt_succ]; simp [hk])
  have HL := Lib.hid hl
  have IH := Lib.hid ih
  have OL := Lib.hid o2
  have OM := Lib.hid o3
  have FN : Hid (fitsB x.t.n = true) := Lib.hid (by rw [fits_iff]; exact ⟨hr.1.n0, hr.1.n1⟩)
  obtain ⟨tx, htx⟩ : ∃ tx : Bs, tx = txt (r + 1) x.t := ⟨_, rfl⟩
  rw [← htx]
  have TX2 := Lib.hid (TX.out.symm.trans htx.symm)
  clear htx
  have b0 := below_new w (.cells #[.int .i64 x.t.k, .int .i64 x.t.n, .string x.t.s, .slice x.A x.t.l.length x.c, .slice x.A' x.t.m.length x.c'] 24)
  have hbx := Bx.new w x
  have H := Lib.hid h
  have HR := Lib.hid hr
  clear h hr ho hl ih o1 o2 o3
  unfold At.v
  go_enter Try.func26, Try.ntmps26
  go_upto_region 1 with fail
  (try rw [hk] at b0 hbx)
  generalize hW : World.alloc w _ = W at b0 hbx ⊢
  have hsz : w.heap.size < W.heap.size := by rw [← hW]; simp
  clear hW
  have WBW := Lib.hid (H.out.next b0)
  have K0 := Lib.hid (WK.below (b := b) b0 H.out.2)
  have RL1 := Lib.hid (HR.out.2.1.below (B' := B) (b0.mono H.out.2) (Nat.le_refl _))
  have RM1 := Lib.hid (HR.out.2.2.below (B' := B) (b0.mono H.out.2) (Nat.le_refl _))
  have HBX := Lib.hid hbx
  have hgb := Lib.hid (show w.heap.size ≠ b by have := H.out.lt; omega)
  clear b0 hbx
  generalize w.heap.size = gx at *
  obtain ⟨q0, q1, q2, q3, q4, _⟩ := HBX.out
  (try rw [hk] at q0)
  have WR := writeBool_any W B b bs x.t.n WBW.out (by have := HL.out; rw [TX.out] at this; exact this)
  unfold WPost at WR
  rw [TX2.out] at WR
  replace WR := Lib.hid WR
  go_wp2_with fail
  refine WR.out.mono ?_
  rintro e w2 ⟨rfl, hw⟩
  have HW2 := Lib.hid hw
  clear hw WR q0 q1 q2 q3 q4
  go_wp2
  go_end0
  exact ⟨rfl, HW2.out.1, K0.out.trans HW2.out.2⟩
set_option maxHeartbeats 1600000 in
theorem write_4 (r : Nat) (ih : WriteOk r) (w : World) (B b : Nat) (bs : Bs) (d : Nat) (x : At) (h : WB w B b bs) (hr : Rd w 0 B d x.t x.A x.c x.A' x.c') (ho : okV (r + 1) x.t = true) (hl : bs.length + (txt (r + 1) x.t).length ≤ 140737488355328) (hk : x.t.k = 4) :
    Calls Try.prog 26 #[.pointer (some ⟨b, 0, none⟩), x.v] w (WPost B b (bs ++ txt (r + 1) x.t) w) := by
  obtain ⟨d', rfl⟩ := hr.pos
  obtain ⟨o1, o2, o3, _⟩ := (ok_parts r x.t).1 ho
  have TX : Hid (txt (r + 1) x.t = ([118, 91] ++ (digL x.t.n ++ [93]))) := Lib.hid (by rw [txt_succ]; simp [hk])
  have HL := Lib.hid hl
  have IH := Lib.hid ih
  have OL := Lib.hid o2
  have OM := Lib.hid o3
  have FN : Hid (fitsB x.t.n = true) := Lib.hid (by rw [fits_iff]; exact ⟨hr.1.n0, hr.1.n1⟩)
  obtain ⟨tx, htx⟩ : ∃ tx : Bs, tx = txt (r + 1) x.t := ⟨_, rfl⟩
  rw [← htx]
  have TX2 := Lib.hid (TX.out.symm.trans htx.symm)
  clear htx
  have b0 := below_new w (.cells #[.int .i64 x.t.k, .int .i64 x.t.n, .string x.t.s, .slice x.A x.t.l.length x.c, .slice x.A' x.t.m.length x.c'] 24)
  have hbx := Bx.new w x
  have H := Lib.hid h
  have HR := Lib.hid hr
  clear h hr ho hl ih o1 o2 o3
  unfold At.v
  go_enter Try.func26, Try.ntmps26
  go_upto_region 1 with fail
  (try rw [hk] at b0 hbx)
  generalize hW : World.alloc w _ = W at b0 hbx ⊢
  have hsz : w.heap.size < W.heap.size := by rw [← hW]; simp
  clear hW
  have WBW := Lib.hid (H.out.next b0)
  have K0 := Lib.hid (WK.below (b := b) b0 H.out.2)
  have RL1 := Lib.hid (HR.out.2.1.below (B' := B) (b0.mono H.out.2) (Nat.le_refl _))
  have RM1 := Lib.hid (HR.out.2.2.below (B' := B) (b0.mono H.out.2) (Nat.le_refl _))
  have HBX := Lib.hid hbx
  have hgb := Lib.hid (show w.heap.size ≠ b by have := H.out.lt; omega)
  clear b0 hbx
  generalize w.heap.size = gx at *
  obtain ⟨q0, q1, q2, q3, q4, _⟩ := HBX.out
  (try rw [hk] at q0)
  have WR := writeThing_any W B b bs [118, 91] x.t.n FN.out WBW.out (by have := HL.out; rw [TX.out] at this; exact this)
  unfold WPost at WR
  rw [TX2.out] at WR
  replace WR := Lib.hid WR
  go_wp2_with fail
  refine WR.out.mono ?_
  rintro e w2 ⟨rfl, hw⟩
  have HW2 := Lib.hid hw
  clear hw WR q0 q1 q2 q3 q4
  go_wp2
  go_end0
  exact ⟨rfl, HW2.out.1, K0.out.trans HW2.out.2⟩
set_option maxHeartbeats 1600000 in
theorem write_5 (r : Nat) (ih : WriteOk r) (w : World) (B b : Nat) (bs : Bs) (d : Nat) (x : At) (h : WB w B b bs) (hr : Rd w 0 B d x.t x.A x.c x.A' x.c') (ho : okV (r + 1) x.t = true) (hl : bs.length + (txt (r + 1) x.t).length ≤ 140737488355328) (hk : x.t.k = 5) :
    Calls Try.prog 26 #[.pointer (some ⟨b, 0, none⟩), x.v] w (WPost B b (bs ++ txt (r + 1) x.t) w) := by
  obtain ⟨d', rfl⟩ := hr.pos
  obtain ⟨o1, o2, o3, _⟩ := (ok_parts r x.t).1 ho
  have TX : Hid (txt (r + 1) x.t = ([101, 91] ++ (digL x.t.n ++ [93]))) := Lib.hid (by rw [txt_succ]; simp [hk])
  have HL := Lib.hid hl
  have IH := Lib.hid ih
  have OL := Lib.hid o2
  have OM := Lib.hid o3
  have FN : Hid (fitsB x.t.n = true) := Lib.hid (by rw [fits_iff]; exact ⟨hr.1.n0, hr.1.n1⟩)
  obtain ⟨tx, htx⟩ : ∃ tx : Bs, tx = txt (r + 1) x.t := ⟨_, rfl⟩
  rw [← htx]
  have TX2 := Lib.hid (TX.out.symm.trans htx.symm)
  clear htx
  have b0 := below_new w (.cells #[.int .i64 x.t.k, .int .i64 x.t.n, .string x.t.s, .slice x.A x.t.l.length x.c, .slice x.A' x.t.m.length x.c'] 24)
  have hbx := Bx.new w x
  have H := Lib.hid h
  have HR := Lib.hid hr
  clear h hr ho hl ih o1 o2 o3
  unfold At.v
  go_enter Try.func26, Try.ntmps26
  go_upto_region 1 with fail
  (try rw [hk] at b0 hbx)
  generalize hW : World.alloc w _ = W at b0 hbx ⊢
  have hsz : w.heap.size < W.heap.size := by rw [← hW]; simp
  clear hW
  have WBW := Lib.hid (H.out.next b0)
  have K0 := Lib.hid (WK.below (b := b) b0 H.out.2)
  have RL1 := Lib.hid (HR.out.2.1.below (B' := B) (b0.mono H.out.2) (Nat.le_refl _))
  have RM1 := Lib.hid (HR.out.2.2.below (B' := B) (b0.mono H.out.2) (Nat.le_refl _))
  have HBX := Lib.hid hbx
  have hgb := Lib.hid (show w.heap.size ≠ b by have := H.out.lt; omega)
  clear b0 hbx
  generalize w.heap.size = gx at *
  obtain ⟨q0, q1, q2, q3, q4, _⟩ := HBX.out
  (try rw [hk] at q0)
  have WR := writeThing_any W B b bs [101, 91] x.t.n FN.out WBW.out (by have := HL.out; rw [TX.out] at this; exact this)
  unfold WPost at WR
  rw [TX2.out] at WR
  replace WR := Lib.hid WR
  go_wp2_with fail
  refine WR.out.mono ?_
  rintro e w2 ⟨rfl, hw⟩
  have HW2 := Lib.hid hw
  clear hw WR q0 q1 q2 q3 q4
  go_wp2
  go_end0
  exact ⟨rfl, HW2.out.1, K0.out.trans HW2.out.2⟩
set_option maxHeartbeats 1600000 in
theorem write_6 (r : Nat) (ih : WriteOk r) (w : World) (B b : Nat) (bs : Bs) (d : Nat) (x : At) (h : WB w B b bs) (hr : Rd w 0 B d x.t x.A x.c x.A' x.c') (ho : okV (r + 1) x.t = true) (hl : bs.length + (txt (r + 1) x.t).length ≤ 140737488355328) (hk : x.t.k = 6) :
    Calls Try.prog 26 #[.pointer (some ⟨b, 0, none⟩), x.v] w (WPost B b (bs ++ txt (r + 1) x.t) w) := by
  obtain ⟨d', rfl⟩ := hr.pos
  obtain ⟨o1, o2, o3, _⟩ := (ok_parts r x.t).1 ho
  have TX : Hid (txt (r + 1) x.t = ([91] ++ (itemsT (txt r) 0 x.t.l ++ [93]))) := Lib.hid (by rw [txt_succ]; simp [hk])
  have HL := Lib.hid hl
  have IH := Lib.hid ih
  have OL := Lib.hid o2
  have OM := Lib.hid o3
  have FN : Hid (fitsB x.t.n = true) := Lib.hid (by rw [fits_iff]; exact ⟨hr.1.n0, hr.1.n1⟩)
  obtain ⟨tx, htx⟩ : ∃ tx : Bs, tx = txt (r + 1) x.t := ⟨_, rfl⟩
  rw [← htx]
  have TX2 := Lib.hid (TX.out.symm.trans htx.symm)
  clear htx
  have b0 := below_new w (.cells #[.int .i64 x.t.k, .int .i64 x.t.n, .string x.t.s, .slice x.A x.t.l.length x.c, .slice x.A' x.t.m.length x.c'] 24)
  have hbx := Bx.new w x
  have H := Lib.hid h
  have HR := Lib.hid hr
  clear h hr ho hl ih o1 o2 o3
  unfold At.v
  go_enter Try.func26, Try.ntmps26
  go_upto_region 1 with fail
  (try rw [hk] at b0 hbx)
  generalize hW : World.alloc w _ = W at b0 hbx ⊢
  have hsz : w.heap.size < W.heap.size := by rw [← hW]; simp
  clear hW
  have WBW := Lib.hid (H.out.next b0)
  have K0 := Lib.hid (WK.below (b := b) b0 H.out.2)
  have RL1 := Lib.hid (HR.out.2.1.below (B' := B) (b0.mono H.out.2) (Nat.le_refl _))
  have RM1 := Lib.hid (HR.out.2.2.below (B' := B) (b0.mono H.out.2) (Nat.le_refl _))
  have HBX := Lib.hid hbx
  have hgb := Lib.hid (show w.heap.size ≠ b by have := H.out.lt; omega)
  clear b0 hbx
  generalize w.heap.size = gx at *
  obtain ⟨q0, q1, q2, q3, q4, _⟩ := HBX.out
  (try rw [hk] at q0)
  have WR := writeRow_any r IH.out W B b bs [91] d' x.A x.c x.t.l WBW.out RL1.out OL.out (by have := HL.out; rw [TX.out] at this; exact this)
  unfold WPost at WR
  rw [TX2.out] at WR
  replace WR := Lib.hid WR
  go_wp2_with fail
  refine WR.out.mono ?_
  rintro e w2 ⟨rfl, hw⟩
  have HW2 := Lib.hid hw
  clear hw WR q0 q1 q2 q3 q4
  go_wp2
  go_end0
  exact ⟨rfl, HW2.out.1, K0.out.trans HW2.out.2⟩
set_option maxHeartbeats 1600000 in
theorem write_7 (r : Nat) (ih : WriteOk r) (w : World) (B b : Nat) (bs : Bs) (d : Nat) (x : At) (h : WB w B b bs) (hr : Rd w 0 B d x.t x.A x.c x.A' x.c') (ho : okV (r + 1) x.t = true) (hl : bs.length + (txt (r + 1) x.t).length ≤ 140737488355328) (hk : x.t.k = 7) :
    Calls Try.prog 26 #[.pointer (some ⟨b, 0, none⟩), x.v] w (WPost B b (bs ++ txt (r + 1) x.t) w) := by
  obtain ⟨d', rfl⟩ := hr.pos
  obtain ⟨o1, o2, o3, _⟩ := (ok_parts r x.t).1 ho
  have TX : Hid (txt (r + 1) x.t = ([123] ++ (itemsT (pairT (txt r)) 0 (x.t.l.zip x.t.m) ++ [125]))) := Lib.hid (by rw [txt_succ]; simp [hk])
  have HL := Lib.hid hl
  have IH := Lib.hid ih
  have OL := Lib.hid o2
  have OM := Lib.hid o3
  have LM := Lib.hid (fits_7 o1 hk)
  have FN : Hid (fitsB x.t.n = true) := Lib.hid (by rw [fits_iff]; exact ⟨hr.1.n0, hr.1.n1⟩)
  obtain ⟨tx, htx⟩ : ∃ tx : Bs, tx = txt (r + 1) x.t := ⟨_, rfl⟩
  rw [← htx]
  have TX2 := Lib.hid (TX.out.symm.trans htx.symm)
  clear htx
  have b0 := below_new w (.cells #[.int .i64 x.t.k, .int .i64 x.t.n, .string x.t.s, .slice x.A x.t.l.length x.c, .slice x.A' x.t.m.length x.c'] 24)
  have hbx := Bx.new w x
  have H := Lib.hid h
  have HR := Lib.hid hr
  clear h hr ho hl ih o1 o2 o3
  unfold At.v
  go_enter Try.func26, Try.ntmps26
  go_upto_region 1 with fail
  (try rw [hk] at b0 hbx)
  generalize hW : World.alloc w _ = W at b0 hbx ⊢
  have hsz : w.heap.size < W.heap.size := by rw [← hW]; simp
  clear hW
  have WBW := Lib.hid (H.out.next b0)
  have K0 := Lib.hid (WK.below (b := b) b0 H.out.2)
  have RL1 := Lib.hid (HR.out.2.1.below (B' := B) (b0.mono H.out.2) (Nat.le_refl _))
  have RM1 := Lib.hid (HR.out.2.2.below (B' := B) (b0.mono H.out.2) (Nat.le_refl _))
  have HBX := Lib.hid hbx
  have hgb := Lib.hid (show w.heap.size ≠ b by have := H.out.lt; omega)
  clear b0 hbx
  generalize w.heap.size = gx at *
  obtain ⟨q0, q1, q2, q3, q4, _⟩ := HBX.out
  (try rw [hk] at q0)
  have WR := writeDict_any r IH.out W B b bs d' x.A x.c x.t.l x.A' x.c' x.t.m WBW.out RL1.out RM1.out LM.out OL.out OM.out (by have := HL.out; rw [TX.out] at this; exact this)
  unfold WPost at WR
  rw [TX2.out] at WR
  replace WR := Lib.hid WR
  go_wp2_with fail
  refine WR.out.mono ?_
  rintro e w2 ⟨rfl, hw⟩
  have HW2 := Lib.hid hw
  clear hw WR q0 q1 q2 q3 q4
  go_wp2
  go_end0
  exact ⟨rfl, HW2.out.1, K0.out.trans HW2.out.2⟩
set_option maxHeartbeats 1600000 in
theorem write_8 (r : Nat) (ih : WriteOk r) (w : World) (B b : Nat) (bs : Bs) (d : Nat) (x : At) (h : WB w B b bs) (hr : Rd w 0 B d x.t x.A x.c x.A' x.c') (ho : okV (r + 1) x.t = true) (hl : bs.length + (txt (r + 1) x.t).length ≤ 140737488355328) (hk : x.t.k = 8) :
    Calls Try.prog 26 #[.pointer (some ⟨b, 0, none⟩), x.v] w (WPost B b (bs ++ txt (r + 1) x.t) w) := by
  obtain ⟨d', rfl⟩ := hr.pos
  obtain ⟨o1, o2, o3, _⟩ := (ok_parts r x.t).1 ho
  have TX : Hid (txt (r + 1) x.t = ([112, 97, 116, 104, 91] ++ (itemsT (txt r) 0 x.t.l ++ [93]))) := Lib.hid (by rw [txt_succ]; simp [hk])
  have HL := Lib.hid hl
  have IH := Lib.hid ih
  have OL := Lib.hid o2
  have OM := Lib.hid o3
  have FN : Hid (fitsB x.t.n = true) := Lib.hid (by rw [fits_iff]; exact ⟨hr.1.n0, hr.1.n1⟩)
  obtain ⟨tx, htx⟩ : ∃ tx : Bs, tx = txt (r + 1) x.t := ⟨_, rfl⟩
  rw [← htx]
  have TX2 := Lib.hid (TX.out.symm.trans htx.symm)
  clear htx
  have b0 := below_new w (.cells #[.int .i64 x.t.k, .int .i64 x.t.n, .string x.t.s, .slice x.A x.t.l.length x.c, .slice x.A' x.t.m.length x.c'] 24)
  have hbx := Bx.new w x
  have H := Lib.hid h
  have HR := Lib.hid hr
  clear h hr ho hl ih o1 o2 o3
  unfold At.v
  go_enter Try.func26, Try.ntmps26
  go_upto_region 1 with fail
  (try rw [hk] at b0 hbx)
  generalize hW : World.alloc w _ = W at b0 hbx ⊢
  have hsz : w.heap.size < W.heap.size := by rw [← hW]; simp
  clear hW
  have WBW := Lib.hid (H.out.next b0)
  have K0 := Lib.hid (WK.below (b := b) b0 H.out.2)
  have RL1 := Lib.hid (HR.out.2.1.below (B' := B) (b0.mono H.out.2) (Nat.le_refl _))
  have RM1 := Lib.hid (HR.out.2.2.below (B' := B) (b0.mono H.out.2) (Nat.le_refl _))
  have HBX := Lib.hid hbx
  have hgb := Lib.hid (show w.heap.size ≠ b by have := H.out.lt; omega)
  clear b0 hbx
  generalize w.heap.size = gx at *
  obtain ⟨q0, q1, q2, q3, q4, _⟩ := HBX.out
  (try rw [hk] at q0)
  have WR := writeRow_any r IH.out W B b bs [112, 97, 116, 104, 91] d' x.A x.c x.t.l WBW.out RL1.out OL.out (by have := HL.out; rw [TX.out] at this; exact this)
  unfold WPost at WR
  rw [TX2.out] at WR
  replace WR := Lib.hid WR
  go_wp2_with fail
  refine WR.out.mono ?_
  rintro e w2 ⟨rfl, hw⟩
  have HW2 := Lib.hid hw
  clear hw WR q0 q1 q2 q3 q4
  go_wp2
  go_end0
  exact ⟨rfl, HW2.out.1, K0.out.trans HW2.out.2⟩
set_option maxHeartbeats 1600000 in
theorem write_2 (r : Nat) (ih : WriteOk r) (w : World) (B b : Nat) (bs : Bs) (d : Nat) (x : At) (h : WB w B b bs) (hr : Rd w 0 B d x.t x.A x.c x.A' x.c') (ho : okV (r + 1) x.t = true) (hl : bs.length + (txt (r + 1) x.t).length ≤ 140737488355328) (hk : x.t.k = 2) :
    Calls Try.prog 26 #[.pointer (some ⟨b, 0, none⟩), x.v] w (WPost B b (bs ++ txt (r + 1) x.t) w) := by
  obtain ⟨d', rfl⟩ := hr.pos
  obtain ⟨o1, o2, o3, _⟩ := (ok_parts r x.t).1 ho
  have TX : Hid (txt (r + 1) x.t = digL x.t.n) := Lib.hid (by rw [txt_succ]; simp [hk])
  have HL := Lib.hid hl
  have IH := Lib.hid ih
  have OL := Lib.hid o2
  have OM := Lib.hid o3
  have FN : Hid (fitsB x.t.n = true) := Lib.hid (by rw [fits_iff]; exact ⟨hr.1.n0, hr.1.n1⟩)
  obtain ⟨tx, htx⟩ : ∃ tx : Bs, tx = txt (r + 1) x.t := ⟨_, rfl⟩
  rw [← htx]
  have TX2 := Lib.hid (TX.out.symm.trans htx.symm)
  clear htx
  have b0 := below_new w (.cells #[.int .i64 x.t.k, .int .i64 x.t.n, .string x.t.s, .slice x.A x.t.l.length x.c, .slice x.A' x.t.m.length x.c'] 24)
  have hbx := Bx.new w x
  have H := Lib.hid h
  have HR := Lib.hid hr
  clear h hr ho hl ih o1 o2 o3
  unfold At.v
  go_enter Try.func26, Try.ntmps26
  go_upto_region 1 with fail
  (try rw [hk] at b0 hbx)
  generalize hW : World.alloc w _ = W at b0 hbx ⊢
  have hsz : w.heap.size < W.heap.size := by rw [← hW]; simp
  clear hW
  have WBW := Lib.hid (H.out.next b0)
  have K0 := Lib.hid (WK.below (b := b) b0 H.out.2)
  have RL1 := Lib.hid (HR.out.2.1.below (B' := B) (b0.mono H.out.2) (Nat.le_refl _))
  have RM1 := Lib.hid (HR.out.2.2.below (B' := B) (b0.mono H.out.2) (Nat.le_refl _))
  have HBX := Lib.hid hbx
  have hgb := Lib.hid (show w.heap.size ≠ b by have := H.out.lt; omega)
  clear b0 hbx
  generalize w.heap.size = gx at *
  obtain ⟨q0, q1, q2, q3, q4, _⟩ := HBX.out
  (try rw [hk] at q0)
  go_wp2_with fail
  refine (digits_any x.t.n W FN.out).mono ?_
  rintro e w2 ⟨rfl, hb⟩
  have W2 := Lib.hid (WBW.out.next hb)
  have K2 := Lib.hid (K0.out.trans (WK.below (b := b) hb WBW.out.2))
  clear hb q0 q1 q2 q3 q4
  have WR := Lib.hid (str_lit w2 B b bs (digL x.t.n) W2.out (by have := HL.out; rw [TX.out] at this; exact this))
  obtain ⟨sd, hsd⟩ : ∃ s : ByteArray, s = ⟨(digL x.t.n).toArray⟩ := ⟨_, rfl⟩
  rw [← hsd] at WR ⊢
  clear hsd
  rw [TX2.out] at WR
  go_wp2_with fail
  refine WR.out.mono ?_
  rintro e w3 ⟨rfl, hw⟩
  have HW2 := Lib.hid hw
  clear hw WR
  go_wp2
  go_end0
  exact ⟨rfl, HW2.out.1, K2.out.trans HW2.out.2⟩
set_option maxHeartbeats 1600000 in
theorem write_3 (r : Nat) (ih : WriteOk r) (w : World) (B b : Nat) (bs : Bs) (d : Nat) (x : At) (h : WB w B b bs) (hr : Rd w 0 B d x.t x.A x.c x.A' x.c') (ho : okV (r + 1) x.t = true) (hl : bs.length + (txt (r + 1) x.t).length ≤ 140737488355328) (hk : x.t.k = 3) :
    Calls Try.prog 26 #[.pointer (some ⟨b, 0, none⟩), x.v] w (WPost B b (bs ++ txt (r + 1) x.t) w) := by
  obtain ⟨d', rfl⟩ := hr.pos
  obtain ⟨o1, o2, o3, _⟩ := (ok_parts r x.t).1 ho
  have TX : Hid (txt (r + 1) x.t = qL x.t.s.toList) := Lib.hid (by rw [txt_succ]; simp [hk])
  have HL := Lib.hid hl
  have IH := Lib.hid ih
  have OL := Lib.hid o2
  have OM := Lib.hid o3
  have S3 := Lib.hid (fits_3 o1 hk)
  have FN : Hid (fitsB x.t.n = true) := Lib.hid (by rw [fits_iff]; exact ⟨hr.1.n0, hr.1.n1⟩)
  obtain ⟨tx, htx⟩ : ∃ tx : Bs, tx = txt (r + 1) x.t := ⟨_, rfl⟩
  rw [← htx]
  have TX2 := Lib.hid (TX.out.symm.trans htx.symm)
  clear htx
  have b0 := below_new w (.cells #[.int .i64 x.t.k, .int .i64 x.t.n, .string x.t.s, .slice x.A x.t.l.length x.c, .slice x.A' x.t.m.length x.c'] 24)
  have hbx := Bx.new w x
  have H := Lib.hid h
  have HR := Lib.hid hr
  clear h hr ho hl ih o1 o2 o3
  unfold At.v
  go_enter Try.func26, Try.ntmps26
  go_upto_region 1 with fail
  (try rw [hk] at b0 hbx)
  generalize hW : World.alloc w _ = W at b0 hbx ⊢
  have hsz : w.heap.size < W.heap.size := by rw [← hW]; simp
  clear hW
  have WBW := Lib.hid (H.out.next b0)
  have K0 := Lib.hid (WK.below (b := b) b0 H.out.2)
  have RL1 := Lib.hid (HR.out.2.1.below (B' := B) (b0.mono H.out.2) (Nat.le_refl _))
  have RM1 := Lib.hid (HR.out.2.2.below (B' := B) (b0.mono H.out.2) (Nat.le_refl _))
  have HBX := Lib.hid hbx
  have hgb := Lib.hid (show w.heap.size ≠ b by have := H.out.lt; omega)
  clear b0 hbx
  generalize w.heap.size = gx at *
  obtain ⟨q0, q1, q2, q3, q4, _⟩ := HBX.out
  (try rw [hk] at q0)
  go_wp2_with fail
  refine (quote_any x.t.s W (by have := S3.out; omega)).mono ?_
  rintro e w2 ⟨rfl, hb⟩
  have W2 := Lib.hid (WBW.out.next hb)
  have K2 := Lib.hid (K0.out.trans (WK.below (b := b) hb WBW.out.2))
  clear hb q0 q1 q2 q3 q4
  have WR := Lib.hid (str_lit w2 B b bs (qL x.t.s.toList) W2.out (by have := HL.out; rw [TX.out] at this; exact this))
  obtain ⟨sd, hsd⟩ : ∃ s : ByteArray, s = ⟨(qL x.t.s.toList).toArray⟩ := ⟨_, rfl⟩
  rw [← hsd] at WR ⊢
  clear hsd
  rw [TX2.out] at WR
  go_wp2_with fail
  refine WR.out.mono ?_
  rintro e w3 ⟨rfl, hw⟩
  have HW2 := Lib.hid hw
  clear hw WR
  go_wp2
  go_end0
  exact ⟨rfl, HW2.out.1, K2.out.trans HW2.out.2⟩

theorem write_succ (r : Nat) (ih : WriteOk r) : WriteOk (r + 1) := fun w B b bs d x h hr ho hl => by
  rcases fits_kind ((ok_parts r x.t).1 ho).1 with hk | hk | hk | hk | hk | hk | hk | hk
  · exact write_1 r ih w B b bs d x h hr ho hl hk
  · exact write_2 r ih w B b bs d x h hr ho hl hk
  · exact write_3 r ih w B b bs d x h hr ho hl hk
  · exact write_4 r ih w B b bs d x h hr ho hl hk
  · exact write_5 r ih w B b bs d x h hr ho hl hk
  · exact write_6 r ih w B b bs d x h hr ho hl hk
  · exact write_7 r ih w B b bs d x h hr ho hl hk
  · exact write_8 r ih w B b bs d x h hr ho hl hk
theorem write_any : ∀ r, WriteOk r
  | 0 => write_zero
  | r + 1 => write_succ r (write_any r)

end Go.Proofs.Ytmgjiipooffggaa
/- Print. -/
namespace Go.Proofs.Ytmgjiipooffggaa
set_option maxRecDepth 100000
open Go.RowKit Go.Sort

theorem wb_start (w : World) : WB (w.alloc (.cells #[.pointer none, .slice none 0 0] 52)) w.heap.size w.heap.size [] :=
  ⟨.inl ⟨Nat.le_refl _, .slice none 0 0, heap_alloc_new w _, ⟨by simp [Lib.byteCells], .inl ⟨rfl, rfl⟩⟩, by simp [Value.ownBlock]⟩, by simp⟩
theorem string_any (w : World) (B b : Nat) (bs : Bs) (h : WB w B b bs) : Calls Try.prog 27 #[.pointer (some ⟨b, 0, none⟩)] w fun e w' => e = .returned (.string ⟨bs.toArray⟩) ∧ WP B b bs w w' :=
  (Try.Builder_String_any_k B b bs w h.1 h.2).mono fun _ _ ⟨he, hb, hk, ho⟩ => ⟨he, ⟨hb, Nat.le_trans h.2 hk.size⟩, hk, ho⟩

/-- What Print answers. -/
def prtS (t : V) : Bs := if okV 12 t then txt 12 t else []
def prtE (t : V) : Int := if okV 12 t then 0 else 2
set_option maxHeartbeats 1600000 in
theorem print_any (w : World) (d : Nat) (x : At) (hx : x.In w d) (hl : okV 12 x.t = true → (txt 12 x.t).length ≤ 140737488355328) :
    Calls Try.prog 12 #[x.v] w fun e w' => e = .returned (.tuple #[.string ⟨(prtS x.t).toArray⟩, .int .i64 (prtE x.t)]) ∧ Below w.heap.size w w' := by
  have b0 := below_new w (.cells #[.int .i64 x.t.k, .int .i64 x.t.n, .string x.t.s, .slice x.A x.t.l.length x.c, .slice x.A' x.t.m.length x.c'] 24)
  have hbx := Bx.new w x
  have HX := Lib.hid hx
  have HL := Lib.hid hl
  clear hx hl
  obtain ⟨PS, hPS⟩ : ∃ s : ByteArray, s = ⟨(prtS x.t).toArray⟩ := ⟨_, rfl⟩
  obtain ⟨PE, hPE⟩ : ∃ n : Int, n = prtE x.t := ⟨_, rfl⟩
  rw [← hPS, ← hPE]
  replace hPS := Lib.hid hPS
  replace hPE := Lib.hid hPE
  unfold At.v
  go_enter Try.func12, Try.ntmps12
  go_upto_region 1 with fail
  generalize hW : World.alloc w _ = W at b0 hbx ⊢
  have hsz : w.heap.size < W.heap.size := by rw [← hW]; simp
  clear hW
  have X0 := Lib.hid (HX.out.next b0)
  have B0 := Lib.hid b0
  have HBX := Lib.hid hbx
  clear b0 hbx
  obtain ⟨gx, hgx⟩ : ∃ g : Nat, g = w.heap.size := ⟨_, rfl⟩
  rw [← hgx] at HBX hsz ⊢
  clear hgx
  obtain ⟨q0, q1, q2, q3, q4, _⟩ := HBX.out
  go_wp2_with fail
  refine (isValue_at W d x X0.out).mono ?_
  rintro e w1 ⟨rfl, hb⟩
  have X1 := Lib.hid (X0.out.next hb)
  have B1 := Lib.hid (bnext B0.out hb)
  have HBX1 := Lib.hid (HBX.out.next hb)
  have hs1 : gx < w1.heap.size := Nat.lt_of_lt_of_le hsz hb.size
  clear hb q0 q1 q2 q3 q4 X0 B0 HBX
  cases hok : okV 12 x.t with
  | false =>
    have e1 : PS = ⟨#[]⟩ := by rw [hPS.out]; simp [prtS, hok]
    have e2 : PE = 2 := by rw [hPE.out]; simp [prtE, hok]
    subst e1 e2
    go_wp2
    go_ret2
    exact ⟨rfl, B1.out⟩
  | true =>
    have HOK := Lib.hid hok
    have e1 : PS = ⟨(txt 12 x.t).toArray⟩ := by rw [hPS.out]; simp [prtS, hok]
    have e2 : PE = 0 := by rw [hPE.out]; simp [prtE, hok]
    subst e2
    replace e1 := Lib.hid e1
    clear hok hPS
    go_upto_region 4 with fail
    have z0 := below_new w1 (.cells #[.pointer none, .slice none 0 0] 52)
    have wb := wb_start w1
    generalize hW2 : World.alloc w1 _ = W2 at z0 wb ⊢
    clear hW2
    have HWB := Lib.hid wb
    have HBX2 := Lib.hid (HBX1.out.next z0)
    have WT := Lib.hid (write_any 12 W2 w1.heap.size w1.heap.size [] d x wb (Rd.below (B' := w1.heap.size) X1.out z0 (Nat.le_refl _)) HOK.out (by simpa using HL.out HOK.out))
    have BB := Lib.hid (bnext B1.out z0)
    have HZ := Lib.hid z0
    clear z0 wb
    obtain ⟨q0, q1, q2, q3, q4, _⟩ := HBX2.out
    obtain ⟨gb, hgb⟩ : ∃ g : Nat, g = w1.heap.size := ⟨_, rfl⟩
    rw [← hgb] at WT HZ HWB hs1 ⊢
    replace hgb := Lib.hid hgb
    go_wp2_with fail
    refine WT.out.mono ?_
    rintro e w3 ⟨rfl, hw⟩
    have HW3 := Lib.hid hw
    clear hw WT q0 q1 q2 q3 q4
    have ST := Lib.hid (string_any w3 gb gb ([] ++ txt 12 x.t) HW3.out.1)
    rw [List.nil_append, ← e1.out] at ST
    go_wp2_with fail
    refine ST.out.mono ?_
    rintro e w4 ⟨rfl, hw⟩
    have HW4 := Lib.hid hw
    clear hw ST
    go_wp2
    go_ret2
    refine ⟨rfl, ?_⟩
    have h1 := B1.out
    have h2 := HZ.out
    have h3 := HW3.out.2.1
    have h4 := HW4.out.2.1
    rw [hgb.out] at h2 h3 h4
    exact bnext h1 ((h2.trans h3).trans h4)
end Go.Proofs.Ytmgjiipooffggaa
