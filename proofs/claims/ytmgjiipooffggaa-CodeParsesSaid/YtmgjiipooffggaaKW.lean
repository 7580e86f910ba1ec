/- How many values there are in one; how long its text is. -/
import Derived.Test.YtmgjiipooffggaaKU
import Derived.Test.YtmgjiipooffggaaVL
namespace Go.Proofs.Ytmgjiipooffggaa
set_option maxRecDepth 100000
open Go.RowKit

def sumN (f : V → Nat) : List V → Nat
  | [] => 0
  | x :: r => f x + sumN f r
theorem sumN_append (f : V → Nat) : ∀ a b, sumN f (a ++ b) = sumN f a + sumN f b
  | [], b => by simp [sumN]
  | x :: a, b => by simp [sumN, sumN_append f a b]; omega
theorem sumN_next (f : V → Nat) (l : List V) (k : Nat) {x : V} (h : l[k]? = some x) : sumN f (l.take (k + 1)) = sumN f (l.take k) + f x := by
  rw [take_next l k h, sumN_append]; simp [sumN]
/-- How many values there are in one. -/
def cntV : Nat → V → Nat
  | 0, _ => 1
  | r + 1, t => 1 + sumN (cntV r) t.l + sumN (cntV r) t.m + t.s.size / 20
theorem qM_len4 (l : Bs) : (qL l).length ≤ 4 * l.length + 2 := by
  have := qM_len l
  unfold qL
  simp; omega
theorem fits_s {t : V} (h : fitsV t = true) (hk : t.k ≠ 3) : t.s.size = 0 := by
  unfold fitsV at h
  have e : ∀ {b : Bool}, (t.s.toList.isEmpty && b) = true → t.s.size = 0 := fun {b} hb => by
    rw [Bool.and_eq_true, List.isEmpty_iff] at hb
    rw [← toList_size, hb.1]; rfl
  rcases fits_kind (t := t) (by unfold fitsV; exact h) with k | k | k | k | k | k | k | k
  all_goals (simp [k] at h)
  all_goals (rw [← toList_size])
  all_goals (first | exact absurd k hk | (simp [h]))
theorem items_le (f : V → Bs) (g : V → Nat) : ∀ (l : List V) (i : Nat), (∀ x ∈ l, (f x).length + 2 ≤ 100 * g x) → (itemsT f i l).length ≤ 100 * sumN g l
  | [], _, _ => by simp [itemsT]
  | x :: r, i, h => by
    have h1 := items_le f g r (i + 1) (fun y hy => h y (by simp [hy]))
    have h2 := h x (by simp)
    simp only [itemsT, List.length_append, sumN]
    have : (if 0 < i then ([44, 32] : Bs) else []).length ≤ 2 := by split <;> simp
    omega
theorem pairs_le (f : V → Bs) (g : V → Nat) : ∀ (l m : List V) (i : Nat), (∀ x ∈ l, (f x).length + 4 ≤ 100 * g x) → (∀ x ∈ m, (f x).length + 4 ≤ 100 * g x) → (itemsT (pairT f) i (l.zip m)).length ≤ 100 * (sumN g l + sumN g m)
  | [], m, _, _, _ => by simp [itemsT]
  | x :: r, [], _, _, _ => by simp [itemsT]
  | x :: r, y :: m, i, h, k => by
    have h1 := pairs_le f g r m (i + 1) (fun y hy => h y (by simp [hy])) (fun y hy => k y (by simp [hy]))
    have h2 := h x (by simp)
    have h3 := k y (by simp)
    simp only [List.zip_cons_cons, itemsT, List.length_append, sumN, pairT, List.length_cons, List.length_nil]
    have : (if 0 < i then ([44, 32] : Bs) else []).length ≤ 2 := by split <;> simp
    omega
/-- A text is not longer than a hundred bytes for each value in it. -/
theorem txt_len : ∀ (r : Nat) (t : V), okV r t = true → intsOk r t → (txt r t).length + 4 ≤ 100 * cntV r t
  | 0, _, h, _ => by cases h
  | r + 1, t, h, hi => by
    obtain ⟨hf, hl, hm, _⟩ := (ok_parts r t).1 h
    obtain ⟨hn, hil, him⟩ := hi
    have L1 : ∀ x ∈ t.l, (txt r x).length + 4 ≤ 100 * cntV r x := fun x hx => txt_len r x (hl x hx) (hil x hx)
    have M1 : ∀ x ∈ t.m, (txt r x).length + 4 ≤ 100 * cntV r x := fun x hx => txt_len r x (hm x hx) (him x hx)
    have I1 := items_le (txt r) (cntV r) t.l 0 (fun x hx => by have := L1 x hx; omega)
    have P1 := pairs_le (txt r) (cntV r) t.l t.m 0 L1 M1
    have D := digL_len t.n hn
    have Q := qM_len4 t.s.toList
    rw [toList_size] at Q
    simp only [cntV]
    rcases fits_kind hf with hk | hk | hk | hk | hk | hk | hk | hk
    · rw [txt_k1 r t hk]; split <;> simp <;> omega
    · rw [txt_k2 r t hk]; omega
    · rw [txt_k3 r t hk]; omega
    · rw [txt_k4 r t hk]; simp; omega
    · rw [txt_k5 r t hk]; simp; omega
    · rw [txt_k6 r t hk]; simp; omega
    · rw [txt_k7 r t hk]; simp; omega
    · rw [txt_k8 r t hk]; simp; omega
theorem fits_size {t : V} (h : fitsV t = true) : t.s.size ≤ 1000 := by
  by_cases hk : t.k = 3
  · exact fits_3 h hk
  · have := fits_s h hk; omega

/-- What Count answers of a value that may be. -/
def CntPost (w : World) (most : Int) (r : Nat) (n : Nat) (e : Ending) (w' : World) : Prop := ∃ c : Int, e = .returned (.int .i64 c) ∧ 1 ≤ c ∧ c ≤ most + 51 * r ∧ (c < most → c = n) ∧ Below w.heap.size w w'
def CntOk (r : Nat) : Prop := ∀ (w : World) (d : Nat) (x : At) (most : Int), 1 ≤ most → most ≤ 300 → r ≤ 12 → x.In w d → okV r x.t = true →
  Calls Try.prog 39 #[x.v, .int .i64 most] w (CntPost w most r (cntV r x.t))

set_option maxHeartbeats 3200000 in
theorem cnt_succ (r : Nat) (ih : CntOk r) : CntOk (r + 1) := by
  intro w d x most hm0 hm1 hr12 hx ho
  obtain ⟨hf, hol, hom, _⟩ := (ok_parts r x.t).1 ho
  have HSZ := fits_size hf
  obtain ⟨d', rfl⟩ := hx.pos
  have RL := Lib.hid hx.2.1
  have RM := Lib.hid hx.2.2
  have hbl := hx.2.1.big
  have hbm := hx.2.2.big
  have IH := Lib.hid ih
  have OL := Lib.hid hol
  have OM := Lib.hid hom
  have CE := Lib.hid (show cntV (r + 1) x.t = 1 + sumN (cntV r) x.t.l + sumN (cntV r) x.t.m + x.t.s.size / 20 from rfl)
  generalize hcn : cntV (r + 1) x.t = CN at CE ⊢
  clear hx ih hol hom ho hf hcn
  unfold At.v
  go_enter Try.func39, Try.ntmps39
  go_wp2
  have k1 := Box.new w x.t x.A x.c x.A' x.c'
  generalize hW : World.alloc w _ = W
  have K1 : Hid (Box W w.heap.size x.t x.A x.c x.A' x.c') := Lib.hid (by rw [← hW]; exact k1)
  have HB : Hid (Below w.heap.size w W) := Lib.hid (by rw [← hW]; exact below_new _ _)
  have hz : w.heap.size < W.heap.size := by rw [← hW]; simp
  clear hW k1
  go_loopw [5, 6] (fun u i wr => ∃ (k : Nat) (y : Int), k ≤ x.t.l.length ∧ i = .int .i64 k ∧ u = .int .i64 y ∧ 1 ≤ y ∧ y ≤ most + 51 * r ∧ Hid (y < most → y = 1 + sumN (cntV r) (x.t.l.take k)) ∧ Hid (Below W.heap.size W wr)) (fun _ i _ => x.t.l.length - (intOf i).toNat)
  case atStart => exact ⟨0, 1, by omega, rfl, rfl, by omega, by omega, Lib.hid (fun _ => by simp [sumN]), Lib.hid (Below.refl _ _)⟩
  case round =>
    obtain ⟨k, y, hk, rfl, rfl, hy0, hy1, hyc, hbel⟩ := hrel
    obtain ⟨c0, c1, c2, c3, c4⟩ := K1.out.below hbel.out hz
    by_cases hlt : k < x.t.l.length
    · by_cases hm : y < most
      · obtain ⟨b, off, z, A1, e1, A2, e2, hA, _, hb, hzz, q, rz⟩ := (RL.out.next (bnext HB.out hbel.out)).elem hlt
        rw [hA] at c3
        obtain ⟨q0, q1, q2, q3, q4⟩ := q
        have RZ := Lib.hid rz
        have OZ := Lib.hid (OL.out z (List.mem_of_getElem? hzz))
        have NX := Lib.hid (sumN_next (cntV r) x.t.l k hzz)
        clear rz hzz hA
        have i1 : IntKind.i64.wrap (most - y) = most - y := IntWalk.i64_in _ (by omega)
        have i1' : wrap64 (most - y) = most - y := by unfold wrap64; omega
        have k0 : (0 : Int) ≤ (k : Int) := by omega
        have k2 : (k : Int) < (x.t.l.length : Int) := by omega
        go_wp2_with fail
        refine (IH.out _ _ ⟨z, A1, e1, A2, e2⟩ (most - y) (by omega) (by omega) (by omega) RZ.out OZ.out).mono ?_
        rintro e w2 ⟨c, rfl, hc0, hc1, hcc, hbc⟩
        have BB := Lib.hid (bnext hbel.out hbc)
        have HCC := Lib.hid hcc
        clear hbc hcc i1 i1' c0 c1 c2 c3 c4 q0 q1 q2 q3 q4
        have i2 : IntKind.i64.wrap (y + c) = y + c := IntWalk.i64_in _ (by omega)
        have i2' : wrap64 (y + c) = y + c := by unfold wrap64; omega
        go_wp2
        go_roundw
        case rel => exact ⟨k + 1, y + c, by omega, by go_num, rfl, by omega, by omega, Lib.hid (fun hlt' => by rw [NX.out]; have h1 := hyc.out hm; have h2 := HCC.out (by omega); have h3 : c = (cntV r z : Int) := h2; push_cast; omega), BB⟩
        case measure => simp [intOf]; omega
      · have Y : Hid (y < most → y = 1 + sumN (cntV r) x.t.l) := Lib.hid (fun h => absurd h hm)
        have hm' : most ≤ y := by omega
        go_wp2
        clear c0 c1 c2 c3 c4
        go_loopw [5, 7] (fun u i wx => ∃ (k2 : Nat) (y2 : Int), k2 ≤ x.t.m.length ∧ i = .int .i64 k2 ∧ u = .int .i64 y2 ∧ 1 ≤ y2 ∧ y2 ≤ most + 51 * r ∧ Hid (y2 < most → y2 = 1 + sumN (cntV r) x.t.l + sumN (cntV r) (x.t.m.take k2)) ∧ Hid (Below W.heap.size W wx)) (fun _ i _ => x.t.m.length - (intOf i).toNat)
        case atStart => exact ⟨0, y, by omega, rfl, rfl, hy0, hy1, Lib.hid (fun h => by rw [Y.out h]; simp [sumN]), hbel⟩
        case round =>
          clear hy0 hy1
          obtain ⟨k2, y2, hk2, rfl, rfl, hz0, hz1, hzc, hbel2⟩ := hrel
          obtain ⟨c0, c1, c2, c3, c4⟩ := K1.out.below hbel2.out hz
          by_cases hlt2 : k2 < x.t.m.length
          · by_cases hm2 : y2 < most
            · obtain ⟨b, off, z, A1, e1, A2, e2, hA, _, hb, hzz, q, rz⟩ := (RM.out.next (bnext HB.out hbel2.out)).elem hlt2
              rw [hA] at c4
              obtain ⟨q0, q1, q2, q3, q4⟩ := q
              have RZ := Lib.hid rz
              have OZ := Lib.hid (OM.out z (List.mem_of_getElem? hzz))
              have NX := Lib.hid (sumN_next (cntV r) x.t.m k2 hzz)
              clear rz hzz hA
              have i1 : IntKind.i64.wrap (most - y2) = most - y2 := IntWalk.i64_in _ (by omega)
              have i1' : wrap64 (most - y2) = most - y2 := by unfold wrap64; omega
              have k0 : (0 : Int) ≤ (k2 : Int) := by omega
              have k3 : (k2 : Int) < (x.t.m.length : Int) := by omega
              go_wp2_with fail
              refine (IH.out _ _ ⟨z, A1, e1, A2, e2⟩ (most - y2) (by omega) (by omega) (by omega) RZ.out OZ.out).mono ?_
              rintro e w2 ⟨c, rfl, hc0, hc1, hcc, hbc⟩
              have BB := Lib.hid (bnext hbel2.out hbc)
              have HCC := Lib.hid hcc
              clear hbc hcc i1 i1' c0 c1 c2 c3 c4 q0 q1 q2 q3 q4
              have i2 : IntKind.i64.wrap (y2 + c) = y2 + c := IntWalk.i64_in _ (by omega)
              have i2' : wrap64 (y2 + c) = y2 + c := by unfold wrap64; omega
              go_wp2
              go_roundw
              case rel => exact ⟨k2 + 1, y2 + c, by omega, by go_num, rfl, by omega, by omega, Lib.hid (fun hlt' => by rw [NX.out]; have h1 := hzc.out hm2; have h2 := HCC.out (by omega); have h3 : c = (cntV r z : Int) := h2; push_cast; omega), BB⟩
              case measure => simp [intOf]; omega
            · have hm2' : most ≤ y2 := by omega
              have HE := Lib.hid (show y2 + (x.t.s.size : Int) / 20 < most → y2 + (x.t.s.size : Int) / 20 = (CN : Int) from fun h => by omega)
              go_wp2
              go_ret
              exact ⟨y2 + (x.t.s.size : Int) / 20, rfl, by omega, by push_cast; omega, HE.out, bnext HB.out hbel2.out⟩
          · have HE := Lib.hid (show y2 + (x.t.s.size : Int) / 20 < most → y2 + (x.t.s.size : Int) / 20 = (CN : Int) from fun h => by
              have h1 := hzc.out (by omega)
              rw [List.take_of_length_le (by omega)] at h1
              rw [CE.out, h1]; push_cast; omega)
            go_wp2
            go_ret
            exact ⟨y2 + (x.t.s.size : Int) / 20, rfl, by omega, by push_cast; omega, HE.out, bnext HB.out hbel2.out⟩
    · have Y : Hid (y < most → y = 1 + sumN (cntV r) x.t.l) := Lib.hid (fun h => by have := hyc.out h; rw [List.take_of_length_le (by omega)] at this; exact this)
      go_wp2
      clear c0 c1 c2 c3 c4
      go_loopw [5, 7] (fun u i wx => ∃ (k2 : Nat) (y2 : Int), k2 ≤ x.t.m.length ∧ i = .int .i64 k2 ∧ u = .int .i64 y2 ∧ 1 ≤ y2 ∧ y2 ≤ most + 51 * r ∧ Hid (y2 < most → y2 = 1 + sumN (cntV r) x.t.l + sumN (cntV r) (x.t.m.take k2)) ∧ Hid (Below W.heap.size W wx)) (fun _ i _ => x.t.m.length - (intOf i).toNat)
      case atStart => exact ⟨0, y, by omega, rfl, rfl, hy0, hy1, Lib.hid (fun h => by rw [Y.out h]; simp [sumN]), hbel⟩
      case round =>
        clear hy0 hy1
        obtain ⟨k2, y2, hk2, rfl, rfl, hz0, hz1, hzc, hbel2⟩ := hrel
        obtain ⟨c0, c1, c2, c3, c4⟩ := K1.out.below hbel2.out hz
        by_cases hlt2 : k2 < x.t.m.length
        · by_cases hm2 : y2 < most
          · obtain ⟨b, off, z, A1, e1, A2, e2, hA, _, hb, hzz, q, rz⟩ := (RM.out.next (bnext HB.out hbel2.out)).elem hlt2
            rw [hA] at c4
            obtain ⟨q0, q1, q2, q3, q4⟩ := q
            have RZ := Lib.hid rz
            have OZ := Lib.hid (OM.out z (List.mem_of_getElem? hzz))
            have NX := Lib.hid (sumN_next (cntV r) x.t.m k2 hzz)
            clear rz hzz hA
            have i1 : IntKind.i64.wrap (most - y2) = most - y2 := IntWalk.i64_in _ (by omega)
            have i1' : wrap64 (most - y2) = most - y2 := by unfold wrap64; omega
            have k0 : (0 : Int) ≤ (k2 : Int) := by omega
            have k3 : (k2 : Int) < (x.t.m.length : Int) := by omega
            go_wp2_with fail
            refine (IH.out _ _ ⟨z, A1, e1, A2, e2⟩ (most - y2) (by omega) (by omega) (by omega) RZ.out OZ.out).mono ?_
            rintro e w2 ⟨c, rfl, hc0, hc1, hcc, hbc⟩
            have BB := Lib.hid (bnext hbel2.out hbc)
            have HCC := Lib.hid hcc
            clear hbc hcc i1 i1' c0 c1 c2 c3 c4 q0 q1 q2 q3 q4
            have i2 : IntKind.i64.wrap (y2 + c) = y2 + c := IntWalk.i64_in _ (by omega)
            have i2' : wrap64 (y2 + c) = y2 + c := by unfold wrap64; omega
            go_wp2
            go_roundw
            case rel => exact ⟨k2 + 1, y2 + c, by omega, by go_num, rfl, by omega, by omega, Lib.hid (fun hlt' => by rw [NX.out]; have h1 := hzc.out hm2; have h2 := HCC.out (by omega); have h3 : c = (cntV r z : Int) := h2; push_cast; omega), BB⟩
            case measure => simp [intOf]; omega
          · have hm2' : most ≤ y2 := by omega
            have HE := Lib.hid (show y2 + (x.t.s.size : Int) / 20 < most → y2 + (x.t.s.size : Int) / 20 = (CN : Int) from fun h => by omega)
            go_wp2
            go_ret
            exact ⟨y2 + (x.t.s.size : Int) / 20, rfl, by omega, by push_cast; omega, HE.out, bnext HB.out hbel2.out⟩
        · have HE := Lib.hid (show y2 + (x.t.s.size : Int) / 20 < most → y2 + (x.t.s.size : Int) / 20 = (CN : Int) from fun h => by
            have h1 := hzc.out (by omega)
            rw [List.take_of_length_le (by omega)] at h1
            rw [CE.out, h1]; push_cast; omega)
          go_wp2
          go_ret
          exact ⟨y2 + (x.t.s.size : Int) / 20, rfl, by omega, by push_cast; omega, HE.out, bnext HB.out hbel2.out⟩

theorem cnt_any : ∀ r, CntOk r
  | 0 => fun _ _ _ _ _ _ _ _ h => by cases h
  | r + 1 => cnt_succ r (cnt_any r)
set_option maxHeartbeats 1600000 in
theorem many_cnt (w : World) (d : Nat) (A : Option Addr) (c : Nat) (l : List V) (h : Rw w 0 w.heap.size d A c l) (hok : ∀ x ∈ l, okV 12 x = true) :
    Calls Try.prog 24 #[.slice A l.length c, .int .i64 300] w fun e w' => ∃ n : Int, e = .returned (.int .i64 n) ∧ (n < 300 → n = sumN (cntV 12) l) ∧ Below w.heap.size w w' := by
  have H := Lib.hid h
  have OK := Lib.hid hok
  have hbl := h.big
  clear h hok
  go_enter Try.func24, Try.ntmps24
  go_wp2
  go_loopw [5, 6] (fun u i wr => ∃ (k : Nat) (y : Int), k ≤ l.length ∧ i = .int .i64 k ∧ u = .int .i64 y ∧ 0 ≤ y ∧ y ≤ 912 ∧ Hid (y < 300 → y = sumN (cntV 12) (l.take k)) ∧ Hid (Below w.heap.size w wr)) (fun _ i _ => l.length - (intOf i).toNat)
  case atStart => exact ⟨0, 0, by omega, rfl, rfl, by omega, by omega, Lib.hid (by simp [sumN]), Lib.hid (Below.refl _ _)⟩
  case round =>
    obtain ⟨k, y, hk, rfl, rfl, hx0, hx1, hyc, hbel⟩ := hrel
    by_cases hlt : k < l.length
    · by_cases hm : y < 300
      · obtain ⟨b, off, z, A1, e1, A2, e2, rfl, _, hb, hzz, q, rz⟩ := (H.out.next hbel.out).elem hlt
        obtain ⟨q0, q1, q2, q3, q4⟩ := q
        have RZ := Lib.hid rz
        have OZ := Lib.hid (OK.out z (List.mem_of_getElem? hzz))
        have NX := Lib.hid (sumN_next (cntV 12) l k hzz)
        clear rz hzz
        have i1 : IntKind.i64.wrap (300 - y) = 300 - y := IntWalk.i64_in _ (by omega)
        have k0 : (0 : Int) ≤ (k : Int) := by omega
        have k2 : (k : Int) < (l.length : Int) := by omega
        go_wp2_with fail
        refine (cnt_any 12 _ d ⟨z, A1, e1, A2, e2⟩ (300 - y) (by omega) (by omega) (by omega) RZ.out OZ.out).mono ?_
        rintro e w2 ⟨c, rfl, hc0, hc1, hcc, hbc⟩
        have BB := Lib.hid (bnext hbel.out hbc)
        have HCC := Lib.hid hcc
        clear hbc hcc i1 q0 q1 q2 q3 q4
        have i2 : IntKind.i64.wrap (y + c) = y + c := IntWalk.i64_in _ (by omega)
        go_wp2
        go_roundw
        case rel => exact ⟨k + 1, y + c, by omega, by go_num, rfl, by omega, by push_cast at hc1; omega, Lib.hid (fun hlt' => by rw [NX.out]; have h1 := hyc.out hm; have h2 := HCC.out (by omega); have h3 : c = (cntV 12 z : Int) := h2; push_cast; omega), BB⟩
        case measure => simp [intOf]; omega
      · have hm' : 300 ≤ y := by omega
        go_wp2
        go_ret
        exact ⟨y, rfl, (fun h => by omega), hbel.out⟩
    · have HE := Lib.hid (show y < 300 → y = sumN (cntV 12) l from fun h => by have := hyc.out h; rw [List.take_of_length_le (by omega)] at this; exact this)
      go_wp2
      go_ret
      exact ⟨y, rfl, HE.out, hbel.out⟩
/-- Is it more than is looked at? If not, there is not much in it. -/
def LotsPost (w : World) (l : List V) (e : Ending) (w' : World) : Prop := ∃ b : Bool, e = .returned (.bool b) ∧ Below w.heap.size w w' ∧ (b = false → (∀ x ∈ l, okV 12 x = true) → sumN (cntV 12) l ≤ 300)
theorem lots_ok (w : World) (d : Nat) (A : Option Addr) (c : Nat) (l : List V) (h : Rw w 0 w.heap.size d A c l) : Calls Try.prog 10 #[.slice A l.length c] w (LotsPost w l) := by
  by_cases hok : ∀ x ∈ l, okV 12 x = true
  · have MC := Lib.hid (many_cnt w d A c l h hok)
    clear h hok
    go_enter Try.func10, Try.ntmps10
    go_wp2_with fail
    refine MC.out.mono ?_
    rintro e w1 ⟨n, rfl, hn, hb⟩
    have HB := Lib.hid hb
    have HN := Lib.hid hn
    clear hb hn
    go_wp2
    go_ret
    refine ⟨_, rfl, HB.out, fun h _ => ?_⟩
    have h' : n < 300 := by
      have : decide (300 ≤ n) = false := h
      simpa using this
    have := HN.out h'
    omega
  · have MC := Lib.hid (many_any w d A c l h 300 (by omega) (by omega))
    have HOK := Lib.hid hok
    clear h hok
    go_enter Try.func10, Try.ntmps10
    go_wp2_with fail
    refine MC.out.mono ?_
    rintro e w1 ⟨n, rfl, hn0, hn1, hb⟩
    have HB := Lib.hid hb
    clear hb
    go_wp2
    go_ret
    exact ⟨_, rfl, HB.out, fun _ h => absurd h HOK.out⟩
end Go.Proofs.Ytmgjiipooffggaa
