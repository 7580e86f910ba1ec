/- Carried over from an earlier seat. -/
import Derived.Test.YtllkimdlmnjoiaaGreatDoorUC
import Derived.Test.YtllkimdlmnjoiaaGreatDoorZV
import Derived.IntWalk
import Derived.Test.YtllkimdlmnjoiaaGreatDoorTY
import Derived.Test.YtllkimdlmnjoiaaGreatDoorTM
import Derived.Test.YtllkimdlmnjoiaaGreatDoorTR
import Derived.Test.YtllkimdlmnjoiaaGreatDoorTC
namespace Go.Proofs.YtllkimdlmnjoiaaGreatDoor
set_option maxRecDepth 100000
set_option maxRecDepth 100000
set_option maxRecDepth 100000
open Go.RowKit Go.Sort

/-- Its text is not longer, if it may be. -/
def TxLe (t : V) (c : Int) : Prop := ∀ r, okV r t = true → ((txV r t).length : Int) + 4 ≤ 100 * c
def Short (t : V) (k : Nat) (y : Int) : Prop := ∀ r, okV (r + 1) t = true → ((itemsT (txV r) 0 (t.l.take k)).length : Int) ≤ 100 * (y - 1)
theorem Short.mono {t : V} {k : Nat} {y z : Int} (h : Short t k y) (hz : y ≤ z) : Short t k z := fun r ho => by have := h r ho; omega
theorem qT_len (l : Bs) : (qT l).length ≤ 2 * l.length + 2 := by
  have : ∀ l : Bs, (l.flatMap qC).length ≤ 2 * l.length := fun l => by
    induction l with
    | nil => simp
    | cons c l ih =>
      rw [List.flatMap_cons, List.length_append, List.length_cons]
      have : (qC c).length ≤ 2 := by unfold qC; split <;> simp
      omega
  have h := this l
  unfold qT
  simp only [List.length_cons, List.length_append, List.length_nil]; omega
theorem cm_len (k : Nat) : (cm k).length ≤ 2 := by unfold cm; split <;> simp
theorem Short.next {t : V} {k : Nat} {y c : Int} {z : V} (h : Short t k y) (hz : t.l[k]? = some z) (hc : TxLe z c) : Short t (k + 1) (y + c) := fun r ho => by
  have h1 := h r ho
  have h2 := hc r (((ok_parts r t).1 ho).2.1 z (List.mem_of_getElem? hz))
  have h3 := cm_len k
  rw [itemsT_next _ _ _ hz, List.length_append, List.length_append]
  omega
theorem short_all {t : V} {y : Int} (hf : fitsB t.n = true) (h : Short t t.l.length y) (_hy : 1 ≤ y) : TxLe t (y + (t.s.size : Int) / 20) := fun r ho => by
  cases r with
  | zero => cases ho
  | succ r =>
    have h1 := h r ho
    rw [List.take_length] at h1
    have hs : (0 : Int) ≤ (t.s.size : Int) / 20 := by omega
    show (((if _ then _ else _ : Bs)).length : Int) + 4 ≤ _
    by_cases k1 : t.k = 1
    · rw [if_pos k1]; split <;> simp <;> omega
    · rw [if_neg k1]
      by_cases k2 : t.k = 2
      · rw [if_pos k2]
        have := digL_len _ hf
        omega
      · rw [if_neg k2]
        by_cases k3 : t.k = 3
        · rw [if_pos k3]
          have := qT_len t.s.toList
          rw [toList_size] at this
          omega
        · rw [if_neg k3]
          simp only [List.length_cons, List.length_append, List.length_nil]
          omega

/-- What Count answers of any value. -/
def AllPost2 (t : V) (w : World) (most : Int) (e : Ending) (w' : World) : Prop := ∃ c : Int, e = .returned (.int .i64 c) ∧ 1 ≤ c ∧ c ≤ most * 7036874417770 ∧ (c < most → TxLe t c) ∧ Below w.heap.size w w'
def AllOk2 (d : Nat) : Prop := ∀ (w : World) (x : At) (most : Int), 1 ≤ most → most ≤ 1500 → x.In w d → Calls Tryz.prog 32 #[x.v, .int .i64 most] w (AllPost2 x.t w most)

set_option maxHeartbeats 3200000 in
theorem all2_succ (d' : Nat) (ih : AllOk2 d') : AllOk2 (d' + 1) := by
  intro w x most hm0 hm1 hx
  have HSZ : x.t.s.size ≤ 140737488355328 := hx.1.s1
  have FN : Hid (fitsB x.t.n = true) := Lib.hid (by rw [fits_iff]; exact ⟨hx.1.n0, hx.1.n1⟩)
  have RL := Lib.hid hx.2.1
  have RM := Lib.hid hx.2.2
  have hbl := hx.2.1.big
  have hbm := hx.2.2.big
  have IH := Lib.hid ih
  clear hx ih
  unfold At.v
  go_enter Tryz.func32, Tryz.ntmps32
  go_wp2
  have k1 := Box.new w x.t x.A x.c x.A' x.c'
  generalize hW : World.alloc w _ = W
  have K1 : Hid (Box W w.heap.size x.t x.A x.c x.A' x.c') := Lib.hid (by rw [← hW]; exact k1)
  have HB : Hid (Below w.heap.size w W) := Lib.hid (by rw [← hW]; exact below_new _ _)
  have hz : w.heap.size < W.heap.size := by rw [← hW]; simp
  clear hW k1
  go_loopw [5, 6] (fun u i wr => ∃ (k : Nat) (y : Int), k ≤ x.t.l.length ∧ i = .int .i64 k ∧ u = .int .i64 y ∧ 1 ≤ y ∧ y ≤ (most - 1) * 7036874417770 + 1 ∧ Hid (y < most → Short x.t k y) ∧ Hid (Below W.heap.size W wr)) (fun _ i _ => x.t.l.length - (intOf i).toNat)
  case atStart => exact ⟨0, 1, by omega, rfl, rfl, by omega, by omega, Lib.hid (fun _ _ _ => by simp [itemsT]), Lib.hid (Below.refl _ _)⟩
  case round =>
    obtain ⟨k, y, hk, rfl, rfl, hy0, hy1, hsh, hbel⟩ := hrel
    obtain ⟨c0, c1, c2, c3, c4⟩ := K1.out.below hbel.out hz
    by_cases hlt : k < x.t.l.length
    · by_cases hm : y < most
      · obtain ⟨b, off, z, A1, e1, A2, e2, hA, _, hb, hzz, q, rz⟩ := (RL.out.next (bnext HB.out hbel.out)).elem hlt
        rw [hA] at c3
        obtain ⟨q0, q1, q2, q3, q4⟩ := q
        have RZ := Lib.hid rz
        have ZZ := Lib.hid hzz
        clear rz hA hzz
        have i1 : IntKind.i64.wrap (most - y) = most - y := IntWalk.i64_in _ (by omega)
        have i1' : wrap64 (most - y) = most - y := by unfold wrap64; omega
        have k0 : (0 : Int) ≤ (k : Int) := by omega
        have k2 : (k : Int) < (x.t.l.length : Int) := by omega
        go_wp2_with fail
        refine (IH.out _ ⟨z, A1, e1, A2, e2⟩ (most - y) (by omega) (by omega) RZ.out).mono ?_
        rintro e w2 ⟨c, rfl, hc0, hc1, htx, hbc⟩
        have BB := Lib.hid (bnext hbel.out hbc)
        have HT := Lib.hid htx
        clear hbc i1 i1' c0 c1 c2 c3 c4 q0 q1 q2 q3 q4 htx
        have i2 : IntKind.i64.wrap (y + c) = y + c := IntWalk.i64_in _ (by omega)
        have i2' : wrap64 (y + c) = y + c := by unfold wrap64; omega
        go_wp2
        go_roundw
        case rel => exact ⟨k + 1, y + c, by omega, by go_num, rfl, by omega, by omega, Lib.hid (fun h => (hsh.out hm).next ZZ.out (HT.out (by omega))), BB⟩
        case measure => simp [intOf]; omega
      · skip
        have hm' : most ≤ y := by omega
        have START : Hid (y < most → Short x.t x.t.l.length y) := Lib.hid (fun h => absurd h (by omega))
        go_wp2
        clear c0 c1 c2 c3 c4
        go_loopw [5, 7] (fun u i wx => ∃ (k2 : Nat) (y2 : Int), k2 ≤ x.t.m.length ∧ i = .int .i64 k2 ∧ u = .int .i64 y2 ∧ 1 ≤ y2 ∧ y2 ≤ (most - 1) * 7036874417770 + 1 ∧ Hid (y2 < most → Short x.t x.t.l.length y2) ∧ Hid (Below W.heap.size W wx)) (fun _ i _ => x.t.m.length - (intOf i).toNat)
        case atStart => exact ⟨0, y, by omega, rfl, rfl, hy0, hy1, START, hbel⟩
        case round =>
          clear hy0 hy1
          obtain ⟨k2, y2, hk2, rfl, rfl, hz0, hz1, hsh2, hbel2⟩ := hrel
          obtain ⟨c0, c1, c2, c3, c4⟩ := K1.out.below hbel2.out hz
          by_cases hlt2 : k2 < x.t.m.length
          · by_cases hm2 : y2 < most
            · obtain ⟨b, off, z, A1, e1, A2, e2, hA, _, hb, hzz, q, rz⟩ := (RM.out.next (bnext HB.out hbel2.out)).elem hlt2
              rw [hA] at c4
              obtain ⟨q0, q1, q2, q3, q4⟩ := q
              have RZ := Lib.hid rz
              clear rz hA
              have i1 : IntKind.i64.wrap (most - y2) = most - y2 := IntWalk.i64_in _ (by omega)
              have i1' : wrap64 (most - y2) = most - y2 := by unfold wrap64; omega
              have k0 : (0 : Int) ≤ (k2 : Int) := by omega
              have k3 : (k2 : Int) < (x.t.m.length : Int) := by omega
              go_wp2_with fail
              refine (IH.out _ ⟨z, A1, e1, A2, e2⟩ (most - y2) (by omega) (by omega) RZ.out).mono ?_
              rintro e w2 ⟨c, rfl, hc0, hc1, _, hbc⟩
              have BB := Lib.hid (bnext hbel2.out hbc)
              clear hbc i1 i1' c0 c1 c2 c3 c4 q0 q1 q2 q3 q4
              have i2 : IntKind.i64.wrap (y2 + c) = y2 + c := IntWalk.i64_in _ (by omega)
              have i2' : wrap64 (y2 + c) = y2 + c := by unfold wrap64; omega
              go_wp2
              go_roundw
              case rel => exact ⟨k2 + 1, y2 + c, by omega, by go_num, rfl, by omega, by omega, Lib.hid (fun h => (hsh2.out (by omega)).mono (by omega)), BB⟩
              case measure => simp [intOf]; omega
            · have hm2' : most ≤ y2 := by omega
              go_wp2
              go_ret
              exact ⟨y2 + (x.t.s.size : Int) / 20, rfl, by omega, by omega, fun h => absurd h (by omega), bnext HB.out hbel2.out⟩
          · go_wp2
            go_ret
            exact ⟨y2 + (x.t.s.size : Int) / 20, rfl, by omega, by omega, fun h => short_all FN.out (hsh2.out (by omega)) (by omega), bnext HB.out hbel2.out⟩
    · skip
      obtain rfl : k = x.t.l.length := by omega
      have START : Hid (y < most → Short x.t x.t.l.length y) := hsh
      go_wp2
      clear c0 c1 c2 c3 c4
      go_loopw [5, 7] (fun u i wx => ∃ (k2 : Nat) (y2 : Int), k2 ≤ x.t.m.length ∧ i = .int .i64 k2 ∧ u = .int .i64 y2 ∧ 1 ≤ y2 ∧ y2 ≤ (most - 1) * 7036874417770 + 1 ∧ Hid (y2 < most → Short x.t x.t.l.length y2) ∧ Hid (Below W.heap.size W wx)) (fun _ i _ => x.t.m.length - (intOf i).toNat)
      case atStart => exact ⟨0, y, by omega, rfl, rfl, hy0, hy1, START, hbel⟩
      case round =>
        clear hy0 hy1
        obtain ⟨k2, y2, hk2, rfl, rfl, hz0, hz1, hsh2, hbel2⟩ := hrel
        obtain ⟨c0, c1, c2, c3, c4⟩ := K1.out.below hbel2.out hz
        by_cases hlt2 : k2 < x.t.m.length
        · by_cases hm2 : y2 < most
          · obtain ⟨b, off, z, A1, e1, A2, e2, hA, _, hb, hzz, q, rz⟩ := (RM.out.next (bnext HB.out hbel2.out)).elem hlt2
            rw [hA] at c4
            obtain ⟨q0, q1, q2, q3, q4⟩ := q
            have RZ := Lib.hid rz
            clear rz hA
            have i1 : IntKind.i64.wrap (most - y2) = most - y2 := IntWalk.i64_in _ (by omega)
            have i1' : wrap64 (most - y2) = most - y2 := by unfold wrap64; omega
            have k0 : (0 : Int) ≤ (k2 : Int) := by omega
            have k3 : (k2 : Int) < (x.t.m.length : Int) := by omega
            go_wp2_with fail
            refine (IH.out _ ⟨z, A1, e1, A2, e2⟩ (most - y2) (by omega) (by omega) RZ.out).mono ?_
            rintro e w2 ⟨c, rfl, hc0, hc1, _, hbc⟩
            have BB := Lib.hid (bnext hbel2.out hbc)
            clear hbc i1 i1' c0 c1 c2 c3 c4 q0 q1 q2 q3 q4
            have i2 : IntKind.i64.wrap (y2 + c) = y2 + c := IntWalk.i64_in _ (by omega)
            have i2' : wrap64 (y2 + c) = y2 + c := by unfold wrap64; omega
            go_wp2
            go_roundw
            case rel => exact ⟨k2 + 1, y2 + c, by omega, by go_num, rfl, by omega, by omega, Lib.hid (fun h => (hsh2.out (by omega)).mono (by omega)), BB⟩
            case measure => simp [intOf]; omega
          · have hm2' : most ≤ y2 := by omega
            go_wp2
            go_ret
            exact ⟨y2 + (x.t.s.size : Int) / 20, rfl, by omega, by omega, fun h => absurd h (by omega), bnext HB.out hbel2.out⟩
        · go_wp2
          go_ret
          exact ⟨y2 + (x.t.s.size : Int) / 20, rfl, by omega, by omega, fun h => short_all FN.out (hsh2.out (by omega)) (by omega), bnext HB.out hbel2.out⟩
theorem all2_any : ∀ d, AllOk2 d
  | 0 => fun _ _ _ _ _ h => h.elim
  | d + 1 => all2_succ d (all2_any d)

def RowLe (l : List V) (k : Nat) (y : Int) : Prop := ∀ r, (∀ x ∈ l, okV r x = true) → ((itemsT (txV r) 0 (l.take k)).length : Int) ≤ 100 * y
theorem RowLe.next {l : List V} {k : Nat} {y c : Int} {z : V} (h : RowLe l k y) (hz : l[k]? = some z) (hc : TxLe z c) : RowLe l (k + 1) (y + c) := fun r ho => by
  have h1 := h r ho
  have h2 := hc r (ho z (List.mem_of_getElem? hz))
  have h3 := cm_len k
  rw [itemsT_next _ _ _ hz, List.length_append, List.length_append]
  omega
def ManyPost2 (l : List V) (w : World) (most : Int) (e : Ending) (w' : World) : Prop := ∃ n : Int, e = .returned (.int .i64 n) ∧ 0 ≤ n ∧ n ≤ most * 7036874417770 ∧ (n < most → RowLe l l.length n) ∧ Below w.heap.size w w'
set_option maxHeartbeats 1600000 in
theorem many2_any (w : World) (d : Nat) (A : Option Addr) (c : Nat) (l : List V) (h : Rw w 0 w.heap.size d A c l) (most : Int) (hm0 : 1 ≤ most) (hm1 : most ≤ 1500) :
    Calls Tryz.prog 54 #[.slice A l.length c, .int .i64 most] w (ManyPost2 l w most) := by
  have H := Lib.hid h
  have hbl := h.big
  clear h
  go_enter Tryz.func54, Tryz.ntmps54
  go_wp2
  go_loopw [5, 6] (fun u i wr => ∃ (k : Nat) (y : Int), k ≤ l.length ∧ i = .int .i64 k ∧ u = .int .i64 y ∧ 0 ≤ y ∧ y ≤ most * 7036874417770 ∧ Hid (y < most → RowLe l k y) ∧ Hid (Below w.heap.size w wr)) (fun _ i _ => l.length - (intOf i).toNat)
  case atStart => exact ⟨0, 0, by omega, rfl, rfl, by omega, by omega, Lib.hid (fun _ _ _ => by simp [itemsT]), Lib.hid (Below.refl _ _)⟩
  case round =>
    obtain ⟨k, y, hk, rfl, rfl, hx0, hx1, hsh, hbel⟩ := hrel
    by_cases hlt : k < l.length
    · by_cases hm : y < most
      · obtain ⟨b, off, z, A1, e1, A2, e2, rfl, _, hb, hzz, q, rz⟩ := (H.out.next hbel.out).elem hlt
        obtain ⟨q0, q1, q2, q3, q4⟩ := q
        have RZ := Lib.hid rz
        have ZZ := Lib.hid hzz
        clear rz hzz
        have i1 : IntKind.i64.wrap (most - y) = most - y := IntWalk.i64_in _ (by omega)
        have k0 : (0 : Int) ≤ (k : Int) := by omega
        have k2 : (k : Int) < (l.length : Int) := by omega
        go_wp2_with fail
        refine (all2_any d _ ⟨z, A1, e1, A2, e2⟩ (most - y) (by omega) (by omega) RZ.out).mono ?_
        rintro e w2 ⟨c, rfl, hc0, hc1, htx, hbc⟩
        have BB := Lib.hid (bnext hbel.out hbc)
        have HT := Lib.hid htx
        clear hbc i1 q0 q1 q2 q3 q4 htx
        have i2 : IntKind.i64.wrap (y + c) = y + c := IntWalk.i64_in _ (by omega)
        go_wp2
        go_roundw
        case rel => exact ⟨k + 1, y + c, by omega, by go_num, rfl, by omega, by omega, Lib.hid (fun h => (hsh.out hm).next ZZ.out (HT.out (by omega))), BB⟩
        case measure => simp [intOf]; omega
      · have hm' : most ≤ y := by omega
        go_wp2
        go_ret
        exact ⟨y, rfl, hx0, hx1, fun h => absurd h (by omega), hbel.out⟩
    · obtain rfl : k = l.length := by omega
      go_wp2
      go_ret
      exact ⟨y, rfl, hx0, hx1, fun h => hsh.out h, hbel.out⟩

/-- What the document's Count answers of any predicate. -/
def TpLe (t : P) (c : Int) : Prop := ∀ r, okP r t = true → ((txP r t).length : Int) + 4 ≤ 100 * c
def ShortP (t : P) (m : Int) (k : Nat) (y : Int) : Prop := RowLe t.v t.v.length m ∧ 0 ≤ m ∧ ∀ r, okP (r + 1) t = true → ((itemsT (txP r) 0 (t.p.take k)).length : Int) ≤ 100 * (y - 1 - m)
theorem ShortP.next {t : P} {m : Int} {k : Nat} {y c : Int} {z : P} (h : ShortP t m k y) (hz : t.p[k]? = some z) (hc : TpLe z c) : ShortP t m (k + 1) (y + c) := ⟨h.1, h.2.1, fun r ho => by
  have h1 := h.2.2 r ho
  have h2 := hc r (((okP_parts r t).1 ho).2.2 z (List.mem_of_getElem? hz))
  have h3 := cm_len k
  rw [itemsT_next _ _ _ hz, List.length_append, List.length_append]
  omega⟩
theorem name_len (k : Int) (h : 1 ≤ k ∧ k ≤ 14) : (nameP k).length ≤ 7 := by
  obtain rfl | rfl | rfl | rfl | rfl | rfl | rfl | rfl | rfl | rfl | rfl | rfl | rfl | rfl : k = 1 ∨ k = 2 ∨ k = 3 ∨ k = 4 ∨ k = 5 ∨ k = 6 ∨ k = 7 ∨ k = 8 ∨ k = 9 ∨ k = 10 ∨ k = 11 ∨ k = 12 ∨ k = 13 ∨ k = 14 := by omega
  all_goals decide
theorem shortP_all {t : P} {m y : Int} (h : ShortP t m t.p.length y) (hy : 1 + m ≤ y) : TpLe t y := fun r ho => by
  cases r with
  | zero => cases ho
  | succ r =>
    obtain ⟨ofit, ov, op⟩ := (okP_parts r t).1 ho
    have hn := name_len t.k (fits_kind1 t ofit)
    have h1 := h.2.2 r ho
    have h2 := h.1 12 ov
    have h3 := h.2.1
    rw [List.take_length] at h1 h2
    by_cases hp : 0 < t.p.length
    · rw [txP_p r t hp]
      simp only [List.length_cons, List.length_append, List.length_nil]
      omega
    · rw [txP_v r t hp]
      simp only [List.length_cons, List.length_append, List.length_nil]
      omega
def CntPost2 (t : P) (w : World) (most : Int) (e : Ending) (w' : World) : Prop := ∃ c : Int, e = .returned (.int .i64 c) ∧ 1 ≤ c ∧ c ≤ 1 + most * 7036874417770 ∧ (c < most → TpLe t c) ∧ Below w.heap.size w w'
def CntPOk2 (d : Nat) : Prop := ∀ (w : World) (x : Pt) (most : Int), 1 ≤ most → most ≤ 1500 → x.In w d → Calls Tryz.prog 33 #[x.val, .int .i64 most] w (CntPost2 x.t w most)
set_option maxHeartbeats 1600000 in
theorem cntP2_succ (d : Nat) (ih : CntPOk2 d) : CntPOk2 (d + 1) := by
  intro w x most hm0 hm1 hx
  obtain ⟨n, rv⟩ := hx.2.1
  have RV := Lib.hid rv
  have RP := Lib.hid hx.2.2
  have hbig := hx.2.2.big
  have IH := Lib.hid ih
  clear hx ih rv
  unfold Pt.val
  go_enter Tryz.func33, Tryz.ntmps33
  go_upto_region 1 with fail
  have k1 := BP.new w x
  generalize hW : World.alloc w _ = W
  have K1 : Hid (BP W w.heap.size x) := Lib.hid (by rw [← hW]; exact k1)
  have HB : Hid (Below w.heap.size w W) := Lib.hid (by rw [← hW]; exact below_new _ _)
  obtain ⟨a0, a1, a2, _⟩ := K1.out
  clear hW k1
  go_wp2_with fail
  refine (many2_any W n x.A x.c x.t.v (RV.out.next HB.out) most hm0 hm1).mono ?_
  rintro e w1 ⟨m, rfl, h0, h1, hrow, hb1⟩
  have B1 := Lib.hid (bnext HB.out hb1)
  have K2 := Lib.hid (K1.out.next hb1)
  have RO := Lib.hid hrow
  clear a0 a1 a2 hb1 hrow
  have i1 : IntKind.i64.wrap (1 + m) = 1 + m := IntWalk.i64_in _ (by omega)
  go_wp2
  clear i1
  go_loopw [5, 6] (fun u i wr => ∃ (k : Nat) (y : Int), k ≤ x.t.p.length ∧ i = .int .i64 k ∧ u = .int .i64 y ∧ 1 + m ≤ y ∧ y ≤ 1 + most * 7036874417770 ∧ Hid (y < most → ShortP x.t m k y) ∧ Hid (Below w1.heap.size w1 wr)) (fun _ i _ => x.t.p.length - (intOf i).toNat)
  case atStart => exact ⟨0, 1 + m, by omega, rfl, by go_num, by omega, by omega, Lib.hid (fun h => ⟨RO.out (by omega), h0, fun _ _ => by simp [itemsT]; omega⟩), Lib.hid (Below.refl _ _)⟩
  case round =>
    obtain ⟨k, y, hk, rfl, rfl, hy0, hy1, hsh, hbel⟩ := hrel
    obtain ⟨a0, a1, a2, _⟩ := K2.out.next hbel.out
    by_cases hlt : k < x.t.p.length
    · by_cases hm : y < most
      · obtain ⟨b, off, z, eA, _, hb, hzz, q, rz⟩ := (RP.out.next (bnext B1.out hbel.out)).elem hlt
        rw [eA] at a2
        obtain ⟨q0, q1, q2⟩ := q
        have RZ := Lib.hid rz
        have ZZ := Lib.hid hzz
        clear rz hzz eA
        have i1 : IntKind.i64.wrap (most - y) = most - y := IntWalk.i64_in _ (by omega)
        have k0 : (0 : Int) ≤ (k : Int) := by omega
        have k2 : (k : Int) < (x.t.p.length : Int) := by omega
        go_wp2_with fail
        refine (IH.out _ z (most - y) (by omega) (by omega) RZ.out).mono ?_
        rintro e w2 ⟨c, rfl, hc0, hc1, htx, hbc⟩
        have BB := Lib.hid (bnext hbel.out hbc)
        have HT := Lib.hid htx
        clear hbc i1 q0 q1 q2 a0 a1 a2 htx
        have i2 : IntKind.i64.wrap (y + c) = y + c := IntWalk.i64_in _ (by omega)
        go_wp2
        go_roundw
        case rel => exact ⟨k + 1, y + c, by omega, by go_num, rfl, by omega, by omega, Lib.hid (fun h => (hsh.out hm).next ZZ.out (HT.out (by omega))), BB⟩
        case measure => simp [intOf]; omega
      · have hm' : most ≤ y := by omega
        go_wp2
        go_ret
        exact ⟨y, rfl, by omega, hy1, fun h => absurd h (by omega), bnext B1.out hbel.out⟩
    · obtain rfl : k = x.t.p.length := by omega
      go_wp2
      go_ret
      exact ⟨y, rfl, by omega, hy1, fun h => shortP_all (hsh.out h) hy0, bnext B1.out hbel.out⟩
theorem cntP2_any : ∀ d, CntPOk2 d
  | 0 => fun _ _ _ _ _ h => h.elim
  | d + 1 => cntP2_succ d (cntP2_any d)
end Go.Proofs.YtllkimdlmnjoiaaGreatDoor

namespace Go.Proofs.YtllkimdlmnjoiaaGreatDoor
set_option maxRecDepth 100000
set_option maxRecDepth 100000
set_option maxRecDepth 100000
open Go.RowKit Go.Sort

def IsI (Q : Int → Prop) : Value → World → Prop := fun v _ => ∃ c, v = .int .i64 c ∧ Q c
theorem IsI.stays (Q : Int → Prop) : Stays (IsI Q) := fun _ _ _ h _ => h
def cqD : Nat → Tmp := fun j => [55, 56, 57, 58, 59, 60, 61, 62, 63, 64, 65, 66, 67, 68, 69, 70, 71, 7].getD j 0
def cqE : Nat → List Nat := fun j => [[], [0], [], [2], [], [3, 4], [1, 5], [], [7], [], [8, 9], [6, 10], [], [12], [13], [14], [11, 15], []].getD j []

def ShortQ0 (l : List C) (k : Nat) (y : Int) : Prop := ∀ r, chOk (r + 1) l = true → (((l.take k).flatMap (txCall (txC r [95, 95]))).length : Int) ≤ 100 * y
def InQ0 (l : List C) (k : Nat) (a : List Ag) (j : Nat) (y : Int) : Prop := ∀ r, chOk (r + 1) l = true → (((l.take k).flatMap (txCall (txC r [95, 95]))).length : Int) + 43 + ((itemsT (txG (txC r [95, 95])) 0 (a.take j)).length : Int) ≤ 100 * y
theorem name_size {s : ByteArray} (h : nameB s = true) : s.size ≤ 40 := by
  unfold nameB at h
  simp only [Bool.and_eq_true, decide_eq_true_eq] at h
  omega
theorem ch_parts {r : Nat} {l : List C} (h : chOk (r + 1) l = true) : 0 < l.length ∧ ∀ x ∈ l, callOk (chOk r) x = true := by
  have h' : (decide (0 < l.length) && l.all (callOk (chOk r))) = true := h
  rw [Bool.and_eq_true, List.all_eq_true, decide_eq_true_eq] at h'
  exact h'
theorem call_parts {f : List C → Bool} {x : C} (h : callOk f x = true) : nameB x.n = true ∧ (x.n.toList == [95, 95]) = false ∧ x.a.length ≤ 50 ∧ ∀ g ∈ x.a, argOk f g = true := by
  unfold callOk at h
  simp only [Bool.and_eq_true, List.all_eq_true, decide_eq_true_eq, Bool.not_eq_true'] at h
  exact ⟨h.1.1.1, h.1.1.2, h.1.2, h.2⟩
/-- An argument's text. -/
theorem arg_short {r : Nat} {g : Ag} {c1 c2 c3 s : Int} (ho : argOk (chOk r) g = true) (h1 : TxLe g.v c1) (h2 : TpLe g.p c2) (b1 : 1 ≤ c1) (b2 : 1 ≤ c2) (b3 : 0 ≤ c3) (bs : 0 ≤ s) (h3 : ∀ q, chOk (q + 1) g.c = true → ((g.c.flatMap (txCall (txC q [95, 95]))).length : Int) ≤ 100 * c3) :
    ((txG (txC r [95, 95]) g).length : Int) + 2 ≤ 100 * (1 + c1 + c2 + s + c3) := by
  have hf := argOk_fit ho
  obtain hk | hk | hk | hk := (argOk_parts _ _ ho).1
  · rw [argOk_1 _ _ hf hk, Bool.and_eq_true] at ho
    have := h1 12 ho.1
    rw [txG_1 _ _ hk]; omega
  · rw [argOk_2 _ _ hf hk, Bool.and_eq_true] at ho
    have := h2 12 ho.1
    rw [txG_2 _ _ hk]; omega
  · rw [argOk_3 _ _ hf hk] at ho
    rw [txG_3 _ _ hk]
    cases r with
    | zero => cases ho
    | succ q =>
      have := h3 q ho
      show ((([95, 95] : Bs) ++ g.c.flatMap (txCall (txC q [95, 95]))).length : Int) + 2 ≤ _
      simp only [List.length_append, List.length_cons, List.length_nil]
      omega
  · rw [argOk_4 _ _ hf hk, Bool.and_eq_true] at ho
    have := name_size ho.1
    rw [txG_4 _ _ hk, toList_size]; omega
theorem InQ0.next {l : List C} {k : Nat} {x : C} {j : Nat} {y c1 c2 c3 s : Int} {g : Ag} (h : InQ0 l k x.a j y) (hx : l[k]? = some x) (hg : x.a[j]? = some g) (h1 : TxLe g.v c1) (h2 : TpLe g.p c2) (b1 : 1 ≤ c1) (b2 : 1 ≤ c2) (b3 : 0 ≤ c3) (bs : 0 ≤ s) (h3 : ∀ q, chOk (q + 1) g.c = true → ((g.c.flatMap (txCall (txC q [95, 95]))).length : Int) ≤ 100 * c3) :
    InQ0 l k x.a (j + 1) (y + 1 + c1 + c2 + s + c3) := fun r ho => by
  have q1 := h r ho
  have ha := (call_parts ((ch_parts ho).2 x (List.mem_of_getElem? hx))).2.2.2 g (List.mem_of_getElem? hg)
  have q2 := arg_short ha h1 h2 b1 b2 b3 bs h3
  have q3 := cm_len j
  rw [itemsT_next _ _ _ hg, List.length_append, List.length_append]
  omega
theorem InQ0.done {l : List C} {k : Nat} {x : C} {y : Int} (h : InQ0 l k x.a x.a.length y) (hx : l[k]? = some x) : ShortQ0 l (k + 1) y := fun r ho => by
  have q1 := h r ho
  have hn := name_size (call_parts ((ch_parts ho).2 x (List.mem_of_getElem? hx))).1
  rw [List.take_length] at q1
  rw [flatC_next _ _ _ hx, List.length_append]
  have : (txCall (txC r [95, 95]) x).length = 1 + (x.n.toList.length + (1 + ((itemsT (txG (txC r [95, 95])) 0 x.a).length + 1))) := by
    show ([46] ++ (x.n.toList ++ ([40] ++ (itemsT (txG (txC r [95, 95])) 0 x.a ++ [41])))).length = _
    simp only [List.length_append, List.length_cons, List.length_nil]
  rw [this, toList_size]
  omega
/-- No more chains within one another than so many. -/
def DpC : Nat → List C → Prop
  | 0, l => l = []
  | D + 1, l => ∀ x ∈ l, ∀ g ∈ x.a, DpC D g.c
def ShortQ (D : Nat) (l : List C) (k : Nat) (y : Int) : Prop := ShortQ0 l k y ∧ DpC (D + 1) (l.take k)
def InQ (D : Nat) (l : List C) (k : Nat) (a : List Ag) (j : Nat) (y : Int) : Prop := InQ0 l k a j y ∧ DpC (D + 1) (l.take k) ∧ ∀ g ∈ a.take j, DpC D g.c
theorem InQ.next {D : Nat} {l : List C} {k : Nat} {x : C} {j : Nat} {y c1 c2 c3 s : Int} {g : Ag} (h : InQ D l k x.a j y) (hx : l[k]? = some x) (hg : x.a[j]? = some g) (h1 : TxLe g.v c1) (h2 : TpLe g.p c2) (b1 : 1 ≤ c1) (b2 : 1 ≤ c2) (b3 : 0 ≤ c3) (bs : 0 ≤ s) (h3 : ∀ q, chOk (q + 1) g.c = true → ((g.c.flatMap (txCall (txC q [95, 95]))).length : Int) ≤ 100 * c3) (hd : DpC D g.c) :
    InQ D l k x.a (j + 1) (y + 1 + c1 + c2 + s + c3) :=
  ⟨InQ0.next h.1 hx hg h1 h2 b1 b2 b3 bs h3, h.2.1, fun u hu => by
    rw [take_snoc x.a j hg] at hu
    rcases List.mem_append.1 hu with hu | hu
    · exact h.2.2 u hu
    · rw [List.mem_singleton.1 hu]; exact hd⟩
theorem InQ.done {D : Nat} {l : List C} {k : Nat} {x : C} {y : Int} (h : InQ D l k x.a x.a.length y) (hx : l[k]? = some x) : ShortQ D l (k + 1) y :=
  ⟨InQ0.done h.1 hx, fun z hz g hg => by
    rw [take_snoc l k hx] at hz
    rcases List.mem_append.1 hz with hz | hz
    · exact h.2.1 z hz g hg
    · rw [List.mem_singleton.1 hz] at hg
      have := h.2.2
      rw [List.take_length] at this
      exact this g hg⟩
def QPost (l : List C) (D : Nat) (w : World) (most : Int) (e : Ending) (w' : World) : Prop := ∃ c : Int, e = .returned (.int .i64 c) ∧ 0 ≤ c ∧ c ≤ (D + 1) * 30000000000000000 ∧ (c < most → ShortQ D l l.length c) ∧ Below w.heap.size w w'
def QCnt (D : Nat) : Prop := ∀ (w : World) (d : Nat) (A : Option Addr) (c : Nat) (l : List C) (most : Int), 1 ≤ most → most ≤ 1500 → D ≤ 14 → Ch w 0 w.heap.size d A c l →
  Calls Tryz.prog 18 #[.slice A l.length c, .int .i64 most, .int .i64 (D : Int)] w (QPost l D w most)
set_option maxHeartbeats 12800000 in
theorem qcnt_step (D : Nat) (ih : ∀ s, D = s + 1 → QCnt s) : QCnt D := by
  intro w d A c l most hm0 hm1 hD hx
  have H := Lib.hid hx
  have hbig := hx.big
  have IH := Lib.hid ih
  have hD0 : (0 : Int) ≤ (D : Int) := by omega
  have hD1 : (D : Int) ≤ 14 := by omega
  clear hx ih
  go_enter Tryz.func18, Tryz.ntmps18
  go_wp2
  go_loopw [7, 8] (fun u i wr => ∃ (k : Nat) (y : Int), k ≤ l.length ∧ i = .int .i64 k ∧ u = .int .i64 y ∧ 0 ≤ y ∧ y ≤ (D + 1) * 30000000000000000 ∧ Hid (y < most → ShortQ D l k y) ∧ Hid (Below w.heap.size w wr)) (fun _ i _ => l.length - (intOf i).toNat)
  case atStart => exact ⟨0, 0, by omega, rfl, rfl, by omega, by omega, Lib.hid (fun _ => ⟨fun _ _ => by simp, fun z hz => by simp at hz⟩), Lib.hid (Below.refl _ _)⟩
  case round =>
    obtain ⟨k, y, hk, rfl, rfl, hy0, hy1, hsh, hbel⟩ := hrel
    by_cases hlt : k < l.length
    · by_cases hm : y < most
      · obtain ⟨b, off, x, e, rfl, rfl, hb, hx, q, hn, ra⟩ := (H.out.next hbel.out).elem hlt
        obtain ⟨q0, q1⟩ := q
        have RA := Lib.hid ra
        have HX := Lib.hid hx
        have hbx := ra.big
        clear ra hx
        have k0 : (0 : Int) ≤ (k : Int) := by omega
        have k1 : (k : Int) < (l.length : Int) := by omega
        have i1 : IntKind.i64.wrap (y + 1) = y + 1 := IntWalk.i64_in _ (by omega)
        have i1' : wrap64 (y + 1) = y + 1 := by unfold wrap64; omega
        have i2 : IntKind.i64.wrap (y + 1 + (x.n.size : Int) / 20) = y + 1 + (x.n.size : Int) / 20 := IntWalk.i64_in _ (by omega)
        have i2' : wrap64 (y + 1 + (x.n.size : Int) / 20) = y + 1 + (x.n.size : Int) / 20 := by unfold wrap64; omega
        have START : Hid (InQ D l k x.t.a 0 (y + 1 + (x.n.size : Int) / 20)) := Lib.hid ⟨fun r ho => by
          have h1 := (hsh.out hm).1 r ho
          have h2 : (0 : Int) ≤ (x.n.size : Int) / 20 := by omega
          simp only [List.take_zero, itemsT, List.length_nil]
          omega, (hsh.out hm).2, fun z hz => by simp at hz⟩
        go_wp2
        clear i1 i1' i2 i2'
        obtain ⟨wo, hwo⟩ : ∃ q, q = wr := ⟨_, rfl⟩
        subst hwo
        have Q0 := Lib.hid q0
        have Q1 := Lib.hid q1
        have hbz := hb
        clear q0 q1
        go_loopw [7, 9] (fun u i wx => ∃ (j : Nat) (y2 : Int), j ≤ x.l.length ∧ i = .int .i64 j ∧ u = .int .i64 y2 ∧ 0 ≤ y2 ∧ y2 ≤ (D + 1) * 30000000000000000 ∧ Hid (y2 < most → InQ D l k x.t.a j y2) ∧ Hid (Below wo.heap.size wo wx)) (fun _ i _ => x.l.length - (intOf i).toNat)
        case atStart => exact ⟨0, _, by omega, rfl, by first | rfl | go_num, by omega, by omega, Lib.hid (fun _ => START.out), Lib.hid (Below.refl _ _)⟩
        case round =>
          obtain ⟨j, y2, hj, rfl, rfl, hz0, hz1, hin, hbel2⟩ := hrel
          have q1 := cell_below hbel2.out Q1.out (by simpa using hbz)
          by_cases hlt2 : j < x.l.length
          · by_cases hm2 : y2 < most
            · obtain ⟨b2, off2, g, eA, hb2, hg, qq, rg⟩ := (RA.out.next hbel2.out).elem hlt2
              rw [eA] at q1
              obtain ⟨p0, p1, p2, p3, p4, p5, p6, p7, p8, p9, p10⟩ := qq
              have HG := Lib.hid hg
              have hsz := rg.s1
              have hbg := rg.c.big
              have RG0 := Lib.hid rg
              clear rg hg eA
              have j0 : (0 : Int) ≤ (j : Int) := by omega
              have j1 : (j : Int) < (x.l.length : Int) := by omega
              go_upto_region 10 with fail
              generalize hW : World.alloc wr _ = W
              obtain ⟨k2, hbW⟩ := box44 _ _ _ hW
              have K2 := Lib.hid k2
              have HBW := Lib.hid hbW
              have RG := Lib.hid (RG0.out.next hbW)
              clear hW p0 p1 p2 p3 p4 p5 p6 p7 p8 p9 p10 q1 k2 hbW RG0
              obtain ⟨gb, hgb⟩ : ∃ q, q = wr.heap.size := ⟨_, rfl⟩
              rw [← hgb] at K2 ⊢
              clear hgb
              refine region_phase [0, 1, 2, 3, 4, 5, 6, 7, 8, 9, 10, 11, 12, 13, 14, 15, 16] [] cqD cqE 1 (fun w' => BG w' gb g ∧ g.In w' e ∧ Below W.heap.size W w') (saidOf [Is (.int .i64 y2), Is (.int .i64 (y2 + 1)), Is (.pointer (some ⟨gb, 1, none⟩)), Is g.x.v, Is (.int .i64 most), IsI (fun c => 1 ≤ c ∧ c ≤ 1500 * 7036874417770 ∧ (c < most → TxLe g.x.t c)), IsI (fun z => ∃ c1, z = y2 + 1 + c1 ∧ (fun c => 1 ≤ c ∧ c ≤ 1500 * 7036874417770 ∧ (c < most → TxLe g.x.t c)) c1), Is (.pointer (some ⟨gb, 6, none⟩)), Is g.q.val, Is (.int .i64 most), IsI (fun c => 1 ≤ c ∧ c ≤ 1 + 1500 * 7036874417770 ∧ (c < most → TpLe g.q.t c)), IsI (fun z => ∃ c1 c2, z = y2 + 1 + c1 + c2 ∧ (fun c => 1 ≤ c ∧ c ≤ 1500 * 7036874417770 ∧ (c < most → TxLe g.x.t c)) c1 ∧ (fun c => 1 ≤ c ∧ c ≤ 1 + 1500 * 7036874417770 ∧ (c < most → TpLe g.q.t c)) c2), Is (.pointer (some ⟨gb, 10, none⟩)), Is (.string g.s), Is (.int .i64 (g.s.size : Int)), Is (.int .i64 ((g.s.size : Int) / 20)), IsI (fun z => ∃ c1 c2, z = y2 + 1 + c1 + c2 + (g.s.size : Int) / 20 ∧ (fun c => 1 ≤ c ∧ c ≤ 1500 * 7036874417770 ∧ (c < most → TxLe g.x.t c)) c1 ∧ (fun c => 1 ≤ c ∧ c ≤ 1 + 1500 * 7036874417770 ∧ (c < most → TpLe g.q.t c)) c2), fun _ _ => True]) 99 rfl (by kernel_rfl) (by kernel_rfl) (fun _ _ h hb => ⟨h.1.next hb, h.2.1.next hb, bnext h.2.2 hb⟩) (stays_said _ (stays_cons (Is.stays _) (stays_cons (Is.stays _) (stays_cons (Is.stays _) (stays_cons (Is.stays _) (stays_cons (Is.stays _) (stays_cons (IsI.stays _) (stays_cons (IsI.stays _) (stays_cons (Is.stays _) (stays_cons (Is.stays _) (stays_cons (Is.stays _) (stays_cons (IsI.stays _) (stays_cons (IsI.stays _) (stays_cons (Is.stays _) (stays_cons (Is.stays _) (stays_cons (Is.stays _) (stays_cons (Is.stays _) (stays_cons (IsI.stays _) (stays_cons (fun _ _ _ _ _ => trivial) stays_nil))))))))))))))))))) ⟨K2.out.next (below_drewN _ _ 1), RG.out.next (below_drewN _ _ 1), (below_drewN _ _ 1)⟩ (by kernel_rfl) ?_ ?_
              · skip
                refine owes_cons (Owes.mk (o := ({ dst := some 55, op := .move (.tmp 7), type := 3, pos := "ref.go:271", after := #[], guard := none } : Oper)) rfl (fun v wk hj hD K hK => ?_)) ?_
                · simp only [cqD, cqE, putAll, Act.put, List.getD_cons_zero, List.setIfInBounds_toArray, List.set_cons_zero, List.set_cons_succ] at hK ⊢
                  go_simp
                  exact hK.out _ _ (Below.refl _ _) rfl
                refine owes_cons (Owes.mk (o := ({ dst := some 56, op := .binOp .add 3 (.tmp 55) (.const (.int .i64 1)) 3, type := 3, pos := "ref.go:271", after := #[{ on := 0, ground := .data }], guard := none } : Oper)) rfl (fun v wk hj hD K hK => ?_)) ?_
                · have h0 : v 0 = (.int .i64 y2) := hD 0 (by decide)
                  simp only [cqD, cqE, putAll, Act.put, List.getD_cons_succ, List.getD_cons_zero, List.setIfInBounds_toArray, List.set_cons_zero, List.set_cons_succ, h0] at hK ⊢
                  have i1 : IntKind.i64.wrap (y2 + 1) = y2 + 1 := IntWalk.i64_in _ (by omega)
                  have i2 : wrap64 (y2 + 1) = y2 + 1 := by unfold wrap64; omega
                  go_simp
                  exact hK.out _ _ (Below.refl _ _) rfl
                refine owes_cons (Owes.mk (o := ({ dst := some 57, op := .fieldAddr 82 (.tmp 10) 1, type := 0, pos := "ref.go:271", after := #[], guard := none } : Oper)) rfl (fun v wk hj hD K hK => ?_)) ?_
                · simp only [cqD, cqE, putAll, Act.put, List.getD_cons_succ, List.getD_cons_zero, List.setIfInBounds_toArray, List.set_cons_zero, List.set_cons_succ] at hK ⊢
                  go_simp
                  exact hK.out _ _ (Below.refl _ _) rfl
                refine owes_cons (Owes.mk (o := ({ dst := some 58, op := .load 77 (.tmp 57), type := 77, pos := "ref.go:271", after := #[{ on := 2, ground := .data }], guard := none } : Oper)) rfl (fun v wk hj hD K hK => ?_)) ?_
                · have h2 : v 2 = (.pointer (some ⟨gb, 1, none⟩)) := hD 2 (by decide)
                  simp only [cqD, cqE, putAll, Act.put, List.getD_cons_succ, List.getD_cons_zero, List.setIfInBounds_toArray, List.set_cons_zero, List.set_cons_succ, h2] at hK ⊢
                  obtain ⟨⟨a0, a1, a2, a3, a4, a5, a6, a7, a8, a9, a10, _⟩, _, _⟩ := hj
                  go_simp
                  exact hK.out _ _ (Below.refl _ _) rfl
                refine owes_cons (Owes.mk (o := ({ dst := some 59, op := .move (.tmp 1), type := 3, pos := "ref.go:271", after := #[], guard := none } : Oper)) rfl (fun v wk hj hD K hK => ?_)) ?_
                · simp only [cqD, cqE, putAll, Act.put, List.getD_cons_succ, List.getD_cons_zero, List.setIfInBounds_toArray, List.set_cons_zero, List.set_cons_succ] at hK ⊢
                  go_simp
                  exact hK.out _ _ (Below.refl _ _) rfl
                refine owes_cons (Owes.mk (o := ({ dst := some 60, op := .call { callee := .value (.func 32), args := #[.tmp 58, .tmp 59], argTypes := #[77, 3] }, type := 3, pos := "ref.go:271", after := #[{ on := 3, ground := .data }, { on := 4, ground := .data }], guard := none } : Oper)) rfl (fun v wk hj hD K hK => ?_)) ?_
                · have h3 : v 3 = g.x.v := hD 3 (by decide)
                  have h4 : v 4 = (.int .i64 most) := hD 4 (by decide)
                  simp only [cqD, cqE, putAll, Act.put, List.getD_cons_succ, List.getD_cons_zero, List.setIfInBounds_toArray, List.set_cons_zero, List.set_cons_succ, h3, h4] at hK ⊢
                  obtain ⟨_, hg, _⟩ := hj
                  obtain ⟨nv, hv⟩ := hg.v
                  go_simp
                  refine (all2_any nv wk g.x most (by omega) (by omega) hv).mono ?_
                  rintro e w2 ⟨c, rfl, hc0, hc1, htx, hb⟩
                  exact hK.out _ _ hb ⟨c, rfl, hc0, by omega, htx⟩
                refine owes_cons (Owes.mk (o := ({ dst := some 61, op := .binOp .add 3 (.tmp 56) (.tmp 60) 3, type := 3, pos := "ref.go:271", after := #[{ on := 1, ground := .data }, { on := 5, ground := .data }], guard := none } : Oper)) rfl (fun v wk hj hD K hK => ?_)) ?_
                · have h1 : v 1 = (.int .i64 (y2 + 1)) := hD 1 (by decide)
                  obtain ⟨c5, h5, p5⟩ : IsI (fun c => 1 ≤ c ∧ c ≤ 1500 * 7036874417770 ∧ (c < most → TxLe g.x.t c)) (v 5) wk := hD 5 (by decide)
                  simp only [cqD, cqE, putAll, Act.put, List.getD_cons_succ, List.getD_cons_zero, List.setIfInBounds_toArray, List.set_cons_zero, List.set_cons_succ, h1, h5] at hK ⊢
                  have hb5 := p5.1
                  have hb5b := p5.2.1
                  have i1 : IntKind.i64.wrap (y2 + 1 + c5) = y2 + 1 + c5 := IntWalk.i64_in _ (by omega)
                  have i2 : wrap64 (y2 + 1 + c5) = y2 + 1 + c5 := by unfold wrap64; omega
                  go_simp
                  exact hK.out _ _ (Below.refl _ _) ⟨_, rfl, c5, rfl, p5⟩
                refine owes_cons (Owes.mk (o := ({ dst := some 62, op := .fieldAddr 82 (.tmp 10) 2, type := 0, pos := "ref.go:271", after := #[], guard := none } : Oper)) rfl (fun v wk hj hD K hK => ?_)) ?_
                · simp only [cqD, cqE, putAll, Act.put, List.getD_cons_succ, List.getD_cons_zero, List.setIfInBounds_toArray, List.set_cons_zero, List.set_cons_succ] at hK ⊢
                  go_simp
                  exact hK.out _ _ (Below.refl _ _) rfl
                refine owes_cons (Owes.mk (o := ({ dst := some 63, op := .load 80 (.tmp 62), type := 80, pos := "ref.go:271", after := #[{ on := 7, ground := .data }], guard := none } : Oper)) rfl (fun v wk hj hD K hK => ?_)) ?_
                · have h7 : v 7 = (.pointer (some ⟨gb, 6, none⟩)) := hD 7 (by decide)
                  simp only [cqD, cqE, putAll, Act.put, List.getD_cons_succ, List.getD_cons_zero, List.setIfInBounds_toArray, List.set_cons_zero, List.set_cons_succ, h7] at hK ⊢
                  obtain ⟨⟨a0, a1, a2, a3, a4, a5, a6, a7, a8, a9, a10, _⟩, _, _⟩ := hj
                  go_simp
                  exact hK.out _ _ (Below.refl _ _) rfl
                refine owes_cons (Owes.mk (o := ({ dst := some 64, op := .move (.tmp 1), type := 3, pos := "ref.go:271", after := #[], guard := none } : Oper)) rfl (fun v wk hj hD K hK => ?_)) ?_
                · simp only [cqD, cqE, putAll, Act.put, List.getD_cons_succ, List.getD_cons_zero, List.setIfInBounds_toArray, List.set_cons_zero, List.set_cons_succ] at hK ⊢
                  go_simp
                  exact hK.out _ _ (Below.refl _ _) rfl
                refine owes_cons (Owes.mk (o := ({ dst := some 65, op := .call { callee := .value (.func 33), args := #[.tmp 63, .tmp 64], argTypes := #[80, 3] }, type := 3, pos := "ref.go:271", after := #[{ on := 8, ground := .data }, { on := 9, ground := .data }, { on := 5, ground := .chain }], guard := none } : Oper)) rfl (fun v wk hj hD K hK => ?_)) ?_
                · have h8 : v 8 = g.q.val := hD 8 (by decide)
                  have h9 : v 9 = (.int .i64 most) := hD 9 (by decide)
                  simp only [cqD, cqE, putAll, Act.put, List.getD_cons_succ, List.getD_cons_zero, List.setIfInBounds_toArray, List.set_cons_zero, List.set_cons_succ, h8, h9] at hK ⊢
                  obtain ⟨_, hg, _⟩ := hj
                  obtain ⟨np, hp⟩ := hg.p
                  go_simp
                  refine (cntP2_any np wk g.q most (by omega) (by omega) hp).mono ?_
                  rintro e w2 ⟨c, rfl, hc0, hc1, htx, hb⟩
                  exact hK.out _ _ hb ⟨c, rfl, hc0, by omega, htx⟩
                refine owes_cons (Owes.mk (o := ({ dst := some 66, op := .binOp .add 3 (.tmp 61) (.tmp 65) 3, type := 3, pos := "ref.go:271", after := #[{ on := 6, ground := .data }, { on := 10, ground := .data }], guard := none } : Oper)) rfl (fun v wk hj hD K hK => ?_)) ?_
                · obtain ⟨z6, h6, d1, e6, p6⟩ : IsI (fun z => ∃ c1, z = y2 + 1 + c1 ∧ (fun c => 1 ≤ c ∧ c ≤ 1500 * 7036874417770 ∧ (c < most → TxLe g.x.t c)) c1) (v 6) wk := hD 6 (by decide)
                  subst e6
                  obtain ⟨c10, h10, p10⟩ : IsI (fun c => 1 ≤ c ∧ c ≤ 1 + 1500 * 7036874417770 ∧ (c < most → TpLe g.q.t c)) (v 10) wk := hD 10 (by decide)
                  simp only [cqD, cqE, putAll, Act.put, List.getD_cons_succ, List.getD_cons_zero, List.setIfInBounds_toArray, List.set_cons_zero, List.set_cons_succ, h6, h10] at hK ⊢
                  have hb5 := p6.1
                  have hb5b := p6.2.1
                  have hb6 := p10.1
                  have hb6b := p10.2.1
                  have i1 : IntKind.i64.wrap (y2 + 1 + d1 + c10) = y2 + 1 + d1 + c10 := IntWalk.i64_in _ (by omega)
                  have i2 : wrap64 (y2 + 1 + d1 + c10) = y2 + 1 + d1 + c10 := by unfold wrap64; omega
                  go_simp
                  exact hK.out _ _ (Below.refl _ _) ⟨_, rfl, d1, c10, rfl, p6, p10⟩
                refine owes_cons (Owes.mk (o := ({ dst := some 67, op := .fieldAddr 82 (.tmp 10) 4, type := 0, pos := "ref.go:271", after := #[], guard := none } : Oper)) rfl (fun v wk hj hD K hK => ?_)) ?_
                · simp only [cqD, cqE, putAll, Act.put, List.getD_cons_succ, List.getD_cons_zero, List.setIfInBounds_toArray, List.set_cons_zero, List.set_cons_succ] at hK ⊢
                  go_simp
                  exact hK.out _ _ (Below.refl _ _) rfl
                refine owes_cons (Owes.mk (o := ({ dst := some 68, op := .load 9 (.tmp 67), type := 9, pos := "ref.go:271", after := #[{ on := 12, ground := .data }], guard := none } : Oper)) rfl (fun v wk hj hD K hK => ?_)) ?_
                · have h12 : v 12 = (.pointer (some ⟨gb, 10, none⟩)) := hD 12 (by decide)
                  simp only [cqD, cqE, putAll, Act.put, List.getD_cons_succ, List.getD_cons_zero, List.setIfInBounds_toArray, List.set_cons_zero, List.set_cons_succ, h12] at hK ⊢
                  obtain ⟨⟨a0, a1, a2, a3, a4, a5, a6, a7, a8, a9, a10, _⟩, _, _⟩ := hj
                  go_simp
                  exact hK.out _ _ (Below.refl _ _) rfl
                refine owes_cons (Owes.mk (o := ({ dst := some 69, op := .call { callee := .builtin .len, args := #[.tmp 68], argTypes := #[9] }, type := 3, pos := "ref.go:271", after := #[{ on := 13, ground := .data }], guard := none } : Oper)) rfl (fun v wk hj hD K hK => ?_)) ?_
                · have h13 : v 13 = (.string g.s) := hD 13 (by decide)
                  simp only [cqD, cqE, putAll, Act.put, List.getD_cons_succ, List.getD_cons_zero, List.setIfInBounds_toArray, List.set_cons_zero, List.set_cons_succ, h13] at hK ⊢
                  go_simp
                  exact hK.out _ _ (Below.refl _ _) rfl
                refine owes_cons (Owes.mk (o := ({ dst := some 70, op := .binOp .quo 3 (.tmp 69) (.const (.int .i64 20)) 3, type := 3, pos := "ref.go:271", after := #[{ on := 14, ground := .data }], guard := none } : Oper)) rfl (fun v wk hj hD K hK => ?_)) ?_
                · have h14 : v 14 = (.int .i64 (g.s.size : Int)) := hD 14 (by decide)
                  simp only [cqD, cqE, putAll, Act.put, List.getD_cons_succ, List.getD_cons_zero, List.setIfInBounds_toArray, List.set_cons_zero, List.set_cons_succ, h14] at hK ⊢
                  have i3 : IntKind.i64.wrap ((g.s.size : Int) / 20) = (g.s.size : Int) / 20 := IntWalk.i64_in _ (by omega)
                  have i4 : wrap64 ((g.s.size : Int) / 20) = (g.s.size : Int) / 20 := by unfold wrap64; omega
                  go_simp
                  exact hK.out _ _ (Below.refl _ _) rfl
                refine owes_cons (Owes.mk (o := ({ dst := some 71, op := .binOp .add 3 (.tmp 66) (.tmp 70) 3, type := 3, pos := "ref.go:271", after := #[{ on := 11, ground := .data }, { on := 15, ground := .data }], guard := none } : Oper)) rfl (fun v wk hj hD K hK => ?_)) ?_
                · obtain ⟨z11, h11, d1, d2, e11, p11, pp11⟩ : IsI (fun z => ∃ c1 c2, z = y2 + 1 + c1 + c2 ∧ (fun c => 1 ≤ c ∧ c ≤ 1500 * 7036874417770 ∧ (c < most → TxLe g.x.t c)) c1 ∧ (fun c => 1 ≤ c ∧ c ≤ 1 + 1500 * 7036874417770 ∧ (c < most → TpLe g.q.t c)) c2) (v 11) wk := hD 11 (by decide)
                  subst e11
                  have h15 : v 15 = (.int .i64 ((g.s.size : Int) / 20)) := hD 15 (by decide)
                  simp only [cqD, cqE, putAll, Act.put, List.getD_cons_succ, List.getD_cons_zero, List.setIfInBounds_toArray, List.set_cons_zero, List.set_cons_succ, h11, h15] at hK ⊢
                  have hb5 := p11.1
                  have hb5b := p11.2.1
                  have hb6 := pp11.1
                  have hb6b := pp11.2.1
                  have i1 : IntKind.i64.wrap (y2 + 1 + d1 + d2 + (g.s.size : Int) / 20) = y2 + 1 + d1 + d2 + (g.s.size : Int) / 20 := IntWalk.i64_in _ (by omega)
                  have i2 : wrap64 (y2 + 1 + d1 + d2 + (g.s.size : Int) / 20) = y2 + 1 + d1 + d2 + (g.s.size : Int) / 20 := by unfold wrap64; omega
                  go_simp
                  exact hK.out _ _ (Below.refl _ _) ⟨_, rfl, d1, d2, rfl, p11, pp11⟩
                exact owes_nil
              · intro p v w3 h1 h2 hj hr
                obtain rfl := marks_all h1 (fun m hm => h2 m hm (by simp))
                obtain ⟨z16, h16, d1, d2, e16, p16, pp16⟩ : IsI (fun z => ∃ c1 c2, z = y2 + 1 + c1 + c2 + (g.s.size : Int) / 20 ∧ (fun c => 1 ≤ c ∧ c ≤ 1500 * 7036874417770 ∧ (c < most → TxLe g.x.t c)) c1 ∧ (fun c => 1 ≤ c ∧ c ≤ 1 + 1500 * 7036874417770 ∧ (c < most → TpLe g.q.t c)) c2) (v 16) w3 := hr 16 (by decide) (by decide)
                replace e16 := Lib.hid e16
                rw [show List.filter (fun k => [0, 1, 2, 3, 4, 5, 6, 7, 8, 9, 10, 11, 12, 13, 14, 15, 16].contains k) [0, 1, 2, 3, 4, 5, 6, 7, 8, 9, 10, 11, 12, 13, 14, 15, 16] = [0, 1, 2, 3, 4, 5, 6, 7, 8, 9, 10, 11, 12, 13, 14, 15, 16] from rfl]
                simp only [cqD, putAll, Act.put, List.getD_cons_succ, List.getD_cons_zero, List.setIfInBounds_toArray, List.set_cons_zero, List.set_cons_succ, h16]
                refine anyN_any (S := fun _ => True) (N := []) _ _ _ _ ?_
                refine anyN_one (i := 17) (o := ({ dst := some 7, op := .assign (.tmp 71), type := 3, pos := "ref.go:271", after := #[{ on := 16, ground := .data }, { on := 10, ground := .chain }, { on := 0, ground := .phase }, { on := 1, ground := .phase }, { on := 2, ground := .phase }, { on := 3, ground := .phase }, { on := 4, ground := .phase }, { on := 5, ground := .phase }, { on := 6, ground := .phase }, { on := 7, ground := .phase }, { on := 8, ground := .phase }, { on := 9, ground := .phase }, { on := 10, ground := .phase }, { on := 11, ground := .phase }, { on := 12, ground := .phase }, { on := 13, ground := .phase }, { on := 14, ground := .phase }, { on := 15, ground := .phase }, { on := 16, ground := .phase }], guard := none } : Oper)) (by kernel_rfl) rfl (fun K hK => ?_)
                go_simp
                refine hK.out _ _ (fun _ => trivial) ?_
                clear hK K
                try simp only [Act.put, List.setIfInBounds_toArray, List.set_cons_zero, List.set_cons_succ]
                refine anyN_done (by kernel_rfl) ?_ _
                clear hr h16 h1 h2
                have HJ := Lib.hid hj
                clear hj
                have hb1 := p16.1
                have hb1b := p16.2.1
                have hb2 := pp16.1
                have hb2b := pp16.2.1
                have P1 := Lib.hid p16.2.2
                have P2 := Lib.hid pp16.2.2
                clear p16 pp16
                have hs0 : (0 : Int) ≤ (g.s.size : Int) / 20 := by omega
                have hz16a : 0 ≤ z16 := by have := e16.out; omega
                have hz16b : z16 ≤ 25000000000000000 := by have := e16.out; omega
                have hz16c : y2 < z16 := by have := e16.out; omega
                have HZ16 := Lib.hid (show z16 < most → d1 < most ∧ d2 < most from fun h => by have := e16.out; omega)
                have E16 := e16
                clear e16
                obtain ⟨_, _, _, _, _, _, _, _, _, a9, _, _⟩ := HJ.out.1
                have BW := Lib.hid (bnext hbel2.out (bnext HBW.out HJ.out.2.2))
                by_cases hd : D = 0
                · have hd1 : ¬ (0 : Int) < (D : Int) := by omega
                  have hd2 : (D : Int) ≤ 0 := by omega
                  have HDZ := Lib.hid hd
                  clear hd
                  by_cases hz : g.l.length = 0
                  · have hz' : ¬ (0 : Int) < (g.l.length : Int) := by omega
                    have NONE := Lib.hid (fun (h : z16 < most) => InQ.next (x := x.t) (c3 := 0) (hin.out hm2) HX.out HG.out (P1.out (HZ16.out h).1) (P2.out (HZ16.out h).2) hb1 hb2 (Int.le_refl _) hs0 (fun q hq => by
                      rw [show g.t.c = [] from List.eq_nil_of_length_eq_zero hz] at hq
                      cases hq) (by rw [HDZ.out]; exact List.eq_nil_of_length_eq_zero hz))
                    clear hz
                    go_wp2
                    go_roundw
                    case rel => first | exact ⟨j + 1, z16, by omega, by go_num, rfl, hz16a, by omega, Lib.hid (fun h => by have := NONE.out h; rw [HDZ.out] at this; rw [E16.out]; simpa using this), BW⟩ | exact ⟨j + 1, by omega, by omega, by omega, by omega, Lib.hid (fun h => by have := NONE.out h; rw [HDZ.out] at this; rw [E16.out]; simpa using this)⟩ | exact ⟨j + 1, by omega, by omega, by omega, Lib.hid (fun h => by have := NONE.out h; rw [HDZ.out] at this; rw [E16.out]; simpa using this)⟩ | exact ⟨j + 1, by omega, by omega, Lib.hid (fun h => by have := NONE.out h; rw [HDZ.out] at this; rw [E16.out]; simpa using this)⟩
                    case measure => simp [intOf]; omega
                  · have hz' : (0 : Int) < (g.l.length : Int) := by omega
                    clear hz
                    go_wp2
                    go_roundw
                    case rel => first | exact ⟨j + 1, most, by omega, by go_num, rfl, by omega, by omega, Lib.hid (fun h => absurd h (by omega)), BW⟩ | exact ⟨j + 1, by omega, by omega, by omega, by omega, Lib.hid (fun h => absurd h (by omega))⟩ | exact ⟨j + 1, by omega, by omega, by omega, by omega⟩ | exact ⟨j + 1, by omega, by omega, by omega, by omega, Lib.hid trivial⟩ | exact ⟨j + 1, by omega, by omega, by omega, by omega, trivial⟩
                    case measure => simp [intOf]; omega
                · obtain ⟨s, hs⟩ : ∃ s, D = s + 1 := ⟨D - 1, by omega⟩
                  have hd1 : (0 : Int) < (D : Int) := by omega
                  have hd2 : ¬ (D : Int) ≤ 0 := by omega
                  have HS := Lib.hid hs
                  clear hd
                  by_cases hz : z16 < most
                  · have i5 : IntKind.i64.wrap (most - z16) = most - z16 := IntWalk.i64_in _ (by omega)
                    have i6 : IntKind.i64.wrap ((D : Int) - 1) = (s : Int) := by rw [IntWalk.i64_in _ (by omega)]; omega
                    have hsb : (s : Int) ≤ 13 := by omega
                    clear hs
                    go_wp2_with fail
                    refine (IH.out s HS.out _ e g.A g.c g.l (most - z16) (by omega) (by omega) (by omega) HJ.out.2.1.c).mono ?_
                    rintro e4 w4 ⟨c4, rfl, hc0, hc1, hcs, hb4⟩
                    have HC4 := Lib.hid hcs
                    have BW4 := Lib.hid (bnext BW.out hb4)
                    have hsd : (s : Int) + 1 = (D : Int) := by have := HS.out; omega
                    clear hb4 hcs i5 i6 a9
                    have i7 : IntKind.i64.wrap (z16 + c4) = z16 + c4 := IntWalk.i64_in _ (by omega)
                    have NXT := Lib.hid (fun (h : z16 + c4 < most) => InQ.next (x := x.t) (c3 := c4) (hin.out hm2) HX.out HG.out (P1.out (HZ16.out hz).1) (P2.out (HZ16.out hz).2) hb1 hb2 hc0 hs0 (fun q hq => by
                      have := (HC4.out (by omega)).1 q hq
                      rwa [List.take_length] at this) (by rw [HS.out]; have := (HC4.out (by omega)).2; rwa [List.take_length] at this))
                    go_wp2
                    go_roundw
                    case rel => exact ⟨j + 1, z16 + c4, by omega, by go_num, rfl, by omega, by omega, Lib.hid (fun h => by have := NXT.out h; rw [E16.out]; exact this), BW4⟩
                    case measure => simp [intOf]; omega
                  · have hz' : most ≤ z16 := by omega
                    clear hs
                    go_wp2
                    go_roundw
                    case rel => exact ⟨j + 1, z16, by omega, by go_num, rfl, hz16a, by omega, Lib.hid (fun h => absurd h (by omega)), BW⟩
                    case measure => simp [intOf]; omega
            · have hm2' : most ≤ y2 := by omega
              go_wp2
              go_roundw
              case rel => exact ⟨k + 1, y2, by omega, by go_num, rfl, hz0, hz1, Lib.hid (fun h => absurd h (by omega)), Lib.hid (bnext hbel.out hbel2.out)⟩
              case measure => simp [intOf]; omega
          · obtain rfl : j = x.l.length := by omega
            go_wp2
            go_roundw
            case rel => exact ⟨k + 1, y2, by omega, by go_num, rfl, hz0, hz1, Lib.hid (fun h => InQ.done (x := x.t) (hin.out h) HX.out), Lib.hid (bnext hbel.out hbel2.out)⟩
            case measure => simp [intOf]; omega
      · have hm' : most ≤ y := by omega
        go_wp2
        go_ret
        exact ⟨y, rfl, hy0, hy1, fun h => absurd h (by omega), hbel.out⟩
    · obtain rfl : k = l.length := by omega
      go_wp2
      go_ret
      exact ⟨y, rfl, hy0, hy1, fun h => hsh.out h, hbel.out⟩
theorem qcnt_any : ∀ D, QCnt D
  | 0 => qcnt_step 0 (fun _ h => by omega)
  | D + 1 => qcnt_step (D + 1) (fun _ h => by cases h; exact qcnt_any D)
/-- What much says of a query. -/
def MuchPost (l : List C) (w : World) (e : Ending) (w' : World) : Prop := ∃ b : Bool, e = .returned (.bool b) ∧ Below w.heap.size w w' ∧ (b = false → qOk l = true → (txC 10 [103] l).length ≤ 150001)
def MuchPostD (l : List C) (w : World) (e : Ending) (w' : World) : Prop := ∃ b : Bool, e = .returned (.bool b) ∧ Below w.heap.size w w' ∧ (b = false → (qOk l = true → (txC 10 [103] l).length ≤ 150001) ∧ DpC 15 l)
end Go.Proofs.YtllkimdlmnjoiaaGreatDoor



/- Carried over from an earlier seat. -/
namespace Go.Proofs.YtllkimdlmnjoiaaGreatDoor
set_option maxRecDepth 100000
set_option maxRecDepth 100000
open Go.RowKit Go.Sort

def St (s : Bs) : Prop := ∃ c r, s = c :: r ∧ (c = 44 ∨ c = 41 ∨ c = 93)
/-- What digits say, the least first. -/
def sayL : List Int → Int
  | [] => 0
  | d :: r => (d - 48) + 10 * sayL r
theorem digs_head (a : Nat) (r : Bs) : (lowsAll a).reverse.map (fun z => UInt8.ofNat z.toNat) ≠ 45 :: r := by
  intro h
  have hm : (45 : UInt8) ∈ (lowsAll a).reverse.map (fun z => UInt8.ofNat z.toNat) := by rw [h]; simp
  obtain ⟨z, hz, e⟩ := List.mem_map.1 hm
  have hd := lowsAll_dig a z (by simpa using hz)
  have := congrArg UInt8.toNat e
  rw [UInt8.toNat_ofNat'] at this
  have h45 : (45 : UInt8).toNat = 45 := rfl
  rw [h45] at this
  omega
/-- Which kind of value begins so. -/
def kindV (c : UInt8) : Int := if c = 102 ∨ c = 116 then 1 else if numB c then 2 else if c = 39 then 3 else 6
end Go.Proofs.YtllkimdlmnjoiaaGreatDoor
namespace Go.Proofs.YtllkimdlmnjoiaaGreatDoor
set_option maxRecDepth 100000
set_option maxRecDepth 100000
open Go.RowKit Go.Sort

theorem P_same {a b : P} (h1 : a.k = b.k) (h2 : a.v = b.v) (h3 : a.p = b.p) : a = b := by
  cases a; cases b
  simp only [P.k, P.v, P.p] at h1 h2 h3
  rw [h1, h2, h3]
/-- A letter of a name. -/
def nc (c : UInt8) : Bool := letB c.toNat || (decide (48 ≤ c.toNat) && decide (c.toNat ≤ 57))
theorem length_toList' (s : ByteArray) : s.toList.length = s.size := by
  rw [ByteArray.toList_eq]
  exact Array.length_toList
theorem byt_of (s : ByteArray) (j : Nat) (c : UInt8) (h : s.toList[j]? = some c) : j < s.size ∧ byt s j = c.toNat := by
  rw [ByteArray.toList_eq, Array.getElem?_toList] at h
  obtain ⟨hj, e⟩ := Array.getElem?_eq_some_iff.1 h
  have hj' : j < s.size := hj
  refine ⟨hj', ?_⟩
  unfold byt
  rw [dif_pos hj', ← e]
  rfl
theorem name_chars {s : ByteArray} (h : nameB s = true) : (∀ c ∈ s.toList, nc c = true) ∧ ∃ c t, s.toList = c :: t ∧ letB c.toNat = true := by
  unfold nameB at h
  simp only [Bool.and_eq_true, decide_eq_true_eq] at h
  obtain ⟨⟨h1, _⟩, h3⟩ := h
  unfold nmAll at h3
  rw [List.all_eq_true] at h3
  refine ⟨fun c hc => ?_, ?_⟩
  · obtain ⟨j, hj⟩ := List.mem_iff_getElem?.1 hc
    obtain ⟨hl, e⟩ := byt_of s j c hj
    have := h3 j (List.mem_range.2 hl)
    rw [e] at this
    unfold nmC at this
    unfold nc
    simp only [Bool.or_eq_true, Bool.and_eq_true] at this ⊢
    rcases this with h | h
    · exact .inl h
    · exact .inr h.1
  · cases hs : s.toList with
    | nil =>
      have := length_toList' s
      rw [hs] at this
      simp at this
      omega
    | cons c t =>
      obtain ⟨hl, e⟩ := byt_of s 0 c (by rw [hs]; rfl)
      have := h3 0 (List.mem_range.2 hl)
      rw [e] at this
      unfold nmC at this
      simp only [Bool.or_eq_true, Bool.and_eq_true, decide_eq_true_eq] at this
      refine ⟨c, t, rfl, ?_⟩
      rcases this with h | h
      · exact h
      · omega
/-- Which kind of argument begins so. -/
def kindG (t : Bs) : Int :=
  if (t.dropWhile nc).headD 0 = 40 then 2 else if (t.dropWhile nc).headD 0 = 46 then 3 else if (t.dropWhile nc).headD 0 = 45 ∨ (t.dropWhile nc).headD 0 = 39 ∨ (t.dropWhile nc).headD 0 = 91 then 1
  else if t.takeWhile nc = [116, 114, 117, 101] ∨ t.takeWhile nc = [102, 97, 108, 115, 101] ∨ letB ((t.takeWhile nc).headD 0).toNat = false then 1 else 4
/-- The calls' text. -/
def bodyR (r : Nat) (l : List C) : Bs := l.flatMap (txCall (txC r [95, 95]))
theorem zeroV_of {v : V} (h : (cmpV 12 v zeroV == 0) = true) : v = zeroV := by
  have h' : orI (cmpF v zeroV) (orI (rowC (cmpV 11) v.l zeroV.l) (rowC (cmpV 11) v.m zeroV.m)) = 0 := (beq_iff_eq.1 h : cmpV 12 v zeroV = 0)
  obtain ⟨h1, h2⟩ := orI_both h'
  obtain ⟨h3, h4⟩ := orI_both h2
  unfold cmpF at h1
  obtain ⟨k1, k2⟩ := orI_both h1
  obtain ⟨k3, k4⟩ := orI_both k2
  have e1 := rowC_zero _ _ (fun x hx y (hy : y ∈ ([] : List V)) h => by cases hy) h3
  have e2 := rowC_zero _ _ (fun x hx y (hy : y ∈ ([] : List V)) h => by cases hy) h4
  rw [v.eta, zeroV.eta, cmpI_zero k1, cmpI_zero k3, cmpS_zero k4, e1, e2]
  rfl
theorem fit_rest {g : Ag} (h : fitsA g = true) : (g.k ≠ 1 → g.v = zeroV) ∧ (g.k ≠ 2 → g.p = .mk 0 [] []) ∧ (g.k ≠ 3 → g.c = []) ∧ (g.k ≠ 4 → g.s.toList = []) := by
  unfold fitsA at h
  simp only [Bool.and_eq_true, Bool.or_eq_true, beq_iff_eq] at h
  obtain ⟨⟨⟨h1, h2⟩, h3⟩, h4⟩ := h
  refine ⟨fun n => ?_, fun n => ?_, fun n => ?_, fun n => ?_⟩
  · rcases h1 with h1 | h1
    · exact absurd h1 n
    · exact zeroV_of (by simpa using h1)
  · rcases h2 with h2 | h2
    · exact absurd h2 n
    · unfold isZeroP at h2
      simp only [Bool.and_eq_true, beq_iff_eq, List.length_eq_zero_iff] at h2
      exact P_same h2.1.1 h2.1.2 h2.2
  · rcases h3 with h3 | h3
    · exact absurd h3 n
    · exact List.length_eq_zero_iff.1 h3
  · rcases h4 with h4 | h4
    · exact absurd h4 n
    · simpa using h4
theorem Ag_same {g u : Ag} (h1 : g.k = u.k) (h2 : g.v = u.v) (h3 : g.p = u.p) (h4 : g.c = u.c) (h5 : g.s.toList = u.s.toList) : g = u := by
  cases g; cases u
  simp only at h1 h2 h3 h4 h5
  rw [h1, h2, h3, h4, str_same h5]
def ChBack (q : Nat) : Prop := ∀ (l l' : List C) (s s' : Bs), chOk (q + 1) l = true → chOk (q + 1) l' = true → s.headD 0 ≠ 46 → s'.headD 0 ≠ 46 → bodyR q l ++ s = bodyR q l' ++ s' → l = l' ∧ s = s'
theorem ch_len {r : Nat} {l : List C} (h : chOk (r + 1) l = true) : 0 < l.length ∧ ∀ x ∈ l, callOk (chOk r) x = true := by
  have h' : (decide (0 < l.length) && l.all (callOk (chOk r))) = true := h
  rw [Bool.and_eq_true, List.all_eq_true, decide_eq_true_eq] at h'
  exact h'
theorem C_same {x y : C} (h1 : x.n.toList = y.n.toList) (h2 : x.a = y.a) : x = y := by
  cases x; cases y
  simp only [C.n, C.a] at h1 h2
  rw [str_same h1, h2]
theorem eqL_refl {α : Type} {f : α → α → Bool} : ∀ (l : List α), (∀ x ∈ l, f x x = true) → eqL f l l = true
  | [], _ => rfl
  | x :: l, h => by simp only [eqL]; rw [h x (by simp), eqL_refl l (fun y hy => h y (by simp [hy]))]; rfl
theorem eqV_refl (x : V) : eqV x x = true := by
  unfold eqV
  rw [(ord_cmpV 12).refl x]; rfl
theorem sameQ_refl : ∀ (n : Nat) (p : P), sameQ n p p = true
  | 0, _ => rfl
  | n + 1, p => by
    simp only [sameQ]
    rw [eqL_refl p.v (fun x _ => eqV_refl x), eqL_refl p.p (fun x _ => sameQ_refl n x)]
    simp
theorem sameC_refl : ∀ (r : Nat) (l : List C), sameC r l l = true
  | 0, _ => rfl
  | r + 1, l => by
    show eqL (sameCl (sameC r)) l l = true
    refine eqL_refl l (fun x _ => ?_)
    unfold sameCl
    rw [eqL_refl x.a (fun g _ => ?_)]
    · simp
    · unfold sameA
      have hv := eqV_refl g.v
      unfold eqV at hv
      rw [hv, show sameP g.p g.p = true from sameQ_refl _ _, sameC_refl r g.c]
      simp
end Go.Proofs.YtllkimdlmnjoiaaGreatDoor
namespace Go.Proofs.YtllkimdlmnjoiaaGreatDoor
set_option maxRecDepth 100000
set_option maxRecDepth 100000
open Go.RowKit Go.Sort

set_option maxHeartbeats 1600000 in
/-- The document's Same of two queries. -/
theorem refSameC_any (w : World) (d : Nat) (A : Option Addr) (c : Nat) (l : List C) (A' : Option Addr) (c' : Nat) (m : List C) (hl : Ch w 0 w.heap.size d A c l) (hm : Ch w 0 w.heap.size d A' c' m) :
    Calls Tryz.prog 14 #[.slice A l.length c, .slice A' m.length c'] w fun e w' => e = .returned (.bool (sameC 11 l m)) ∧ Below w.heap.size w w' := by
  have CT := Lib.hid (sameR_any 10 w d A c l A' c' m (by omega) hl hm)
  rw [show ((10 : Nat) : Int) = 10 from rfl] at CT
  generalize sameC (10 + 1) l m = b at CT ⊢
  clear hl hm
  go_enter Tryz.func14, Tryz.ntmps14
  go_wp2_with fail
  refine CT.out.mono ?_
  rintro e w2 ⟨rfl, hb⟩
  have HB := Lib.hid hb
  clear hb CT
  go_wp2
  go_ret
  exact ⟨rfl, HB.out⟩
end Go.Proofs.YtllkimdlmnjoiaaGreatDoor


/- Carried over from an earlier seat. -/
namespace Go.Proofs.YtllkimdlmnjoiaaGreatDoor
set_option maxRecDepth 100000
set_option maxRecDepth 100000
set_option maxRecDepth 100000
open Go.RowKit Go.Sort

theorem sumL_eqS {α : Type} {f g : α → Nat} : ∀ (l : List α), (∀ x ∈ l, f x = g x) → sumL f l = sumL g l
  | [], _ => rfl
  | x :: l, h => by simp only [sumL]; rw [h x (by simp), sumL_eqS l (fun y hy => h y (by simp [hy]))]
theorem cntP_nil (r : Nat) : cntP r [] = 0 := by cases r <;> rfl
/-- A chain that may be has no calls that lie too deep to be counted. -/
theorem cntP_ch : ∀ (r e : Nat) (l : List C), chOk r l = true → cntP (r + e) l = cntP r l
  | 0, _, _, h => by cases h
  | r + 1, e, l, h => by
    simp only [chOk, Bool.and_eq_true, List.all_eq_true] at h
    rw [show r + 1 + e = (r + e) + 1 by omega]
    simp only [cntP]
    refine sumL_eqS l fun x hx => ?_
    have hc := h.2 x hx
    unfold callOk at hc
    simp only [Bool.and_eq_true, List.all_eq_true] at hc
    congr 1
    refine sumL_eqS x.a fun g hg => ?_
    obtain ⟨_, h3, h0⟩ := argOk_parts _ _ (hc.2 g hg)
    by_cases hk : g.k = 3
    · exact cntP_ch r e g.c (h3 hk)
    · rw [h0 hk, cntP_nil, cntP_nil]
theorem qOk_parts {l : List C} (h : qOk l = true) : cntP 10 l ≤ 200 ∧ cntP 11 l = cntP 10 l ∧ chOk 10 l = true := by
  unfold qOk at h
  rw [Bool.and_eq_true, decide_eq_true_eq] at h
  have : cntP 11 l = cntP 10 l := cntP_ch 10 1 l h.2
  exact ⟨by omega, this, h.2⟩
/-- A call whose one argument is a chain. -/
def wrapC (n : ByteArray) (a : List C) : List C := [.mk n [⟨3, v0, p0, a, ⟨#[]⟩⟩]]
end Go.Proofs.YtllkimdlmnjoiaaGreatDoor



