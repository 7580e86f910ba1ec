/- Carried over from an earlier seat. -/
import Derived.Test.YtiiopbcihieblaaDoorUC
import Derived.IntWalk
namespace Go.Proofs.YtiiopbcihieblaaDoor
set_option maxRecDepth 100000
set_option maxRecDepth 100000
set_option maxRecDepth 100000
open Go.RowKit Go.Sort

/-- Its text is not longer, if it may be. -/
def TxLe (t : V) (c : Int) : Prop := ∀ r, okV r t = true → ((txV r t).length : Int) + 4 ≤ 100 * c
def Short (t : V) (k : Nat) (y : Int) : Prop := ∀ r, okV (r + 1) t = true → ((itemsT (txV r) 0 (t.l.take k)).length : Int) ≤ 100 * (y - 1)
theorem Short.mono {t : V} {k : Nat} {y z : Int} (h : Short t k y) (hz : y ≤ z) : Short t k z := fun r ho => by have := h r ho; omega
theorem qT_len (l : Bs) : (qT l).length ≤ 2 * l.length + 2 := by
  have : ∀ l : Bs, (l.flatMap qC).length ≤ 2 * l.length := fun l => by
    induction l with
    | nil => simp
    | cons c l ih =>
      rw [List.flatMap_cons, List.length_append, List.length_cons]
      have : (qC c).length ≤ 2 := by unfold qC; split <;> simp
      omega
  have h := this l
  unfold qT
  simp only [List.length_cons, List.length_append, List.length_nil]; omega
theorem cm_len (k : Nat) : (cm k).length ≤ 2 := by unfold cm; split <;> simp
theorem Short.next {t : V} {k : Nat} {y c : Int} {z : V} (h : Short t k y) (hz : t.l[k]? = some z) (hc : TxLe z c) : Short t (k + 1) (y + c) := fun r ho => by
  have h1 := h r ho
  have h2 := hc r (((ok_parts r t).1 ho).2.1 z (List.mem_of_getElem? hz))
  have h3 := cm_len k
  rw [itemsT_next _ _ _ hz, List.length_append, List.length_append]
  omega
theorem short_all {t : V} {y : Int} (hf : fitsB t.n = true) (h : Short t t.l.length y) (_hy : 1 ≤ y) : TxLe t (y + (t.s.size : Int) / 20) := fun r ho => by
  cases r with
  | zero => cases ho
  | succ r =>
    have h1 := h r ho
    rw [List.take_length] at h1
    have hs : (0 : Int) ≤ (t.s.size : Int) / 20 := by omega
    show (((if _ then _ else _ : Bs)).length : Int) + 4 ≤ _
    by_cases k1 : t.k = 1
    · rw [if_pos k1]; split <;> simp <;> omega
    · rw [if_neg k1]
      by_cases k2 : t.k = 2
      · rw [if_pos k2]
        have := digL_len _ hf
        omega
      · rw [if_neg k2]
        by_cases k3 : t.k = 3
        · rw [if_pos k3]
          have := qT_len t.s.toList
          rw [toList_size] at this
          omega
        · rw [if_neg k3]
          simp only [List.length_cons, List.length_append, List.length_nil]
          omega

/-- What Count answers of any value. -/
def AllPost2 (t : V) (w : World) (most : Int) (e : Ending) (w' : World) : Prop := ∃ c : Int, e = .returned (.int .i64 c) ∧ 1 ≤ c ∧ c ≤ most * 7036874417770 ∧ (c < most → TxLe t c) ∧ Below w.heap.size w w'
def AllOk2 (d : Nat) : Prop := ∀ (w : World) (x : At) (most : Int), 1 ≤ most → most ≤ 1500 → x.In w d → Calls Tryd.prog 19 #[x.v, .int .i64 most] w (AllPost2 x.t w most)

set_option maxHeartbeats 3200000 in
theorem all2_succ (d' : Nat) (ih : AllOk2 d') : AllOk2 (d' + 1) := by
  intro w x most hm0 hm1 hx
  have HSZ : x.t.s.size ≤ 140737488355328 := hx.1.s1
  have FN : Hid (fitsB x.t.n = true) := Lib.hid (by rw [fits_iff]; exact ⟨hx.1.n0, hx.1.n1⟩)
  have RL := Lib.hid hx.2.1
  have RM := Lib.hid hx.2.2
  have hbl := hx.2.1.big
  have hbm := hx.2.2.big
  have IH := Lib.hid ih
  clear hx ih
  unfold At.v
  go_enter Tryd.func19, Tryd.ntmps19
  go_wp2
  have k1 := Box.new w x.t x.A x.c x.A' x.c'
  generalize hW : World.alloc w _ = W
  have K1 : Hid (Box W w.heap.size x.t x.A x.c x.A' x.c') := Lib.hid (by rw [← hW]; exact k1)
  have HB : Hid (Below w.heap.size w W) := Lib.hid (by rw [← hW]; exact below_new _ _)
  have hz : w.heap.size < W.heap.size := by rw [← hW]; simp
  clear hW k1
  go_loopw [5, 6] (fun u i wr => ∃ (k : Nat) (y : Int), k ≤ x.t.l.length ∧ i = .int .i64 k ∧ u = .int .i64 y ∧ 1 ≤ y ∧ y ≤ (most - 1) * 7036874417770 + 1 ∧ Hid (y < most → Short x.t k y) ∧ Hid (Below W.heap.size W wr)) (fun _ i _ => x.t.l.length - (intOf i).toNat)
  case atStart => exact ⟨0, 1, by omega, rfl, rfl, by omega, by omega, Lib.hid (fun _ _ _ => by simp [itemsT]), Lib.hid (Below.refl _ _)⟩
  case round =>
    obtain ⟨k, y, hk, rfl, rfl, hy0, hy1, hsh, hbel⟩ := hrel
    obtain ⟨c0, c1, c2, c3, c4⟩ := K1.out.below hbel.out hz
    by_cases hlt : k < x.t.l.length
    · by_cases hm : y < most
      · obtain ⟨b, off, z, A1, e1, A2, e2, hA, _, hb, hzz, q, rz⟩ := (RL.out.next (bnext HB.out hbel.out)).elem hlt
        rw [hA] at c3
        obtain ⟨q0, q1, q2, q3, q4⟩ := q
        have RZ := Lib.hid rz
        have ZZ := Lib.hid hzz
        clear rz hA hzz
        have i1 : IntKind.i64.wrap (most - y) = most - y := IntWalk.i64_in _ (by omega)
        have i1' : wrap64 (most - y) = most - y := by unfold wrap64; omega
        have k0 : (0 : Int) ≤ (k : Int) := by omega
        have k2 : (k : Int) < (x.t.l.length : Int) := by omega
        go_wp2_with fail
        refine (IH.out _ ⟨z, A1, e1, A2, e2⟩ (most - y) (by omega) (by omega) RZ.out).mono ?_
        rintro e w2 ⟨c, rfl, hc0, hc1, htx, hbc⟩
        have BB := Lib.hid (bnext hbel.out hbc)
        have HT := Lib.hid htx
        clear hbc i1 i1' c0 c1 c2 c3 c4 q0 q1 q2 q3 q4 htx
        have i2 : IntKind.i64.wrap (y + c) = y + c := IntWalk.i64_in _ (by omega)
        have i2' : wrap64 (y + c) = y + c := by unfold wrap64; omega
        go_wp2
        go_roundw
        case rel => exact ⟨k + 1, y + c, by omega, by go_num, rfl, by omega, by omega, Lib.hid (fun h => (hsh.out hm).next ZZ.out (HT.out (by omega))), BB⟩
        case measure => simp [intOf]; omega
      · skip
        have hm' : most ≤ y := by omega
        have START : Hid (y < most → Short x.t x.t.l.length y) := Lib.hid (fun h => absurd h (by omega))
        go_wp2
        clear c0 c1 c2 c3 c4
        go_loopw [5, 7] (fun u i wx => ∃ (k2 : Nat) (y2 : Int), k2 ≤ x.t.m.length ∧ i = .int .i64 k2 ∧ u = .int .i64 y2 ∧ 1 ≤ y2 ∧ y2 ≤ (most - 1) * 7036874417770 + 1 ∧ Hid (y2 < most → Short x.t x.t.l.length y2) ∧ Hid (Below W.heap.size W wx)) (fun _ i _ => x.t.m.length - (intOf i).toNat)
        case atStart => exact ⟨0, y, by omega, rfl, rfl, hy0, hy1, START, hbel⟩
        case round =>
          clear hy0 hy1
          obtain ⟨k2, y2, hk2, rfl, rfl, hz0, hz1, hsh2, hbel2⟩ := hrel
          obtain ⟨c0, c1, c2, c3, c4⟩ := K1.out.below hbel2.out hz
          by_cases hlt2 : k2 < x.t.m.length
          · by_cases hm2 : y2 < most
            · obtain ⟨b, off, z, A1, e1, A2, e2, hA, _, hb, hzz, q, rz⟩ := (RM.out.next (bnext HB.out hbel2.out)).elem hlt2
              rw [hA] at c4
              obtain ⟨q0, q1, q2, q3, q4⟩ := q
              have RZ := Lib.hid rz
              clear rz hA
              have i1 : IntKind.i64.wrap (most - y2) = most - y2 := IntWalk.i64_in _ (by omega)
              have i1' : wrap64 (most - y2) = most - y2 := by unfold wrap64; omega
              have k0 : (0 : Int) ≤ (k2 : Int) := by omega
              have k3 : (k2 : Int) < (x.t.m.length : Int) := by omega
              go_wp2_with fail
              refine (IH.out _ ⟨z, A1, e1, A2, e2⟩ (most - y2) (by omega) (by omega) RZ.out).mono ?_
              rintro e w2 ⟨c, rfl, hc0, hc1, _, hbc⟩
              have BB := Lib.hid (bnext hbel2.out hbc)
              clear hbc i1 i1' c0 c1 c2 c3 c4 q0 q1 q2 q3 q4
              have i2 : IntKind.i64.wrap (y2 + c) = y2 + c := IntWalk.i64_in _ (by omega)
              have i2' : wrap64 (y2 + c) = y2 + c := by unfold wrap64; omega
              go_wp2
              go_roundw
              case rel => exact ⟨k2 + 1, y2 + c, by omega, by go_num, rfl, by omega, by omega, Lib.hid (fun h => (hsh2.out (by omega)).mono (by omega)), BB⟩
              case measure => simp [intOf]; omega
            · have hm2' : most ≤ y2 := by omega
              go_wp2
              go_ret
              exact ⟨y2 + (x.t.s.size : Int) / 20, rfl, by omega, by omega, fun h => absurd h (by omega), bnext HB.out hbel2.out⟩
          · go_wp2
            go_ret
            exact ⟨y2 + (x.t.s.size : Int) / 20, rfl, by omega, by omega, fun h => short_all FN.out (hsh2.out (by omega)) (by omega), bnext HB.out hbel2.out⟩
    · skip
      obtain rfl : k = x.t.l.length := by omega
      have START : Hid (y < most → Short x.t x.t.l.length y) := hsh
      go_wp2
      clear c0 c1 c2 c3 c4
      go_loopw [5, 7] (fun u i wx => ∃ (k2 : Nat) (y2 : Int), k2 ≤ x.t.m.length ∧ i = .int .i64 k2 ∧ u = .int .i64 y2 ∧ 1 ≤ y2 ∧ y2 ≤ (most - 1) * 7036874417770 + 1 ∧ Hid (y2 < most → Short x.t x.t.l.length y2) ∧ Hid (Below W.heap.size W wx)) (fun _ i _ => x.t.m.length - (intOf i).toNat)
      case atStart => exact ⟨0, y, by omega, rfl, rfl, hy0, hy1, START, hbel⟩
      case round =>
        clear hy0 hy1
        obtain ⟨k2, y2, hk2, rfl, rfl, hz0, hz1, hsh2, hbel2⟩ := hrel
        obtain ⟨c0, c1, c2, c3, c4⟩ := K1.out.below hbel2.out hz
        by_cases hlt2 : k2 < x.t.m.length
        · by_cases hm2 : y2 < most
          · obtain ⟨b, off, z, A1, e1, A2, e2, hA, _, hb, hzz, q, rz⟩ := (RM.out.next (bnext HB.out hbel2.out)).elem hlt2
            rw [hA] at c4
            obtain ⟨q0, q1, q2, q3, q4⟩ := q
            have RZ := Lib.hid rz
            clear rz hA
            have i1 : IntKind.i64.wrap (most - y2) = most - y2 := IntWalk.i64_in _ (by omega)
            have i1' : wrap64 (most - y2) = most - y2 := by unfold wrap64; omega
            have k0 : (0 : Int) ≤ (k2 : Int) := by omega
            have k3 : (k2 : Int) < (x.t.m.length : Int) := by omega
            go_wp2_with fail
            refine (IH.out _ ⟨z, A1, e1, A2, e2⟩ (most - y2) (by omega) (by omega) RZ.out).mono ?_
            rintro e w2 ⟨c, rfl, hc0, hc1, _, hbc⟩
            have BB := Lib.hid (bnext hbel2.out hbc)
            clear hbc i1 i1' c0 c1 c2 c3 c4 q0 q1 q2 q3 q4
            have i2 : IntKind.i64.wrap (y2 + c) = y2 + c := IntWalk.i64_in _ (by omega)
            have i2' : wrap64 (y2 + c) = y2 + c := by unfold wrap64; omega
            go_wp2
            go_roundw
            case rel => exact ⟨k2 + 1, y2 + c, by omega, by go_num, rfl, by omega, by omega, Lib.hid (fun h => (hsh2.out (by omega)).mono (by omega)), BB⟩
            case measure => simp [intOf]; omega
          · have hm2' : most ≤ y2 := by omega
            go_wp2
            go_ret
            exact ⟨y2 + (x.t.s.size : Int) / 20, rfl, by omega, by omega, fun h => absurd h (by omega), bnext HB.out hbel2.out⟩
        · go_wp2
          go_ret
          exact ⟨y2 + (x.t.s.size : Int) / 20, rfl, by omega, by omega, fun h => short_all FN.out (hsh2.out (by omega)) (by omega), bnext HB.out hbel2.out⟩
theorem all2_any : ∀ d, AllOk2 d
  | 0 => fun _ _ _ _ _ h => h.elim
  | d + 1 => all2_succ d (all2_any d)

def RowLe (l : List V) (k : Nat) (y : Int) : Prop := ∀ r, (∀ x ∈ l, okV r x = true) → ((itemsT (txV r) 0 (l.take k)).length : Int) ≤ 100 * y
theorem RowLe.next {l : List V} {k : Nat} {y c : Int} {z : V} (h : RowLe l k y) (hz : l[k]? = some z) (hc : TxLe z c) : RowLe l (k + 1) (y + c) := fun r ho => by
  have h1 := h r ho
  have h2 := hc r (ho z (List.mem_of_getElem? hz))
  have h3 := cm_len k
  rw [itemsT_next _ _ _ hz, List.length_append, List.length_append]
  omega
def ManyPost2 (l : List V) (w : World) (most : Int) (e : Ending) (w' : World) : Prop := ∃ n : Int, e = .returned (.int .i64 n) ∧ 0 ≤ n ∧ n ≤ most * 7036874417770 ∧ (n < most → RowLe l l.length n) ∧ Below w.heap.size w w'
set_option maxHeartbeats 1600000 in
theorem many2_any (w : World) (d : Nat) (A : Option Addr) (c : Nat) (l : List V) (h : Rw w 0 w.heap.size d A c l) (most : Int) (hm0 : 1 ≤ most) (hm1 : most ≤ 1500) :
    Calls Tryd.prog 29 #[.slice A l.length c, .int .i64 most] w (ManyPost2 l w most) := by
  have H := Lib.hid h
  have hbl := h.big
  clear h
  go_enter Tryd.func29, Tryd.ntmps29
  go_wp2
  go_loopw [5, 6] (fun u i wr => ∃ (k : Nat) (y : Int), k ≤ l.length ∧ i = .int .i64 k ∧ u = .int .i64 y ∧ 0 ≤ y ∧ y ≤ most * 7036874417770 ∧ Hid (y < most → RowLe l k y) ∧ Hid (Below w.heap.size w wr)) (fun _ i _ => l.length - (intOf i).toNat)
  case atStart => exact ⟨0, 0, by omega, rfl, rfl, by omega, by omega, Lib.hid (fun _ _ _ => by simp [itemsT]), Lib.hid (Below.refl _ _)⟩
  case round =>
    obtain ⟨k, y, hk, rfl, rfl, hx0, hx1, hsh, hbel⟩ := hrel
    by_cases hlt : k < l.length
    · by_cases hm : y < most
      · obtain ⟨b, off, z, A1, e1, A2, e2, rfl, _, hb, hzz, q, rz⟩ := (H.out.next hbel.out).elem hlt
        obtain ⟨q0, q1, q2, q3, q4⟩ := q
        have RZ := Lib.hid rz
        have ZZ := Lib.hid hzz
        clear rz hzz
        have i1 : IntKind.i64.wrap (most - y) = most - y := IntWalk.i64_in _ (by omega)
        have k0 : (0 : Int) ≤ (k : Int) := by omega
        have k2 : (k : Int) < (l.length : Int) := by omega
        go_wp2_with fail
        refine (all2_any d _ ⟨z, A1, e1, A2, e2⟩ (most - y) (by omega) (by omega) RZ.out).mono ?_
        rintro e w2 ⟨c, rfl, hc0, hc1, htx, hbc⟩
        have BB := Lib.hid (bnext hbel.out hbc)
        have HT := Lib.hid htx
        clear hbc i1 q0 q1 q2 q3 q4 htx
        have i2 : IntKind.i64.wrap (y + c) = y + c := IntWalk.i64_in _ (by omega)
        go_wp2
        go_roundw
        case rel => exact ⟨k + 1, y + c, by omega, by go_num, rfl, by omega, by omega, Lib.hid (fun h => (hsh.out hm).next ZZ.out (HT.out (by omega))), BB⟩
        case measure => simp [intOf]; omega
      · have hm' : most ≤ y := by omega
        go_wp2
        go_ret
        exact ⟨y, rfl, hx0, hx1, fun h => absurd h (by omega), hbel.out⟩
    · obtain rfl : k = l.length := by omega
      go_wp2
      go_ret
      exact ⟨y, rfl, hx0, hx1, fun h => hsh.out h, hbel.out⟩

/-- What the document's Count answers of any predicate. -/
def TpLe (t : P) (c : Int) : Prop := ∀ r, okP r t = true → ((txP r t).length : Int) + 4 ≤ 100 * c
def ShortP (t : P) (m : Int) (k : Nat) (y : Int) : Prop := RowLe t.v t.v.length m ∧ 0 ≤ m ∧ ∀ r, okP (r + 1) t = true → ((itemsT (txP r) 0 (t.p.take k)).length : Int) ≤ 100 * (y - 1 - m)
theorem ShortP.next {t : P} {m : Int} {k : Nat} {y c : Int} {z : P} (h : ShortP t m k y) (hz : t.p[k]? = some z) (hc : TpLe z c) : ShortP t m (k + 1) (y + c) := ⟨h.1, h.2.1, fun r ho => by
  have h1 := h.2.2 r ho
  have h2 := hc r (((okP_parts r t).1 ho).2.2 z (List.mem_of_getElem? hz))
  have h3 := cm_len k
  rw [itemsT_next _ _ _ hz, List.length_append, List.length_append]
  omega⟩
theorem name_len (k : Int) (h : 1 ≤ k ∧ k ≤ 14) : (nameP k).length ≤ 7 := by
  obtain rfl | rfl | rfl | rfl | rfl | rfl | rfl | rfl | rfl | rfl | rfl | rfl | rfl | rfl : k = 1 ∨ k = 2 ∨ k = 3 ∨ k = 4 ∨ k = 5 ∨ k = 6 ∨ k = 7 ∨ k = 8 ∨ k = 9 ∨ k = 10 ∨ k = 11 ∨ k = 12 ∨ k = 13 ∨ k = 14 := by omega
  all_goals decide
theorem shortP_all {t : P} {m y : Int} (h : ShortP t m t.p.length y) (hy : 1 + m ≤ y) : TpLe t y := fun r ho => by
  cases r with
  | zero => cases ho
  | succ r =>
    obtain ⟨ofit, ov, op⟩ := (okP_parts r t).1 ho
    have hn := name_len t.k (fits_kind1 t ofit)
    have h1 := h.2.2 r ho
    have h2 := h.1 12 ov
    have h3 := h.2.1
    rw [List.take_length] at h1 h2
    by_cases hp : 0 < t.p.length
    · rw [txP_p r t hp]
      simp only [List.length_cons, List.length_append, List.length_nil]
      omega
    · rw [txP_v r t hp]
      simp only [List.length_cons, List.length_append, List.length_nil]
      omega
def CntPost2 (t : P) (w : World) (most : Int) (e : Ending) (w' : World) : Prop := ∃ c : Int, e = .returned (.int .i64 c) ∧ 1 ≤ c ∧ c ≤ 1 + most * 7036874417770 ∧ (c < most → TpLe t c) ∧ Below w.heap.size w w'
def CntPOk2 (d : Nat) : Prop := ∀ (w : World) (x : Pt) (most : Int), 1 ≤ most → most ≤ 1500 → x.In w d → Calls Tryd.prog 20 #[x.val, .int .i64 most] w (CntPost2 x.t w most)
set_option maxHeartbeats 1600000 in
theorem cntP2_succ (d : Nat) (ih : CntPOk2 d) : CntPOk2 (d + 1) := by
  intro w x most hm0 hm1 hx
  obtain ⟨n, rv⟩ := hx.2.1
  have RV := Lib.hid rv
  have RP := Lib.hid hx.2.2
  have hbig := hx.2.2.big
  have IH := Lib.hid ih
  clear hx ih rv
  unfold Pt.val
  go_enter Tryd.func20, Tryd.ntmps20
  go_upto_region 1 with fail
  have k1 := BP.new w x
  generalize hW : World.alloc w _ = W
  have K1 : Hid (BP W w.heap.size x) := Lib.hid (by rw [← hW]; exact k1)
  have HB : Hid (Below w.heap.size w W) := Lib.hid (by rw [← hW]; exact below_new _ _)
  obtain ⟨a0, a1, a2, _⟩ := K1.out
  clear hW k1
  go_wp2_with fail
  refine (many2_any W n x.A x.c x.t.v (RV.out.next HB.out) most hm0 hm1).mono ?_
  rintro e w1 ⟨m, rfl, h0, h1, hrow, hb1⟩
  have B1 := Lib.hid (bnext HB.out hb1)
  have K2 := Lib.hid (K1.out.next hb1)
  have RO := Lib.hid hrow
  clear a0 a1 a2 hb1 hrow
  have i1 : IntKind.i64.wrap (1 + m) = 1 + m := IntWalk.i64_in _ (by omega)
  go_wp2
  clear i1
  go_loopw [5, 6] (fun u i wr => ∃ (k : Nat) (y : Int), k ≤ x.t.p.length ∧ i = .int .i64 k ∧ u = .int .i64 y ∧ 1 + m ≤ y ∧ y ≤ 1 + most * 7036874417770 ∧ Hid (y < most → ShortP x.t m k y) ∧ Hid (Below w1.heap.size w1 wr)) (fun _ i _ => x.t.p.length - (intOf i).toNat)
  case atStart => exact ⟨0, 1 + m, by omega, rfl, by go_num, by omega, by omega, Lib.hid (fun h => ⟨RO.out (by omega), h0, fun _ _ => by simp [itemsT]; omega⟩), Lib.hid (Below.refl _ _)⟩
  case round =>
    obtain ⟨k, y, hk, rfl, rfl, hy0, hy1, hsh, hbel⟩ := hrel
    obtain ⟨a0, a1, a2, _⟩ := K2.out.next hbel.out
    by_cases hlt : k < x.t.p.length
    · by_cases hm : y < most
      · obtain ⟨b, off, z, eA, _, hb, hzz, q, rz⟩ := (RP.out.next (bnext B1.out hbel.out)).elem hlt
        rw [eA] at a2
        obtain ⟨q0, q1, q2⟩ := q
        have RZ := Lib.hid rz
        have ZZ := Lib.hid hzz
        clear rz hzz eA
        have i1 : IntKind.i64.wrap (most - y) = most - y := IntWalk.i64_in _ (by omega)
        have k0 : (0 : Int) ≤ (k : Int) := by omega
        have k2 : (k : Int) < (x.t.p.length : Int) := by omega
        go_wp2_with fail
        refine (IH.out _ z (most - y) (by omega) (by omega) RZ.out).mono ?_
        rintro e w2 ⟨c, rfl, hc0, hc1, htx, hbc⟩
        have BB := Lib.hid (bnext hbel.out hbc)
        have HT := Lib.hid htx
        clear hbc i1 q0 q1 q2 a0 a1 a2 htx
        have i2 : IntKind.i64.wrap (y + c) = y + c := IntWalk.i64_in _ (by omega)
        go_wp2
        go_roundw
        case rel => exact ⟨k + 1, y + c, by omega, by go_num, rfl, by omega, by omega, Lib.hid (fun h => (hsh.out hm).next ZZ.out (HT.out (by omega))), BB⟩
        case measure => simp [intOf]; omega
      · have hm' : most ≤ y := by omega
        go_wp2
        go_ret
        exact ⟨y, rfl, by omega, hy1, fun h => absurd h (by omega), bnext B1.out hbel.out⟩
    · obtain rfl : k = x.t.p.length := by omega
      go_wp2
      go_ret
      exact ⟨y, rfl, by omega, hy1, fun h => shortP_all (hsh.out h) hy0, bnext B1.out hbel.out⟩
theorem cntP2_any : ∀ d, CntPOk2 d
  | 0 => fun _ _ _ _ _ h => h.elim
  | d + 1 => cntP2_succ d (cntP2_any d)
end Go.Proofs.YtiiopbcihieblaaDoor


