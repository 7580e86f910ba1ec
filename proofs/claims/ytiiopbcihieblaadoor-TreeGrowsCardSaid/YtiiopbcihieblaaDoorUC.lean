/- Carried over from an earlier seat. -/
import Derived.Test.YtiiopbcihieblaaDoorUB
namespace Go.Proofs.YtiiopbcihieblaaDoor
set_option maxRecDepth 100000
set_option maxRecDepth 100000
set_option maxRecDepth 100000
open Go.RowKit Go.Sort

def CWrite (r : Nat) : Prop := ∀ (w : World) (B b : Nat) (bs first : Bs) (sf : ByteArray) (d : Nat) (A : Option Addr) (c : Nat) (l : List C), NM w → 0 < B → WB w B b bs → Ch w 0 B d A c l → chOk r l = true → sf.toList = first → bs.length + (txC r first l).length ≤ MX →
  Calls Tryd.prog 14 #[.pointer (some ⟨b, 0, none⟩), .string sf, .slice A l.length c] w (WPost B b (bs ++ txC r first l) w)
def GWrite (r : Nat) : Prop := ∀ (w : World) (B b : Nat) (bs : Bs) (d : Nat) (g : Gt), NM w → 0 < B → WB w B b bs → GOk w 0 B (Ch w 0 B d) g → argOk (chOk r) g.t = true → bs.length + (txG (txC r [95, 95]) g.t).length ≤ MX →
  Calls Tryd.prog 25 #[.pointer (some ⟨b, 0, none⟩), g.val] w (WPost B b (bs ++ txG (txC r [95, 95]) g.t) w)
theorem argOk_fit {f : List C → Bool} {g : Ag} (h : argOk f g = true) : fitsA g = true := by
  cases hf : fitsA g
  · rw [argOk_fits f g hf] at h; cases h
  · rfl
theorem txG_1 (f : List C → Bs) (g : Ag) (h : g.k = 1) : txG f g = txV 12 g.v := by unfold txG; rw [if_pos h]
theorem txG_2 (f : List C → Bs) (g : Ag) (h : g.k = 2) : txG f g = txP 12 g.p := by unfold txG; rw [if_neg (by omega), if_pos h]
theorem txG_3 (f : List C → Bs) (g : Ag) (h : g.k = 3) : txG f g = f g.c := by unfold txG; rw [if_neg (by omega), if_neg (by omega), if_pos h]
theorem txG_4 (f : List C → Bs) (g : Ag) (h : g.k = 4) : txG f g = g.s.toList := by unfold txG; rw [if_neg (by omega), if_neg (by omega), if_neg (by omega)]
set_option maxHeartbeats 3200000 in
theorem gwrite_any (r : Nat) (ih : CWrite r) : GWrite r := by
  intro w B b bs d g hm hB0 h hg ho hl
  have hB := hB0
  clear hB0
  have hk := (argOk_parts _ _ ho).1
  have hfit := argOk_fit ho
  have HG := Lib.hid hg
  have HO := Lib.hid ho
  have HF := Lib.hid hfit
  have HL := Lib.hid hl
  have HM := Lib.hid hm
  have H := Lib.hid h
  have IH := Lib.hid ih
  obtain ⟨tx, htx⟩ : ∃ tx : Bs, tx = txG (txC r [95, 95]) g.t := ⟨_, rfl⟩
  have X1 := Lib.hid (fun h : g.t.k = 1 => htx.trans (txG_1 _ _ h))
  have X2 := Lib.hid (fun h : g.t.k = 2 => htx.trans (txG_2 _ _ h))
  have X3 := Lib.hid (fun h : g.t.k = 3 => htx.trans (txG_3 _ _ h))
  have X4 := Lib.hid (fun h : g.t.k = 4 => htx.trans (txG_4 _ _ h))
  rw [← htx] at HL ⊢
  have HK := Lib.hid hk
  clear hm h hg ho hl hfit htx hk ih
  have b0 := below_new w (.cells #[.int .i64 g.k, .int .i64 g.x.t.k, .int .i64 g.x.t.n, .string g.x.t.s, .slice g.x.A g.x.t.l.length g.x.c, .slice g.x.A' g.x.t.m.length g.x.c', .int .i64 g.q.t.k, .slice g.q.A g.q.t.v.length g.q.c, .slice g.q.A' g.q.t.p.length g.q.c', .slice g.A g.l.length g.c, .string g.s] 37)
  have hbx := BG.new w g
  unfold Gt.val
  go_enter Tryd.func25, Tryd.ntmps25
  go_upto_region 1 with fail
  generalize hW : World.alloc w _ = W at b0 hbx ⊢
  clear hW
  have WBW := Lib.hid (H.out.next b0)
  have K0 := Lib.hid (WK.below (b := b) b0 H.out.2)
  have HMW := Lib.hid (HM.out.next b0)
  have G0 := Lib.hid (GOk.imp (Kept.of_below (b0.mono H.out.2) (Nat.le_refl B)) (Nat.le_refl 0) (Nat.le_refl B) (fun _ _ _ h => Ch.keep h (Kept.of_below (b0.mono H.out.2) (Nat.le_refl B))) HG.out)
  obtain ⟨a0, a1, a2, a3, a4, a5, a6, a7, a8, a9, a10, _⟩ := hbx
  clear b0
  obtain hk | hk | hk | hk : g.k = 1 ∨ g.k = 2 ∨ g.k = 3 ∨ g.k = 4 := HK.out
  · have TX := X1.out hk
    have OK := (argOk_1 _ g.t HF.out hk).symm.trans HO.out
    rw [Bool.and_eq_true] at OK
    obtain ⟨nv, hv⟩ := G0.out.v
    have WR := vwrite_any 12 W B b bs nv g.x HMW.out hB WBW.out hv OK.1 OK.2 (by have := HL.out; rwa [TX] at this)
    rw [← show tx = txV 12 g.x.t from TX] at WR
    replace WR := Lib.hid WR
    have n1 : (g.k == 1) = true := by rw [hk]; rfl
    clear TX OK hk hv
    go_wp2_with fail
    refine WR.out.mono ?_
    rintro e w2 ⟨rfl, hw⟩
    have HW2 := Lib.hid hw
    clear hw WR a0 a1 a2 a3 a4 a5 a6 a7 a8 a9 a10
    go_wp2
    go_end0
    exact ⟨rfl, HW2.out.1, K0.out.trans HW2.out.2⟩
  · have TX := X2.out hk
    have OK := (argOk_2 _ g.t HF.out hk).symm.trans HO.out
    rw [Bool.and_eq_true] at OK
    obtain ⟨np, hp⟩ := G0.out.p
    have WR := pwrite_any 12 W B b bs np g.q HMW.out hB WBW.out hp OK.1 OK.2 (by have := HL.out; rwa [TX] at this)
    rw [← show tx = txP 12 g.q.t from TX] at WR
    replace WR := Lib.hid WR
    have n1 : (g.k == 1) = false := by rw [hk]; rfl
    have n2 : (g.k == 2) = true := by rw [hk]; rfl
    clear TX OK hk hp
    go_wp2_with fail
    refine WR.out.mono ?_
    rintro e w2 ⟨rfl, hw⟩
    have HW2 := Lib.hid hw
    clear hw WR a0 a1 a2 a3 a4 a5 a6 a7 a8 a9 a10
    go_wp2
    go_end0
    exact ⟨rfl, HW2.out.1, K0.out.trans HW2.out.2⟩
  · have TX := X3.out hk
    have OK := (argOk_3 _ g.t HF.out hk).symm.trans HO.out
    have WR := IH.out W B b bs [95, 95] ⟨#[95, 95]⟩ d g.A g.c g.l HMW.out hB WBW.out G0.out.c OK (lit_list [95, 95]) (by have := HL.out; rwa [TX] at this)
    rw [← show tx = txC r [95, 95] g.l from TX] at WR
    replace WR := Lib.hid WR
    have n1 : (g.k == 1) = false := by rw [hk]; rfl
    have n2 : (g.k == 2) = false := by rw [hk]; rfl
    have n3 : (g.k == 3) = true := by rw [hk]; rfl
    clear TX OK hk
    go_wp2_with fail
    refine WR.out.mono ?_
    rintro e w2 ⟨rfl, hw⟩
    have HW2 := Lib.hid hw
    clear hw WR a0 a1 a2 a3 a4 a5 a6 a7 a8 a9 a10
    go_wp2
    go_end0
    exact ⟨rfl, HW2.out.1, K0.out.trans HW2.out.2⟩
  · have TX := X4.out hk
    have WR := str_any W.drew B b bs g.s WBW.out.drew (by have := HL.out; rw [TX, show g.t.s = g.s from rfl, toList_size] at this; exact this)
    rw [← show tx = g.s.toList from TX] at WR
    replace WR := Lib.hid WR
    have n1 : (g.k == 1) = false := by rw [hk]; rfl
    have n2 : (g.k == 2) = false := by rw [hk]; rfl
    have n3 : (g.k == 3) = false := by rw [hk]; rfl
    have n4 : (g.k == 4) = true := by rw [hk]; rfl
    clear TX hk
    go_upto_region 9 with fail
    go_still_tail 5, (by kernel_rfl)
    change wpList _ _ _ _ _ W.drew
    go_wp2_with fail
    refine WR.out.mono ?_
    rintro e w2 ⟨rfl, hw⟩
    have HW2 := Lib.hid hw
    clear hw WR a0 a1 a2 a3 a4 a5 a6 a7 a8 a9 a10
    go_wp2
    go_end0
    exact ⟨rfl, HW2.out.1, (K0.out.trans (WK.drew _ _ _)).trans HW2.out.2⟩
theorem Ch.elemB {w : World} {lo B d : Nat} {A : Option Addr} {c : Nat} {l : List C} (h : Ch w lo B d A c l) {k : Nat} (hk : k < l.length) :
    ∃ (b off : Nat) (x : Ct) (e : Nat), d = e + 1 ∧ A = some ⟨b, off, none⟩ ∧ b < B ∧ l[k]? = some x.t ∧ cellsC w b (off + k * 2) x ∧ COk w lo B (Ch w lo B e) x := by
  cases d with
  | zero =>
    obtain ⟨_, _, _, _, _, _, _, _, h⟩ := GRow.elem h hk
    exact h.elim
  | succ e =>
    obtain ⟨b, off, x, e1, _, e2, e3, e4, e5⟩ := GRow.elem h hk
    exact ⟨b, off, x, e, rfl, e1, e2, e3, .of e4, e5⟩
theorem flatC_next (f : C → Bs) (l : List C) (k : Nat) {c : C} (h : l[k]? = some c) : (l.take (k + 1)).flatMap f = (l.take k).flatMap f ++ f c := by
  rw [take_snoc l k h, List.flatMap_append]; simp
theorem flatC_le (f : C → Bs) (l : List C) (k : Nat) : ((l.take k).flatMap f).length ≤ (l.flatMap f).length := by
  have := congrArg (fun m => (List.flatMap f m).length) (List.take_append_drop k l).symm
  simp only [List.flatMap_append, List.length_append] at this
  omega
set_option maxHeartbeats 6400000 in
theorem cwrite_succ (r : Nat) (ih : CWrite r) : CWrite (r + 1) := by
  intro w B b bs first sf d A c l hm hB0 h hc ho hsf hl
  have hB := hB0
  clear hB0
  subst hsf
  have HC := Lib.hid hc
  have GW := Lib.hid (gwrite_any r ih)
  have HM := Lib.hid hm
  have hbig := hc.big
  have ho' : (decide (0 < l.length) && l.all (callOk (chOk r))) = true := ho
  rw [Bool.and_eq_true, List.all_eq_true] at ho'
  have HO := Lib.hid ho'.2
  obtain ⟨f, hf⟩ : ∃ f : C → Bs, f = txCall (txC r [95, 95]) := ⟨_, rfl⟩
  have HF := Lib.hid (fun x : C => congrFun hf x)
  have hl' : bs.length + (sf.toList.length + (l.flatMap f).length) ≤ MX := by
    have : txC (r + 1) sf.toList l = sf.toList ++ l.flatMap (txCall (txC r [95, 95])) := rfl
    rw [this, ← hf, List.length_append] at hl
    exact hl
  show Calls Tryd.prog 14 #[.pointer (some ⟨b, 0, none⟩), .string sf, .slice A l.length c] w (WPost B b (bs ++ (sf.toList ++ l.flatMap (txCall (txC r [95, 95])))) w)
  rw [← hf]
  have S1 := Lib.hid (str_any w B b bs sf h (by rw [← toList_size]; unfold MX at hl'; omega))
  have HL := Lib.hid hl'
  have TK := Lib.hid (fun k => flatC_le f l k)
  have NX0 := Lib.hid (fun (k : Nat) (x : C) (h : l[k]? = some x) => flatC_next f l k h)
  clear hm h hc ho hl hl' ho' hf ih
  go_enter Tryd.func14, Tryd.ntmps14
  go_wp2_with fail
  refine S1.out.mono ?_
  rintro e w0 ⟨rfl, hw⟩
  have HW := Lib.hid hw
  clear hw S1
  go_wp2
  go_loopw [15] (fun i wr => ∃ k : Nat, k ≤ l.length ∧ i = .int .i64 k ∧ Hid (WB wr B b (bs ++ sf.toList ++ (l.take k).flatMap f)) ∧ Hid (WK B b w wr)) (fun i _ => l.length - (intOf i).toNat)
  case atStart => exact ⟨0, by omega, rfl, Lib.hid (by simpa using HW.out.1), Lib.hid HW.out.2⟩
  case round =>
    obtain ⟨k, hk, rfl, hWB, hK⟩ := hrel
    by_cases hlt : k < l.length
    · obtain ⟨b0, off, x, ee, rfl, rfl, hb0, hx, q, hcx⟩ := (HC.out.keep (Kept.of_below hK.out.1 (Nat.le_refl _))).elemB hlt
      obtain ⟨q0, q1⟩ := q
      have HX := Lib.hid hcx
      have NX := Lib.hid (NX0.out k _ hx)
      have OX := HO.out _ (List.mem_of_getElem? hx)
      unfold callOk at OX
      rw [Bool.and_eq_true, List.all_eq_true] at OX
      have OA := Lib.hid OX.2
      have FX := Lib.hid (HF.out x.t)
      have TL := Lib.hid (show bs.length + sf.toList.length + ((l.take k).flatMap f).length + (1 + (x.n.toList.length + (1 + ((itemsT (txG (txC r [95, 95])) 0 x.l).length + 1)))) ≤ MX by
        have h1 := TK.out (k + 1)
        have h2 := HL.out
        rw [NX.out, FX.out, List.length_append] at h1
        have h3 : (txCall (txC r [95, 95]) x.t).length = 1 + (x.n.toList.length + (1 + ((itemsT (txG (txC r [95, 95])) 0 x.l).length + 1))) := by
          show ([46] ++ (x.n.toList ++ ([40] ++ (itemsT (txG (txC r [95, 95])) 0 x.l ++ [41])))).length = _
          simp only [List.length_append, List.length_cons, List.length_nil]
        omega)
      have hbx := hcx.a.big
      clear hcx hx OX
      have hxb := heap_alloc_new wr (.cells #[.string x.n, .slice x.A x.l.length x.c] 40)
      have bb := below_new wr (.cells #[.string x.n, .slice x.A x.l.length x.c] 40)
      go_upto_region 4 with fail
      generalize hW : World.alloc wr _ = W at bb hxb ⊢
      clear hW q0 q1
      have WB0 := Lib.hid (hWB.out.next bb)
      have K0 := Lib.hid (WK.below (b := b) bb hWB.out.2)
      have hgb := Lib.hid (show wr.heap.size ≠ b by have := hWB.out.lt; omega)
      have HXB := Lib.hid hxb
      clear bb hxb
      have a0 : W.cell? ⟨wr.heap.size, 0, none⟩ = some (.string x.n) := by rw [Lib.cell_of_heap HXB.out]; rfl
      have a1 : W.cell? ⟨wr.heap.size, 1, none⟩ = some (.slice x.A x.l.length x.c) := by rw [Lib.cell_of_heap HXB.out]; rfl
      have S2 := Lib.hid (str_lit W B b _ [46] WB0.out (by
        have h1 := TL.out
        simp only [List.length_append, List.length_cons, List.length_nil]
        unfold MX at h1; omega))
      go_wp2_with fail
      refine S2.out.mono ?_
      rintro e w2 ⟨rfl, hw⟩
      have HW2 := Lib.hid hw
      have hx2 : w2.heap[wr.heap.size]? = some (.cells #[.string x.n, .slice x.A x.l.length x.c] 40 (0, 0)) := (hw.2.stay HXB.out (by decide) hgb.out).trans HXB.out
      clear hw S2 a0 a1
      have a0 : w2.cell? ⟨wr.heap.size, 0, none⟩ = some (.string x.n) := by rw [Lib.cell_of_heap hx2]; rfl
      have a1 : w2.cell? ⟨wr.heap.size, 1, none⟩ = some (.slice x.A x.l.length x.c) := by rw [Lib.cell_of_heap hx2]; rfl
      have HX2 := Lib.hid hx2
      clear hx2
      have S3 := Lib.hid (str_any w2.drew B b _ x.n HW2.out.1.drew (by
        have h1 := TL.out
        rw [← toList_size]
        simp only [List.length_append, List.length_cons, List.length_nil]
        unfold MX at h1; omega))
      go_upto_region 5 with fail
      go_still_tail 5, (by kernel_rfl)
      change wpList _ _ _ _ _ w2.drew
      go_wp2_with fail
      refine S3.out.mono ?_
      rintro e w3 ⟨rfl, hw⟩
      have HW3 := Lib.hid hw
      have hx3 : w3.heap[wr.heap.size]? = some (.cells #[.string x.n, .slice x.A x.l.length x.c] 40 (0, 0)) := (hw.2.stay (w := w2.drew) HX2.out (by decide) hgb.out).trans HX2.out
      clear hw S3 a0 a1
      have a0 : w3.cell? ⟨wr.heap.size, 0, none⟩ = some (.string x.n) := by rw [Lib.cell_of_heap hx3]; rfl
      have a1 : w3.cell? ⟨wr.heap.size, 1, none⟩ = some (.slice x.A x.l.length x.c) := by rw [Lib.cell_of_heap hx3]; rfl
      clear hx3
      have KK := Lib.hid (((K0.out.trans HW2.out.2).trans (WK.drew _ _ _)).trans HW3.out.2)
      have WR := Lib.hid (writeRowA (txG (txC r [95, 95])) (fun g => argOk (chOk r) g = true) B b ee (fun X bs' g hmX hwb hrd hs hlen => GW.out X B b bs' ee g hmX hB hwb hrd hs hlen) w3 (HM.out.kept ((hK.out.1.trans KK.out.1).block 0 hB)) hB _ [40] [41] ⟨#[40]⟩ ⟨#[41]⟩ (lit_list [40]) (lit_list [41]) x.A x.c x.l HW3.out.1
        (GRow.imp HX.out.a (Kept.of_below KK.out.1 (Nat.le_refl B)) (Nat.le_refl 0) (Nat.le_refl B) (fun _ => GOk.imp (Kept.of_below KK.out.1 (Nat.le_refl B)) (Nat.le_refl 0) (Nat.le_refl B) (fun _ _ _ h => Ch.keep h (Kept.of_below KK.out.1 (Nat.le_refl B))))) OA.out (by
        have h1 := TL.out
        simp only [List.length_append, List.length_cons, List.length_nil]
        unfold MX at h1 ⊢; omega))
      go_wp2_with fail
      refine WR.out.mono ?_
      rintro e w4 ⟨rfl, hw⟩
      have HW4 := Lib.hid hw
      clear hw WR a0 a1
      go_wp2
      go_roundw
      case rel => exact ⟨k + 1, by omega, by go_num, Lib.hid (by
        rw [NX.out, FX.out]
        have := HW4.out.1
        show WB w4 B b (bs ++ sf.toList ++ ((l.take k).flatMap f ++ ([46] ++ (x.n.toList ++ ([40] ++ (itemsT (txG (txC r [95, 95])) 0 x.l ++ [41]))))))
        simpa using this), Lib.hid ((hK.out.trans KK.out).trans HW4.out.2)⟩
      case measure => simp [intOf]; omega
    · have ALL := Lib.hid (show l.take k = l from List.take_of_length_le (by omega))
      go_wp2
      go_end0
      exact ⟨rfl, by have := hWB.out; rw [ALL.out] at this; simpa using this, hK.out⟩
theorem cwrite_any : ∀ r, CWrite r
  | 0 => fun _ _ _ _ _ _ _ _ _ _ _ _ _ _ h => by cases h
  | r + 1 => cwrite_succ r (cwrite_any r)

/-- What Print answers. -/
def prtS (l : List C) : Bs := if qOk l then txC 10 [103] l else []
theorem qOk_ch {l : List C} (h : qOk l = true) : chOk 10 l = true := by unfold qOk at h; rw [Bool.and_eq_true] at h; exact h.2
theorem txC_ne (r : Nat) (c : UInt8) (l : List C) : txC r [c] l ≠ [] := by cases r <;> simp [txC]
set_option maxHeartbeats 3200000 in
theorem tprint_any (w : World) (hm : NM w) (d : Nat) (A : Option Addr) (c : Nat) (l : List C) (h : Ch w 0 w.heap.size d A c l) (hl : qOk l = true → (txC 10 [103] l).length ≤ MX) :
    Calls Tryd.prog 7 #[.slice A l.length c] w fun e w' => e = .returned (.tuple #[.string ⟨(prtS l).toArray⟩, .int .i64 (errI (qOk l))]) ∧ Below w.heap.size w w' := by
  have H := Lib.hid h
  have HM := Lib.hid hm
  have HL := Lib.hid hl
  have CK := Lib.hid (tcheck_any w hm d A c l h)
  have hbig := h.big
  obtain ⟨PS, hPS⟩ : ∃ s : ByteArray, s = ⟨(prtS l).toArray⟩ := ⟨_, rfl⟩
  rw [← hPS]
  replace hPS := Lib.hid hPS
  clear h hm hl
  cases hq : qOk l with
  | false =>
    have e1 : PS = ⟨#[]⟩ := by rw [hPS.out]; simp [prtS, hq]
    subst e1
    rw [hq, show errI false = 2 from rfl] at CK
    rw [show errI false = 2 from rfl]
    clear hq
    go_enter Tryd.func7, Tryd.ntmps7
    go_wp2_with fail
    refine CK.out.mono ?_
    rintro e w1 ⟨rfl, hb⟩
    have HB := Lib.hid hb
    clear hb
    go_wp2
    go_ret2
    exact ⟨rfl, HB.out⟩
  | true =>
    have HQ := Lib.hid hq
    have e1 : PS = ⟨(txC 10 [103] l).toArray⟩ := by rw [hPS.out]; simp [prtS, hq]
    replace e1 := Lib.hid e1
    rw [hq, show errI true = 0 from rfl] at CK
    rw [show errI true = 0 from rfl]
    clear hq hPS
    go_enter Tryd.func7, Tryd.ntmps7
    go_wp2_with fail
    refine CK.out.mono ?_
    rintro e w1 ⟨rfl, hb⟩
    have HB := Lib.hid hb
    clear hb
    go_upto_region 5 with fail
    have z0 := below_new w1 (.cells #[.pointer none, .slice none 0 0] 52)
    have wb := wb_start w1
    have hpos : 0 < w1.heap.size := Nat.lt_of_lt_of_le HM.out.lt HB.out.size
    generalize hW2 : World.alloc w1 _ = W2 at z0 wb ⊢
    clear hW2
    have WT := Lib.hid (cwrite_any 10 W2 w1.heap.size w1.heap.size [] [103] ⟨#[103]⟩ d A c l ((HM.out.next HB.out).next z0) hpos wb (Ch.keep (H.out.next HB.out) (Kept.of_below z0 (Nat.le_refl _))) (qOk_ch HQ.out) (lit_list [103]) (by simpa using HL.out HQ.out))
    have BB := Lib.hid (bnext HB.out z0)
    have HZ := Lib.hid z0
    have HWB := Lib.hid wb
    clear z0 wb
    obtain ⟨gb, hgb⟩ : ∃ g : Nat, g = w1.heap.size := ⟨_, rfl⟩
    rw [← hgb] at WT HZ HWB ⊢
    replace hgb := Lib.hid hgb
    go_wp2_with fail
    refine WT.out.mono ?_
    rintro e w3 ⟨rfl, hw⟩
    have HW3 := Lib.hid hw
    clear hw WT
    have ST := Lib.hid (string_any w3 gb gb ([] ++ txC 10 [103] l) HW3.out.1 (by rw [List.nil_append]; exact txC_ne _ _ _))
    rw [List.nil_append, ← e1.out] at ST
    go_wp2_with fail
    refine ST.out.mono ?_
    rintro e w4 ⟨rfl, hw⟩
    have HW4 := Lib.hid hw
    clear hw ST
    go_wp2
    go_ret2
    refine ⟨rfl, ?_⟩
    have h1 := HB.out
    have h2 := HZ.out
    have h3 := HW3.out.2.1
    have h4 := HW4.out
    rw [hgb.out] at h2 h3 h4
    exact bnext h1 ((h2.trans h3).trans h4)
end Go.Proofs.YtiiopbcihieblaaDoor


