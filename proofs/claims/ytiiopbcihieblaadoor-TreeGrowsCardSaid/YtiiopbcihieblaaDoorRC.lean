/- A query behind another one; in a chain of its own. -/
import Derived.Test.YtiiopbcihieblaaDoorRB
import Derived.Test.YtiiopbcihieblaaDoorTS
import Derived.Test.YtiiopbcihieblaaDoorTJ
import Derived.Lib.IndexBytes
namespace Go.Proofs.YtiiopbcihieblaaDoor
set_option maxRecDepth 100000
open Go.RowKit Go.Sort

theorem topL_mono {α : Type} (f g : α → Nat) : ∀ l : List α, (∀ x ∈ l, f x ≤ g x) → topL f l ≤ topL g l
  | [], _ => Nat.le_refl _
  | x :: r, h => by
    have h1 := h x (by simp)
    have h2 := topL_mono f g r (fun y hy => h y (by simp [hy]))
    simp only [topL]; omega
theorem topL_same {α : Type} {f g : α → Nat} : ∀ l : List α, (∀ x ∈ l, f x = g x) → topL f l = topL g l
  | [], _ => rfl
  | x :: r, h => by simp only [topL]; rw [h x (by simp), topL_same r (fun y hy => h y (by simp [hy]))]
theorem nestV_up : ∀ (r : Nat) (l : List C), nestV r l ≤ nestV (r + 1) l
  | 0, l => by simp only [nestV]; omega
  | r + 1, l => by
    have : topL (fun x : C => topL (nestA (nestV r)) x.a) l ≤ topL (fun x : C => topL (nestA (nestV (r + 1))) x.a) l :=
      topL_mono _ _ _ fun x _ => topL_mono _ _ _ fun g _ => by
        unfold nestA
        have := nestV_up r g.c
        split <;> omega
    simp only [nestV] at this ⊢
    omega
theorem nestV_ch : ∀ (r : Nat) (l : List C), chOk r l = true → nestV (r + 1) l = nestV r l
  | 0, _, h => by cases h
  | r + 1, l, h => by
    simp only [chOk, Bool.and_eq_true, List.all_eq_true] at h
    have : topL (fun x : C => topL (nestA (nestV (r + 1))) x.a) l = topL (fun x : C => topL (nestA (nestV r)) x.a) l :=
      topL_same _ fun x hx => topL_same _ fun g hg => by
        have hc := h.2 x hx
        unfold callOk at hc
        simp only [Bool.and_eq_true, List.all_eq_true] at hc
        obtain ⟨_, h3, h0⟩ := argOk_parts _ _ (hc.2 g hg)
        unfold nestA
        by_cases hk : g.k = 3
        · rw [nestV_ch r g.c (h3 hk)]
        · rw [h0 hk]; rfl
    show 1 + topL (fun x : C => topL (nestA (nestV (r + 1))) x.a) l = 1 + topL (fun x : C => topL (nestA (nestV r)) x.a) l
    rw [this]
theorem ch_nine (a : List C) (h : chOk 10 a = true) : chOk 9 a = decide (nestV 10 a < 10) := by
  by_cases hn : nestV 10 a < 10
  · rw [decide_eq_true hn]
    have h9 : nestV 9 a ≤ 9 := by have : nestV 9 a ≤ nestV 10 a := nestV_up 9 a; omega
    have := nest_ch 9 1 a h9
    rw [← this]; exact h
  · rw [decide_eq_false hn]
    cases hc : chOk 9 a
    · rfl
    · exfalso
      have h1 : nestV 10 a = nestV 9 a := nestV_ch 9 a hc
      have h2 := ch_nest 9 a hc
      omega
theorem flat_same {α : Type} {f g : α → Bs} : ∀ l : List α, (∀ x ∈ l, f x = g x) → l.flatMap f = l.flatMap g
  | [], _ => rfl
  | x :: r, h => by rw [List.flatMap_cons, List.flatMap_cons, h x (by simp), flat_same r (fun y hy => h y (by simp [hy]))]
theorem items_same {α : Type} {f g : α → Bs} : ∀ (n : Nat) (l : List α), (∀ x ∈ l, f x = g x) → itemsT f n l = itemsT g n l
  | _, [], _ => rfl
  | n, x :: r, h => by simp only [itemsT]; rw [h x (by simp), items_same (n + 1) r (fun y hy => h y (by simp [hy]))]
theorem txC_ch : ∀ (r : Nat) (s : Bs) (l : List C), chOk r l = true → txC (r + 1) s l = txC r s l
  | 0, _, _, h => by cases h
  | r + 1, s, l, h => by
    simp only [chOk, Bool.and_eq_true, List.all_eq_true] at h
    show s ++ l.flatMap (txCall (txC (r + 1) [95, 95])) = s ++ l.flatMap (txCall (txC r [95, 95]))
    congr 1
    refine flat_same l fun x hx => ?_
    have hc := h.2 x hx
    unfold callOk at hc
    simp only [Bool.and_eq_true, List.all_eq_true] at hc
    have e : itemsT (txG (txC (r + 1) [95, 95])) 0 x.a = itemsT (txG (txC r [95, 95])) 0 x.a := items_same 0 x.a (fun g hg => by
      obtain ⟨_, h3, _⟩ := argOk_parts _ _ (hc.2 g hg)
      unfold txG
      by_cases hk : g.k = 3
      · rw [txC_ch r [95, 95] g.c (h3 hk)]
      · rw [if_neg hk, if_neg hk])
    unfold txCall
    rw [e]
/-- A query's text behind its first letter. -/
def bodyT (a : List C) : Bs := a.flatMap (txCall (txC 9 [95, 95]))
theorem txt_body (a : List C) : txC 10 [103] a = 103 :: bodyT a := rfl
theorem wrap_ok (n : ByteArray) (a : List C) (hn : nameB n = true) (hu : (n.toList == [95, 95]) = false) (ha : qOk a = true) : qOk (wrapC n a) = (decide (nestV 10 a < 10) && decide (cntP 10 a + 1 ≤ 200)) := by
  obtain ⟨_, _, h3⟩ := qOk_parts ha
  unfold qOk
  rw [wrap_ch 9 n a hn hu, wrap_cnt 10 n a, ch_nine a h3, Bool.and_comm]
theorem wrap_text (n : ByteArray) (a : List C) (ha : chOk 9 a = true) : txC 10 [103] (wrapC n a) = [103, 46] ++ (n.toList ++ ([40, 95, 95] ++ (bodyT a ++ [41]))) := by
  rw [wrap_txt 8 [103] n a]
  have h9 : txC 9 [] a = txC 10 [] a := (txC_ch 9 [] a ha).symm
  have h8 : a.flatMap (txCall (txC 8 [95, 95])) = bodyT a := h9
  rw [h8]
  simp
theorem wrap_nest10 (n : ByteArray) (a : List C) (ha : chOk 9 a = true) : nestV 10 (wrapC n a) = nestV 10 a + 1 := by
  have h0 : 0 < a.length := by
    simp only [chOk, Bool.and_eq_true, decide_eq_true_eq] at ha
    exact ha.1
  rw [wrap_nest 9 n a h0, nestV_ch 9 a ha]
  omega
theorem qOk_len {a : List C} (h : qOk a = true) : 0 < a.length ∧ a.length ≤ 200 := by
  obtain ⟨h1, h2, h3⟩ := qOk_parts h
  simp only [chOk, Bool.and_eq_true, decide_eq_true_eq] at h3
  refine ⟨h3.1, ?_⟩
  have : ∀ l : List C, l.length ≤ sumL (fun x : C => 1 + sumL (fun g => cntP 9 g.c) x.a) l := by
    intro l
    induction l with
    | nil => simp
    | cons x r ih => simp only [sumL, List.length_cons]; omega
  exact Nat.le_trans (this a) h1
theorem own_calls (w : World) (base m c d : Nat) (A : Option Addr) (xs : List Ct) (h : COwn w base A m c xs) (hm : m ≤ 1000) (hx : ∀ x ∈ xs, x.In w d) : Ch w 0 w.heap.size (d + 1) A c (xs.map Ct.t) :=
  (GOwn.row (tr := Ct.t) (M := 3518437208780) (R := COk w 0 w.heap.size (Ch w 0 w.heap.size d)) Ct.cs_len (by decide) h (by omega) hx).imp (Kept.refl _ _ _) (Nat.zero_le _) (Nat.le_refl _) (fun _ h => h)
theorem Ch.list {w : World} {d : Nat} {A : Option Addr} {c : Nat} {l : List C} (h : Ch w 0 w.heap.size (d + 1) A c l) :
    ∃ xs : List Ct, xs.map Ct.t = l ∧ (∀ x ∈ xs, x.In w d) ∧ (0 < l.length → ∃ b off, A = some ⟨b, off, none⟩ ∧ b < w.heap.size ∧ CellsG Ct.cs 2 w b off xs) := by
  obtain ⟨xs, h1, h2, _, h4⟩ := GRow.list h
  exact ⟨xs, h1, h2, fun h0 => by
    obtain ⟨b, off, e, _, hb, hc⟩ := h4 h0
    exact ⟨b, off, e, hb, hc⟩⟩
theorem length_toList (s : ByteArray) : s.toList.length = s.size := by
  rw [ByteArray.toList_eq]
  exact Array.length_toList
theorem toList_app (s t : ByteArray) : (s ++ t).toList = s.toList ++ t.toList := by
  simp [ByteArray.toList_eq, ByteArray.data_append]
theorem toList_from (s : ByteArray) (k : Nat) : (s.extract k s.size).toList = s.toList.drop k := by
  rw [ByteArray.toList_eq, ByteArray.toList_eq]
  exact Lib.extract_to_end s k
theorem nm_all : (List.range 26).all (fun k => nameB (nmK k) && !((nmK k).toList == [95, 95]) && decide ((nmK k).size = 1)) = true := by kernel_rfl
theorem nm_parts (k : Nat) (hk : k < 26) : nameB (nmK k) = true ∧ ((nmK k).toList == [95, 95]) = false ∧ (nmK k).size = 1 := by
  have := List.all_eq_true.1 nm_all k (List.mem_range.2 hk)
  simp only [Bool.and_eq_true, Bool.not_eq_true', decide_eq_true_eq] at this
  exact ⟨this.1.1, this.1.2, this.2⟩
theorem nm_conv (W : World) (k : Nat) (hk26 : k < 26) : (convert 29 9 (.slice (some ⟨W.heap.size, 0, none⟩) 1 1)).run Tryd.prog (W.alloc (.cells #[.int .u8 (97 + (k : Int))] 5)) = .ok (.string (nmK k)) (W.alloc (.cells #[.int .u8 (97 + (k : Int))] 5)) := by
  have hu8 : ((UInt8.ofNat (97 + k)).toNat : Int) = 97 + (k : Int) := by
    have : (UInt8.ofNat (97 + k)).toNat = 97 + k := by rw [UInt8.toNat_ofNat']; omega
    omega
  refine run_convert_bytes_back _ 29 9 5 ⟨W.heap.size, 0, none⟩ 1 [UInt8.ofNat (97 + k)] Tryd.underlying29 Tryd.underlying5 Tryd.underlying9 (fun j hj => ?_)
  have : j = 0 := by simpa using hj
  subst this
  rw [addr_add, World.cell?_alloc_at _ _ _ _ rfl]
  show some (Value.int .u8 (97 + (k : Int))) = some (.int .u8 ((UInt8.ofNat (97 + k)).toNat : Int))
  rw [hu8]
theorem errI_neq (z : Bool) : (errI z != 0) = !z := by cases z <;> rfl
set_option maxHeartbeats 12800000 in
theorem grows_law (W : World) (hm : NM W) (d : Nat) (A : Option Addr) (c : Nat) (l : List C) (A' : Option Addr) (c' : Nat) (m : List C) (x : Int) (hl : Ch W 0 W.heap.size d A c l) (hm' : Ch W 0 W.heap.size d A' c' m) (hx : 0 ≤ x ∧ x ≤ 255) :
    Calls Tryd.prog 3 #[.slice A l.length c, .slice A' m.length c', .int .u8 x] W fun e w' => e = .returned (.bool true) ∧ Below W.heap.size W w' := by
  have HM := Lib.hid hm
  have HL := Lib.hid (hl.up (show d ≤ d + 1 by omega))
  have HR := Lib.hid (hm'.up (show d ≤ d + 1 by omega))
  have hbl := hl.big
  have hbr := hm'.big
  obtain ⟨x0, x1⟩ := hx
  clear hm hl hm'
  have CT := Lib.hid (much_any W _ A c l HL.out)
  go_enter Tryd.func3, Tryd.ntmps3
  go_wp2_with fail
  refine CT.out.mono ?_
  rintro e w1 ⟨b1, rfl, hb, hs1⟩
  have B1 := Lib.hid hb
  have HS1 := Lib.hid hs1
  have HL1 := Lib.hid (HL.out.next hb)
  have HR1 := Lib.hid (HR.out.next hb)
  clear CT hb hs1 HL HR
  cases b1
  case true =>
    have CT := Lib.hid (known_any w1 (HM.out.next B1.out))
    go_wp2_with fail
    refine CT.out.mono ?_
    rintro e w2 ⟨rfl, hb⟩
    have B2 := Lib.hid (bnext B1.out hb)
    clear CT hb
    go_wp2
    go_ret
    exact ⟨rfl, B2.out⟩
  have CT := Lib.hid (much_any w1 _ A' c' m HR1.out)
  go_wp2_with fail
  refine CT.out.mono ?_
  rintro e w2 ⟨b2, rfl, hb, hs2⟩
  have B2 := Lib.hid (bnext B1.out hb)
  have HS2 := Lib.hid hs2
  have HL2 := Lib.hid (HL1.out.next hb)
  have HR2 := Lib.hid (HR1.out.next hb)
  clear CT hb hs2 HL1 HR1
  cases b2
  case true =>
    have CT := Lib.hid (known_any w2 (HM.out.next B2.out))
    go_wp2_with fail
    refine CT.out.mono ?_
    rintro e w3 ⟨rfl, hb⟩
    have B3 := Lib.hid (bnext B2.out hb)
    clear CT hb
    go_wp2
    go_ret
    exact ⟨rfl, B3.out⟩
  replace HS1 := Lib.hid (by first | exact HS1.out rfl | exact HS1.out trivial)
  replace HS2 := Lib.hid (by first | exact HS2.out rfl | exact HS2.out trivial)
  have CT := Lib.hid (tprint_any w2 (HM.out.next B2.out) _ A c l HL2.out (fun h => by have := HS1.out h; unfold MX; omega))
  obtain ⟨SA, hSA⟩ : ∃ s : ByteArray, s = ⟨(prtS l).toArray⟩ := ⟨_, rfl⟩
  obtain ⟨za, hza⟩ : ∃ z, qOk l = z := ⟨_, rfl⟩
  rw [← hSA, hza] at CT
  have HSA := Lib.hid hSA
  have HZA := Lib.hid hza
  clear hSA hza
  go_wp2_with fail
  refine CT.out.mono ?_
  rintro e w3 ⟨rfl, hb⟩
  have B3 := Lib.hid (bnext B2.out hb)
  have HL3 := Lib.hid (HL2.out.next hb)
  have HR3 := Lib.hid (HR2.out.next hb)
  clear CT hb HL2 HR2
  have CT := Lib.hid (tprint_any w3 (HM.out.next B3.out) _ A' c' m HR3.out (fun h => by have := HS2.out h; unfold MX; omega))
  obtain ⟨SB, hSB⟩ : ∃ s : ByteArray, s = ⟨(prtS m).toArray⟩ := ⟨_, rfl⟩
  obtain ⟨zb, hzb⟩ : ∃ z, qOk m = z := ⟨_, rfl⟩
  rw [← hSB, hzb] at CT
  have HSB := Lib.hid hSB
  have HZB := Lib.hid hzb
  clear hSB hzb
  go_wp2_with fail
  refine CT.out.mono ?_
  rintro e w4 ⟨rfl, hb⟩
  have B4 := Lib.hid (bnext B3.out hb)
  have HL4 := Lib.hid (HL3.out.next hb)
  have HR4 := Lib.hid (HR3.out.next hb)
  clear CT hb HL3 HR3
  cases za
  case false =>
    have e1 : errI false = 2 := rfl
    have CT := Lib.hid (known_any w4 (HM.out.next B4.out))
    go_wp2_with fail
    refine CT.out.mono ?_
    rintro e w5 ⟨rfl, hb⟩
    have B5 := Lib.hid (bnext B4.out hb)
    clear CT hb
    go_wp2
    go_ret
    exact ⟨rfl, B5.out⟩
  have e0 : errI true = 0 := rfl
  cases zb
  case false =>
    have e1 : errI false = 2 := rfl
    have CT := Lib.hid (known_any w4 (HM.out.next B4.out))
    go_wp2_with fail
    refine CT.out.mono ?_
    rintro e w5 ⟨rfl, hb⟩
    have B5 := Lib.hid (bnext B4.out hb)
    clear CT hb
    go_wp2
    go_ret
    exact ⟨rfl, B5.out⟩
  replace HS1 := Lib.hid (HS1.out HZA.out)
  replace HS2 := Lib.hid (HS2.out HZB.out)
  obtain ⟨al, al2⟩ := qOk_len HZA.out
  obtain ⟨bl, bl2⟩ := qOk_len HZB.out
  obtain ⟨xs, hx1, hx2, hx3⟩ := HL4.out.list
  obtain ⟨ys, hy1, hy2, hy3⟩ := HR4.out.list
  obtain ⟨ab, ao, rfl, hab, hxc⟩ := hx3 al
  obtain ⟨bb, bo, rfl, hbb, hyc⟩ := hy3 bl
  have hxl : xs.length = l.length := by rw [← hx1, List.length_map]
  have hyl : ys.length = m.length := by rw [← hy1, List.length_map]
  have XS := Lib.hid hx1
  have YS := Lib.hid hy1
  have XI := Lib.hid hx2
  have YI := Lib.hid hy2
  have XC := Lib.hid hxc
  have YC := Lib.hid hyc
  have XB := Lib.hid hab
  have YB := Lib.hid hbb
  have XL := Lib.hid hxl
  have YL := Lib.hid hyl
  clear hx1 hx2 hx3 hy1 hy2 hy3 hab hbb hxc hyc hxl hyl
  go_upto_region 9 with (at_builtin; refine append_C rfl (.tmp 45) (.tmp 46) rfl w4.heap.size (gown_nil _ _ _) rfl (ys := xs) (k := l.length) XL.out rfl XC.out (by omega) (Nat.le_refl _) ?_; intro A5 c5 w5 ho hgr; have HO5 := Lib.hid ho; have B45 := Lib.hid (GOwn.below (w0 := w4) (gown_nil (cs := Ct.cs) (n := 2) 40 w4 w4.heap.size) (Nat.le_refl _) (Below.refl _ _) hgr); clear ho hgr)
  replace HO5 := Lib.hid (show COwn w5 w4.heap.size A5 l.length c5 xs by simpa using HO5.out)
  go_upto_region 10 with (at_builtin; refine append_C rfl (.tmp 48) (.tmp 49) rfl w4.heap.size HO5.out rfl (ys := ys) (k := m.length) YL.out rfl (YC.out.keep (lo := 0) (Kept.of_below B45.out (Nat.le_refl _)) (Nat.zero_le _) YB.out) (by omega) B45.out.size ?_; intro A6 c6 w6 ho hgr; have HO6 := Lib.hid ho; have B46 := Lib.hid (GOwn.below (w0 := w4) HO5.out (Nat.le_refl _) B45.out hgr); clear ho hgr)
  have B6 := Lib.hid (bnext B4.out B46.out)
  have HL6 := Lib.hid (HL4.out.next B46.out)
  have HR6 := Lib.hid (HR4.out.next B46.out)
  have HC6 := own_calls w6 _ (l.length + m.length) c6 d A6 (xs ++ ys) HO6.out (by omega) (fun x hx => by
    rcases List.mem_append.1 hx with hx | hx
    · exact (XI.out x hx).next B46.out
    · exact (YI.out x hx).next B46.out)
  rw [List.map_append, XS.out, YS.out] at HC6
  have HLM := Lib.hid (show (l ++ m).length = l.length + m.length from List.length_append)
  have CT := tprint_any w6 (HM.out.next B6.out) _ A6 c6 (l ++ m) HC6 (fun _ => by
    have h1 := HS1.out
    have h2 := HS2.out
    rw [txt_body] at h1 h2 ⊢
    unfold bodyT at *
    rw [List.flatMap_append]
    simp only [List.length_cons, List.length_append] at h1 h2 ⊢
    unfold MX; omega)
  rw [HLM.out] at CT
  obtain ⟨SU, hSU⟩ : ∃ s : ByteArray, s = ⟨(prtS (l ++ m)).toArray⟩ := ⟨_, rfl⟩
  obtain ⟨zu, hzu⟩ : ∃ z, qOk (l ++ m) = z := ⟨_, rfl⟩
  rw [← hSU, hzu] at CT
  have HSU := Lib.hid hSU
  have HZU := Lib.hid hzu
  have HC := Lib.hid HC6
  replace CT := Lib.hid CT
  clear hSU hzu HC6 HL4 HR4 HO5 HO6 B45 B46 XS YS XI YI XC YC XB YB XL YL
  go_wp2_with fail
  refine CT.out.mono ?_
  rintro e w7 ⟨rfl, hb⟩
  have B7 := Lib.hid (bnext B6.out hb)
  have HL7 := Lib.hid (HL6.out.next hb)
  have HR7 := Lib.hid (HR6.out.next hb)
  have HC7 := Lib.hid (HC.out.next hb)
  clear CT hb HL6 HR6 HC
  obtain ⟨ca, hca⟩ : ∃ q, q = cntP 10 l := ⟨_, rfl⟩
  obtain ⟨cb, hcb⟩ : ∃ q, q = cntP 10 m := ⟨_, rfl⟩
  obtain ⟨p1, p2, p3⟩ := qOk_parts HZA.out
  obtain ⟨q1, q2, q3⟩ := qOk_parts HZB.out
  have ca2 : ca ≤ 200 := by omega
  have cb2 : cb ≤ 200 := by omega
  have CVA := Lib.hid (show callsV l = ca by unfold callsV; omega)
  have CVB := Lib.hid (show callsV m = cb by unfold callsV; omega)
  have CHA := Lib.hid p3
  have ZU := Lib.hid (show zu = decide (ca + cb ≤ 200) by rw [← HZU.out, qOk_append l m HZA.out HZB.out, hca, hcb])
  have CVC := Lib.hid (show ca + cb ≤ 200 → callsV (l ++ m) = ca + cb from fun h => by
    have : cntP 11 (l ++ m) = cntP 11 l + cntP 11 m := cntP_append 10 l m
    unfold callsV; omega)
  have CW := Lib.hid (show cntP 10 l + 1 = ca + 1 by omega)
  clear p1 p2 p3 q1 q2 q3 hca hcb
  have CT : Calls Tryd.prog 8 #[.slice (some ⟨ab, ao, none⟩) l.length c] w7 fun e w' => e = .returned (.int .i64 (ca : Int)) ∧ Below w7.heap.size w7 w' :=
    (calls_any w7 _ _ c l HL7.out).mono (fun e w' h => by rw [CVA.out] at h; exact h)
  replace CT := Lib.hid CT
  go_wp2_with fail
  refine CT.out.mono ?_
  rintro e w8 ⟨rfl, hb⟩
  have B8 := Lib.hid (bnext B7.out hb)
  have HL8 := Lib.hid (HL7.out.next hb)
  have HR8 := Lib.hid (HR7.out.next hb)
  have HC8 := Lib.hid (HC7.out.next hb)
  clear CT hb HL7 HR7 HC7
  have CT : Calls Tryd.prog 8 #[.slice (some ⟨bb, bo, none⟩) m.length c'] w8 fun e w' => e = .returned (.int .i64 (cb : Int)) ∧ Below w8.heap.size w8 w' :=
    (calls_any w8 _ _ c' m HR8.out).mono (fun e w' h => by rw [CVB.out] at h; exact h)
  replace CT := Lib.hid CT
  have i1 : IntKind.i64.wrap ((ca : Int) + cb) = (ca : Int) + cb := IntWalk.i64_in _ (by omega)
  have i2 : wrap64 ((ca : Int) + cb) = (ca : Int) + cb := by unfold wrap64; omega
  go_wp2_with fail
  refine CT.out.mono ?_
  rintro e w9 ⟨rfl, hb⟩
  have B9 := Lib.hid (bnext B8.out hb)
  have HL9 := Lib.hid (HL8.out.next hb)
  have HR9 := Lib.hid (HR8.out.next hb)
  have HC9 := Lib.hid (HC8.out.next hb)
  clear CT hb HL8 HR8 HC8
  have SBL := Lib.hid (show SB.toList = 103 :: bodyT m by
    rw [HSB.out]
    unfold prtS
    rw [if_pos HZB.out, txt_body]
    simp)
  have SAL := Lib.hid (show SA.toList = 103 :: bodyT l by
    rw [HSA.out]
    unfold prtS
    rw [if_pos HZA.out, txt_body]
    simp)
  have hsa : SA.size ≤ 150001 := by
    have h := congrArg List.length SAL.out
    rw [← txt_body] at h
    have h1 := HS1.out
    rw [← h] at h1
    exact (length_toList SA) ▸ h1
  have hsb : SB.size ≤ 150001 := by
    have h := congrArg List.length SBL.out
    rw [← txt_body] at h
    have h1 := HS2.out
    rw [← h] at h1
    exact (length_toList SB) ▸ h1
  have hsb1 : 1 ≤ SB.size := by
    have h := congrArg List.length SBL.out
    rw [List.length_cons, length_toList] at h
    omega
  have hsa1 : 1 ≤ SA.size := by
    have h := congrArg List.length SAL.out
    rw [List.length_cons, length_toList] at h
    omega
  have hsb0 : ((SB.size : Int) == 0) = false := by
    rw [beq_eq_false_iff_ne]; omega
  go_upto_region 12 with fail
  go_cut [98] (fun s98 wx => s98 = .bool false ∧ Hid (Below w9.heap.size w9 wx))
  case first =>
    by_cases hn : ca + cb ≤ 200
    case neg =>
      obtain rfl : zu = false := by rw [ZU.out, decide_eq_false hn]
      have hn' : ¬ ((ca : Int) + cb ≤ 200) := by omega
      have e1 : errI false = 2 := rfl
      go_wp2_with fail
      go_meet
      exact ⟨rfl, Lib.hid (Below.refl _ _)⟩
    obtain rfl : zu = true := by rw [ZU.out, decide_eq_true hn]
    have hn' : (ca : Int) + cb ≤ 200 := by omega
    have e1 : errI true = 0 := rfl
    have EQ : SU.toList = (SA ++ SB.extract 1 SB.size).toList := by
      rw [toList_app, toList_from, SAL.out, SBL.out, HSU.out]
      unfold prtS
      rw [if_pos HZU.out, txt_body, ByteArray.toList_mk]
      unfold bodyT
      rw [List.flatMap_append]
      rfl
    have CT : Calls Tryd.prog 8 #[.slice A6 (l.length + m.length) c6] w9 fun e w' => e = .returned (.int .i64 ((ca : Int) + cb)) ∧ Below w9.heap.size w9 w' := by
      have := calls_any w9 _ A6 c6 (l ++ m) HC9.out
      rw [HLM.out] at this
      exact this.mono (fun e w' h => by rw [CVC.out hn, Int.natCast_add] at h; exact h)
    replace CT := Lib.hid CT
    go_wp2_with fail
    refine CT.out.mono ?_
    rintro e u1 ⟨rfl, hb⟩
    have HLu := Lib.hid (HL9.out.next hb)
    have HRu := Lib.hid (HR9.out.next hb)
    have HCu := Lib.hid (HC9.out.next hb)
    have BU := Lib.hid hb
    clear CT hb
    obtain ⟨na, hna⟩ : ∃ q, q = nestV 10 l := ⟨_, rfl⟩
    obtain ⟨nb, hnb⟩ : ∃ q, q = nestV 10 m := ⟨_, rfl⟩
    have HMX := Lib.hid (show ((nestV 10 (l ++ m) : Nat) : Int) = max (na : Int) (nb : Int) by rw [nestV_append, hna, hnb]; omega)
    obtain ⟨nc, hnc⟩ : ∃ q : Nat, q = nestV 10 (l ++ m) := ⟨_, rfl⟩
    rw [← hnc] at HMX
    have CT : Calls Tryd.prog 9 #[.slice A6 (l.length + m.length) c6] u1 fun e w' => e = .returned (.int .i64 (nc : Int)) ∧ Below u1.heap.size u1 w' := by
      have := nest_any u1 _ A6 c6 (l ++ m) HCu.out
      rw [HLM.out, ← hnc] at this
      exact this
    clear hnc
    replace CT := Lib.hid CT
    go_wp2_with fail
    refine CT.out.mono ?_
    rintro e u2 ⟨rfl, hb⟩
    have HLv := Lib.hid (HLu.out.next hb)
    have HRv := Lib.hid (HRu.out.next hb)
    have BV := Lib.hid (bnext BU.out hb)
    clear CT hb
    have CT := nest_any u2 _ _ c l HLv.out
    rw [← hna] at CT
    replace CT := Lib.hid CT
    go_wp2_with fail
    refine CT.out.mono ?_
    rintro e u3 ⟨rfl, hb⟩
    have HRw := Lib.hid (HRv.out.next hb)
    have BW := Lib.hid (bnext BV.out hb)
    clear CT hb
    have CT := nest_any u3 _ _ c' m HRw.out
    rw [← hnb] at CT
    replace CT := Lib.hid CT
    clear hna hnb
    go_wp2_with fail
    refine CT.out.mono ?_
    rintro e u4 ⟨rfl, hb⟩
    have BX := Lib.hid (bnext BW.out hb)
    have HMX2 := Lib.hid (show ((nc : Int) != max (na : Int) (nb : Int)) = false by rw [HMX.out]; simp)
    clear CT hb
    go_wp2_with fail
    go_meet
    exact ⟨by rw [HMX2.out], BX⟩
  case rest =>
    obtain ⟨rfl, hcut⟩ := hcut
    have HW := Lib.hid hcut.out
    have Bc := Lib.hid (bnext B9.out hcut.out)
    have HLc := Lib.hid (HL9.out.next hcut.out)
    clear hcut HL9 HR9 HC9 hsb hsb0 hsb1 i1 i2 B1 B2 B3 B4 B6 B7 B8
    obtain ⟨k, hk, hk26⟩ : ∃ k : Nat, x.tmod 26 = (k : Int) ∧ k < 26 := ⟨(x.tmod 26).toNat, by rw [Int.tmod_eq_emod_of_nonneg x0]; omega, by rw [Int.tmod_eq_emod_of_nonneg x0]; omega⟩
    obtain ⟨y1, y2, y3⟩ := nm_parts k hk26
    have hcv := nm_conv wc k hk26
    go_upto_region 15 with fail
    obtain ⟨W0, hW0⟩ : ∃ q, q = wc.alloc (.cells #[.int .u8 (97 + (k : Int))] 5) := ⟨_, rfl⟩
    rw [← hW0]
    have b0 : Below wc.heap.size wc W0 := by rw [hW0]; exact below_new _ _
    have B0 := Lib.hid (bnext Bc.out b0)
    have HL0 := Lib.hid (HLc.out.next b0)
    obtain ⟨nm, hnm⟩ : ∃ q, q = nmK k := ⟨_, rfl⟩
    rw [← hnm] at y1 y2 y3 ⊢
    have Y1 := Lib.hid y1
    have Y2 := Lib.hid y2
    clear hW0 hcv hk hk26 hnm y1 y2 b0 HLc Bc HW
    go_upto_region 16 with fail
    generalize hV : World.alloc (World.alloc W0 _) _ = V
    have hdl := deep_lay W0 0 (d + 1) (Nat.zero_le _) nm (by omega) _ _ _ HL0.out V hV
    have BV := Lib.hid (bnext B0.out hdl.2)
    have HLv := Lib.hid (HL0.out.next hdl.2)
    have HX := Lib.hid (show Ch V 0 V.heap.size (d + 1 + 1) (some ⟨W0.heap.size + 1, 0, none⟩) 1 (wrapC nm l) from hdl.1)
    clear hV hdl HL0
    obtain ⟨na, hna⟩ : ∃ q, q = nestV 10 l := ⟨_, rfl⟩
    have HNA := Lib.hid hna
    have WOK := Lib.hid (show qOk (wrapC nm l) = (decide (na < 10) && decide (ca + 1 ≤ 200)) by rw [wrap_ok nm l Y1.out Y2.out HZA.out, hna, CW.out])
    have W9 := Lib.hid (show chOk 9 l = decide (na < 10) by rw [ch_nine l CHA.out, hna])
    have NL := Lib.hid (length_toList nm)
    have CT := tprint_any V (HM.out.next BV.out) _ _ 1 (wrapC nm l) HX.out (fun h => by
      rw [WOK.out, Bool.and_eq_true] at h
      rw [wrap_text nm l (by rw [W9.out]; exact h.1)]
      have h1 := HS1.out
      have h2 := NL.out
      rw [txt_body] at h1
      simp only [List.length_cons, List.length_append, List.length_nil] at h1 ⊢
      unfold MX; omega)
    obtain ⟨SV, hSV⟩ : ∃ s : ByteArray, s = ⟨(prtS (wrapC nm l)).toArray⟩ := ⟨_, rfl⟩
    obtain ⟨zv, hzv⟩ : ∃ z, qOk (wrapC nm l) = z := ⟨_, rfl⟩
    rw [← hSV, hzv] at CT
    rw [hzv] at WOK
    have HSV := Lib.hid hSV
    have HZV := Lib.hid hzv
    replace CT := Lib.hid CT
    clear hSV hzv hna
    go_wp2_with fail
    refine CT.out.mono ?_
    rintro e v1 ⟨rfl, hb⟩
    have BV1 := Lib.hid (bnext BV.out hb)
    have HL1 := Lib.hid (HLv.out.next hb)
    have HX1 := Lib.hid (HX.out.next hb)
    clear CT hb HLv HX
    have CT : Calls Tryd.prog 8 #[.slice (some ⟨ab, ao, none⟩) l.length c] v1 fun e w' => e = .returned (.int .i64 (ca : Int)) ∧ Below v1.heap.size v1 w' :=
      (calls_any v1 _ _ c l HL1.out).mono (fun e w' h => by rw [CVA.out] at h; exact h)
    replace CT := Lib.hid CT
    have i3 : IntKind.i64.wrap ((ca : Int) + 1) = (ca : Int) + 1 := IntWalk.i64_in _ (by omega)
    have i4 : wrap64 ((ca : Int) + 1) = (ca : Int) + 1 := by unfold wrap64; omega
    go_wp2_with fail
    refine CT.out.mono ?_
    rintro e v2 ⟨rfl, hb⟩
    have BV2 := Lib.hid (bnext BV1.out hb)
    have HL2 := Lib.hid (HL1.out.next hb)
    have HX2 := Lib.hid (HX1.out.next hb)
    clear CT hb HL1 HX1
    have CT := nest_any v2 _ _ c l HL2.out
    rw [← HNA.out] at CT
    have hna13 : na ≤ 11 := by rw [HNA.out]; exact nestV_le 10 l
    replace CT := Lib.hid CT
    go_wp2_with fail
    refine CT.out.mono ?_
    rintro e v3 ⟨rfl, hb⟩
    have BV3 := Lib.hid (bnext BV2.out hb)
    have HL3 := Lib.hid (HL2.out.next hb)
    have HX3 := Lib.hid (HX2.out.next hb)
    clear CT hb HL2 HX2
    have e0 : errI true = 0 := rfl
    have e2 : errI false = 2 := rfl
    by_cases h10 : na < 10
    case neg =>
      obtain rfl : zv = false := by rw [WOK.out, decide_eq_false h10]; rfl
      have h10' : ¬ ((na : Int) < 10) := by omega
      have CT := Lib.hid (known_any v3 (HM.out.next BV3.out))
      go_wp2_with fail
      refine CT.out.mono ?_
      rintro e v4 ⟨rfl, hb⟩
      have BV4 := Lib.hid (bnext BV3.out hb)
      clear CT hb
      go_wp2
      go_ret
      exact ⟨rfl, BV4.out⟩
    have h10' : (na : Int) < 10 := by omega
    by_cases h200 : ca + 1 ≤ 200
    case neg =>
      obtain rfl : zv = false := by rw [WOK.out, decide_eq_false h200, Bool.and_false]
      have h200' : ¬ ((ca : Int) + 1 ≤ 200) := by omega
      have CT := Lib.hid (known_any v3 (HM.out.next BV3.out))
      go_wp2_with fail
      refine CT.out.mono ?_
      rintro e v4 ⟨rfl, hb⟩
      have BV4 := Lib.hid (bnext BV3.out hb)
      clear CT hb
      go_wp2
      go_ret
      exact ⟨rfl, BV4.out⟩
    have h200' : (ca : Int) + 1 ≤ 200 := by omega
    obtain rfl : zv = true := by rw [WOK.out, decide_eq_true h10, decide_eq_true h200]; rfl
    have HC9 := Lib.hid (show chOk 9 l = true by rw [W9.out, decide_eq_true h10])
    have EQ : SV.toList = ((((⟨#[103, 46]⟩ ++ nm) ++ ⟨#[40, 95, 95]⟩) ++ SA.extract 1 SA.size) ++ ⟨#[41]⟩ : ByteArray).toList := by
      rw [toList_app, toList_app, toList_app, toList_app, toList_from, SAL.out, HSV.out]
      unfold prtS
      rw [if_pos HZV.out, wrap_text nm l HC9.out, ByteArray.toList_mk, List.drop_one, List.tail_cons]
      simp [ByteArray.toList_eq]
    have CT : Calls Tryd.prog 9 #[.slice (some ⟨W0.heap.size + 1, 0, none⟩) 1 1] v3 fun e w' => e = .returned (.int .i64 ((na : Int) + 1)) ∧ Below v3.heap.size v3 w' :=
      (nest_any v3 _ _ 1 (wrapC nm l) HX3.out).mono (fun e w' h => by rw [wrap_nest10 nm l HC9.out, ← HNA.out, Int.natCast_add] at h; exact h)
    replace CT := Lib.hid CT
    have i5 : IntKind.i64.wrap ((na : Int) + 1) = (na : Int) + 1 := IntWalk.i64_in _ (by omega)
    have i6 : wrap64 ((na : Int) + 1) = (na : Int) + 1 := by unfold wrap64; omega
    go_wp2_with fail
    refine CT.out.mono ?_
    rintro e v4 ⟨rfl, hb⟩
    have BV4 := Lib.hid (bnext BV3.out hb)
    have HL4 := Lib.hid (HL3.out.next hb)
    have HX4 := Lib.hid (HX3.out.next hb)
    clear CT hb HL3 HX3
    have CT := nest_any v4 _ _ c l HL4.out
    rw [← HNA.out] at CT
    replace CT := Lib.hid CT
    go_wp2_with fail
    refine CT.out.mono ?_
    rintro e v5 ⟨rfl, hb⟩
    have BV5 := Lib.hid (bnext BV4.out hb)
    have HX5 := Lib.hid (HX4.out.next hb)
    clear CT hb HL4 HX4
    have CVX := Lib.hid (show callsV (wrapC nm l) = ca + 1 by
      have h1 : cntP 11 (wrapC nm l) = cntP 10 l + 1 := wrap_cnt 10 nm l
      have h2 := CW.out
      unfold callsV; omega)
    have CT : Calls Tryd.prog 8 #[.slice (some ⟨W0.heap.size + 1, 0, none⟩) 1 1] v5 fun e w' => e = .returned (.int .i64 ((ca : Int) + 1)) ∧ Below v5.heap.size v5 w' :=
      (calls_any v5 _ _ 1 (wrapC nm l) HX5.out).mono (fun e w' h => by rw [CVX.out, Int.natCast_add] at h; exact h)
    replace CT := Lib.hid CT
    go_wp2_with fail
    refine CT.out.mono ?_
    rintro e v6 ⟨rfl, hb⟩
    have BV6 := Lib.hid (bnext BV5.out hb)
    clear CT hb HX5
    have CT := Lib.hid (known_any v6 (HM.out.next BV6.out))
    go_wp2_with fail
    refine CT.out.mono ?_
    rintro e v7 ⟨rfl, hb⟩
    have BV7 := Lib.hid (bnext BV6.out hb)
    clear CT hb
    go_wp2
    go_ret
    exact ⟨rfl, BV7.out⟩
end Go.Proofs.YtiiopbcihieblaaDoor
