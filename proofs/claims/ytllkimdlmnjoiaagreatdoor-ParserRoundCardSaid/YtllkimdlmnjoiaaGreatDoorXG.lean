/- What stands between two signs: arguments. -/
import Derived.Test.YtllkimdlmnjoiaaGreatDoorXE
namespace Go.Proofs.YtllkimdlmnjoiaaGreatDoor
set_option maxRecDepth 100000
open Go.RowKit Go.Sort

def OkA (d : Nat) (w : World) (x : Ag) (w' : World) (v : Value) : Prop := ∃ y : Gt, v = y.val ∧ Gt.t y = x ∧ RG d w' w.heap.size w'.heap.size y
def JkA (v : Value) : Prop := ∃ y : Gt, v = y.val
def OksA (d : Nat) (w : World) (vs : List Ag) (w' : World) (v : Value) : Prop := ∃ A c, v = .slice A vs.length c ∧ GRowA w' w.heap.size w'.heap.size (fun y => RG d w' w.heap.size w'.heap.size y) A c vs
set_option maxHeartbeats 25600000 in
theorem btw_A (g n d : Nat) (q : Int) (w : World) (l : List Tk) (first last : List UInt8) (a : Int) (mo : Bool) (rd : Nat → List Tk → Nat → Rs Ag) (x1 x2 : Value) (h : Rdr w g q l n)
    (hp : ∀ k l n x l2 n2, rd k l n = .ok x l2 n2 → l2.length < l.length)
    (hcl : ∀ (W : World) (l : List Tk) (n k : Nat), RK g w W → Rdr W g q l n → k ≤ 20001 → Calls Tryz.prog 94 #[.int .i64 (k : Int), x1, x2] W (Got g q W (OkA d W) JkA (rd k l n))) :
    Calls Tryz.prog 97 #[.pointer (some ⟨g, 0, none⟩), .string (bsT first), .agg #[.int .i64 a, .bool mo], .func (.func 94) #[] #[x1, x2], .string (bsT last)] w (Got g q w (OksA d w) (fun v => v = .slice none 0 0) (btw first last a mo rd l n)) := by
  have HG := Lib.hid h.lt
  have H := Lib.hid h
  have CL := Lib.hid hcl
  have HP := Lib.hid hp
  have hbig := h.big
  obtain ⟨RES, hRES⟩ : ∃ r, btw first last a mo rd l n = r := ⟨_, rfl⟩
  rw [hRES]
  have HRES := Lib.hid hRES
  clear h hcl hp hRES
  go_enter Tryz.func97, Tryz.ntmps97
  go_upto_region 1 with fail
  have k1 := new_blk w (.cells #[.int .i64 a, .bool mo] 151)
  generalize hW : World.alloc w _ = W at k1
  have HB : Hid (Below w.heap.size w W) := Lib.hid (by rw [← hW]; exact below_new _ _)
  have SW : Hid (W.heap.size = w.heap.size + 1) := Lib.hid (by rw [← hW]; simp)
  have K1 := Lib.hid k1
  clear hW k1
  have CT := Lib.hid (take_any W g n q l first (H.out.next HB.out))
  obtain ⟨b0, hb0⟩ : ∃ b, sees l first = b := ⟨_, rfl⟩
  rw [hb0] at CT
  have HB0 := Lib.hid hb0
  clear hb0
  go_wp2_with fail
  refine CT.out.mono ?_
  rintro e w1 ⟨rfl, hr, hk⟩
  have HK1 := Lib.hid ((RK.of (g := g) HB.out).trans hk)
  have HAM1 := Lib.hid (hk.heap K1.out (by have := HG.out; omega))
  have SZ1 := Lib.hid (show w.heap.size + 1 ≤ w1.heap.size by have := hk.size; have := SW.out; omega)
  clear CT hk
  cases b0
  case false =>
    have HR1 := Lib.hid (show Rdr w1 g q l n from hr)
    have FIN := Lib.hid (show .bad l n 30 = RES by rw [← HRES.out]; unfold btw; rw [if_neg (by rw [HB0.out]; simp)])
    clear hr
    go_wp2
    go_ret2
    rw [← FIN.out]
    exact ⟨⟨_, rfl, rfl, by decide, HR1.out⟩, HK1.out⟩
  have HR1 := Lib.hid (show Rdr w1 g q l.tail n from hr)
  have EQ0 := Lib.hid (show btl last a mo rd (l.length + 1) [] l.tail n = RES by rw [← HRES.out]; unfold btw; rw [if_pos HB0.out])
  have htl0 : l.tail.length ≤ l.length := by simp
  clear hr HRES
  obtain ⟨BS, hBS⟩ : ∃ b, b = w.heap.size + 1 := ⟨_, rfl⟩
  have HBS := Lib.hid hBS
  clear hBS
  go_wp2
  go_loopw [12] (fun u wr => ∃ (A : Option Addr) (m c : Nat) (xs : List Gt) (l2 : List Tk) (n2 f : Nat), u = .slice A m c ∧ Hid (btl last a mo rd f (xs.map Gt.t) l2 n2 = RES) ∧ Hid (xs.length = m) ∧ l2.length < f ∧ m + l2.length ≤ 20001 ∧ Hid (Rdr wr g q l2 n2) ∧ Hid (RK g w wr) ∧ Hid (Row Gt.cs 11 82 (RG d) wr BS A m c xs) ∧ Hid (wr.heap[w.heap.size]? = some (.cells #[.int .i64 a, .bool mo] 151 (0, 0))) ∧ Hid (BS ≤ wr.heap.size)) (fun u _ => 20002 - lenOf u)
  case atStart => exact ⟨none, 0, 0, [], l.tail, n, l.length + 1, rfl, EQ0, Lib.hid rfl, by omega, by omega, HR1, HK1, Lib.hid (row_nil _ _), HAM1, Lib.hid (by rw [HBS.out]; exact SZ1.out)⟩
  case round =>
    obtain ⟨A, m, c, xs, l2, n2, f1, rfl, EQ, HXL, hf1, hml, HRD, HKR, HROW, HAM, HBR⟩ := hrel
    obtain ⟨f, rfl⟩ : ∃ f, f1 = f + 1 := ⟨f1 - 1, by omega⟩
    obtain ⟨c0, c1, _⟩ := bx_cells2 HAM.out
    have CE := Lib.hid (enough_any wr a mo m)
    obtain ⟨be, hbe⟩ : ∃ b, b = decide (a ≤ (m : Int)) := ⟨_, rfl⟩
    rw [← hbe] at CE
    have HBE := Lib.hid hbe
    clear hbe
    go_wp2_with fail
    refine CE.out.mono ?_
    rintro e w2 ⟨rfl, hb⟩
    have HR2 := Lib.hid (HRD.out.next hb)
    have HK2 := Lib.hid (HKR.out.then hb)
    have HROW2 := Lib.hid (Row.next (R := RG d) RG.keep HROW.out (fun k _ k2 => hb.block k k2) hb.size)
    have HAM2 := Lib.hid ((hb.block _ (by have := HBR.out; have := HBS.out; omega)).trans HAM.out)
    have HB2 := Lib.hid (Nat.le_trans HBR.out hb.size)
    clear CE hb c0 c1 HRD HKR HROW HAM HBR
    cases be
    case false =>
      obtain ⟨c0, c1, _⟩ := bx_cells2 HAM2.out
      have HRX := HR2
      have HKX := HK2
      have HROWX := HROW2
      have HAMX := HAM2
      have HBX := HB2
      have NS := Lib.hid (show (decide (a ≤ (((xs.map Gt.t).length : Nat) : Int)) && sees l2 last) = false by rw [List.length_map, HXL.out, ← HBE.out]; rfl)
      clear HR2 HK2 HROW2 HAM2 HB2
      by_cases hm0 : m = 0
      case pos =>
        have EQN0 := Lib.hid (show btk last a mo rd f (xs.map Gt.t) (rd m l2 n2) = RES by
          rw [← EQ.out, btl_first last a mo rd f (xs.map Gt.t) l2 n2 NS.out (by rw [List.length_map, HXL.out, hm0]), hm0])
        have hm9 : ¬ (0 : Int) < (m : Int) := by omega
        clear NS hm0
        have CC := CL.out w2 l2 n2 m HKX.out HRX.out (by omega)
        obtain ⟨res, hres⟩ : ∃ r, rd m l2 n2 = r := ⟨_, rfl⟩
        rw [hres] at CC
        have EQN := Lib.hid (show btk last a mo rd f (xs.map Gt.t) res = RES by rw [← hres]; exact EQN0.out)
        have PRG := Lib.hid (fun x l5 n5 (h : res = .ok x l5 n5) => HP.out m l2 n2 x l5 n5 (hres.trans h))
        replace CC := Lib.hid CC
        clear hres EQN0
        go_wp2_with fail
        refine CC.out.mono ?_
        rintro e w5 ⟨hgot, hk5⟩
        have HK5 := Lib.hid (HKX.out.trans hk5)
        have HROW5 := Lib.hid (Row.next (R := RG d) RG.keep HROWX.out (fun k k1 k2 => hk5.block k k2 (by have := HG.out; have := HBS.out; omega)) hk5.size)
        have HAM5 := Lib.hid (hk5.heap HAMX.out (by have := HG.out; omega))
        have HB5 := Lib.hid (Nat.le_trans HBX.out hk5.size)
        have SZ5W := Lib.hid hk5.size
        clear hk5
        cases res with
        | bad l5 n5 er =>
          obtain ⟨v, rfl, ⟨y, rfl⟩, her, hr5⟩ := hgot
          have FIN := Lib.hid (show .bad l5 n5 er = RES from EQN.out)
          have HR5 := Lib.hid hr5
          have e9 : (er == 0) = false := by rw [beq_eq_false_iff_ne]; exact her
          have HER := Lib.hid her
          clear CC her hr5 EQN PRG
          go_wp2
          go_ret2
          rw [← FIN.out]
          exact ⟨⟨_, rfl, rfl, HER.out, HR5.out.next (below_new _ _)⟩, HK5.out.then (below_new _ _)⟩
        | ok x l5 n5 =>
          obtain ⟨v, rfl, ⟨y, rfl, hyt, hyR⟩, hr5⟩ := hgot
          have hlt5 := PRG.out x l5 n5 rfl
          have HYT := Lib.hid hyt
          have HR5 := Lib.hid hr5
          have HY := Lib.hid hyR
          have SZX5 := Lib.hid (show w2.heap.size ≤ w5.heap.size from SZ5W.out)
          clear CC hyt hr5 hyR PRG
          go_upto_region 10 with fail
          have k1 := new_blk w5 (.cells #[.int .i64 y.k, .int .i64 y.x.t.k, .int .i64 y.x.t.n, .string y.x.t.s, .slice y.x.A y.x.t.l.length y.x.c, .slice y.x.A' y.x.t.m.length y.x.c', .int .i64 y.q.t.k, .slice y.q.A y.q.t.v.length y.q.c, .slice y.q.A' y.q.t.p.length y.q.c', .slice y.A y.l.length y.c, .string y.s] 82)
          generalize hW6 : World.alloc w5 _ = W6 at k1
          have B6 : Hid (Below w5.heap.size w5 W6) := Lib.hid (by rw [← hW6]; exact below_new _ _)
          have S6 : Hid (W6.heap.size = w5.heap.size + 1) := Lib.hid (by rw [← hW6]; simp)
          obtain ⟨a0, a1, a2, a3, a4, a5, a6, a7, a8, a9, a10, _⟩ := bx_cells11 k1
          clear hW6 k1
          have HROW7 := Lib.hid (fun o => Row.next (R := RG d) RG.keep (b := W6.alloc o) HROW5.out (fun k _ k2 => ((below_new W6 o).block k (by have := S6.out; omega)).trans (B6.out.block k k2)) (by have := S6.out; simp; omega))
          have HY7 := Lib.hid (fun o => RG.keep (d := d) (b := W6.alloc o) (Kept.of_below (bnext B6.out (below_new W6 o)) (Nat.le_refl _)) HY.out)
          go_wp2_with (at_builtin; refine append_L Gt_cs_len (by decide) oneGt Tryz.underlying72 infoGt (by rfl) rfl (.tmp 53) (.tmp 55) rfl BS (HROW7.out _).own rfl (y := y) rfl (cells_lay Gt_cs_len 82 W6 [y]) (by unfold maxLen; omega) (by omega) (by have h1 := S6.out; have h2 := HB5.out; simp; omega) ?_; intro g9 c9 w9 ho hgr hn; have HO9 := Lib.hid ho; have HG9 := Lib.hid hgr; have HN9 := Lib.hid hn; clear ho hgr hn)
          go_wp2
          go_roundw
          case rel =>
            have bs := HBS.out
            have s6 := S6.out
            have hb5 := HB5.out
            have szx := SZX5.out
            have hbl : Below BS w5 w9 := grown_low B6.out HG9.out hb5 (fun k hk => (World.ownsRow.lt HROW5.out.own k hk).1)
            have hkx := HKX.out.size
            have p1 : BS ≤ w2.heap.size := HBX.out
            have p3 : ∀ k, Value.ownBlock (.slice A m c) = some k → w5.heap.size ≤ k ∨ k < w2.heap.size := fun k hk => .inr (World.ownsRow.lt HROWX.out.own k hk).2
            refine ⟨_, m + 1, _, xs ++ [y], l5, n5, f, rfl, Lib.hid ?_, Lib.hid (by rw [List.length_append, HXL.out]; rfl), by omega, by omega, Lib.hid (HR5.out.low hbl (by have := HG.out; omega)), Lib.hid (HK5.out.low hbl (by omega)), Lib.hid (Row.push (R := RG d) RG.keep (HROW7.out _) (HY7.out _) p1 (by simp; omega) p3 HO9.out HG9.out HN9.out), Lib.hid ((hbl.block _ (by omega)).trans HAM5.out), Lib.hid (Nat.le_trans hb5 hbl.size)⟩
            rw [List.map_append, List.map_cons, List.map_nil, HYT.out]
            exact EQN.out
          case measure => simp [lenOf]; omega
      have hm9 : (0 : Int) < (m : Int) := by omega
      clear hm0
      have CA := Lib.hid (another_any w2 a mo m)
      obtain ⟨ba, hba⟩ : ∃ b, b = (decide ((m : Int) < a) || mo) := ⟨_, rfl⟩
      rw [← hba] at CA
      have HBA := Lib.hid hba
      clear hba
      go_wp2_with fail
      refine CA.out.mono ?_
      rintro e w6 ⟨rfl, hb⟩
      have HR6 := Lib.hid (HRX.out.next hb)
      have HK6 := Lib.hid (HKX.out.then hb)
      have HROW6 := Lib.hid (Row.next (R := RG d) RG.keep HROWX.out (fun k _ k2 => hb.block k k2) hb.size)
      have HAM6 := Lib.hid ((hb.block _ (by have := HBX.out; have := HBS.out; omega)).trans HAMX.out)
      have HB6 := Lib.hid (Nat.le_trans HBX.out hb.size)
      clear CA hb HRX HKX HROWX HAMX HBX
      cases ba
      case false =>
        have FIN := Lib.hid (show .bad l2 n2 30 = RES by
          rw [← EQ.out, btl_bad last a mo rd f (xs.map Gt.t) l2 n2 NS.out (by rw [List.length_map, HXL.out]; omega) (by rw [List.length_map, HXL.out, ← HBA.out]; rfl)])
        go_wp2
        go_ret2
        rw [← FIN.out]
        exact ⟨⟨_, rfl, rfl, by decide, HR6.out⟩, HK6.out⟩
      have CT := Lib.hid (take_any w6 g n2 q l2 [44] HR6.out)
      rw [show bsT [44] = ⟨#[44]⟩ from rfl] at CT
      obtain ⟨bc, hbc⟩ : ∃ b, sees l2 [44] = b := ⟨_, rfl⟩
      rw [hbc] at CT
      have HBC := Lib.hid hbc
      clear hbc
      go_wp2_with fail
      refine CT.out.mono ?_
      rintro e w7 ⟨rfl, hr, hk⟩
      have HKX := Lib.hid (HK6.out.trans hk)
      have HROWX := Lib.hid (Row.next (R := RG d) RG.keep HROW6.out (fun k k1 k2 => hk.block k k2 (by have := HG.out; have := HBS.out; omega)) hk.size)
      have HAMX := Lib.hid (hk.heap HAM6.out (by have := HG.out; omega))
      have HBX := Lib.hid (Nat.le_trans HB6.out hk.size)
      clear CT hk HR6 HK6 HROW6 HAM6 HB6
      cases bc
      case false =>
        have HRX := Lib.hid (show Rdr w7 g q l2 n2 from hr)
        have FIN := Lib.hid (show .bad l2 n2 30 = RES by
          rw [← EQ.out, btl_bad last a mo rd f (xs.map Gt.t) l2 n2 NS.out (by rw [List.length_map, HXL.out]; omega) (by rw [List.length_map, HXL.out, ← HBA.out, HBC.out]; rfl)])
        clear hr
        go_wp2
        go_ret2
        rw [← FIN.out]
        exact ⟨⟨_, rfl, rfl, by decide, HRX.out⟩, HKX.out⟩
      case true =>
        have HRX := Lib.hid (show Rdr w7 g q l2.tail n2 from hr)
        have EQN0 := Lib.hid (show btk last a mo rd f (xs.map Gt.t) (rd m l2.tail n2) = RES by
          rw [← EQ.out, btl_more last a mo rd f (xs.map Gt.t) l2 n2 NS.out (by rw [List.length_map, HXL.out]; omega) (by rw [List.length_map, HXL.out, ← HBA.out, HBC.out]; rfl), List.length_map, HXL.out])
        have htl : l2.tail.length ≤ l2.length := by simp
        generalize l2.tail = l3 at HRX EQN0 htl
        clear hr NS
        have CC := CL.out w7 l3 n2 m HKX.out HRX.out (by omega)
        obtain ⟨res, hres⟩ : ∃ r, rd m l3 n2 = r := ⟨_, rfl⟩
        rw [hres] at CC
        have EQN := Lib.hid (show btk last a mo rd f (xs.map Gt.t) res = RES by rw [← hres]; exact EQN0.out)
        have PRG := Lib.hid (fun x l5 n5 (h : res = .ok x l5 n5) => HP.out m l3 n2 x l5 n5 (hres.trans h))
        replace CC := Lib.hid CC
        clear hres EQN0
        go_wp2_with fail
        refine CC.out.mono ?_
        rintro e w5 ⟨hgot, hk5⟩
        have HK5 := Lib.hid (HKX.out.trans hk5)
        have HROW5 := Lib.hid (Row.next (R := RG d) RG.keep HROWX.out (fun k k1 k2 => hk5.block k k2 (by have := HG.out; have := HBS.out; omega)) hk5.size)
        have HAM5 := Lib.hid (hk5.heap HAMX.out (by have := HG.out; omega))
        have HB5 := Lib.hid (Nat.le_trans HBX.out hk5.size)
        have SZ5W := Lib.hid hk5.size
        clear hk5
        cases res with
        | bad l5 n5 er =>
          obtain ⟨v, rfl, ⟨y, rfl⟩, her, hr5⟩ := hgot
          have FIN := Lib.hid (show .bad l5 n5 er = RES from EQN.out)
          have HR5 := Lib.hid hr5
          have e9 : (er == 0) = false := by rw [beq_eq_false_iff_ne]; exact her
          have HER := Lib.hid her
          clear CC her hr5 EQN PRG
          go_wp2
          go_ret2
          rw [← FIN.out]
          exact ⟨⟨_, rfl, rfl, HER.out, HR5.out.next (below_new _ _)⟩, HK5.out.then (below_new _ _)⟩
        | ok x l5 n5 =>
          obtain ⟨v, rfl, ⟨y, rfl, hyt, hyR⟩, hr5⟩ := hgot
          have hlt5 := PRG.out x l5 n5 rfl
          have HYT := Lib.hid hyt
          have HR5 := Lib.hid hr5
          have HY := Lib.hid hyR
          have SZX5 := Lib.hid (show w7.heap.size ≤ w5.heap.size from SZ5W.out)
          clear CC hyt hr5 hyR PRG
          go_upto_region 10 with fail
          have k1 := new_blk w5 (.cells #[.int .i64 y.k, .int .i64 y.x.t.k, .int .i64 y.x.t.n, .string y.x.t.s, .slice y.x.A y.x.t.l.length y.x.c, .slice y.x.A' y.x.t.m.length y.x.c', .int .i64 y.q.t.k, .slice y.q.A y.q.t.v.length y.q.c, .slice y.q.A' y.q.t.p.length y.q.c', .slice y.A y.l.length y.c, .string y.s] 82)
          generalize hW6 : World.alloc w5 _ = W6 at k1
          have B6 : Hid (Below w5.heap.size w5 W6) := Lib.hid (by rw [← hW6]; exact below_new _ _)
          have S6 : Hid (W6.heap.size = w5.heap.size + 1) := Lib.hid (by rw [← hW6]; simp)
          obtain ⟨a0, a1, a2, a3, a4, a5, a6, a7, a8, a9, a10, _⟩ := bx_cells11 k1
          clear hW6 k1
          have HROW7 := Lib.hid (fun o => Row.next (R := RG d) RG.keep (b := W6.alloc o) HROW5.out (fun k _ k2 => ((below_new W6 o).block k (by have := S6.out; omega)).trans (B6.out.block k k2)) (by have := S6.out; simp; omega))
          have HY7 := Lib.hid (fun o => RG.keep (d := d) (b := W6.alloc o) (Kept.of_below (bnext B6.out (below_new W6 o)) (Nat.le_refl _)) HY.out)
          go_wp2_with (at_builtin; refine append_L Gt_cs_len (by decide) oneGt Tryz.underlying72 infoGt (by rfl) rfl (.tmp 53) (.tmp 55) rfl BS (HROW7.out _).own rfl (y := y) rfl (cells_lay Gt_cs_len 82 W6 [y]) (by unfold maxLen; omega) (by omega) (by have h1 := S6.out; have h2 := HB5.out; simp; omega) ?_; intro g9 c9 w9 ho hgr hn; have HO9 := Lib.hid ho; have HG9 := Lib.hid hgr; have HN9 := Lib.hid hn; clear ho hgr hn)
          go_wp2
          go_roundw
          case rel =>
            have bs := HBS.out
            have s6 := S6.out
            have hb5 := HB5.out
            have szx := SZX5.out
            have hbl : Below BS w5 w9 := grown_low B6.out HG9.out hb5 (fun k hk => (World.ownsRow.lt HROW5.out.own k hk).1)
            have hkx := HKX.out.size
            have p1 : BS ≤ w7.heap.size := HBX.out
            have p3 : ∀ k, Value.ownBlock (.slice A m c) = some k → w5.heap.size ≤ k ∨ k < w7.heap.size := fun k hk => .inr (World.ownsRow.lt HROWX.out.own k hk).2
            refine ⟨_, m + 1, _, xs ++ [y], l5, n5, f, rfl, Lib.hid ?_, Lib.hid (by rw [List.length_append, HXL.out]; rfl), by omega, by omega, Lib.hid (HR5.out.low hbl (by have := HG.out; omega)), Lib.hid (HK5.out.low hbl (by omega)), Lib.hid (Row.push (R := RG d) RG.keep (HROW7.out _) (HY7.out _) p1 (by simp; omega) p3 HO9.out HG9.out HN9.out), Lib.hid ((hbl.block _ (by omega)).trans HAM5.out), Lib.hid (Nat.le_trans hb5 hbl.size)⟩
            rw [List.map_append, List.map_cons, List.map_nil, HYT.out]
            exact EQN.out
          case measure => simp [lenOf]; omega
    have CT := Lib.hid (take_any w2 g n2 q l2 last HR2.out)
    obtain ⟨bl, hbl⟩ : ∃ b, sees l2 last = b := ⟨_, rfl⟩
    rw [hbl] at CT
    have HBL := Lib.hid hbl
    clear hbl
    go_wp2_with fail
    refine CT.out.mono ?_
    rintro e w3 ⟨rfl, hr, hk⟩
    have HKX := Lib.hid (HK2.out.trans hk)
    have HROWX := Lib.hid (Row.next (R := RG d) RG.keep HROW2.out (fun k k1 k2 => hk.block k k2 (by have := HG.out; have := HBS.out; omega)) hk.size)
    have HAMX := Lib.hid (hk.heap HAM2.out (by have := HG.out; omega))
    have HBX := Lib.hid (Nat.le_trans HB2.out hk.size)
    clear CT hk HR2 HK2 HROW2 HAM2 HB2
    cases bl
    case true =>
      have HRX := Lib.hid (show Rdr w3 g q l2.tail n2 from hr)
      have FIN := Lib.hid (show .ok (xs.map Gt.t) l2.tail n2 = RES by
        rw [← EQ.out, btl_stop last a mo rd f (xs.map Gt.t) l2 n2 (by rw [List.length_map, HXL.out, ← HBE.out, HBL.out]; rfl)])
      clear hr
      go_wp2
      go_ret2
      rw [← FIN.out]
      have ROWF := HROWX.out
      have hbs := HBS.out
      refine ⟨⟨_, rfl, ⟨A, c, by rw [List.length_map, HXL.out]; rfl, ?_⟩, HRX.out⟩, HKX.out⟩
      exact GRow.imp (GOwn.row (tr := Gt.t) (M := 764877654082) Gt_cs_len (by decide) ROWF.own (by omega) (Row.all (R := RG d) RG.wide ROWF)) (Kept.refl _ _ _) (by omega) (Nat.le_refl _) (fun _ h => RG.wide (by omega) (Nat.le_refl _) h)
    case false =>
      have HRX := Lib.hid (show Rdr w3 g q l2 n2 from hr)
      obtain ⟨c0, c1, _⟩ := bx_cells2 HAMX.out
      have NS := Lib.hid (show (decide (a ≤ (((xs.map Gt.t).length : Nat) : Int)) && sees l2 last) = false by rw [HBL.out, Bool.and_false])
      clear hr
      by_cases hm0 : m = 0
      case pos =>
        have EQN0 := Lib.hid (show btk last a mo rd f (xs.map Gt.t) (rd m l2 n2) = RES by
          rw [← EQ.out, btl_first last a mo rd f (xs.map Gt.t) l2 n2 NS.out (by rw [List.length_map, HXL.out, hm0]), hm0])
        have hm9 : ¬ (0 : Int) < (m : Int) := by omega
        clear NS hm0
        have CC := CL.out w3 l2 n2 m HKX.out HRX.out (by omega)
        obtain ⟨res, hres⟩ : ∃ r, rd m l2 n2 = r := ⟨_, rfl⟩
        rw [hres] at CC
        have EQN := Lib.hid (show btk last a mo rd f (xs.map Gt.t) res = RES by rw [← hres]; exact EQN0.out)
        have PRG := Lib.hid (fun x l5 n5 (h : res = .ok x l5 n5) => HP.out m l2 n2 x l5 n5 (hres.trans h))
        replace CC := Lib.hid CC
        clear hres EQN0
        go_wp2_with fail
        refine CC.out.mono ?_
        rintro e w5 ⟨hgot, hk5⟩
        have HK5 := Lib.hid (HKX.out.trans hk5)
        have HROW5 := Lib.hid (Row.next (R := RG d) RG.keep HROWX.out (fun k k1 k2 => hk5.block k k2 (by have := HG.out; have := HBS.out; omega)) hk5.size)
        have HAM5 := Lib.hid (hk5.heap HAMX.out (by have := HG.out; omega))
        have HB5 := Lib.hid (Nat.le_trans HBX.out hk5.size)
        have SZ5W := Lib.hid hk5.size
        clear hk5
        cases res with
        | bad l5 n5 er =>
          obtain ⟨v, rfl, ⟨y, rfl⟩, her, hr5⟩ := hgot
          have FIN := Lib.hid (show .bad l5 n5 er = RES from EQN.out)
          have HR5 := Lib.hid hr5
          have e9 : (er == 0) = false := by rw [beq_eq_false_iff_ne]; exact her
          have HER := Lib.hid her
          clear CC her hr5 EQN PRG
          go_wp2
          go_ret2
          rw [← FIN.out]
          exact ⟨⟨_, rfl, rfl, HER.out, HR5.out.next (below_new _ _)⟩, HK5.out.then (below_new _ _)⟩
        | ok x l5 n5 =>
          obtain ⟨v, rfl, ⟨y, rfl, hyt, hyR⟩, hr5⟩ := hgot
          have hlt5 := PRG.out x l5 n5 rfl
          have HYT := Lib.hid hyt
          have HR5 := Lib.hid hr5
          have HY := Lib.hid hyR
          have SZX5 := Lib.hid (show w3.heap.size ≤ w5.heap.size from SZ5W.out)
          clear CC hyt hr5 hyR PRG
          go_upto_region 10 with fail
          have k1 := new_blk w5 (.cells #[.int .i64 y.k, .int .i64 y.x.t.k, .int .i64 y.x.t.n, .string y.x.t.s, .slice y.x.A y.x.t.l.length y.x.c, .slice y.x.A' y.x.t.m.length y.x.c', .int .i64 y.q.t.k, .slice y.q.A y.q.t.v.length y.q.c, .slice y.q.A' y.q.t.p.length y.q.c', .slice y.A y.l.length y.c, .string y.s] 82)
          generalize hW6 : World.alloc w5 _ = W6 at k1
          have B6 : Hid (Below w5.heap.size w5 W6) := Lib.hid (by rw [← hW6]; exact below_new _ _)
          have S6 : Hid (W6.heap.size = w5.heap.size + 1) := Lib.hid (by rw [← hW6]; simp)
          obtain ⟨a0, a1, a2, a3, a4, a5, a6, a7, a8, a9, a10, _⟩ := bx_cells11 k1
          clear hW6 k1
          have HROW7 := Lib.hid (fun o => Row.next (R := RG d) RG.keep (b := W6.alloc o) HROW5.out (fun k _ k2 => ((below_new W6 o).block k (by have := S6.out; omega)).trans (B6.out.block k k2)) (by have := S6.out; simp; omega))
          have HY7 := Lib.hid (fun o => RG.keep (d := d) (b := W6.alloc o) (Kept.of_below (bnext B6.out (below_new W6 o)) (Nat.le_refl _)) HY.out)
          go_wp2_with (at_builtin; refine append_L Gt_cs_len (by decide) oneGt Tryz.underlying72 infoGt (by rfl) rfl (.tmp 53) (.tmp 55) rfl BS (HROW7.out _).own rfl (y := y) rfl (cells_lay Gt_cs_len 82 W6 [y]) (by unfold maxLen; omega) (by omega) (by have h1 := S6.out; have h2 := HB5.out; simp; omega) ?_; intro g9 c9 w9 ho hgr hn; have HO9 := Lib.hid ho; have HG9 := Lib.hid hgr; have HN9 := Lib.hid hn; clear ho hgr hn)
          go_wp2
          go_roundw
          case rel =>
            have bs := HBS.out
            have s6 := S6.out
            have hb5 := HB5.out
            have szx := SZX5.out
            have hbl : Below BS w5 w9 := grown_low B6.out HG9.out hb5 (fun k hk => (World.ownsRow.lt HROW5.out.own k hk).1)
            have hkx := HKX.out.size
            have p1 : BS ≤ w3.heap.size := HBX.out
            have p3 : ∀ k, Value.ownBlock (.slice A m c) = some k → w5.heap.size ≤ k ∨ k < w3.heap.size := fun k hk => .inr (World.ownsRow.lt HROWX.out.own k hk).2
            refine ⟨_, m + 1, _, xs ++ [y], l5, n5, f, rfl, Lib.hid ?_, Lib.hid (by rw [List.length_append, HXL.out]; rfl), by omega, by omega, Lib.hid (HR5.out.low hbl (by have := HG.out; omega)), Lib.hid (HK5.out.low hbl (by omega)), Lib.hid (Row.push (R := RG d) RG.keep (HROW7.out _) (HY7.out _) p1 (by simp; omega) p3 HO9.out HG9.out HN9.out), Lib.hid ((hbl.block _ (by omega)).trans HAM5.out), Lib.hid (Nat.le_trans hb5 hbl.size)⟩
            rw [List.map_append, List.map_cons, List.map_nil, HYT.out]
            exact EQN.out
          case measure => simp [lenOf]; omega
      have hm9 : (0 : Int) < (m : Int) := by omega
      clear hm0
      have CA := Lib.hid (another_any w3 a mo m)
      obtain ⟨ba, hba⟩ : ∃ b, b = (decide ((m : Int) < a) || mo) := ⟨_, rfl⟩
      rw [← hba] at CA
      have HBA := Lib.hid hba
      clear hba
      go_wp2_with fail
      refine CA.out.mono ?_
      rintro e w6 ⟨rfl, hb⟩
      have HR6 := Lib.hid (HRX.out.next hb)
      have HK6 := Lib.hid (HKX.out.then hb)
      have HROW6 := Lib.hid (Row.next (R := RG d) RG.keep HROWX.out (fun k _ k2 => hb.block k k2) hb.size)
      have HAM6 := Lib.hid ((hb.block _ (by have := HBX.out; have := HBS.out; omega)).trans HAMX.out)
      have HB6 := Lib.hid (Nat.le_trans HBX.out hb.size)
      clear CA hb HRX HKX HROWX HAMX HBX
      cases ba
      case false =>
        have FIN := Lib.hid (show .bad l2 n2 30 = RES by
          rw [← EQ.out, btl_bad last a mo rd f (xs.map Gt.t) l2 n2 NS.out (by rw [List.length_map, HXL.out]; omega) (by rw [List.length_map, HXL.out, ← HBA.out]; rfl)])
        go_wp2
        go_ret2
        rw [← FIN.out]
        exact ⟨⟨_, rfl, rfl, by decide, HR6.out⟩, HK6.out⟩
      have CT := Lib.hid (take_any w6 g n2 q l2 [44] HR6.out)
      rw [show bsT [44] = ⟨#[44]⟩ from rfl] at CT
      obtain ⟨bc, hbc⟩ : ∃ b, sees l2 [44] = b := ⟨_, rfl⟩
      rw [hbc] at CT
      have HBC := Lib.hid hbc
      clear hbc
      go_wp2_with fail
      refine CT.out.mono ?_
      rintro e w7 ⟨rfl, hr, hk⟩
      have HKX := Lib.hid (HK6.out.trans hk)
      have HROWX := Lib.hid (Row.next (R := RG d) RG.keep HROW6.out (fun k k1 k2 => hk.block k k2 (by have := HG.out; have := HBS.out; omega)) hk.size)
      have HAMX := Lib.hid (hk.heap HAM6.out (by have := HG.out; omega))
      have HBX := Lib.hid (Nat.le_trans HB6.out hk.size)
      clear CT hk HR6 HK6 HROW6 HAM6 HB6
      cases bc
      case false =>
        have HRX := Lib.hid (show Rdr w7 g q l2 n2 from hr)
        have FIN := Lib.hid (show .bad l2 n2 30 = RES by
          rw [← EQ.out, btl_bad last a mo rd f (xs.map Gt.t) l2 n2 NS.out (by rw [List.length_map, HXL.out]; omega) (by rw [List.length_map, HXL.out, ← HBA.out, HBC.out]; rfl)])
        clear hr
        go_wp2
        go_ret2
        rw [← FIN.out]
        exact ⟨⟨_, rfl, rfl, by decide, HRX.out⟩, HKX.out⟩
      case true =>
        have HRX := Lib.hid (show Rdr w7 g q l2.tail n2 from hr)
        have EQN0 := Lib.hid (show btk last a mo rd f (xs.map Gt.t) (rd m l2.tail n2) = RES by
          rw [← EQ.out, btl_more last a mo rd f (xs.map Gt.t) l2 n2 NS.out (by rw [List.length_map, HXL.out]; omega) (by rw [List.length_map, HXL.out, ← HBA.out, HBC.out]; rfl), List.length_map, HXL.out])
        have htl : l2.tail.length ≤ l2.length := by simp
        generalize l2.tail = l3 at HRX EQN0 htl
        clear hr NS
        have CC := CL.out w7 l3 n2 m HKX.out HRX.out (by omega)
        obtain ⟨res, hres⟩ : ∃ r, rd m l3 n2 = r := ⟨_, rfl⟩
        rw [hres] at CC
        have EQN := Lib.hid (show btk last a mo rd f (xs.map Gt.t) res = RES by rw [← hres]; exact EQN0.out)
        have PRG := Lib.hid (fun x l5 n5 (h : res = .ok x l5 n5) => HP.out m l3 n2 x l5 n5 (hres.trans h))
        replace CC := Lib.hid CC
        clear hres EQN0
        go_wp2_with fail
        refine CC.out.mono ?_
        rintro e w5 ⟨hgot, hk5⟩
        have HK5 := Lib.hid (HKX.out.trans hk5)
        have HROW5 := Lib.hid (Row.next (R := RG d) RG.keep HROWX.out (fun k k1 k2 => hk5.block k k2 (by have := HG.out; have := HBS.out; omega)) hk5.size)
        have HAM5 := Lib.hid (hk5.heap HAMX.out (by have := HG.out; omega))
        have HB5 := Lib.hid (Nat.le_trans HBX.out hk5.size)
        have SZ5W := Lib.hid hk5.size
        clear hk5
        cases res with
        | bad l5 n5 er =>
          obtain ⟨v, rfl, ⟨y, rfl⟩, her, hr5⟩ := hgot
          have FIN := Lib.hid (show .bad l5 n5 er = RES from EQN.out)
          have HR5 := Lib.hid hr5
          have e9 : (er == 0) = false := by rw [beq_eq_false_iff_ne]; exact her
          have HER := Lib.hid her
          clear CC her hr5 EQN PRG
          go_wp2
          go_ret2
          rw [← FIN.out]
          exact ⟨⟨_, rfl, rfl, HER.out, HR5.out.next (below_new _ _)⟩, HK5.out.then (below_new _ _)⟩
        | ok x l5 n5 =>
          obtain ⟨v, rfl, ⟨y, rfl, hyt, hyR⟩, hr5⟩ := hgot
          have hlt5 := PRG.out x l5 n5 rfl
          have HYT := Lib.hid hyt
          have HR5 := Lib.hid hr5
          have HY := Lib.hid hyR
          have SZX5 := Lib.hid (show w7.heap.size ≤ w5.heap.size from SZ5W.out)
          clear CC hyt hr5 hyR PRG
          go_upto_region 10 with fail
          have k1 := new_blk w5 (.cells #[.int .i64 y.k, .int .i64 y.x.t.k, .int .i64 y.x.t.n, .string y.x.t.s, .slice y.x.A y.x.t.l.length y.x.c, .slice y.x.A' y.x.t.m.length y.x.c', .int .i64 y.q.t.k, .slice y.q.A y.q.t.v.length y.q.c, .slice y.q.A' y.q.t.p.length y.q.c', .slice y.A y.l.length y.c, .string y.s] 82)
          generalize hW6 : World.alloc w5 _ = W6 at k1
          have B6 : Hid (Below w5.heap.size w5 W6) := Lib.hid (by rw [← hW6]; exact below_new _ _)
          have S6 : Hid (W6.heap.size = w5.heap.size + 1) := Lib.hid (by rw [← hW6]; simp)
          obtain ⟨a0, a1, a2, a3, a4, a5, a6, a7, a8, a9, a10, _⟩ := bx_cells11 k1
          clear hW6 k1
          have HROW7 := Lib.hid (fun o => Row.next (R := RG d) RG.keep (b := W6.alloc o) HROW5.out (fun k _ k2 => ((below_new W6 o).block k (by have := S6.out; omega)).trans (B6.out.block k k2)) (by have := S6.out; simp; omega))
          have HY7 := Lib.hid (fun o => RG.keep (d := d) (b := W6.alloc o) (Kept.of_below (bnext B6.out (below_new W6 o)) (Nat.le_refl _)) HY.out)
          go_wp2_with (at_builtin; refine append_L Gt_cs_len (by decide) oneGt Tryz.underlying72 infoGt (by rfl) rfl (.tmp 53) (.tmp 55) rfl BS (HROW7.out _).own rfl (y := y) rfl (cells_lay Gt_cs_len 82 W6 [y]) (by unfold maxLen; omega) (by omega) (by have h1 := S6.out; have h2 := HB5.out; simp; omega) ?_; intro g9 c9 w9 ho hgr hn; have HO9 := Lib.hid ho; have HG9 := Lib.hid hgr; have HN9 := Lib.hid hn; clear ho hgr hn)
          go_wp2
          go_roundw
          case rel =>
            have bs := HBS.out
            have s6 := S6.out
            have hb5 := HB5.out
            have szx := SZX5.out
            have hbl : Below BS w5 w9 := grown_low B6.out HG9.out hb5 (fun k hk => (World.ownsRow.lt HROW5.out.own k hk).1)
            have hkx := HKX.out.size
            have p1 : BS ≤ w7.heap.size := HBX.out
            have p3 : ∀ k, Value.ownBlock (.slice A m c) = some k → w5.heap.size ≤ k ∨ k < w7.heap.size := fun k hk => .inr (World.ownsRow.lt HROWX.out.own k hk).2
            refine ⟨_, m + 1, _, xs ++ [y], l5, n5, f, rfl, Lib.hid ?_, Lib.hid (by rw [List.length_append, HXL.out]; rfl), by omega, by omega, Lib.hid (HR5.out.low hbl (by have := HG.out; omega)), Lib.hid (HK5.out.low hbl (by omega)), Lib.hid (Row.push (R := RG d) RG.keep (HROW7.out _) (HY7.out _) p1 (by simp; omega) p3 HO9.out HG9.out HN9.out), Lib.hid ((hbl.block _ (by omega)).trans HAM5.out), Lib.hid (Nat.le_trans hb5 hbl.size)⟩
            rw [List.map_append, List.map_cons, List.map_nil, HYT.out]
            exact EQN.out
          case measure => simp [lenOf]; omega
end Go.Proofs.YtllkimdlmnjoiaaGreatDoor
