/- The parser's Parse and Round. -/
import Derived.Test.YtllkimdlmnjoiaaGreatDoorXL
import Derived.Test.YtllkimdlmnjoiaaGreatDoorUC
import Derived.Lib.SlBytesConst
import Derived.Lib.ConvBytes
namespace Go.Proofs.YtllkimdlmnjoiaaGreatDoor
set_option maxRecDepth 100000
open Go.RowKit Go.Sort

theorem textP_sz : ∀ (k : Nat) (l acc : List UInt8) (i : Nat) (b : List UInt8) (n : Nat), l.length ≤ k → E8.textP l acc i = some (b, n) → b.length ≤ acc.length + l.length
  | 0, l, acc, i, b, n, hk, h => by
    obtain rfl : l = [] := List.eq_nil_of_length_eq_zero (by omega)
    rw [E8.textP_nil] at h; cases h
  | k + 1, [], acc, i, b, n, hk, h => by rw [E8.textP_nil] at h; cases h
  | k + 1, c :: r, acc, i, b, n, hk, h => by
    rw [E8.textP_cons] at h
    split at h
    · cases h
    split at h
    · simp only [Option.some.injEq, Prod.mk.injEq] at h
      rw [← h.1]; omega
    split at h
    · split at h
      · cases h
      · rename_i d r'
        split at h
        · split at h
          · cases h
          · have := textP_sz k r' (acc ++ [d]) (i + 2) b n (by simp at hk; omega) h
            simp at this ⊢
            omega
        · cases h
    · split at h
      · cases h
      · have := textP_sz k r (acc ++ [c]) (i + 1) b n (by simp at hk; omega) h
        simp at this ⊢
        omega
theorem parseV_rng (l : List UInt8) : -9223372036854775808 ≤ E8.parseV l ∧ E8.parseV l ≤ 9223372036854775807 := by
  unfold E8.parseV
  split
  · omega
  · unfold E8.room
    split
    · rename_i h; exact (E8.fits_iff _).1 h
    · omega
theorem first_ok (l : List UInt8) (hl : l.length ≤ 20000) (t : Tk) (n : Nat) (h : E8.firstP l = some (t, n)) : TkOk t := by
  unfold E8.firstP at h
  split at h
  · simp only [Option.some.injEq, Prod.mk.injEq] at h
    obtain ⟨rfl, _⟩ := h
    exact ⟨by show (-9223372036854775808 : Int) ≤ 0; decide, by show (0 : Int) ≤ _; decide, by show (l.take _).length ≤ 20000; simp; omega⟩
  split at h
  · unfold E8.numP at h
    split at h
    · simp only [Option.some.injEq, Prod.mk.injEq] at h
      obtain ⟨rfl, _⟩ := h
      exact ⟨(parseV_rng _).1, (parseV_rng _).2, by show (l.take _).length ≤ 20000; simp; omega⟩
    · cases h
  split at h
  · unfold E8.textO at h
    split at h
    · rename_i r hr
      simp only [Option.some.injEq, Prod.mk.injEq] at h
      obtain ⟨rfl, _⟩ := h
      have := textP_sz (l.drop 1).length (l.drop 1) [] 1 r.1 r.2 (Nat.le_refl _) hr
      refine ⟨by show (-9223372036854775808 : Int) ≤ 0; decide, by show (0 : Int) ≤ _; decide, ?_⟩
      show r.1.length ≤ 20000
      simp at this
      omega
    · cases h
  split at h
  · simp only [Option.some.injEq, Prod.mk.injEq] at h
    obtain ⟨rfl, _⟩ := h
    exact ⟨by show (-9223372036854775808 : Int) ≤ 0; decide, by show (0 : Int) ≤ _; decide, by show (l.take 1).length ≤ 20000; simp; omega⟩
  · cases h
theorem lexA_ok : ∀ (f : Nat) (l : List UInt8) (q : Nat), l.length ≤ 20000 → ∀ x ∈ E8.lexA f l q, TkOk x.t
  | 0, _, _, _ => fun x h => by cases h
  | f + 1, l, q, hl => fun x h => by
    unfold E8.lexA at h
    split at h
    · split at h
      · rw [List.mem_singleton.1 h]
        exact ⟨by show (-9223372036854775808 : Int) ≤ 0; decide, by show (0 : Int) ≤ _; decide, by show ([] : List UInt8).length ≤ 20000; decide⟩
      · rename_i r hr
        rcases List.mem_cons.1 h with e | h
        · subst e
          have := first_ok (l.drop q) (by simp; omega) r.1 r.2 hr
          exact ⟨this.n0, this.n1, this.s1⟩
        · exact lexA_ok f l _ hl x h
    · cases h
theorem all_ok (b : List UInt8) (hb : b.length ≤ 20000) : (∀ t ∈ (E8.allL b).1, TkOk t) ∧ (E8.allL b).1.length ≤ 20001 := by
  unfold E8.allL
  rw [if_neg (by omega)]
  split
  · refine ⟨fun t ht => ?_, ?_⟩
    · obtain ⟨x, hx, rfl⟩ := List.mem_map.1 ht
      exact lexA_ok _ _ _ hb x hx
    · have := E8.items_len b
      simp
      omega
  · exact ⟨fun t ht => (by cases ht), by show ([] : List Tk).length ≤ 20001; simp⟩
/-- What Parse tells. -/
def parT (b : List UInt8) : List C × Int × Int :=
  if (E8.allL b).2.2 = 0 then
    match qryT (E8.allL b).1 with
    | .ok c _ _ => (c, 0, 0)
    | .bad l _ e => ([], plc (b.length : Int) l, e)
  else ([], (E8.allL b).2.1, (E8.allL b).2.2)
def ParsePost (w : World) (r : List C × Int × Int) (e : Ending) (w' : World) : Prop :=
  ∃ A c, e = .returned (.tuple #[.slice A r.1.length c, .int .i64 r.2.1, .int .i64 r.2.2]) ∧ Ch w' w.heap.size w'.heap.size 10 A c r.1 ∧ Below w.heap.size w w'
set_option maxHeartbeats 3200000 in
theorem parse_any (w : World) (A : Option Addr) (c : Nat) (b : List UInt8) (h : E8.BRow w A c b) (hb : b.length ≤ 20000) : Calls Tryz.prog 12 #[.slice A b.length c] w (ParsePost w (parT b)) := by
  obtain ⟨RES, hRES⟩ : ∃ z, parT b = z := ⟨_, rfl⟩
  rw [hRES]
  have PAR := Lib.hid (show RES = if (E8.allL b).2.2 = 0 then (match qryT (E8.allL b).1 with
    | .ok c _ _ => (c, 0, 0)
    | .bad l _ e => ([], plc (b.length : Int) l, e)) else ([], (E8.allL b).2.1, (E8.allL b).2.2) from hRES.symm)
  have CT := E8.all_short w A c b h hb
  unfold E8.AllPost at CT
  have TOK := Lib.hid (all_ok b hb)
  obtain ⟨ts, hts⟩ : ∃ z, (E8.allL b).1 = z := ⟨_, rfl⟩
  obtain ⟨pl0, hpl⟩ : ∃ z, (E8.allL b).2.1 = z := ⟨_, rfl⟩
  obtain ⟨er, her⟩ : ∃ z, (E8.allL b).2.2 = z := ⟨_, rfl⟩
  rw [hts, hpl, her] at CT PAR
  rw [hts] at TOK
  replace CT := Lib.hid CT
  have hbl : (b.length : Int) ≤ 20000 := by omega
  clear h hRES hts hpl her
  go_enter Tryz.func12, Tryz.ntmps12
  go_wp2_with fail
  refine CT.out.mono ?_
  rintro e w1 ⟨A1, c1, rfl, hown, hb1⟩
  have B1 := Lib.hid hb1
  have ROW := Lib.hid hown.row
  clear CT hown hb1
  by_cases he : er = 0
  case neg =>
    have e9 : (er == 0) = false := by rw [beq_eq_false_iff_ne]; exact he
    have FIN := Lib.hid (show RES = ([], pl0, er) by rw [PAR.out, if_neg he])
    clear he
    go_wp2
    go_ret3
    rw [FIN.out]
    exact ⟨none, 0, rfl, ch_none _ _ _ _, B1.out⟩
  subst he
  replace PAR := Lib.hid (show RES = (match qryT ts with
    | .ok c _ _ => (c, 0, 0)
    | .bad l _ e => ([], plc (b.length : Int) l, e)) by rw [PAR.out, if_pos rfl])
  go_upto_region 5 with fail
  have k1 := new_blk w1 (.cells #[.slice A1 ts.length c1, .int .i64 (b.length : Int), .int .i64 0] 64)
  generalize hW : World.alloc w1 _ = W at k1
  have HB : Hid (Below w1.heap.size w1 W) := Lib.hid (by rw [← hW]; exact below_new _ _)
  have B2 := Lib.hid (bnext B1.out HB.out)
  have S1 := Lib.hid B1.out.size
  have SW := Lib.hid HB.out.size
  have RD : Hid (Rdr W w1.heap.size (b.length : Int) ts 0) := Lib.hid (by
    refine ⟨⟨A1, c1, k1, ⟨ROW.out.le, ROW.out.cap, ROW.out.nil, fun h0 => ?_⟩⟩, TOK.out.2, by omega, TOK.out.1⟩
    obtain ⟨g, off, e, hg, hc⟩ := ROW.out.at_ h0
    exact ⟨g, off, e, hg, fun j x hj => (hc j x hj).next HB.out hg⟩)
  have CQ := qry_any W w1.heap.size (b.length : Int) ts RD.out
  obtain ⟨R2, hR2⟩ : ∃ z, qryT ts = z := ⟨_, rfl⟩
  rw [hR2] at CQ PAR
  replace CQ := Lib.hid CQ
  clear hW k1 hR2
  go_wp2_with fail
  refine CQ.out.mono ?_
  rintro e w2 ⟨hgot, hk⟩
  have B3 := Lib.hid (show Below w.heap.size w w2 from B2.out.trans ((hk.below SW.out).mono S1.out))
  clear CQ hk
  cases R2 with
  | ok cs l5 n5 =>
    obtain ⟨v, rfl, ⟨AA, c, rfl, hc⟩, hr5⟩ := hgot
    have FIN := Lib.hid (show RES = (cs, 0, 0) from PAR.out)
    have HC := Lib.hid hc
    have sx : w.heap.size ≤ W.heap.size := by have := S1.out; have := SW.out; omega
    have SX := Lib.hid sx
    clear hc hr5 sx
    go_wp2
    go_ret3
    rw [FIN.out]
    exact ⟨AA, c, rfl, Ch.imp (Kept.refl _ _ _) SX.out (Nat.le_refl _) (Nat.le_refl _) HC.out, B3.out⟩
  | bad l5 n5 er =>
    obtain ⟨v, rfl, rfl, her, hr5⟩ := hgot
    have FIN := Lib.hid (show RES = ([], plc (b.length : Int) l5, er) from PAR.out)
    have e9 : (er == 0) = false := by rw [beq_eq_false_iff_ne]; exact her
    have CP := Lib.hid (place_any w2 w1.heap.size n5 (b.length : Int) l5 hr5)
    clear her hr5
    go_wp2_with fail
    refine CP.out.mono ?_
    rintro e w3 ⟨rfl, hw3⟩
    subst hw3
    clear CP
    go_wp2
    go_ret3
    rw [FIN.out]
    exact ⟨none, 0, rfl, ch_none _ _ _ _, B3.out⟩
/-- What Round tells. -/
def rndT (b : List UInt8) : List UInt8 × Int × Int := if (parT b).2.2 = 0 then (prtS (parT b).1, 0, errI (qOk (parT b).1)) else ([], (parT b).2.1, (parT b).2.2)
set_option maxHeartbeats 3200000 in
theorem round_any (w : World) (hm : NM w) (A : Option Addr) (c : Nat) (b : List UInt8) (h : E8.BRow w A c b) (hb : b.length ≤ 20000) (hl : qOk (parT b).1 = true → (txC 10 [103] (parT b).1).length ≤ MX) :
    Calls Tryz.prog 13 #[.slice A b.length c] w fun e w' => e = .returned (.tuple #[.string (bsT (rndT b).1), .int .i64 (rndT b).2.1, .int .i64 (rndT b).2.2]) ∧ Below w.heap.size w w' := by
  obtain ⟨RES, hRES⟩ : ∃ z, rndT b = z := ⟨_, rfl⟩
  rw [hRES]
  have RND := Lib.hid (show RES = if (parT b).2.2 = 0 then (prtS (parT b).1, 0, errI (qOk (parT b).1)) else ([], (parT b).2.1, (parT b).2.2) from hRES.symm)
  have CT := parse_any w A c b h hb
  unfold ParsePost at CT
  have HM := Lib.hid hm
  obtain ⟨cs, hcs⟩ : ∃ z, (parT b).1 = z := ⟨_, rfl⟩
  obtain ⟨pl0, hpl⟩ : ∃ z, (parT b).2.1 = z := ⟨_, rfl⟩
  obtain ⟨er, her⟩ : ∃ z, (parT b).2.2 = z := ⟨_, rfl⟩
  rw [hcs, hpl, her] at CT RND
  rw [hcs] at hl
  have HL := Lib.hid hl
  replace CT := Lib.hid CT
  clear h hRES hcs hpl her hl hm
  go_enter Tryz.func13, Tryz.ntmps13
  go_wp2_with fail
  refine CT.out.mono ?_
  rintro e w1 ⟨A1, c1, rfl, hch, hb1⟩
  have B1 := Lib.hid hb1
  have HC := Lib.hid (hch.more (Nat.zero_le _) (Nat.le_refl _) (Nat.le_refl _))
  clear CT hch hb1
  by_cases he : er = 0
  case neg =>
    have e9 : (er == 0) = false := by rw [beq_eq_false_iff_ne]; exact he
    have FIN := Lib.hid (show RES = ([], pl0, er) by rw [RND.out, if_neg he])
    clear he
    go_wp2
    go_ret3
    rw [FIN.out]
    exact ⟨rfl, B1.out⟩
  subst he
  have CP := tprint_any w1 (HM.out.next B1.out) 10 A1 c1 cs HC.out HL.out
  obtain ⟨S, hS⟩ : ∃ z, prtS cs = z := ⟨_, rfl⟩
  obtain ⟨e2, he2⟩ : ∃ z, errI (qOk cs) = z := ⟨_, rfl⟩
  rw [hS, he2] at CP
  have FIN := Lib.hid (show RES = (S, 0, e2) by rw [RND.out, if_pos rfl, hS, he2])
  rw [show (⟨S.toArray⟩ : ByteArray) = bsT S from rfl] at CP
  replace CP := Lib.hid CP
  clear hS he2
  go_wp2_with fail
  refine CP.out.mono ?_
  rintro e w2 ⟨rfl, hb⟩
  have B2 := Lib.hid (bnext B1.out hb)
  clear CP hb
  go_wp2
  go_ret3
  rw [FIN.out]
  exact ⟨rfl, B2.out⟩
end Go.Proofs.YtllkimdlmnjoiaaGreatDoor
/- What the chapter's examples fix; a text so often. -/
namespace Go.Proofs.YtllkimdlmnjoiaaGreatDoor
set_option maxRecDepth 100000
open Go.RowKit Go.Sort

def kq0 : List UInt8 := [103, 32, 46, 32, 86, 32, 40, 32, 41, 32, 46, 104, 97, 115, 40, 39, 97, 103, 101, 39, 44, 103, 116, 40, 51, 48, 41, 41]
def kq1 : List UInt8 := [103, 46, 86, 40]
def kq2 : List UInt8 := [103, 46, 86, 40, 41, 32, 120]
def kq3 : List UInt8 := [103, 46, 105, 115, 40, 103, 116, 40, 49, 44, 32, 50, 41, 41]
def kS11 : List UInt8 := [103, 46, 86, 40, 41, 46, 104, 97, 115, 40, 39, 97, 103, 101, 39, 44, 32, 103, 116, 40, 51, 48, 41, 41]
theorem kq0_is : rndT kq0 = (kS11, 0, 0) := by kernel_rfl
theorem kq0_len : qOk (parT kq0).1 = true → (txC 10 [103] (parT kq0).1).length ≤ MX := fun _ => Nat.le_of_ble_eq_true (by kernel_rfl)
theorem kq1_is : parT kq1 = ([], 4, 30) := by kernel_rfl
theorem kq2_is : parT kq2 = ([], 6, 30) := by kernel_rfl
theorem kq3_is : parT kq3 = ([], 9, 30) := by kernel_rfl
theorem brow_lit (w : World) (l : List UInt8) (m : Nat × Nat) (h : l.length ≤ maxLen) : E8.BRow (w.alloc (.cells (l.map E8.u8v).toArray 5 m)) (some ⟨w.heap.size, 0, none⟩) l.length l :=
  ⟨Nat.le_refl _, h, fun e => (by cases e), fun h0 => ⟨w.heap.size, 0, rfl, by simp, fun j x hj => by
    have := World.alloc_heap_new w (.cells (l.map E8.u8v).toArray 5 m)
    unfold World.cell?
    simp only [this]
    simp [hj]⟩⟩
set_option maxHeartbeats 6400000 in
theorem known11_any (w : World) (hm : NM w) : Calls Tryz.prog 9 #[] w fun e w' => e = .returned (.bool true) ∧ Below w.heap.size w w' := by
  have HM := Lib.hid hm
  clear hm
  have b0 := Lib.hid (fun W => brow_lit W kq0 (28, 29) (by unfold maxLen; decide))
  have m0 := Lib.hid (fun W => below_new W (.cells (kq0.map E8.u8v).toArray 5 (28, 29)))
  have b1 := Lib.hid (fun W => brow_lit W kq1 (4, 5) (by unfold maxLen; decide))
  have m1 := Lib.hid (fun W => below_new W (.cells (kq1.map E8.u8v).toArray 5 (4, 5)))
  have b2 := Lib.hid (fun W => brow_lit W kq2 (7, 8) (by unfold maxLen; decide))
  have m2 := Lib.hid (fun W => below_new W (.cells (kq2.map E8.u8v).toArray 5 (7, 8)))
  have b3 := Lib.hid (fun W => brow_lit W kq3 (14, 15) (by unfold maxLen; decide))
  have m3 := Lib.hid (fun W => below_new W (.cells (kq3.map E8.u8v).toArray 5 (14, 15)))
  have kc := fun (w : World) (C : Array Value) (n c : Nat) => Lib.run_convert_bytes_const (P := Tryz.prog) w 31 5 C n c Tryz.underlying31 Tryz.underlying5
  go_enter Tryz.func9, Tryz.ntmps9
  have CT := round_any _ (HM.out.next (m0.out w)) _ _ _ (b0.out w) (by decide) kq0_len
  rw [kq0_is] at CT
  replace CT := Lib.hid CT
  go_wp2_with fail
  refine CT.out.mono ?_
  rintro e w1 ⟨rfl, hb⟩
  have B1 := Lib.hid (bnext (m0.out w) hb)
  have EQS : ((bsT kS11).toList == [103, 46, 86, 40, 41, 46, 104, 97, 115, 40, 39, 97, 103, 101, 39, 44, 32, 103, 116, 40, 51, 48, 41, 41]) = true := by rw [E8.bs_toList]; rfl
  clear CT hb
  have CT := parse_any _ _ _ _ (b1.out w1) (by decide)
  unfold ParsePost at CT
  rw [kq1_is] at CT
  replace CT := Lib.hid CT
  go_wp2_with fail
  refine CT.out.mono ?_
  rintro e w2 ⟨A1, c1, rfl, _, hb⟩
  have B2 := Lib.hid (bnext B1.out (bnext (m1.out w1) hb))
  clear CT hb
  have CT := parse_any _ _ _ _ (b2.out w2) (by decide)
  unfold ParsePost at CT
  rw [kq2_is] at CT
  replace CT := Lib.hid CT
  go_wp2_with fail
  refine CT.out.mono ?_
  rintro e w3 ⟨A2, c2, rfl, _, hb⟩
  have B3 := Lib.hid (bnext B2.out (bnext (m2.out w2) hb))
  clear CT hb
  have CT := parse_any _ _ _ _ (b3.out w3) (by decide)
  unfold ParsePost at CT
  rw [kq3_is] at CT
  replace CT := Lib.hid CT
  go_wp2_with fail
  refine CT.out.mono ?_
  rintro e w4 ⟨A3, c3, rfl, _, hb⟩
  have B4 := Lib.hid (bnext B3.out (bnext (m3.out w3) hb))
  clear CT hb
  go_wp2
  go_ret
  exact ⟨rfl, B4.out⟩
/-- A text, so often, with another one between. -/
def manyL (s b : List UInt8) : Nat → List UInt8
  | 0 => []
  | k + 1 => manyL s b k ++ ((if k = 0 then [] else b) ++ s)
end Go.Proofs.YtllkimdlmnjoiaaGreatDoor
/- The texts of the bounds, read. -/
namespace Go.Proofs.YtllkimdlmnjoiaaGreatDoor
set_option maxRecDepth 100000
open Go.RowKit Go.Sort

def la0 : List UInt8 := [103, 46] ++ manyL [120, 40, 41] [46] 200 ++ []
def lb0 : List UInt8 := [103, 46] ++ manyL [120, 40, 41] [46] 201 ++ []
def la1 : List UInt8 := [103, 46, 120, 40] ++ manyL [55] [44, 32] 50 ++ [41]
def lb1 : List UInt8 := [103, 46, 120, 40] ++ manyL [55] [44, 32] 51 ++ [41]
def la2 : List UInt8 := [103] ++ manyL [46, 120, 40, 95, 95] [] 9 ++ [46, 120, 40, 41] ++ manyL [41] [] 9 ++ []
def lb2 : List UInt8 := [103] ++ manyL [46, 120, 40, 95, 95] [] 10 ++ [46, 120, 40, 41] ++ manyL [41] [] 10 ++ []
def la3 : List UInt8 := [103, 46, 120, 40] ++ manyL [91] [] 12 ++ manyL [93] [] 12 ++ [41] ++ []
def lb3 : List UInt8 := [103, 46, 120, 40] ++ manyL [91] [] 13 ++ manyL [93] [] 13 ++ [41] ++ []
end Go.Proofs.YtllkimdlmnjoiaaGreatDoor
/- Just as many may be, one more is told. -/
namespace Go.Proofs.YtllkimdlmnjoiaaGreatDoor
set_option maxRecDepth 100000
open Go.RowKit Go.Sort

theorem conv_bytes11 (W : World) (l : List UInt8) (h : l.length ≤ 1000000) : ∃ A c W', (convert 9 31 (.string (E8.bs l))).run Tryz.prog W = .ok (.slice A l.length c) W' ∧ E8.BRow W' A c l ∧ Below W.heap.size W W' := by
  have hg := grownCap_ge W (E8.bs l).size 0 5
  have hm := grownCap_le_maxLen W (E8.bs l).size 0 5 (by rw [E8.bs_size]; unfold maxLen; omega)
  have hr := Lib.run_convert_string_bytes (P := Tryz.prog) W 9 31 5 (E8.bs l) Tryz.underlying9 Tryz.underlying31 Tryz.underlying5
  refine ⟨some ⟨W.heap.size, 0, none⟩, grownCap W (E8.bs l).size 0 5, Lib.bytesWorld W 5 (E8.bs l), ?_, ?_, ?_⟩
  · rw [hr, E8.bs_size]
  · refine ⟨by rw [← E8.bs_size]; exact hg, hm, (fun e => by cases e), fun h0 => ⟨W.heap.size, 0, rfl, by rw [Lib.bytesWorld_size]; omega, fun j x hj => ?_⟩⟩
    have hlt := (List.getElem?_eq_some_iff.1 hj).1
    have := Lib.bytesWorld_cell W 5 (E8.bs l) j (by rw [E8.bs_size]; exact hlt)
    rw [Nat.zero_add, this]
    have e : (E8.bs l).data.toList.getD j 0 = x := by simp [E8.bs, hj]
    rw [e]
  · exact ⟨rfl, rfl, rfl, by rw [Lib.bytesWorld_size]; omega, fun k hk => Lib.bytesWorld_at_old W 5 (E8.bs l) k hk⟩

end Go.Proofs.YtllkimdlmnjoiaaGreatDoor
/- The law of ParserBounds. -/
namespace Go.Proofs.YtllkimdlmnjoiaaGreatDoor
open Go.RowKit Go.Sort

end Go.Proofs.YtllkimdlmnjoiaaGreatDoor
