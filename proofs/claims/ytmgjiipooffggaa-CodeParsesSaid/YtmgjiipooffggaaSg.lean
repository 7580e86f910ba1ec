/- The document's reader of texts: any value. -/
import Derived.Test.YtmgjiipooffggaaSf
namespace Go.Proofs.Ytmgjiipooffggaa
set_option maxRecDepth 100000
open Go.RowKit Go.Sort

theorem rd_unf (r : Nat) (l : Bs) : rd (r + 1) l = (if numB (l.headD 0) then numV' (numR l)
    else if l.headD 0 = 39 then textV' (textR 1001 [] (l.drop 1))
    else if 97 ≤ (l.headD 0).toNat ∧ (l.headD 0).toNat ≤ 122 then namedR (rd r) l
    else match takeL [91] l with
      | some q => rowV' 6 (rowR [93] (rd r) q)
      | none => match takeL [123] l with
        | some q => dictV' (rowR [125] (pairR (rd r)) q)
        | none => none) := rfl
theorem pre_of {p l : Bs} (h : p.isPrefixOf l = true) : l = p ++ l.drop p.length := by
  obtain ⟨t, ht⟩ := List.isPrefixOf_iff_prefix.1 h
  rw [← ht, List.drop_left' rfl]
theorem rd_named (r : Nat) (c : UInt8) (t : Bs) (h1 : numB c = false) (h2 : c ≠ 39) (h3 : 97 ≤ c.toNat ∧ c.toNat ≤ 122) : rd (r + 1) (c :: t) = namedR (rd r) (c :: t) := by
  rw [rd_unf]
  show (if numB c then _ else if c = 39 then _ else if 97 ≤ c.toNat ∧ c.toNat ≤ 122 then _ else _) = _
  rw [h1, if_neg (by decide), if_neg h2, if_pos h3]
theorem rd_true (r : Nat) (l : Bs) (h : [116, 114, 117, 101].isPrefixOf l = true) : rd (r + 1) l = some (.mk 1 1 ⟨#[]⟩ [] [], l.drop 4) := by
  have e := pre_of h
  rw [e]
  show rd (r + 1) (116 :: ([114, 117, 101] ++ l.drop 4)) = some (_, l.drop 4)
  rw [rd_named r 116 _ (by decide) (by decide) (by decide)]
  unfold namedR
  rw [show (116 :: ([114, 117, 101] ++ l.drop 4) : Bs) = [116, 114, 117, 101] ++ l.drop 4 from rfl, take_here]
theorem rd_false (r : Nat) (l : Bs) (h : [102, 97, 108, 115, 101].isPrefixOf l = true) : rd (r + 1) l = some (.mk 1 0 ⟨#[]⟩ [] [], l.drop 5) := by
  have e := pre_of h
  rw [e]
  show rd (r + 1) (102 :: ([97, 108, 115, 101] ++ l.drop 5)) = some (_, l.drop 5)
  rw [rd_named r 102 _ (by decide) (by decide) (by decide)]
  unfold namedR
  rw [take_other (by decide), show (102 :: ([97, 108, 115, 101] ++ l.drop 5) : Bs) = [102, 97, 108, 115, 101] ++ l.drop 5 from rfl, take_here]
theorem rd_v (r : Nat) (l : Bs) (h : [118, 91].isPrefixOf l = true) : rd (r + 1) l = thingR 4 (l.drop 2) := by
  have e := pre_of h
  rw [e]
  show rd (r + 1) (118 :: ([91] ++ l.drop 2)) = thingR 4 (l.drop 2)
  rw [rd_named r 118 _ (by decide) (by decide) (by decide)]
  unfold namedR
  rw [take_other (by decide), take_other (by decide), show (118 :: ([91] ++ l.drop 2) : Bs) = [118, 91] ++ l.drop 2 from rfl, take_here]
theorem rd_e (r : Nat) (l : Bs) (h : [101, 91].isPrefixOf l = true) : rd (r + 1) l = thingR 5 (l.drop 2) := by
  have e := pre_of h
  rw [e]
  show rd (r + 1) (101 :: ([91] ++ l.drop 2)) = thingR 5 (l.drop 2)
  rw [rd_named r 101 _ (by decide) (by decide) (by decide)]
  unfold namedR
  rw [take_other (by decide), take_other (by decide), take_other (by decide), show (101 :: ([91] ++ l.drop 2) : Bs) = [101, 91] ++ l.drop 2 from rfl, take_here]
theorem rd_path (r : Nat) (l : Bs) (h : [112, 97, 116, 104, 91].isPrefixOf l = true) : rd (r + 1) l = rowV' 8 (rowR [93] (rd r) (l.drop 5)) := by
  have e := pre_of h
  rw [e]
  show rd (r + 1) (112 :: ([97, 116, 104, 91] ++ l.drop 5)) = rowV' 8 (rowR [93] (rd r) (l.drop 5))
  rw [rd_named r 112 _ (by decide) (by decide) (by decide)]
  unfold namedR
  rw [take_other (by decide), take_other (by decide), take_other (by decide), take_other (by decide), show (112 :: ([97, 116, 104, 91] ++ l.drop 5) : Bs) = [112, 97, 116, 104, 91] ++ l.drop 5 from rfl, take_here]
theorem rd_quote (r : Nat) (t : Bs) : rd (r + 1) (39 :: t) = textV' (textR 1001 [] t) := by
  rw [rd_unf]
  show (if numB 39 then _ else if (39 : UInt8) = 39 then _ else _) = _
  rw [if_neg (by decide), if_pos rfl]
  rfl
theorem rd_row (r : Nat) (t : Bs) : rd (r + 1) (91 :: t) = rowV' 6 (rowR [93] (rd r) t) := by
  rw [rd_unf]
  show (if numB 91 then _ else if (91 : UInt8) = 39 then _ else if 97 ≤ (91 : UInt8).toNat ∧ (91 : UInt8).toNat ≤ 122 then _ else _) = _
  rw [if_neg (by decide), if_neg (by decide), if_neg (by decide), show (91 :: t : Bs) = [91] ++ t from rfl, take_here]
theorem rd_dict (r : Nat) (t : Bs) : rd (r + 1) (123 :: t) = dictV' (rowR [125] (pairR (rd r)) t) := by
  rw [rd_unf]
  show (if numB 123 then _ else if (123 : UInt8) = 39 then _ else if 97 ≤ (123 : UInt8).toNat ∧ (123 : UInt8).toNat ≤ 122 then _ else _) = _
  rw [if_neg (by decide), if_neg (by decide), if_neg (by decide), take_other (by decide), show (123 :: t : Bs) = [123] ++ t from rfl, take_here]
theorem take_no {p l : Bs} (h : p.isPrefixOf l = false) : takeL p l = none := by
  unfold takeL
  rw [h]; rfl
theorem rd_num (r : Nat) (c : UInt8) (t : Bs) (h1 : [116, 114, 117, 101].isPrefixOf (c :: t) = false) (h2 : [102, 97, 108, 115, 101].isPrefixOf (c :: t) = false) (h3 : c ≠ 39) (h4 : [118, 91].isPrefixOf (c :: t) = false) (h5 : [101, 91].isPrefixOf (c :: t) = false) (h6 : c ≠ 91) (h7 : c ≠ 123) (h8 : [112, 97, 116, 104, 91].isPrefixOf (c :: t) = false) (p : V × Bs) (h : rd (r + 1) (c :: t) = some p) : numV' (numR (c :: t)) = some p := by
  rw [rd_unf] at h
  by_cases hn : numB c = true
  · have : (if numB c then numV' (numR (c :: t)) else _) = some p := h
    rw [if_pos hn] at this
    exact this
  · have h' : (if numB c then numV' (numR (c :: t)) else if c = 39 then textV' (textR 1001 [] ((c :: t).drop 1)) else if 97 ≤ c.toNat ∧ c.toNat ≤ 122 then namedR (rd r) (c :: t) else _) = some p := h
    rw [if_neg hn, if_neg h3] at h'
    split at h'
    · unfold namedR at h'
      rw [take_no h1, take_no h2, take_no h4, take_no h5, take_no h8] at h'
      cases h'
    · have t1 : takeL [91] (c :: t) = none := take_other (fun e => h6 e.symm)
      have t2 : takeL [123] (c :: t) = none := take_other (fun e => h7 e.symm)
      rw [t1, t2] at h'
      cases h'
theorem rd_nil (r : Nat) : rd (r + 1) [] = none := by
  rw [rd_unf]
  show (if numB 0 then _ else if (0 : UInt8) = 39 then _ else if 97 ≤ (0 : UInt8).toNat ∧ (0 : UInt8).toNat ≤ 122 then _ else _) = _
  rw [if_neg (by decide), if_neg (by decide), if_neg (by decide)]
  rfl

set_option maxHeartbeats 1600000 in
theorem refp_zero : RefP 0 := by
  intro w s a lev hlev _ hs ha
  have hl : 12 < lev := by omega
  clear hlev
  go_enter Try.func34, Try.ntmps34
  go_upto_region 1 with fail
  have z0 := below_new w (.cells #[.int .i64 0, .int .i64 0, .string ⟨#[]⟩, .slice none 0 0, .slice none 0 0] 24)
  have c0 := Cell.new w (.int .i64 0) (.int .i64 0) (.string ⟨#[]⟩) (.slice none 0 0) (.slice none 0 0)
  generalize hW : World.alloc w (.cells #[.int .i64 0, .int .i64 0, .string ⟨#[]⟩, .slice none 0 0, .slice none 0 0] 24) = W0 at z0 c0 ⊢
  clear hW
  have B0 := Lib.hid z0
  have C0 := Lib.hid c0
  clear z0 c0
  obtain ⟨r0, hr0⟩ : ∃ r0 : Nat, r0 = w.heap.size := ⟨_, rfl⟩
  rw [← hr0] at C0
  rw [← hr0]
  have HR0 := Lib.hid hr0
  clear hr0
  have CC := C0
  have BB := B0
  obtain ⟨s0, s1, s2, s3, s4, p0, p1, p2, p3, p4, hblk⟩ := CC.out
  have HRB := Lib.hid (ret_box hblk (.int .i64 0) (.int .i64 0) (.string ⟨#[]⟩) (.slice none 0 0) (.slice none 0 0))
  clear hblk
  go_wp2
  obtain ⟨F, hF, ⟨r0', r1', r2', r3', r4', _⟩, hk', hs', hbel'⟩ := HRB.out
  rw [← hF]
  clear hF
  exact bodyPost_ret (v := .tuple #[.agg #[.int .i64 0, .int .i64 0, .string ⟨#[]⟩, .slice none 0 0, .slice none 0 0], .int .i64 (-1)]) (by simp [results, Try.results34, go_sem, r0', r1', r2', r3', r4']) rfl (pp_end (q := ⟨.mk 0 0 ⟨#[]⟩ [] [], none, 0, none, 0⟩) (lo := r0 + 1) (Nat.le_of_eq HR0.out.symm) hk' hs' hbel' BB.out (rd_plain _ _ _ _ 0 0 _ fld_zero) (Nat.lt_succ_self _) (.inl rfl) (fun t z h => by cases h))

set_option maxHeartbeats 12800000 in
theorem refp_succ (r : Nat) (ih : RefP r) (hr : r ≤ 11) : RefP (r + 1) := by
  intro w s a lev hlev _ hs ha
  have hl : ¬ 12 < lev := by omega
  have HLV : Hid (lev = 12 - r) := Lib.hid (by omega)
  have IH := Lib.hid ih
  clear hlev ih
  go_enter Try.func34, Try.ntmps34
  go_upto_region 1 with fail
  have z0 := below_new w (.cells #[.int .i64 0, .int .i64 0, .string ⟨#[]⟩, .slice none 0 0, .slice none 0 0] 24)
  have c0 := Cell.new w (.int .i64 0) (.int .i64 0) (.string ⟨#[]⟩) (.slice none 0 0) (.slice none 0 0)
  generalize hW : World.alloc w (.cells #[.int .i64 0, .int .i64 0, .string ⟨#[]⟩, .slice none 0 0, .slice none 0 0] 24) = W0 at z0 c0 ⊢
  clear hW
  have B0 := Lib.hid z0
  have C0 := Lib.hid c0
  clear z0 c0
  obtain ⟨r0, hr0⟩ : ∃ r0 : Nat, r0 = w.heap.size := ⟨_, rfl⟩
  rw [← hr0] at C0
  rw [← hr0]
  have HR0 := Lib.hid hr0
  clear hr0
  have CC := C0
  have BB := B0
  clear C0 B0
  have a0 : (0 : Int) ≤ (a : Int) := by omega
  by_cases hlt : a < s.size
  · have a1 : (a : Int) < (s.size : Int) := by omega
    have a2 : ¬ (s.size : Int) ≤ (a : Int) := by omega
    have DA := Lib.hid (drop_at s a hlt)
    have WD := pword_any s ⟨#[116, 114, 117, 101]⟩ a W0 hs (by omega) (by decide) (by decide)
    rw [show (⟨#[116, 114, 117, 101]⟩ : ByteArray).toList = [116, 114, 117, 101] from lit_list [116, 114, 117, 101]] at WD
    generalize hb : atL [116, 114, 117, 101] s.toList a = b at WD
    have HB1 := Lib.hid hb
    clear hb
    replace WD := Lib.hid WD
    go_wp2_with fail
    refine WD.out.mono ?_
    rintro e w2 ⟨rfl, rfl⟩
    clear WD
    cases b with
    | true =>
      have hk4 : a + 4 ≤ s.size := by
        rcases at_drop HB1.out with h | h
        · exact h
        · cases h
      have wk := (w64_add a 4 (by omega) (by decide) (by decide) : wrap64 ((a : Int) + 4) = (a : Int) + 4)
      obtain ⟨s0, s1, s2, s3, s4, p0, p1, p2, p3, p4, hblk⟩ := CC.out
      have HRB := Lib.hid (ret_box hblk (.int .i64 1) (.int .i64 1) (.string ⟨#[]⟩) (.slice none 0 0) (.slice none 0 0))
      clear hblk
      go_wp2
      obtain ⟨F, hF, ⟨r0', r1', r2', r3', r4', _⟩, hk', hs', hbel'⟩ := HRB.out
      rw [← hF]
      clear hF
      exact bodyPost_ret (v := .tuple #[.agg #[.int .i64 1, .int .i64 1, .string ⟨#[]⟩, .slice none 0 0, .slice none 0 0], .int .i64 ((a : Int) + 4)]) (by simp [results, Try.results34, go_sem, r0', r1', r2', r3', r4']) rfl (pp_plain (Nat.le_of_eq HR0.out.symm) hk' hs' hbel' BB.out (fld_small 1 1 (by omega) (by omega) _ (by decide)) (.inr ⟨a + 4, by omega, by omega, by omega, by show 1 + 0 / 20 + a ≤ _; omega⟩) (fun t z h => by
        rw [rd_true r _ HB1.out] at h
        injection h with h
        injection h with h1 h2
        exact ⟨h1, a + 4, by omega, by rw [← h2, List.drop_drop]⟩))
    | false =>
      have WD := pword_any s ⟨#[102, 97, 108, 115, 101]⟩ a W0 hs (by omega) (by decide) (by decide)
      rw [show (⟨#[102, 97, 108, 115, 101]⟩ : ByteArray).toList = [102, 97, 108, 115, 101] from lit_list [102, 97, 108, 115, 101]] at WD
      generalize hb : atL [102, 97, 108, 115, 101] s.toList a = b at WD
      have HB2 := Lib.hid hb
      clear hb
      replace WD := Lib.hid WD
      go_wp2_with fail
      refine WD.out.mono ?_
      rintro e w2 ⟨rfl, rfl⟩
      clear WD
      cases b with
      | true =>
        have hk5 : a + 5 ≤ s.size := by
          rcases at_drop HB2.out with h | h
          · exact h
          · cases h
        have wk := (w64_add a 5 (by omega) (by decide) (by decide) : wrap64 ((a : Int) + 5) = (a : Int) + 5)
        obtain ⟨s0, s1, s2, s3, s4, p0, p1, p2, p3, p4, hblk⟩ := CC.out
        have HRB := Lib.hid (ret_box hblk (.int .i64 1) (.int .i64 0) (.string ⟨#[]⟩) (.slice none 0 0) (.slice none 0 0))
        clear hblk
        go_wp2
        obtain ⟨F, hF, ⟨r0', r1', r2', r3', r4', _⟩, hk', hs', hbel'⟩ := HRB.out
        rw [← hF]
        clear hF
        exact bodyPost_ret (v := .tuple #[.agg #[.int .i64 1, .int .i64 0, .string ⟨#[]⟩, .slice none 0 0, .slice none 0 0], .int .i64 ((a : Int) + 5)]) (by simp [results, Try.results34, go_sem, r0', r1', r2', r3', r4']) rfl (pp_plain (Nat.le_of_eq HR0.out.symm) hk' hs' hbel' BB.out (fld_small 1 0 (by omega) (by omega) _ (by decide)) (.inr ⟨a + 5, by omega, by omega, by omega, by show 1 + 0 / 20 + a ≤ _; omega⟩) (fun t z h => by
          rw [rd_false r _ HB2.out] at h
          injection h with h
          injection h with h1 h2
          exact ⟨h1, a + 5, by omega, by rw [← h2, List.drop_drop]⟩))
      | false =>
        by_cases h39 : s[a]'hlt = 39
        · have q39 : (((s[a]'hlt).toNat : Int) == 39) = true := by rw [h39]; rfl
          have TH := punq_any s a W0 hs hlt
          unfold UPost at TH
          replace TH := Lib.hid TH
          go_wp2_with fail
          refine TH.out.mono ?_
          rintro e w2 ⟨bb, n, rfl, hb, hbl, hn, hR⟩
          clear TH
          have CC2 := Lib.hid (CC.out.below hb CC.out.blk.lt)
          have BB2 := Lib.hid (bnext BB.out hb)
          have HN := Lib.hid hn
          have HRR := Lib.hid hR
          have BL : Hid ((⟨bb.toArray⟩ : ByteArray).size = bb.length) := Lib.hid (lit_size bb)
          clear hb hn hR CC
          have CC := CC2
          clear CC2
          obtain ⟨SB, hSB⟩ : ∃ y : ByteArray, y = ⟨bb.toArray⟩ := ⟨_, rfl⟩
          rw [← hSB] at BL ⊢
          replace hSB := Lib.hid hSB
          obtain ⟨s0, s1, s2, s3, s4, p0, p1, p2, p3, p4, hblk⟩ := CC.out
          have HRB := Lib.hid (ret_box hblk (.int .i64 3) (.int .i64 0) (.string SB) (.slice none 0 0) (.slice none 0 0))
          clear hblk
          go_wp2
          obtain ⟨F, hF, ⟨r0', r1', r2', r3', r4', _⟩, hk', hs', hbel'⟩ := HRB.out
          rw [← hF]
          clear hF
          exact bodyPost_ret (v := .tuple #[.agg #[.int .i64 3, .int .i64 0, .string SB, .slice none 0 0, .slice none 0 0], .int .i64 n]) (by simp [results, Try.results34, go_sem, r0', r1', r2', r3', r4']) rfl (pp_plain (Nat.le_of_eq HR0.out.symm) hk' hs' hbel' BB2.out (fld_small 3 0 (by omega) (by omega) _ (by have := BL.out; omega)) (by
            rcases HN.out with h | ⟨k, h1, h2, h3, h4⟩
            · exact .inl h
            · exact .inr ⟨k, h1, by omega, h3, by have := BL.out; omega⟩) (fun t z h => by
            rw [DA.out, h39, rd_quote] at h
            cases hT : textR 1001 [] (s.toList.drop (a + 1)) with
            | none => rw [hT] at h; cases h
            | some p =>
              obtain ⟨b', q⟩ := p
              rw [hT] at h
              injection h with h
              injection h with h1 h2
              obtain ⟨e1, k, e2, e3⟩ := HRR.out b' q hT
              exact ⟨by rw [← h1, hSB.out, e1], k, e2, by rw [e3, h2]⟩))
        · have q39 : (((s[a]'hlt).toNat : Int) == 39) = false := by
            rw [beq_eq_false_iff_ne]
            intro e
            exact h39 (UInt8.toNat_inj.1 (by show (s[a]'hlt).toNat = 39; omega))
          have WD := pword_any s ⟨#[118, 91]⟩ a W0 hs (by omega) (by decide) (by decide)
          rw [show (⟨#[118, 91]⟩ : ByteArray).toList = [118, 91] from lit_list [118, 91]] at WD
          generalize hb : atL [118, 91] s.toList a = b at WD
          have HB3 := Lib.hid hb
          clear hb
          replace WD := Lib.hid WD
          go_wp2_with fail
          refine WD.out.mono ?_
          rintro e w2 ⟨rfl, rfl⟩
          clear WD
          cases b with
          | true =>
            have hk2 : a + 2 ≤ s.size := by
              rcases at_drop HB3.out with h | h
              · exact h
              · cases h
            obtain ⟨a2, ha2⟩ : ∃ a2 : Nat, a2 = a + 2 := ⟨_, rfl⟩
            have HAI : Hid ((a : Int) + 2 = (a2 : Int)) := Lib.hid (by omega)
            have HA2 := Lib.hid ha2
            have ha3 : a2 ≤ s.size := by omega
            clear ha2
            have wk := (w64_add a 2 (by omega) (by decide) (by decide) : wrap64 ((a : Int) + 2) = (a : Int) + 2)
            have TH := pthing_any s a2 4 r W0 hs ha3 (by omega)
            unfold PPost at TH
            replace TH := Lib.hid TH
            go_wp2_with fail
            clear wk
            rw [HAI.out]
            refine TH.out.mono ?_
            rintro e w2 ⟨y, n, rfl, ry, hb, hn, hR⟩
            clear TH
            have CC2 := Lib.hid (CC.out.below hb CC.out.blk.lt)
            have BB2 := Lib.hid (bnext BB.out hb)
            have RY := Lib.hid ry
            have HN := Lib.hid hn
            have HRR := Lib.hid hR
            have LO := Lib.hid (show r0 < W0.heap.size from CC.out.blk.lt)
            clear ry hb hn hR CC
            have CC := CC2
            clear CC2
            obtain ⟨s0, s1, s2, s3, s4, p0, p1, p2, p3, p4, hblk⟩ := CC.out
            have HRB := Lib.hid (ret_box hblk (.int .i64 y.t.k) (.int .i64 y.t.n) (.string y.t.s) (.slice y.A y.t.l.length y.c) (.slice y.A' y.t.m.length y.c'))
            clear hblk
            go_wp2
            obtain ⟨F, hF, ⟨r0', r1', r2', r3', r4', _⟩, hk', hs', hbel'⟩ := HRB.out
            rw [← hF]
            clear hF
            exact bodyPost_ret (v := .tuple #[.agg #[.int .i64 y.t.k, .int .i64 y.t.n, .string y.t.s, .slice y.A y.t.l.length y.c, .slice y.A' y.t.m.length y.c'], .int .i64 n]) (by simp [results, Try.results34, go_sem, r0', r1', r2', r3', r4']) rfl (pp_end (q := y) (lo := W0.heap.size) (Nat.le_of_eq HR0.out.symm) hk' hs' hbel' BB2.out RY.out LO.out (by
              rcases HN.out with h | ⟨k, h1, h2, h3, h4⟩
              · exact .inl h
              · exact .inr ⟨k, h1, by have := HA2.out; omega, h3, by have := HA2.out; omega⟩) (fun t z h => by
              refine HRR.out t z ?_
              rw [HA2.out, ← List.drop_drop]
              rw [← rd_v r _ HB3.out]; exact h))
          | false =>
            have WD := pword_any s ⟨#[101, 91]⟩ a W0 hs (by omega) (by decide) (by decide)
            rw [show (⟨#[101, 91]⟩ : ByteArray).toList = [101, 91] from lit_list [101, 91]] at WD
            generalize hb : atL [101, 91] s.toList a = b at WD
            have HB4 := Lib.hid hb
            clear hb
            replace WD := Lib.hid WD
            go_wp2_with fail
            refine WD.out.mono ?_
            rintro e w2 ⟨rfl, rfl⟩
            clear WD
            cases b with
            | true =>
              have hk2 : a + 2 ≤ s.size := by
                rcases at_drop HB4.out with h | h
                · exact h
                · cases h
              obtain ⟨a2, ha2⟩ : ∃ a2 : Nat, a2 = a + 2 := ⟨_, rfl⟩
              have HAI : Hid ((a : Int) + 2 = (a2 : Int)) := Lib.hid (by omega)
              have HA2 := Lib.hid ha2
              have ha3 : a2 ≤ s.size := by omega
              clear ha2
              have wk := (w64_add a 2 (by omega) (by decide) (by decide) : wrap64 ((a : Int) + 2) = (a : Int) + 2)
              have TH := pthing_any s a2 5 r W0 hs ha3 (by omega)
              unfold PPost at TH
              replace TH := Lib.hid TH
              go_wp2_with fail
              clear wk
              rw [HAI.out]
              refine TH.out.mono ?_
              rintro e w2 ⟨y, n, rfl, ry, hb, hn, hR⟩
              clear TH
              have CC2 := Lib.hid (CC.out.below hb CC.out.blk.lt)
              have BB2 := Lib.hid (bnext BB.out hb)
              have RY := Lib.hid ry
              have HN := Lib.hid hn
              have HRR := Lib.hid hR
              have LO := Lib.hid (show r0 < W0.heap.size from CC.out.blk.lt)
              clear ry hb hn hR CC
              have CC := CC2
              clear CC2
              obtain ⟨s0, s1, s2, s3, s4, p0, p1, p2, p3, p4, hblk⟩ := CC.out
              have HRB := Lib.hid (ret_box hblk (.int .i64 y.t.k) (.int .i64 y.t.n) (.string y.t.s) (.slice y.A y.t.l.length y.c) (.slice y.A' y.t.m.length y.c'))
              clear hblk
              go_wp2
              obtain ⟨F, hF, ⟨r0', r1', r2', r3', r4', _⟩, hk', hs', hbel'⟩ := HRB.out
              rw [← hF]
              clear hF
              exact bodyPost_ret (v := .tuple #[.agg #[.int .i64 y.t.k, .int .i64 y.t.n, .string y.t.s, .slice y.A y.t.l.length y.c, .slice y.A' y.t.m.length y.c'], .int .i64 n]) (by simp [results, Try.results34, go_sem, r0', r1', r2', r3', r4']) rfl (pp_end (q := y) (lo := W0.heap.size) (Nat.le_of_eq HR0.out.symm) hk' hs' hbel' BB2.out RY.out LO.out (by
                rcases HN.out with h | ⟨k, h1, h2, h3, h4⟩
                · exact .inl h
                · exact .inr ⟨k, h1, by have := HA2.out; omega, h3, by have := HA2.out; omega⟩) (fun t z h => by
                refine HRR.out t z ?_
                rw [HA2.out, ← List.drop_drop]
                rw [← rd_e r _ HB4.out]; exact h))
            | false =>
              by_cases h91 : s[a]'hlt = 91
              · have q91 : (((s[a]'hlt).toNat : Int) == 91) = true := by rw [h91]; rfl
                obtain ⟨a2, ha2⟩ : ∃ a2 : Nat, a2 = a + 1 := ⟨_, rfl⟩
                have HAI : Hid ((a : Int) + 1 = (a2 : Int)) := Lib.hid (by omega)
                have HA2 := Lib.hid ha2
                have ha3 : a2 ≤ s.size := by omega
                clear ha2
                have wk := (w64_add a 1 (by omega) (by decide) (by decide) : wrap64 ((a : Int) + 1) = (a : Int) + 1)
                have TH := prest_row r IH.out hr W0 s a2 6 (by omega) rfl 93 lev HLV.out hs ha3
                unfold PPost at TH
                replace TH := Lib.hid TH
                go_wp2_with fail
                clear wk
                rw [HAI.out]
                refine TH.out.mono ?_
                rintro e w2 ⟨y, n, rfl, ry, hb, hn, hR⟩
                clear TH
                have CC2 := Lib.hid (CC.out.below hb CC.out.blk.lt)
                have BB2 := Lib.hid (bnext BB.out hb)
                have RY := Lib.hid ry
                have HN := Lib.hid hn
                have HRR := Lib.hid hR
                have LO := Lib.hid (show r0 < W0.heap.size from CC.out.blk.lt)
                clear ry hb hn hR CC
                have CC := CC2
                clear CC2
                obtain ⟨s0, s1, s2, s3, s4, p0, p1, p2, p3, p4, hblk⟩ := CC.out
                have HRB := Lib.hid (ret_box hblk (.int .i64 y.t.k) (.int .i64 y.t.n) (.string y.t.s) (.slice y.A y.t.l.length y.c) (.slice y.A' y.t.m.length y.c'))
                clear hblk
                go_wp2
                obtain ⟨F, hF, ⟨r0', r1', r2', r3', r4', _⟩, hk', hs', hbel'⟩ := HRB.out
                rw [← hF]
                clear hF
                exact bodyPost_ret (v := .tuple #[.agg #[.int .i64 y.t.k, .int .i64 y.t.n, .string y.t.s, .slice y.A y.t.l.length y.c, .slice y.A' y.t.m.length y.c'], .int .i64 n]) (by simp [results, Try.results34, go_sem, r0', r1', r2', r3', r4']) rfl (pp_end (q := y) (lo := W0.heap.size) (Nat.le_of_eq HR0.out.symm) hk' hs' hbel' BB2.out RY.out LO.out (by
                  rcases HN.out with h | ⟨k, h1, h2, h3, h4⟩
                  · exact .inl h
                  · exact .inr ⟨k, h1, by have := HA2.out; omega, h3, by have := HA2.out; omega⟩) (fun t z h => by
                  refine HRR.out t z ?_
                  rw [HA2.out, ← List.drop_drop]
                  rw [DA.out, h91, rd_row] at h
                  rw [DA.out]; exact h))
              · have q91 : (((s[a]'hlt).toNat : Int) == 91) = false := by
                  rw [beq_eq_false_iff_ne]
                  intro e
                  exact h91 (UInt8.toNat_inj.1 (by show (s[a]'hlt).toNat = 91; omega))
                by_cases h123 : s[a]'hlt = 123
                · have q123 : (((s[a]'hlt).toNat : Int) == 123) = true := by rw [h123]; rfl
                  obtain ⟨a2, ha2⟩ : ∃ a2 : Nat, a2 = a + 1 := ⟨_, rfl⟩
                  have HAI : Hid ((a : Int) + 1 = (a2 : Int)) := Lib.hid (by omega)
                  have HA2 := Lib.hid ha2
                  have ha3 : a2 ≤ s.size := by omega
                  clear ha2
                  have wk := (w64_add a 1 (by omega) (by decide) (by decide) : wrap64 ((a : Int) + 1) = (a : Int) + 1)
                  have TH := prest_dict r IH.out hr W0 s a2 125 lev HLV.out hs ha3
                  unfold PPost at TH
                  replace TH := Lib.hid TH
                  go_wp2_with fail
                  clear wk
                  rw [HAI.out]
                  refine TH.out.mono ?_
                  rintro e w2 ⟨y, n, rfl, ry, hb, hn, hR⟩
                  clear TH
                  have CC2 := Lib.hid (CC.out.below hb CC.out.blk.lt)
                  have BB2 := Lib.hid (bnext BB.out hb)
                  have RY := Lib.hid ry
                  have HN := Lib.hid hn
                  have HRR := Lib.hid hR
                  have LO := Lib.hid (show r0 < W0.heap.size from CC.out.blk.lt)
                  clear ry hb hn hR CC
                  have CC := CC2
                  clear CC2
                  obtain ⟨s0, s1, s2, s3, s4, p0, p1, p2, p3, p4, hblk⟩ := CC.out
                  have HRB := Lib.hid (ret_box hblk (.int .i64 y.t.k) (.int .i64 y.t.n) (.string y.t.s) (.slice y.A y.t.l.length y.c) (.slice y.A' y.t.m.length y.c'))
                  clear hblk
                  go_wp2
                  obtain ⟨F, hF, ⟨r0', r1', r2', r3', r4', _⟩, hk', hs', hbel'⟩ := HRB.out
                  rw [← hF]
                  clear hF
                  exact bodyPost_ret (v := .tuple #[.agg #[.int .i64 y.t.k, .int .i64 y.t.n, .string y.t.s, .slice y.A y.t.l.length y.c, .slice y.A' y.t.m.length y.c'], .int .i64 n]) (by simp [results, Try.results34, go_sem, r0', r1', r2', r3', r4']) rfl (pp_end (q := y) (lo := W0.heap.size) (Nat.le_of_eq HR0.out.symm) hk' hs' hbel' BB2.out RY.out LO.out (by
                    rcases HN.out with h | ⟨k, h1, h2, h3, h4⟩
                    · exact .inl h
                    · exact .inr ⟨k, h1, by have := HA2.out; omega, h3, by have := HA2.out; omega⟩) (fun t z h => by
                    refine HRR.out t z ?_
                    rw [HA2.out, ← List.drop_drop]
                    rw [DA.out, h123, rd_dict] at h
                    rw [DA.out]; exact h))
                · have q123 : (((s[a]'hlt).toNat : Int) == 123) = false := by
                    rw [beq_eq_false_iff_ne]
                    intro e
                    exact h123 (UInt8.toNat_inj.1 (by show (s[a]'hlt).toNat = 123; omega))
                  have WD := pword_any s ⟨#[112, 97, 116, 104, 91]⟩ a W0 hs (by omega) (by decide) (by decide)
                  rw [show (⟨#[112, 97, 116, 104, 91]⟩ : ByteArray).toList = [112, 97, 116, 104, 91] from lit_list [112, 97, 116, 104, 91]] at WD
                  generalize hb : atL [112, 97, 116, 104, 91] s.toList a = b at WD
                  have HB5 := Lib.hid hb
                  clear hb
                  replace WD := Lib.hid WD
                  go_wp2_with fail
                  refine WD.out.mono ?_
                  rintro e w2 ⟨rfl, rfl⟩
                  clear WD
                  cases b with
                  | true =>
                    have hk5 : a + 5 ≤ s.size := by
                      rcases at_drop HB5.out with h | h
                      · exact h
                      · cases h
                    obtain ⟨a2, ha2⟩ : ∃ a2 : Nat, a2 = a + 5 := ⟨_, rfl⟩
                    have HAI : Hid ((a : Int) + 5 = (a2 : Int)) := Lib.hid (by omega)
                    have HA2 := Lib.hid ha2
                    have ha3 : a2 ≤ s.size := by omega
                    clear ha2
                    have wk := (w64_add a 5 (by omega) (by decide) (by decide) : wrap64 ((a : Int) + 5) = (a : Int) + 5)
                    have TH := prest_row r IH.out hr W0 s a2 8 (by omega) rfl 93 lev HLV.out hs ha3
                    unfold PPost at TH
                    replace TH := Lib.hid TH
                    go_wp2_with fail
                    clear wk
                    rw [HAI.out]
                    refine TH.out.mono ?_
                    rintro e w2 ⟨y, n, rfl, ry, hb, hn, hR⟩
                    clear TH
                    have CC2 := Lib.hid (CC.out.below hb CC.out.blk.lt)
                    have BB2 := Lib.hid (bnext BB.out hb)
                    have RY := Lib.hid ry
                    have HN := Lib.hid hn
                    have HRR := Lib.hid hR
                    have LO := Lib.hid (show r0 < W0.heap.size from CC.out.blk.lt)
                    clear ry hb hn hR CC
                    have CC := CC2
                    clear CC2
                    obtain ⟨s0, s1, s2, s3, s4, p0, p1, p2, p3, p4, hblk⟩ := CC.out
                    have HRB := Lib.hid (ret_box hblk (.int .i64 y.t.k) (.int .i64 y.t.n) (.string y.t.s) (.slice y.A y.t.l.length y.c) (.slice y.A' y.t.m.length y.c'))
                    clear hblk
                    go_wp2
                    obtain ⟨F, hF, ⟨r0', r1', r2', r3', r4', _⟩, hk', hs', hbel'⟩ := HRB.out
                    rw [← hF]
                    clear hF
                    exact bodyPost_ret (v := .tuple #[.agg #[.int .i64 y.t.k, .int .i64 y.t.n, .string y.t.s, .slice y.A y.t.l.length y.c, .slice y.A' y.t.m.length y.c'], .int .i64 n]) (by simp [results, Try.results34, go_sem, r0', r1', r2', r3', r4']) rfl (pp_end (q := y) (lo := W0.heap.size) (Nat.le_of_eq HR0.out.symm) hk' hs' hbel' BB2.out RY.out LO.out (by
                      rcases HN.out with h | ⟨k, h1, h2, h3, h4⟩
                      · exact .inl h
                      · exact .inr ⟨k, h1, by have := HA2.out; omega, h3, by have := HA2.out; omega⟩) (fun t z h => by
                      refine HRR.out t z ?_
                      rw [HA2.out, ← List.drop_drop]
                      rw [← rd_path r _ HB5.out]; exact h))
                  | false =>
                    have NF := Lib.hid (dig_fits (s.toList.drop a))
                    have DE := dig_end (s.toList.drop a) a
                    rw [List.length_drop, toList_size] at DE
                    have REL : Hid (∀ t z, rd (r + 1) (s.toList.drop a) = some (t, z) → .mk 2 (digN (s.toList.drop a)) ⟨#[]⟩ [] [] = t ∧ ∃ m : Nat, digE (s.toList.drop a) a = ((a + m : Nat) : Int) ∧ (s.toList.drop a).drop m = z) := Lib.hid (fun t z h => by
                      have h' : numV' (numR (s.toList.drop a)) = some (t, z) := by
                        have g1 : [116, 114, 117, 101].isPrefixOf (s.toList.drop a) = false := HB1.out
                        have g2 : [102, 97, 108, 115, 101].isPrefixOf (s.toList.drop a) = false := HB2.out
                        have g3 : [118, 91].isPrefixOf (s.toList.drop a) = false := HB3.out
                        have g4 : [101, 91].isPrefixOf (s.toList.drop a) = false := HB4.out
                        have g5 : [112, 97, 116, 104, 91].isPrefixOf (s.toList.drop a) = false := HB5.out
                        rw [DA.out] at h g1 g2 g3 g4 g5 ⊢
                        exact rd_num r _ _ g1 g2 h39 g3 g4 h91 h123 g5 _ h
                      cases hN : numR (s.toList.drop a) with
                      | none => rw [hN] at h'; cases h'
                      | some p =>
                        obtain ⟨n, q⟩ := p
                        rw [hN] at h'
                        injection h' with h'
                        injection h' with h1 h2
                        obtain ⟨e1, m, e2, e3⟩ := numR_dig a hN
                        exact ⟨by rw [← h1, e1], m, e2, by rw [e3, h2]⟩)
                    clear HB1 HB2 HB3 HB4 HB5
                    have DG := pdig_any s a W0 hs ha
                    unfold DigPost at DG
                    generalize digN (s.toList.drop a) = N at DG NF REL
                    generalize digE (s.toList.drop a) a = E at DG DE REL
                    replace DG := Lib.hid DG
                    replace DE := Lib.hid DE
                    go_wp2_with fail
                    refine DG.out.mono ?_
                    rintro e w2 ⟨rfl, hb⟩
                    have CC2 := Lib.hid (CC.out.below hb CC.out.blk.lt)
                    have BB2 := Lib.hid (bnext BB.out hb)
                    clear hb DG CC
                    have CC := CC2
                    clear CC2
                    obtain ⟨s0, s1, s2, s3, s4, p0, p1, p2, p3, p4, hblk⟩ := CC.out
                    have HRB := Lib.hid (ret_box hblk (.int .i64 2) (.int .i64 N) (.string ⟨#[]⟩) (.slice none 0 0) (.slice none 0 0))
                    clear hblk
                    go_wp2
                    obtain ⟨F, hF, ⟨r0', r1', r2', r3', r4', _⟩, hk', hs', hbel'⟩ := HRB.out
                    rw [← hF]
                    clear hF
                    exact bodyPost_ret (v := .tuple #[.agg #[.int .i64 2, .int .i64 N, .string ⟨#[]⟩, .slice none 0 0, .slice none 0 0], .int .i64 E]) (by simp [results, Try.results34, go_sem, r0', r1', r2', r3', r4']) rfl (pp_plain (Nat.le_of_eq HR0.out.symm) hk' hs' hbel' BB2.out (fld_small 2 N (by omega) NF.out _ (by decide)) (by
                      rcases DE.out with h | ⟨j, h1, h2, h3⟩
                      · exact .inl h
                      · exact .inr ⟨j, h1, h2, by omega, by show 1 + 0 / 20 + a ≤ _; omega⟩) (fun t z h => by
                      obtain ⟨e1, m, e2, e3⟩ := REL.out t z h
                      exact ⟨e1, a + m, e2, by rw [← e3, List.drop_drop]⟩))
  · have a2 : (s.size : Int) ≤ (a : Int) := by omega
    have DN : Hid (s.toList.drop a = []) := Lib.hid (List.drop_eq_nil_of_le (by rw [toList_size]; omega))
    obtain ⟨s0, s1, s2, s3, s4, p0, p1, p2, p3, p4, hblk⟩ := CC.out
    have HRB := Lib.hid (ret_box hblk (.int .i64 0) (.int .i64 0) (.string ⟨#[]⟩) (.slice none 0 0) (.slice none 0 0))
    clear hblk
    go_wp2
    obtain ⟨F, hF, ⟨r0', r1', r2', r3', r4', _⟩, hk', hs', hbel'⟩ := HRB.out
    rw [← hF]
    clear hF
    exact bodyPost_ret (v := .tuple #[.agg #[.int .i64 0, .int .i64 0, .string ⟨#[]⟩, .slice none 0 0, .slice none 0 0], .int .i64 (-1)]) (by simp [results, Try.results34, go_sem, r0', r1', r2', r3', r4']) rfl (pp_plain (Nat.le_of_eq HR0.out.symm) hk' hs' hbel' BB.out fld_zero (.inl rfl) (fun t z h => by rw [DN.out, rd_nil] at h; cases h))

theorem refp_any : ∀ r, r ≤ 12 → RefP r
  | 0, _ => refp_zero
  | r + 1, h => refp_succ r (refp_any r (by omega)) (by omega)
end Go.Proofs.Ytmgjiipooffggaa
