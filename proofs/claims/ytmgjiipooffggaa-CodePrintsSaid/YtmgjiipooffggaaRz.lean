/- Texts, quotes, rows: the law of CodePrints. -/
import Derived.Test.YtmgjiipooffggaaRp
import Derived.Test.YtmgjiipooffggaaRg
namespace Go.Proofs.Ytmgjiipooffggaa
set_option maxRecDepth 100000
open Go.RowKit Go.Sort

theorem str_same {a b : ByteArray} (h : a.toList = b.toList) : a = b := by rw [← str_eta a, ← str_eta b, h]
theorem print_some2 (w : World) (d : Nat) (x : At) (hx : x.In w d) (hl : okV 12 x.t = true → (txt 12 x.t).length ≤ 30000) :
    Calls Try.prog 12 #[x.v] w fun e w' => ∃ S : ByteArray, e = .returned (.tuple #[.string S, .int .i64 (prtE x.t)]) ∧ S.toList = prtS x.t ∧ Below w.heap.size w w' :=
  (print_any w d x hx (fun h => by have := hl h; omega)).mono fun _ _ ⟨he, hb⟩ => ⟨_, he, lit_list _, hb⟩
set_option maxHeartbeats 6400000 in
theorem prints_law (w : World) (d : Nat) (x : At) (s : ByteArray) (A : Option Addr) (c : Nat) (l : List V) (hx : x.In w d) (hs : s.size ≤ maxLen) (hl : Rw w 0 w.heap.size d A c l) : Calls Try.prog 3 #[x.v, .string s, .slice A l.length c] w fun e w' => e = .returned (.bool true) ∧ Below w.heap.size w w' := by
  have hs' : (s.size : Int) ≤ 9223372036854775807 := by unfold maxLen at hs; omega
  have hs0 : (0 : Int) ≤ (s.size : Int) := by omega
  have b0 := below_new w (.cells #[.int .i64 x.t.k, .int .i64 x.t.n, .string x.t.s, .slice x.A x.t.l.length x.c, .slice x.A' x.t.m.length x.c'] 24)
  have hbx := Bx.new w x
  have HX := Lib.hid hx
  have HR := Lib.hid hl
  have hbl := hl.big
  clear hx hs hl
  unfold At.v
  go_enter Try.func3, Try.ntmps3
  go_upto_region 1 with fail
  generalize hW : World.alloc w _ = W at b0 hbx ⊢
  have hgl : w.heap.size < W.heap.size := by rw [← hW]; simp
  clear hW
  have X0 := Lib.hid (HX.out.next b0)
  have R0 := Lib.hid (HR.out.next b0)
  have B0 := Lib.hid b0
  have BX := Lib.hid hbx
  have LO := Lib.hid (lots_one W d x X0.out)
  clear b0 hbx HX HR
  obtain ⟨g2, hg2⟩ : ∃ g : Nat, g = w.heap.size := ⟨_, rfl⟩
  rw [← hg2] at BX hgl ⊢
  clear hg2
  obtain ⟨q0, q1, q2, q3, q4, _⟩ := BX.out
  go_wp2_with fail
  refine LO.out.mono ?_
  rintro e w1 ⟨b, rfl, hb, hc⟩
  have HC := Lib.hid hc
  have X1 := Lib.hid (X0.out.next hb)
  have R1 := Lib.hid (R0.out.next hb)
  have B1 := Lib.hid (bnext B0.out hb)
  have BX1 := Lib.hid (BX.out.next hb)
  clear hb hc LO X0 R0 B0 BX q0 q1 q2 q3 q4
  cases b with
  | true =>
    go_wp2_with fail
    refine (known_any w1).mono ?_
    rintro e wk ⟨rfl, hb⟩
    have HK := Lib.hid (bnext B1.out hb)
    clear hb
    go_wp2
    go_ret
    exact ⟨rfl, HK.out⟩
  | false =>
    have HCC := Lib.hid (show okV 12 x.t = true → (txt 12 x.t).length ≤ 30000 from HC.out rfl)
    clear HC
    have LL := Lib.hid (lots_len w1 d A c l R1.out)
    go_wp2_with fail
    refine LL.out.mono ?_
    rintro e w2 ⟨b, rfl, hb, hc⟩
    have HL := Lib.hid hc
    have X2 := Lib.hid (X1.out.next hb)
    have R2 := Lib.hid (R1.out.next hb)
    have B2 := Lib.hid (bnext B1.out hb)
    have BX2 := Lib.hid (BX1.out.next hb)
    clear hb hc LL X1 R1 B1 BX1
    cases b with
    | true =>
      go_wp2_with fail
      refine (known_any w2).mono ?_
      rintro e wk ⟨rfl, hb⟩
      have HK := Lib.hid (bnext B2.out hb)
      clear hb
      go_wp2
      go_ret
      exact ⟨rfl, HK.out⟩
    | false =>
      by_cases hlen : (1500 : Int) < (s.size : Int)
      · skip
        go_wp2_with fail
        refine (known_any w2).mono ?_
        rintro e wk ⟨rfl, hb⟩
        have HK := Lib.hid (bnext B2.out hb)
        clear hb
        go_wp2
        go_ret
        exact ⟨rfl, HK.out⟩
      · have hlen' : (s.size : Int) ≤ 1500 := by omega
        obtain ⟨hl3, ht3⟩ := HL.out rfl
        have HT := Lib.hid ht3
        clear ht3 HL
        obtain ⟨q0, q1, q2, q3, q4, _⟩ := BX2.out
        have PR := Lib.hid (print_some2 w2 d x X2.out HCC.out)
        generalize hPE : prtE x.t = PE at PR
        generalize hPS : prtS x.t = PS at PR
        replace hPE := Lib.hid hPE
        replace hPS := Lib.hid hPS
        go_wp2_with fail
        refine PR.out.mono ?_
        rintro e w3 ⟨S1, rfl, hS1, hb⟩
        have X3 := Lib.hid (X2.out.next hb)
        have R3 := Lib.hid (R2.out.next hb)
        have B3 := Lib.hid (bnext B2.out hb)
        have BX3 := Lib.hid (BX2.out.next hb)
        have HS1 := Lib.hid hS1
        clear hb hS1 PR X2 R2 B2 BX2 q0 q1 q2 q3 q4
        obtain ⟨q0, q1, q2, q3, q4, _⟩ := BX3.out
        have PR := refPrint_any w3 d x X3.out (fun h => by have := HCC.out h; omega)
        unfold PrtPost at PR
        rw [hPE.out, hPS.out] at PR
        replace PR := Lib.hid PR
        go_wp2_with fail
        refine PR.out.mono ?_
        rintro e w4 ⟨S2, rfl, hS2, hb⟩
        have R4 := Lib.hid (R3.out.next hb)
        have B4 := Lib.hid (bnext B3.out hb)
        obtain rfl : S2 = S1 := str_same (hS2.trans HS1.out.symm)
        clear hb hS2 PR X3 R3 B3 BX3 q0 q1 q2 q3 q4 HS1
        have RW := Lib.hid (rows_any w4 d A c l R4.out hl3 HT.out)
        generalize hRE : rowsE l = RE at RW
        generalize hRS : rowsS l = RS at RW
        replace hRE := Lib.hid hRE
        replace hRS := Lib.hid hRS
        go_wp2_with fail
        refine RW.out.mono ?_
        rintro e w5 ⟨S3, rfl, hS3, hb⟩
        have R5 := Lib.hid (R4.out.next hb)
        have B5 := Lib.hid (bnext B4.out hb)
        have HS3 := Lib.hid hS3
        clear hb hS3 RW R4 B4
        have RW := refRows_any w5 d A c l R5.out hl3 HT.out
        rw [hRE.out, hRS.out] at RW
        replace RW := Lib.hid RW
        go_wp2_with fail
        refine RW.out.mono ?_
        rintro e w6 ⟨S4, rfl, hS4, hb⟩
        have B6 := Lib.hid (bnext B5.out hb)
        obtain rfl : S4 = S3 := str_same (hS4.trans HS3.out.symm)
        clear hb hS4 RW R5 B5 HS3
        have QA := Lib.hid (quote_any s w6 (by omega))
        obtain ⟨QQ, hQQ⟩ : ∃ y : ByteArray, y = ⟨(qL s.toList).toArray⟩ := ⟨_, rfl⟩
        rw [← hQQ] at QA
        replace hQQ := Lib.hid hQQ
        go_wp2_with fail
        refine QA.out.mono ?_
        rintro e w7 ⟨rfl, hb⟩
        have B7 := Lib.hid (bnext B6.out hb)
        clear hb QA B6
        have QB := refQuote_any s w7 (by omega)
        rw [← hQQ.out] at QB
        replace QB := Lib.hid QB
        go_wp2_with fail
        refine QB.out.mono ?_
        rintro e w8 ⟨rfl, hb⟩
        have B8 := Lib.hid (bnext B7.out hb)
        clear hb QB B7
        go_wp2_with fail
        refine (known_any w8).mono ?_
        rintro e wk ⟨rfl, hb⟩
        have HK := Lib.hid (bnext B8.out hb)
        clear hb
        go_wp2
        go_ret
        exact ⟨rfl, HK.out⟩
end Go.Proofs.Ytmgjiipooffggaa
