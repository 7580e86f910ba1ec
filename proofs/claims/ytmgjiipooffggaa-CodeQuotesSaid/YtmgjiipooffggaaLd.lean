/- Quotes: the law of CodeQuotes. -/
import Derived.Test.YtmgjiipooffggaaKZ
namespace Go.Proofs.Ytmgjiipooffggaa
set_option maxRecDepth 100000
open Go.RowKit Go.Sort

theorem at_list {Q : ByteArray} {L : Bs} (h : Q.toList = L) {k : Nat} (hk : k < Q.size) {c : UInt8} (hc : L[k]? = some c) : Q[k]'hk = c := by
  have := toList_at Q k hk
  rw [h, hc] at this
  exact (Option.some.inj this).symm
set_option maxHeartbeats 6400000 in
theorem quotes_law (w : World) (s : ByteArray) (hs : s.size ≤ maxLen) : Calls Try.prog 7 #[.string s] w fun e w' => e = .returned (.bool true) ∧ Below w.heap.size w w' := by
  have hs' : (s.size : Int) ≤ 9223372036854775807 := by unfold maxLen at hs; omega
  have hs0 : (0 : Int) ≤ (s.size : Int) := by omega
  clear hs
  have b0 := Below.refl w.heap.size w
  have B0 := Lib.hid b0
  clear b0
  by_cases hlen : (1500 : Int) < (s.size : Int)
  · go_enter Try.func7, Try.ntmps7
    go_wp2_with fail
    refine (known_any w).mono ?_
    rintro e wk ⟨rfl, hb⟩
    have HK := Lib.hid (bnext B0.out hb)
    clear hb
    go_wp2
    go_ret
    exact ⟨rfl, HK.out⟩
  · have hlen' : s.size ≤ 1500 := by omega
    have QA := Lib.hid (quote_any s w (by omega))
    obtain ⟨Q, hQ⟩ : ∃ Q : ByteArray, Q = ⟨(qL s.toList).toArray⟩ := ⟨_, rfl⟩
    rw [← hQ] at QA
    have QL : Hid (Q.toList = qL s.toList) := Lib.hid (by rw [hQ, lit_list])
    clear hQ
    have N1 : s.size + 2 ≤ Q.size := by rw [← toList_size Q, QL.out, ← toList_size s]; exact qL_len _
    have N2 : Q.size ≤ 6002 := by have := qM_len4 s.toList; rw [← QL.out, toList_size, toList_size] at this; omega
    have f0 : Q[0]'(by omega) = 39 := at_list QL.out _ rfl
    have fn : Q[Q.size - 1]'(by omega) = 39 := by
      refine at_list QL.out _ ?_
      have h1 : Q.size = (qL s.toList).length := by rw [← QL.out, toList_size]
      have h2 : (qL s.toList).getLast? = some 39 := by show (([39] ++ qM s.toList) ++ [39]).getLast? = _; rw [List.getLast?_append]; rfl
      rw [h1, ← List.getLast?_eq_getElem?, h2]
    have g0 : (((Q[0]'(by omega)).toNat : Int)) = 39 := by rw [f0]; rfl
    have gn : (((Q[Q.size - 1]'(by omega)).toNat : Int)) = 39 := by rw [fn]; rfl
    have gn' : (((Q[Q.size - 1]'(by omega)).toNat : Int) != 39) = false := by rw [fn]; rfl
    clear f0 fn
    have i0 : (0 : Int) < (Q.size : Int) := by omega
    have i1 : (0 : Int) ≤ (Q.size : Int) - 1 := by omega
    have i2 : (Q.size : Int) - 1 < (Q.size : Int) := by omega
    have i3 : ¬ (Q.size : Int) < (s.size : Int) + 2 := by omega
    have w1 : wrap64 ((Q.size : Int) - 1) = (Q.size : Int) - 1 := by unfold wrap64; omega
    have w2 : wrap64 ((s.size : Int) + 2) = (s.size : Int) + 2 := by unfold wrap64; omega
    have DR : Hid (∀ k, k < Q.size → ∃ (hk : k < Q.size), Q.toList.drop k = (Q[k]'hk) :: Q.toList.drop (k + 1)) := Lib.hid (fun k hk => ⟨hk, by
      rw [List.drop_eq_getElem_cons (by rw [toList_size]; exact hk)]
      have := toList_at Q k hk
      rw [List.getElem?_eq_getElem (by rw [toList_size]; exact hk)] at this
      rw [Option.some.inj this]⟩)
    have DN : Hid (∀ k, k < Q.size → Q.toList.drop k ≠ []) := Lib.hid (fun k hk h => by rw [List.drop_eq_nil_iff, toList_size] at h; omega)
    go_enter Try.func7, Try.ntmps7
    go_wp2_with fail
    refine QA.out.mono ?_
    rintro e w1 ⟨rfl, hb⟩
    have B1 := Lib.hid hb
    clear hb QA
    go_wp2_with fail
    go_loopw [5] (fun i wr => ∃ (k : Nat), i = .int .i64 k ∧ k < Q.size ∧ Hid (wr = w1) ∧ Hid (Btw (Q.toList.drop k))) (fun i _ => Q.size - (intOf i).toNat)
    case atStart => exact ⟨1, rfl, by omega, Lib.hid rfl, Lib.hid (by rw [QL.out]; exact Btw.start _)⟩
    case round =>
      obtain ⟨k, rfl, hk, hwr, hbt⟩ := hrel
      obtain rfl := hwr.out
      clear hwr
      have w3 : wrap64 ((Q.size : Int) - 1) = (Q.size : Int) - 1 := by unfold wrap64; omega
      by_cases hlt : k + 1 < Q.size
      · obtain ⟨_, hdr⟩ := DR.out k hk
        have hst := hbt.out
        rw [hdr] at hst
        obtain ⟨s1, s2, s3, s4⟩ := hst.step (DN.out (k + 1) hlt)
        have S3 := Lib.hid s3
        have S4 := Lib.hid s4
        have k0 : (0 : Int) ≤ (k : Int) := by omega
        have k1 : (k : Int) < (Q.size : Int) := by omega
        have k2 : (k : Int) < (Q.size : Int) - 1 := by omega
        have i4 : wrap64 ((k : Int) + 1) = (k : Int) + 1 := by unfold wrap64; omega
        have i5 : wrap64 ((k : Int) + 1 + 1) = (k : Int) + 1 + 1 := by unfold wrap64; omega
        clear s3 s4 hst hdr g0 gn gn'
        generalize hc : Q[k]'hk = c at *
        have q1 := byte_is c 39 (by omega)
        have q2 := byte_is c 92 (by omega)
        have hcl := c.toNat_lt
        have a1 : ¬ (c.toNat : Int) < 32 := by simp [seenB] at s1; omega
        have a2 : ¬ (126 : Int) < (c.toNat : Int) := by simp [seenB] at s1; omega
        have p1 : ((c.toNat : Int) == 39) = false := by rw [show (39 : Int) = ((39 : Nat) : Int) from rfl, q1]; simpa using s2
        clear q1 s1 s2
        by_cases h2 : c = 92
        · have p2 : ((c.toNat : Int) == 92) = true := by rw [h2]; rfl
          have BT := Lib.hid (S4.out h2)
          have hk2 : k + 2 < Q.size := by
            have := BT.out.ne
            rw [List.drop_drop] at this
            rcases Nat.lt_or_ge (k + 2) Q.size with h | h
            · exact h
            · exact absurd (List.drop_eq_nil_iff.2 (by rw [toList_size]; omega)) this
          have BT2 : Hid (Btw (Q.toList.drop (k + 2))) := Lib.hid (by have := BT.out; rw [List.drop_drop] at this; exact this)
          clear q2 h2 S3 S4
          go_wp2
          go_roundw
          case rel => exact ⟨k + 2, by go_num, hk2, Lib.hid (by trivial), BT2⟩
          case measure => simp [intOf]; omega
        · have p2 : ((c.toNat : Int) == 92) = false := by rw [show (92 : Int) = ((92 : Nat) : Int) from rfl, q2]; simpa using h2
          have BT := Lib.hid (S3.out h2)
          clear q2 h2 S3 S4
          go_wp2
          go_roundw
          case rel => exact ⟨k + 1, by go_num, hlt, Lib.hid (by trivial), BT⟩
          case measure => simp [intOf]; omega
      · have k3 : ¬ (k : Int) < (Q.size : Int) - 1 := by omega
        have hke : (k : Int) = (Q.size : Int) - 1 := by omega
        have PC := Lib.hid (parse_code wr Q (by omega))
        by_cases h1000 : (1000 : Int) < (s.size : Int)
        · rw [QL.out, prs_quote_no s (by omega)] at PC
          go_wp2_with fail
          refine PC.out.mono ?_
          rintro e w2 ⟨q, rfl, rq, hb, hq1, hq2⟩
          have B2 := Lib.hid (bnext B1.out hb)
          clear hb rq PC hq1 hq2
          have z2 := below_new w2 (.cells #[.int .i64 q.t.k, .int .i64 q.t.n, .string q.t.s, .slice q.A q.t.l.length q.c, .slice q.A' q.t.m.length q.c'] 24)
          have C2 := Lib.hid (bnext B2.out z2)
          clear z2
          go_wp2_with fail
          refine (known_any _).mono ?_
          rintro e wk ⟨rfl, hb⟩
          have HK := Lib.hid (bnext C2.out hb)
          clear hb
          go_wp2
          go_ret
          exact ⟨rfl, HK.out⟩
        · rw [QL.out, prs_quote s (by omega)] at PC
          go_wp2_with fail
          refine PC.out.mono ?_
          rintro e w2 ⟨q, rfl, rq, hb, hq, hq2⟩
          have B2 := Lib.hid (bnext B1.out hb)
          have HQ := Lib.hid (hq _ rfl)
          clear hb rq PC hq hq2
          have z2 := below_new w2 (.cells #[.int .i64 q.t.k, .int .i64 q.t.n, .string q.t.s, .slice q.A q.t.l.length q.c, .slice q.A' q.t.m.length q.c'] 24)
          have C2 := Lib.hid (bnext B2.out z2)
          have x2 := Bx.new w2 q
          go_upto_region 15 with fail
          generalize hW2 : World.alloc w2 _ = V2 at z2 C2 x2 ⊢
          clear hW2 z2
          have XQ := Lib.hid x2
          clear x2
          obtain ⟨y0, y1, y2, y3, y4, _⟩ := XQ.out
          rw [show q.t.k = 3 by rw [HQ.out]; rfl] at y0
          rw [show q.t.s = s by rw [HQ.out]; rfl] at y2
          go_wp2_with fail
          refine (known_any _).mono ?_
          rintro e wk ⟨rfl, hb⟩
          have HK := Lib.hid (bnext C2.out hb)
          clear hb
          go_wp2
          go_ret
          exact ⟨rfl, HK.out⟩
end Go.Proofs.Ytmgjiipooffggaa
