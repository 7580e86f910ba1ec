/- Hurt texts: the law of CodeHurt. -/
import Derived.Test.YtmgjiipooffggaaKZ
namespace Go.Proofs.Ytmgjiipooffggaa
set_option maxRecDepth 100000
open Go.RowKit Go.Sort

theorem print_bad (w : World) (d : Nat) (x : At) (hx : x.In w d) (ho : okV 12 x.t = false) : Calls Try.prog 12 #[x.v] w fun e w' => e = .returned (.tuple #[.string ⟨#[]⟩, .int .i64 2]) ∧ Below w.heap.size w w' := by
  have := print_any w d x hx (fun h => by rw [ho] at h; cases h)
  rw [show prtS x.t = [] by unfold prtS; rw [ho]; rfl, show prtE x.t = 2 by unfold prtE; rw [ho]; rfl] at this
  exact this
theorem print_good (w : World) (d : Nat) (x : At) (hx : x.In w d) (ho : okV 12 x.t = true) (hl : (txt 12 x.t).length ≤ 30000) : ∃ s : ByteArray, s.toList = txt 12 x.t ∧ s.size ≤ 30000 ∧ Calls Try.prog 12 #[x.v] w fun e w' => e = .returned (.tuple #[.string s, .int .i64 0]) ∧ Below w.heap.size w w' := by
  have := print_any w d x hx (fun _ => by omega)
  rw [show prtS x.t = txt 12 x.t by unfold prtS; rw [ho]; rfl, show prtE x.t = 0 by unfold prtE; rw [ho]; rfl] at this
  exact ⟨⟨(txt 12 x.t).toArray⟩, lit_list _, by rw [← toList_size, lit_list]; exact hl, this⟩
theorem list_app (a b : ByteArray) : (a ++ b).toList = a.toList ++ b.toList := by
  rw [ByteArray.toList_eq, ByteArray.toList_eq, ByteArray.toList_eq, ByteArray.data_append, Array.toList_append]
theorem wrap64_in {n : Int} (h : -9223372036854775808 ≤ n ∧ n ≤ 9223372036854775807) : wrap64 n = n := by unfold wrap64; omega
theorem parse_bad (w : World) (s : ByteArray) (hs : s.size ≤ 140737488355328) (h : ∀ u, prs s.toList = some u → intsOk 12 u → False) : Calls Try.prog 18 #[.string s] w fun e w' => ∃ y : At, e = .returned (.tuple #[y.v, .int .i64 30]) ∧ Below w.heap.size w w' := by
  refine (parse_code w s hs).mono ?_
  rintro e w' ⟨q, he, rq, hb, hq, _⟩
  cases hp : prs s.toList with
  | none => rw [hp] at he; exact ⟨q, he, hb⟩
  | some u =>
    have := hq u hp
    exact (h u hp (by rw [← this]; exact ints_of_rd _ _ _ _ _ _ _ rq)).elim
set_option maxHeartbeats 6400000 in
theorem hurt_law (w : World) (d : Nat) (x : At) (cut : Int) (c : UInt8) (hx : x.In w d) : Calls Try.prog 8 #[x.v, .int .i64 cut, .int .u8 (c.toNat : Int)] w fun e w' => e = .returned (.bool true) ∧ Below w.heap.size w w' := by
  have b0 := below_new w (.cells #[.int .i64 x.t.k, .int .i64 x.t.n, .string x.t.s, .slice x.A x.t.l.length x.c, .slice x.A' x.t.m.length x.c'] 24)
  have hbx := Bx.new w x
  have HX := Lib.hid hx
  clear hx
  unfold At.v
  go_enter Try.func8, Try.ntmps8
  go_upto_region 1 with fail
  generalize hW : World.alloc w _ = W at b0 hbx ⊢
  clear hW
  have X0 := Lib.hid (HX.out.next b0)
  have B0 := Lib.hid b0
  have BX := Lib.hid hbx
  have LO := Lib.hid (lots_one W d x X0.out)
  clear b0 hbx
  obtain ⟨g2, hg2⟩ : ∃ g : Nat, g = w.heap.size := ⟨_, rfl⟩
  rw [← hg2] at BX ⊢
  clear hg2
  obtain ⟨q0, q1, q2, q3, q4, _⟩ := BX.out
  go_wp2_with fail
  refine LO.out.mono ?_
  rintro e w1 ⟨b, rfl, hb, hc⟩
  have HC := Lib.hid hc
  have X1 := Lib.hid (X0.out.next hb)
  have B1 := Lib.hid (bnext B0.out hb)
  have BX1 := Lib.hid (BX.out.next hb)
  clear hb hc LO X0 B0 BX q0 q1 q2 q3 q4
  cases b with
  | true =>
    go_wp2_with fail
    refine (known_any w1).mono ?_
    rintro e wk ⟨rfl, hb⟩
    have HK := Lib.hid (bnext B1.out hb)
    clear hb
    go_wp2
    go_ret
    exact ⟨rfl, HK.out⟩
  | false =>
    cases hok : okV 12 x.t with
    | false =>
      have PR := Lib.hid (print_bad w1 d x X1.out hok)
      obtain ⟨q0, q1, q2, q3, q4, _⟩ := BX1.out
      go_wp2_with fail
      refine PR.out.mono ?_
      rintro e w2 ⟨rfl, hb⟩
      have B2 := Lib.hid (bnext B1.out hb)
      clear hb PR q0 q1 q2 q3 q4
      go_wp2_with fail
      refine (known_any w2).mono ?_
      rintro e wk ⟨rfl, hb⟩
      have HK := Lib.hid (bnext B2.out hb)
      clear hb
      go_wp2
      go_ret
      exact ⟨rfl, HK.out⟩
    | true =>
      obtain ⟨s, hl, hs, pr⟩ := print_good w1 d x X1.out hok (HC.out rfl hok)
      have PR := Lib.hid pr
      have HL := Lib.hid hl
      have HI := Lib.hid (ints_of_rd _ 12 _ _ _ _ _ X1.out)
      have HOK := Lib.hid hok
      clear pr hl hok
      obtain ⟨q0, q1, q2, q3, q4, _⟩ := BX1.out
      go_wp2_with fail
      refine PR.out.mono ?_
      rintro e w2 ⟨rfl, hb⟩
      have B2 := Lib.hid (bnext B1.out hb)
      have BX2 := Lib.hid (BX1.out.next hb)
      clear hb PR q0 q1 q2 q3 q4
      obtain ⟨q0, q1, q2, q3, q4, _⟩ := BX2.out
      by_cases hk : x.t.k = 2
      · rw [hk] at q0
        go_wp2_with fail
        refine (known_any w2).mono ?_
        rintro e wk ⟨rfl, hb⟩
        have HK := Lib.hid (bnext B2.out hb)
        clear hb
        go_wp2
        go_ret
        exact ⟨rfl, HK.out⟩
      · have hne : 0 < s.size := by
          have := (head_other 11 x.t [] (ok_fits HOK.out) hk).2
          have h2 : (txt 12 x.t).length = s.size := by rw [← HL.out, toList_size]
          rcases Nat.eq_zero_or_pos s.size with h0 | h0
          · rw [h0] at h2; exact absurd (List.length_eq_zero_iff.1 h2) this
          · exact h0
        have hnz : ¬ (s.size : Int) = 0 := by omega
        have u0 : IntKind.u64.wrap (s.size : Int) = s.size := IntWalk.u64_in _ (by omega)
        go_wp2_with fail
        have hK : ∃ k : Nat, wrap64 ((IntKind.u64.wrap cut).tmod (s.size : Int)) = (k : Int) ∧ k < s.size := by
          have h0 : 0 ≤ IntKind.u64.wrap cut := by rw [IntKind.wrap_u64]; omega
          have h1 := Int.tmod_nonneg (s.size : Int) h0
          have h2 := Int.tmod_lt_of_pos (IntKind.u64.wrap cut) (show (0 : Int) < s.size by omega)
          refine ⟨((IntKind.u64.wrap cut).tmod (s.size : Int)).toNat, ?_, by omega⟩
          rw [wrap64_in (by omega)]
          omega
        obtain ⟨k, hk1, hk2⟩ := hK
        rw [hk1]
        clear hk1 u0 hnz
        have PA := Lib.hid (parse_bad w2 (⟨#[32]⟩ ++ s) (by rw [ByteArray.size_append]; show 1 + s.size ≤ _; omega) (fun u h _ => by rw [list_app, lit_list, List.singleton_append, prs_blank] at h; cases h))
        refine PA.out.mono ?_
        rintro e w3 ⟨y3, rfl, hb⟩
        have B3 := Lib.hid (bnext B2.out hb)
        clear hb PA
        go_upto_region 10 with fail
        have z3 := below_new w3 (.cells #[.int .i64 y3.t.k, .int .i64 y3.t.n, .string y3.t.s, .slice y3.A y3.t.l.length y3.c, .slice y3.A' y3.t.m.length y3.c'] 24)
        generalize hW3 : World.alloc w3 _ = V3 at z3 ⊢
        clear hW3
        have C3 := Lib.hid (bnext B3.out z3)
        clear z3
        have PB := Lib.hid (parse_bad V3 (s ++ (⟨#[32]⟩ : ByteArray)) (by rw [ByteArray.size_append]; show s.size + 1 ≤ _; omega) (fun u h _ => by rw [list_app, show (⟨#[32]⟩ : ByteArray).toList = [32] from lit_list [32], HL.out, prs_more x.t HOK.out HI.out hk 32] at h; cases h))
        go_wp2_with fail
        refine PB.out.mono ?_
        rintro e w4 ⟨y4, rfl, hb⟩
        have B4 := Lib.hid (bnext C3.out hb)
        clear hb PB
        go_upto_region 11 with fail
        have z4 := below_new w4 (.cells #[.int .i64 y4.t.k, .int .i64 y4.t.n, .string y4.t.s, .slice y4.A y4.t.l.length y4.c, .slice y4.A' y4.t.m.length y4.c'] 24)
        generalize hW4 : World.alloc w4 _ = V4 at z4 ⊢
        clear hW4
        have C4 := Lib.hid (bnext B4.out z4)
        clear z4
        have PC := Lib.hid (fun w' => parse_bad w' (s ++ (⟨#[c]⟩ : ByteArray)) (by rw [ByteArray.size_append]; show s.size + 1 ≤ _; omega) (fun u h _ => by rw [list_app, show (⟨#[c]⟩ : ByteArray).toList = [c] from lit_list [c], HL.out, prs_more x.t HOK.out HI.out hk c] at h; cases h))
        have hcv := str_own (own_one8 V4 c)
        have z5 := below_new V4 (.cells #[.int .u8 (c.toNat : Int)] 5)
        have C5 := Lib.hid (bnext C4.out z5)
        go_wp2_with fail
        clear hcv
        refine (PC.out _).mono ?_
        rintro e w6 ⟨y6, rfl, hb⟩
        have B6 := Lib.hid (bnext C5.out hb)
        clear hb PC z5
        go_upto_region 12 with fail
        have z6 := below_new w6 (.cells #[.int .i64 y6.t.k, .int .i64 y6.t.n, .string y6.t.s, .slice y6.A y6.t.l.length y6.c, .slice y6.A' y6.t.m.length y6.c'] 24)
        generalize hW6 : World.alloc w6 _ = V6 at z6 ⊢
        clear hW6
        have C6 := Lib.hid (bnext B6.out z6)
        clear z6
        have PD := Lib.hid (parse_bad V6 (s.extract 0 k) (by rw [ByteArray.size_extract]; omega) (fun u h hu => by rw [toList_cut, List.drop_zero, HL.out] at h; exact prs_cut x.t u k HOK.out HI.out hk (by rw [← HL.out, toList_size]; exact hk2) h hu))
        have k0 : (0 : Int) ≤ (k : Int) := by omega
        have k1 : (k : Int) ≤ (s.size : Int) := by omega
        go_wp2_with fail
        refine PD.out.mono ?_
        rintro e w7 ⟨y7, rfl, hb⟩
        have B7 := Lib.hid (bnext C6.out hb)
        clear hb PD k0 k1
        have z7 := below_new w7 (.cells #[.int .i64 y7.t.k, .int .i64 y7.t.n, .string y7.t.s, .slice y7.A y7.t.l.length y7.c, .slice y7.A' y7.t.m.length y7.c'] 24)
        have C7 := Lib.hid (bnext B7.out z7)
        go_wp2_with fail
        refine (known_any _).mono ?_
        rintro e wk ⟨rfl, hb⟩
        have HK := Lib.hid (bnext C7.out hb)
        clear hb
        go_wp2
        go_ret
        exact ⟨rfl, HK.out⟩
theorem hurt_int (w : World) (d : Nat) (x : At) (cut more : Int) (hx : x.In w d) (hm : 0 ≤ more ∧ more ≤ 255) : Calls Try.prog 8 #[x.v, .int .i64 cut, .int .u8 more] w fun e w' => e = .returned (.bool true) ∧ Below w.heap.size w w' := by
  have h : ((UInt8.ofNat more.toNat).toNat : Int) = more := by rw [UInt8.toNat_ofNat']; omega
  have := hurt_law w d x cut (UInt8.ofNat more.toNat) hx
  rwa [h] at this
end Go.Proofs.Ytmgjiipooffggaa
