/- The tokens of a query, plain; the iterator that hands them on. -/
import Derived.Test.YthjbmlgjlndihaaLE
import Derived.Test.YthjbmlgjlndihaaLW
namespace Go.Proofs.Ythjbmlgjlndihaa
set_option maxRecDepth 100000
open Go.RowKit Go.Shelf
attribute [local go_sem] Oper.semAt_some

/-- What the iterator hands on: a token; or the place where none is. -/
structure IT where
  t : TK
  ok : Bool
abbrev TK.at_ (t : TK) (q : Int) : TK := ⟨t.k, q, t.s, t.n⟩
def encI (x : IT) : Array Value := #[x.t.v, .bool x.ok]
/-- The tokens from a place on that is no blank's. -/
def lexA : Nat → Bs → Nat → List IT
  | 0, _, _ => []
  | f + 1, l, q => if q < l.length then
      match firstP (l.drop q) with
      | none => [⟨TK.zero.at_ q, false⟩]
      | some r => ⟨r.1.at_ q, true⟩ :: lexA f l (runN blankB l (q + r.2))
    else []
def itemsL (l : Bs) : List IT := lexA (l.length + 1) l (runN blankB l 0)

theorem textP_len : ∀ (k : Nat) (l acc : Bs) (i : Nat) (b : Bs) (n : Nat), l.length ≤ k → textP l acc i = some (b, n) → i + 1 ≤ n ∧ n ≤ i + l.length
  | 0, l, acc, i, b, n, hk, h => by
    obtain rfl : l = [] := List.eq_nil_of_length_eq_zero (by omega)
    rw [textP_nil] at h; cases h
  | k + 1, [], acc, i, b, n, hk, h => by rw [textP_nil] at h; cases h
  | k + 1, c :: r, acc, i, b, n, hk, h => by
    rw [textP_cons] at h
    rw [List.length_cons] at hk ⊢
    split at h
    · cases h
    · split at h
      · injection h with h; injection h with h1 h2; omega
      · split at h
        · match r, h with
          | [], h => cases h
          | d :: r', h =>
            simp only at h
            split at h
            · split at h
              · cases h
              · rw [List.length_cons] at hk ⊢
                have := textP_len k r' _ _ _ _ (by omega) h
                omega
            · cases h
        · split at h
          · cases h
          · have := textP_len k r _ _ _ _ (by omega) h
            omega
theorem first_len (l : Bs) (h0 : 0 < l.length) (t : TK) (n : Nat) (h : firstP l = some (t, n)) : 1 ≤ n ∧ n ≤ l.length := by
  have h1 := runN_le wordB l 1 (by omega)
  have h2 := runN_ge wordB l 1
  unfold firstP at h
  split at h
  · injection h with h; injection h with h3 h4; omega
  · split at h
    · unfold numP at h
      split at h
      · injection h with h; injection h with h3 h4; rw [List.length_take] at h4; omega
      · cases h
    · split at h
      · unfold textO at h
        cases hr : textP (l.drop 1) [] 1 with
        | none => rw [hr] at h; cases h
        | some r =>
          obtain ⟨b, m⟩ := r
          rw [hr] at h
          injection h with h; injection h with h3 h4
          have := textP_len _ _ _ _ _ _ (Nat.le_refl _) hr
          rw [List.length_drop] at this
          simp at h4
          omega
      · split at h
        · injection h with h; injection h with h3 h4; omega
        · cases h

theorem lexA_end (f : Nat) (l : Bs) (q : Nat) (h : ¬ q < l.length) : lexA f l q = [] := by
  cases f with
  | zero => rfl
  | succ f => rw [lexA, if_neg h]
theorem lexA_none (f : Nat) (l : Bs) (q : Nat) (hf : 0 < f) (h : q < l.length) (hn : firstP (l.drop q) = none) : lexA f l q = [⟨TK.zero.at_ q, false⟩] := by
  obtain ⟨f, rfl⟩ : ∃ g, f = g + 1 := ⟨f - 1, by omega⟩
  rw [lexA, if_pos h, hn]
theorem lexA_some (f : Nat) (l : Bs) (q : Nat) (h : q < l.length) (t : TK) (n : Nat) (hn : firstP (l.drop q) = some (t, n)) : lexA (f + 1) l q = ⟨t.at_ q, true⟩ :: lexA f l (runN blankB l (q + n)) := by
  rw [lexA, if_pos h, hn]

theorem lexA_len : ∀ (f : Nat) (l : Bs) (q : Nat), (lexA f l q).length ≤ f
  | 0, _, _ => by simp [lexA]
  | f + 1, l, q => by
    rw [lexA]
    split
    · split
      · simp
      · have := lexA_len f l
        rw [List.length_cons]
        exact Nat.succ_le_succ (this _)
    · simp
theorem items_len (l : Bs) : (itemsL l).length ≤ l.length + 1 := lexA_len _ _ _
theorem tail_bs (s : ByteArray) (q : Nat) : s.extract q s.size = bs (s.toList.drop q) := by rw [bs_cut, ← toList_size, List.take_length]

set_option maxHeartbeats 4000000 in
theorem each_hands (s : ByteArray) (hs : s.size ≤ 20000) (n : Nat) (hn : 3 ≤ n) :
    Hands n Try.prog 20 (fun l => #[.string s, .func (.yield l) #[] #[]]) encI (itemsL s.toList) := by
  intro l J Jx W hst hY h0
  have hn1 : 1 ≤ n := by omega
  have SL := toList_size s
  have HI : Hid (itemsL s.toList = lexA (s.size + 1) s.toList (runN blankB s.toList 0)) := Lib.hid (by unfold itemsL; rw [SL])
  generalize itemsL s.toList = xs at HI hY ⊢
  have hq0 := runN_le blankB s.toList 0 (by omega)
  rw [SL] at hq0
  refine callsIn_of_wp Try.func20 rfl trivial ?_ rfl
  simp only [Try.ntmps20, List.size_toArray, List.length_cons, List.length_nil, Nat.reduceAdd, Nat.reduceSub, Array.replicate_succ, Array.replicate_zero, List.push_toArray, List.append_toArray, List.nil_append, List.cons_append]
  have cP : Hid (∀ w, Calls Try.prog 23 #[.string s, .int .i64 0] w fun e w' => e = .returned (.int .i64 (runN blankB s.toList 0 : Nat)) ∧ w = w') := Lib.hid (fun w => past_any s 0 hs (by omega) w)
  generalize hz : runN blankB s.toList 0 = z at HI hq0 cP
  have HZ := Lib.hid hz
  clear hz SL
  gi_wp2_with fail
  refine ⟨trivial, (callsIn_wide.2 (cP.out _)).mono ?_⟩
  rintro e w' ⟨rfl, rfl⟩
  gi_wp2_with fail
  gi_loopw [4] (fun v wr => ∃ (pre : List IT) (p f : Nat), v = .int .i64 p ∧ p ≤ s.size ∧ s.size < f + p ∧ Hid (xs = pre ++ lexA f s.toList p) ∧ Hid (J pre wr))
    (fun v _ => s.size - (intOf v).toNat)
  case atStart => exact ⟨[], z, s.size + 1, rfl, hq0, by omega, HI, Lib.hid h0⟩
  case round =>
    obtain ⟨pre, p, f, rfl, hp, hf, hx, hJ⟩ := hrel
    by_cases hlt : p < s.size
    · have hdl : 0 < (s.toList.drop p).length := by rw [List.length_drop, toList_size]; omega
      have hfl := fun t m => first_len (s.toList.drop p) hdl t m
      rw [List.length_drop, toList_size] at hfl
      have hxn := lexA_none f s.toList p (by omega) (by rw [toList_size]; omega)
      have hxs := lexA_some (f - 1) s.toList p (by rw [toList_size]; omega)
      rw [show f - 1 + 1 = f from by omega] at hxs
      have cF : Hid (∀ W, Calls Try.prog 24 #[.string (s.extract p s.size)] W (FirstPost W (firstP (s.toList.drop p)))) := Lib.hid (fun W => by
        have e := tail_bs s p
        have hz : (s.extract p s.size).size = s.size - p := by rw [e, bs_size, List.length_drop, toList_size]
        have := first_any (s.extract p s.size) (by omega) (by omega) W
        rwa [show (s.extract p s.size).toList = s.toList.drop p from by rw [e, bs_toList]] at this)
      unfold FirstPost at cF
      generalize firstP (s.toList.drop p) = G at cF hfl hxn hxs
      cases G with
      | none =>
        have HX : Hid (xs = pre ++ [⟨TK.zero.at_ p, false⟩]) := Lib.hid (by rw [hx.out, hxn rfl])
        have cZ : Hid (∀ W, Calls Try.prog 24 #[.string (s.extract p s.size)] W fun e w' => e = .returned (.tuple #[.agg #[.int .i64 0, .int .i64 0, .string ⟨#[]⟩, .int .i64 0], .int .i64 0, .bool false]) ∧ Below W.heap.size W w') := cF
        clear cF hfl hxn hxs hx
        gi_wp2_with fail
        refine ⟨trivial, (callsIn_wide.2 (cZ.out _)).mono ?_⟩
        rintro e w1 ⟨rfl, hb⟩
        have hB2 : Below wr.heap.size wr (w1.alloc (.cells #[.int .i64 0, .int .i64 p, .string ⟨#[]⟩, .int .i64 0] 32)) :=
          hb.alloc hb.size _
        obtain ⟨fn, tmps, assign, body, hy0, hR⟩ := hY pre ⟨TK.zero.at_ p, false⟩ _ (by rw [HX.out]; exact List.prefix_refl _) (hst _ _ _ hJ.out hB2)
        have hy : (Instr.yield l #[.agg #[.int .i64 0, .int .i64 p, .string ⟨#[]⟩, .int .i64 0], .bool false]).run Try.prog (w1.alloc (.cells #[.int .i64 0, .int .i64 p, .string ⟨#[]⟩, .int .i64 0] 32)) = _ := hy0
        have HRR := Lib.hid hR
        clear hy0 hB2 hb hR
        gi_wp2_with fail
        refine HRR.out.mono ?_
        rintro e W3 (⟨rfl, hJ3⟩ | ⟨rfl, hJx3⟩)
        · have HJ := Lib.hid hJ3
          clear hJ3 hy
          gi_wp2_with fail
          refine bodyPost_ret (results_none rfl _ _ _) rfl ?_
          exact ⟨⟨_, rfl⟩, .inl (by rw [HX.out]; exact HJ.out)⟩
        · have HJ := Lib.hid hJx3
          clear hJx3 hy
          gi_wp2_with fail
          refine bodyPost_ret (results_none rfl _ _ _) rfl ?_
          exact ⟨⟨_, rfl⟩, .inr ⟨_, by rw [HX.out]; exact List.prefix_refl _, HJ.out⟩⟩
      | some r =>
        obtain ⟨T, M⟩ := r
        obtain ⟨hM1, hM2⟩ := hfl T M rfl
        have HX : Hid (xs = pre ++ (⟨T.at_ p, true⟩ :: lexA (f - 1) s.toList (runN blankB s.toList (p + M)))) := Lib.hid (by rw [hx.out, hxs T M rfl])
        have cZ : Hid (∀ W, Calls Try.prog 24 #[.string (s.extract p s.size)] W fun e w' => e = .returned (.tuple #[.agg #[.int .i64 T.k, .int .i64 T.p, .string (bs T.s), .int .i64 T.n], .int .i64 (M : Int), .bool true]) ∧ Below W.heap.size W w') := cF
        have hq1 := runN_le blankB s.toList (p + M) (by rw [toList_size]; omega)
        rw [toList_size] at hq1
        have hq2 := runN_ge blankB s.toList (p + M)
        have cP : Hid (∀ w, Calls Try.prog 23 #[.string s, .int .i64 ((p : Int) + (M : Int))] w fun e w' => e = .returned (.int .i64 (runN blankB s.toList (p + M) : Nat)) ∧ w = w') := Lib.hid (fun w => past_any s (p + M) hs (by omega) w)
        generalize runN blankB s.toList (p + M) = z' at HX hq1 hq2 cP
        have i1 : (0 : Int) ≤ (M : Int) := by omega
        have i2 : (p : Int) + (M : Int) ≤ (s.size : Int) := by omega
        have i3 : (s.size : Int) ≤ 20000 := by omega
        clear cF hfl hxn hxs hx
        gi_wp2_with fail
        refine ⟨trivial, (callsIn_wide.2 (cZ.out _)).mono ?_⟩
        rintro e w1 ⟨rfl, hb⟩
        have hB2 : Below wr.heap.size wr (w1.alloc (.cells #[.int .i64 T.k, .int .i64 p, .string (bs T.s), .int .i64 T.n] 32)) :=
          hb.alloc hb.size _
        obtain ⟨fn, tmps, assign, body, hy0, hR⟩ := hY pre ⟨T.at_ p, true⟩ _ ⟨lexA (f - 1) s.toList z', by rw [HX.out]; simp⟩ (hst _ _ _ hJ.out hB2)
        have hy : (Instr.yield l #[.agg #[.int .i64 T.k, .int .i64 p, .string (bs T.s), .int .i64 T.n], .bool true]).run Try.prog (w1.alloc (.cells #[.int .i64 T.k, .int .i64 p, .string (bs T.s), .int .i64 T.n] 32)) = _ := hy0
        have HRR := Lib.hid hR
        clear hy0 hB2 hb hR
        gi_wp2_with fail
        refine HRR.out.mono ?_
        rintro e W3 (⟨rfl, hJ3⟩ | ⟨rfl, hJx3⟩)
        · have HJ := Lib.hid hJ3
          clear hJ3 hy
          gi_wp2_with fail
          refine ⟨trivial, (callsIn_wide.2 (cP.out _)).mono ?_⟩
          rintro e w' ⟨rfl, rfl⟩
          gi_wp2_with fail
          go_roundw
          case rel => exact ⟨pre ++ [⟨T.at_ p, true⟩], z', f - 1, rfl, by omega, by omega, Lib.hid (by rw [HX.out]; simp), HJ⟩
          case measure => simp [intOf]; omega
        · have HJ := Lib.hid hJx3
          clear hJx3 hy
          gi_wp2_with fail
          refine bodyPost_ret (results_none rfl _ _ _) rfl ?_
          exact ⟨⟨_, rfl⟩, .inr ⟨_, ⟨lexA (f - 1) s.toList z', by rw [HX.out]; simp⟩, HJ.out⟩⟩
    · have HX : Hid (xs = pre) := Lib.hid (by rw [hx.out, lexA_end _ _ _ (by rw [toList_size]; omega), List.append_nil])
      gi_wp2
      go_end0
      exact ⟨⟨_, rfl⟩, .inl (by rw [HX.out]; exact hJ.out)⟩
end Go.Proofs.Ythjbmlgjlndihaa
