/- The document's reader of texts: a vertex or an edge; a text. -/
import Derived.Test.YtmgjiipooffggaaSb
namespace Go.Proofs.Ytmgjiipooffggaa
set_option maxRecDepth 100000
open Go.RowKit Go.Sort

/-- A value that is read at a place, and where it ends; R is what stands there. -/
def PPost (s : ByteArray) (a : Nat) (R : Option (V × Bs)) (r : Nat) (w : World) (e : Ending) (w' : World) : Prop :=
  ∃ (y : At) (n : Int), e = .returned (.tuple #[y.v, .int .i64 n]) ∧ Rd w' w.heap.size w'.heap.size (r + 1) y.t y.A y.c y.A' y.c' ∧ Below w.heap.size w w' ∧ (n = -1 ∨ ∃ k : Nat, n = (k : Int) ∧ a < k ∧ k ≤ s.size ∧ cntV r y.t + a ≤ k) ∧ ∀ t q, R = some (t, q) → y.t = t ∧ ∃ k : Nat, n = (k : Int) ∧ s.toList.drop k = q
theorem pp_end {s : ByteArray} {a : Nat} {R : Option (V × Bs)} {r : Nat} {w w1 F : World} {r0 lo : Nat} {q : At} {n : Int} (hr : w.heap.size ≤ r0) (hk : ∀ lo B, r0 < lo → Kept lo B w1 F) (hs : F.heap.size = w1.heap.size) (hbel : ∀ B w0, B ≤ r0 → Below B w0 w1 → Below B w0 F)
    (hb : Below w.heap.size w w1) (hq : Rd w1 lo w1.heap.size (r + 1) q.t q.A q.c q.A' q.c') (hlo : r0 < lo) (hn : n = -1 ∨ ∃ k : Nat, n = (k : Int) ∧ a < k ∧ k ≤ s.size ∧ cntV r q.t + a ≤ k) (hR : ∀ t z, R = some (t, z) → q.t = t ∧ ∃ k : Nat, n = (k : Int) ∧ s.toList.drop k = z) :
    PPost s a R r w (.returned (.tuple #[q.v, .int .i64 n])) F :=
  ⟨q, n, rfl, Rd.imp (hk lo w1.heap.size hlo) (by omega) (by rw [hs]; exact Nat.le_refl _) (Nat.le_refl _) hq, hbel _ _ hr hb, hn, hR⟩
theorem pp_plain {s : ByteArray} {a : Nat} {R : Option (V × Bs)} {r : Nat} {w w1 F : World} {r0 : Nat} {k n : Int} {b : ByteArray} {e : Int} (hr : w.heap.size ≤ r0) (hk : ∀ lo B, r0 < lo → Kept lo B w1 F) (hs : F.heap.size = w1.heap.size) (hbel : ∀ B w0, B ≤ r0 → Below B w0 w1 → Below B w0 F)
    (hb : Below w.heap.size w w1) (hF : Fld (.mk k n b [] [])) (hn : e = -1 ∨ ∃ j : Nat, e = (j : Int) ∧ a < j ∧ j ≤ s.size ∧ 1 + b.size / 20 + a ≤ j) (hR : ∀ t z, R = some (t, z) → .mk k n b [] [] = t ∧ ∃ j : Nat, e = (j : Int) ∧ s.toList.drop j = z) :
    PPost s a R (r + 1) w (.returned (.tuple #[.agg #[.int .i64 k, .int .i64 n, .string b, .slice none 0 0, .slice none 0 0], .int .i64 e])) F :=
  pp_end (q := ⟨.mk k n b [] [], none, 0, none, 0⟩) (lo := r0 + 1) hr hk hs hbel hb (rd_plain _ _ _ _ k n b hF) (Nat.lt_succ_self _) (by
    rcases hn with h | ⟨j, h1, h2, h3, h4⟩
    · exact .inl h
    · exact .inr ⟨j, h1, h2, h3, by simp only [cntV, sumN, V.l, V.m, V.s]; omega⟩) hR

theorem dig_end (l : Bs) (a : Nat) : digE l a = -1 ∨ ∃ j : Nat, digE l a = (j : Int) ∧ a < j ∧ j ≤ a + l.length := by
  unfold digE
  by_cases h : parseE (l.takeWhile numB) = 0
  · rw [if_pos h]
    refine .inr ⟨_, rfl, ?_, ?_⟩
    · rcases Nat.eq_zero_or_pos (l.takeWhile numB).length with h0 | h0
      · rw [List.length_eq_zero_iff.1 h0] at h
        exact absurd h (by decide)
      · omega
    · have := (List.takeWhile_prefix numB (l := l)).length_le
      omega
  · rw [if_neg h]; exact .inl rfl
theorem dig_fits (l : Bs) : -9223372036854775808 ≤ digN l ∧ digN l ≤ 9223372036854775807 := by
  unfold digN
  split
  · exact parseV_fits _
  · omega
theorem thing_rel {k : Int} {l q : Bs} {t : V} (a : Nat) (h : thingR k l = some (t, q)) : ∃ m, digE l a = ((a + m : Nat) : Int) ∧ [93].isPrefixOf (l.drop m) = true ∧ t = .mk k (digN l) ⟨#[]⟩ [] [] ∧ q = l.drop (m + 1) := by
  unfold thingR at h
  cases hn : numR l with
  | none => rw [hn] at h; cases h
  | some p =>
    obtain ⟨n, z⟩ := p
    rw [hn] at h
    obtain ⟨h1, m, h2, h3⟩ := numR_dig a hn
    simp only [takeL] at h
    by_cases hp : [93].isPrefixOf z = true
    · rw [if_pos hp] at h
      injection h with h
      injection h with h4 h5
      refine ⟨m, h2, by rw [h3]; exact hp, by rw [h1]; exact h4.symm, ?_⟩
      rw [← h5, ← h3, List.drop_drop]; rfl
    · rw [if_neg hp] at h; cases h
theorem fld_small (k n : Int) (hk : 0 ≤ k ∧ k ≤ 8) (hn : -9223372036854775808 ≤ n ∧ n ≤ 9223372036854775807) (b : ByteArray) (hb : b.size ≤ 10000) : Fld (.mk k n b [] []) := fld_mk _ _ (by omega) (by omega) hn.1 hn.2 (by omega)
theorem fld_zero : Fld (.mk 0 0 ⟨#[]⟩ [] []) := fld_small 0 0 (by omega) (by omega) _ (by decide)

set_option maxHeartbeats 1600000 in
theorem pthing_any (s : ByteArray) (a : Nat) (k : Int) (r : Nat) (w : World) (hs : s.size ≤ 3000) (ha : a ≤ s.size) (hk : 0 ≤ k ∧ k ≤ 8) :
    Calls Try.prog 62 #[.string s, .int .i64 (a : Int), .int .i64 k] w (PPost s a (thingR k (s.toList.drop a)) (r + 1) w) := by
  have REL := Lib.hid (fun t q h => thing_rel (k := k) (l := s.toList.drop a) (q := q) (t := t) a h)
  have NF := Lib.hid (dig_fits (s.toList.drop a))
  have DE := dig_end (s.toList.drop a) a
  rw [List.length_drop, toList_size] at DE
  have HK := Lib.hid hk
  clear hk
  go_enter Try.func62, Try.ntmps62
  go_upto_region 1 with fail
  have z0 := below_new w (.cells #[.int .i64 0, .int .i64 0, .string ⟨#[]⟩, .slice none 0 0, .slice none 0 0] 24)
  have c0 := Cell.new w (.int .i64 0) (.int .i64 0) (.string ⟨#[]⟩) (.slice none 0 0) (.slice none 0 0)
  generalize hW : World.alloc w (.cells #[.int .i64 0, .int .i64 0, .string ⟨#[]⟩, .slice none 0 0, .slice none 0 0] 24) = W0 at z0 c0 ⊢
  clear hW
  have B0 := Lib.hid z0
  have C0 := Lib.hid c0
  clear z0 c0
  obtain ⟨r0, hr0⟩ : ∃ r0 : Nat, r0 = w.heap.size := ⟨_, rfl⟩
  rw [← hr0] at C0
  rw [← hr0]
  have HR0 := Lib.hid hr0
  clear hr0
  have DG := pdig_any s a W0 hs ha
  unfold DigPost at DG
  generalize digN (s.toList.drop a) = N at DG NF REL
  generalize digE (s.toList.drop a) a = E at DG DE REL
  replace DG := Lib.hid DG
  go_wp2_with fail
  refine DG.out.mono ?_
  rintro e w2 ⟨rfl, hb⟩
  have BB := Lib.hid (bnext B0.out hb)
  have CC := Lib.hid (C0.out.below hb C0.out.blk.lt)
  clear hb DG C0 B0
  rcases DE with hE | ⟨j, hE, m0, m1⟩
  · subst hE
    obtain ⟨s0, s1, s2, s3, s4, p0, p1, p2, p3, p4, hblk⟩ := CC.out
    have HRB := Lib.hid (ret_box hblk (.int .i64 0) (.int .i64 0) (.string ⟨#[]⟩) (.slice none 0 0) (.slice none 0 0))
    clear hblk
    go_wp2
    obtain ⟨F, hF, ⟨r0', r1', r2', r3', r4', _⟩, hk', hs', hbel'⟩ := HRB.out
    rw [← hF]
    clear hF
    exact bodyPost_ret (v := .tuple #[.agg #[.int .i64 0, .int .i64 0, .string ⟨#[]⟩, .slice none 0 0, .slice none 0 0], .int .i64 (-1)]) (by simp [results, Try.results62, go_sem, r0', r1', r2', r3', r4']) rfl (pp_plain (Nat.le_of_eq HR0.out.symm) hk' hs' hbel' BB.out fld_zero (.inl rfl) (fun t q h => by obtain ⟨m, h1, _⟩ := REL.out t q h; omega))
  · subst hE
    have hEn : ¬ (j : Int) < 0 := by omega
    have WD := pword_any s ⟨#[93]⟩ j w2 hs (by omega) (by decide) (by decide)
    rw [show (⟨#[93]⟩ : ByteArray).toList = [93] from lit_list [93]] at WD
    generalize hb : atL [93] s.toList j = b at WD
    have HB := Lib.hid hb
    replace WD := Lib.hid WD
    clear hb
    go_wp2_with fail
    refine WD.out.mono ?_
    rintro e w3 ⟨rfl, rfl⟩
    clear WD
    cases b with
    | false =>
      obtain ⟨s0, s1, s2, s3, s4, p0, p1, p2, p3, p4, hblk⟩ := CC.out
      have HRB := Lib.hid (ret_box hblk (.int .i64 0) (.int .i64 0) (.string ⟨#[]⟩) (.slice none 0 0) (.slice none 0 0))
      clear hblk
      go_wp2
      obtain ⟨F, hF, ⟨r0', r1', r2', r3', r4', _⟩, hk', hs', hbel'⟩ := HRB.out
      rw [← hF]
      clear hF
      exact bodyPost_ret (v := .tuple #[.agg #[.int .i64 0, .int .i64 0, .string ⟨#[]⟩, .slice none 0 0, .slice none 0 0], .int .i64 (-1)]) (by simp [results, Try.results62, go_sem, r0', r1', r2', r3', r4']) rfl (pp_plain (Nat.le_of_eq HR0.out.symm) hk' hs' hbel' BB.out fld_zero (.inl rfl) (fun t q h => by
        obtain ⟨m', h1, h2, _⟩ := REL.out t q h
        have hj : j = a + m' := by omega
        have h3 := HB.out
        unfold atL at h3
        rw [hj, ← List.drop_drop, h2] at h3
        cases h3))
    | true =>
      have hj1 : j < s.size := by
        have h3 := HB.out
        unfold atL at h3
        have := (List.isPrefixOf_iff_prefix.1 h3).length_le
        rw [List.length_drop, toList_size] at this
        simp at this
        omega
      have i1 : wrap64 ((j : Int) + 1) = (j : Int) + 1 := by unfold wrap64; omega
      obtain ⟨s0, s1, s2, s3, s4, p0, p1, p2, p3, p4, hblk⟩ := CC.out
      have HRB := Lib.hid (ret_box hblk (.int .i64 k) (.int .i64 N) (.string ⟨#[]⟩) (.slice none 0 0) (.slice none 0 0))
      clear hblk
      go_wp2
      obtain ⟨F, hF, ⟨r0', r1', r2', r3', r4', _⟩, hk', hs', hbel'⟩ := HRB.out
      rw [← hF]
      clear hF
      exact bodyPost_ret (v := .tuple #[.agg #[.int .i64 k, .int .i64 N, .string ⟨#[]⟩, .slice none 0 0, .slice none 0 0], .int .i64 ((j : Int) + 1)]) (by simp [results, Try.results62, go_sem, r0', r1', r2', r3', r4']) rfl (pp_plain (Nat.le_of_eq HR0.out.symm) hk' hs' hbel' BB.out (fld_small k N HK.out NF.out _ (by decide)) (.inr ⟨j + 1, by omega, by omega, by omega, by show 1 + 0 / 20 + a ≤ _; omega⟩) (fun t q h => by
        obtain ⟨m', h1, _, h4, h5⟩ := REL.out t q h
        have hj : j = a + m' := by omega
        exact ⟨h4.symm, j + 1, by omega, by rw [h5, List.drop_drop, hj]; rfl⟩))end Go.Proofs.Ytmgjiipooffggaa
