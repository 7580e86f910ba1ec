/- The document's numbers of any greatness: contracts of digit, size, trim and Of. -/
import Derived.Test.YtgjimgopfpaimaaS
import Derived.Test.YtgjimgopfpaimaaP
import Derived.Laws.ResultCell
namespace Go.Proofs.Ytgjimgopfpaimaa
open Go.RowKit

set_option maxHeartbeats 400000 in
theorem digit_any (A : Option Addr) (B n c : Nat) (l : List Int) (i : Nat) (w : World) (h : Ints w B A n l) (hi : i ≤ 140737488355328) :
    Calls Try.prog 44 #[.slice A n c, .int .i64 (i : Int)] w fun e w' => e = .returned (.int .i64 (l.getD i 0)) ∧ w = w' := by
  have HI := Lib.hid h
  have hn := h.2.1
  clear h
  by_cases hlt : i < n
  · obtain ⟨b, off, rfl, hb, hc⟩ := HI.out.2.2.2 (by omega)
    have hck := hc i hlt
    clear hc
    generalize l.getD i 0 = x at hck
    go_enter Try.func44, Try.ntmps44
    go_wp2
    go_ret
    exact ⟨rfl, rfl⟩
  · have hz : Hid (l.getD i 0 = 0) := Lib.hid (by have := HI.out.1; simp [show l.length ≤ i by omega])
    go_enter Try.func44, Try.ntmps44
    go_wp2
    go_ret
    exact ⟨ret_int hz.out.symm, rfl⟩

/-- What trim answers: the sign, if anything is left, and the row without its noughts behind. -/
def TrimPost (m : Bool) (A : Option Addr) (n c : Nat) (l : List Int) (e : Ending) : Prop :=
  ∃ k, e = .returned (.agg #[.bool (m && decide (0 < k)), .slice A k c]) ∧ k ≤ n ∧ valD (l.take k) = valD l ∧ Norm (l.take k)

set_option maxHeartbeats 800000 in
theorem trim_any (m : Bool) (A : Option Addr) (B n c : Nat) (l : List Int) (w : World) (h : Ints w B A n l) (hB : B ≤ w.heap.size) (hc : n ≤ c) (hcm : c ≤ maxLen) :
    Calls Try.prog 35 #[.bool m, .slice A n c] w fun e w' => TrimPost m A n c l e ∧ Below w.heap.size w w' := by
  have HI := Lib.hid h
  have hn := h.2.1
  unfold maxLen at hcm
  clear h
  go_enter Try.func35, Try.ntmps35
  go_wp2
  go_loop [5] (fun i => ∃ k : Nat, k ≤ n ∧ i = .int .i64 k ∧ Hid (∀ j, k ≤ j → j < l.length → l.getD j 0 = 0)) (fun i => (intOf i).toNat)
  case atStart => exact ⟨n, Nat.le_refl _, rfl, Lib.hid (fun j h1 h2 => absurd h1 (by have := HI.out.1; omega))⟩
  case round =>
    obtain ⟨k, hk, rfl, hz⟩ := hrel
    by_cases h0 : 0 < k
    · have h0' : (0 : Int) < (k : Int) := by omega
      obtain ⟨b, off, rfl, hb, hc'⟩ := HI.out.2.2.2 (by omega)
      obtain ⟨j, rfl⟩ : ∃ j, k = j + 1 := ⟨k - 1, by omega⟩
      have hck : w.cell? ⟨b, off + j, none⟩ = some (.int .i64 (l.getD j 0)) := hc' j (by omega)
      clear hc'
      have hca : (w.alloc (.cells #[.bool false, .slice none 0 0] 46)).cell? ⟨b, off + j, none⟩ = some (.int .i64 (l.getD j 0)) := by
        rw [World.cell?_alloc_past _ _ _ (by show b < _; omega)]; exact hck
      clear hck
      by_cases hx : l.getD j 0 = 0
      · have HX : Hid (∀ i, j ≤ i → i < l.length → l.getD i 0 = 0) := Lib.hid (fun i h1 h2 => by
          by_cases e : i = j
          · subst e; exact hx
          · exact hz.out i (by omega) h2)
        rw [hx] at hca
        clear hx hz
        go_wp2
        go_round
        case rel => exact ⟨j, by omega, rfl, HX⟩
        case measure => simp [intOf]
      · have hxb : (l.getD j 0 == 0) = false := by rw [beq_eq_false_iff_ne]; exact hx
        have HP : Hid (valD (l.take (j + 1)) = valD l ∧ Norm (l.take (j + 1))) := Lib.hid ⟨valD_noughts l _ hz.out, norm_take l _ (by have := HI.out.1; omega) (.inr hx)⟩
        clear hx hz
        generalize l.getD j 0 = x at hca hxb
        have h1 : (j : Int) + 1 ≤ (c : Int) := by omega
        cases m
        · go_wp2
          exact bodyPost_ret (v := .agg #[.bool false, .slice (some ⟨b, off, none⟩) (j + 1) c]) (by simp [results, Try.results35, go_sem]) rfl ⟨⟨j + 1, rfl, hk, HP.out.1, HP.out.2⟩, below_new _ _⟩
        · go_wp2
          exact bodyPost_ret (v := .agg #[.bool true, .slice (some ⟨b, off, none⟩) (j + 1) c]) (by simp [results, Try.results35, go_sem]) rfl ⟨⟨j + 1, by simp, hk, HP.out.1, HP.out.2⟩, below_new _ _⟩
    · obtain rfl : k = 0 := by omega
      have HP : Hid (valD (l.take 0) = valD l ∧ Norm (l.take 0)) := Lib.hid ⟨valD_noughts l _ hz.out, norm_take l _ (by omega) (.inl rfl)⟩
      clear hz
      cases m
      all_goals
        go_wp2
        exact bodyPost_ret (v := .agg #[.bool false, .slice A 0 c]) (by simp [results, Try.results35, go_sem]) rfl ⟨⟨0, by simp, hk, HP.out.1, HP.out.2⟩, below_new _ _⟩

/-- A number of any greatness, as the document's own arithmetic keeps it: its sign, its digits, at most k of them. -/
def NumV (w : World) (k : Nat) (v : Value) (x : Int) : Prop :=
  ∃ (m : Bool) (A : Option Addr) (n c : Nat) (ds : List Int), v = .agg #[.bool m, .slice A n c] ∧ Ints w w.heap.size A n ds ∧ n ≤ c ∧ c ≤ maxLen ∧ n ≤ k ∧ Digs ds ∧ Norm ds ∧ (m = true → 0 < n) ∧ x = (if m then -valD ds else valD ds)
def SomeNum (w : World) (k : Nat) (e : Ending) (x : Int) : Prop := ∃ v, e = .returned v ∧ NumV w k v x

theorem digs_fits {l : List Int} (h : Digs l) : ∀ x ∈ l, fitsB x = true := fun x hx => by have := h x hx; rw [fits_iff]; omega
theorem OwnInts.form {w : World} {base : Nat} {v : Value} {l : List Int} (h : OwnInts w base v l) (hl : l.length ≤ 140737488355328) (hf : ∀ x ∈ l, fitsB x = true) :
    ∃ A c, v = .slice A l.length c ∧ l.length ≤ c ∧ c ≤ maxLen ∧ Ints w w.heap.size A l.length l ∧ (A = none → c = 0) := by
  rcases Nat.eq_zero_or_pos l.length with h0 | h0
  · have e : l = [] := List.eq_nil_of_length_eq_zero h0
    subst e
    rcases h.2 with ⟨rfl, _⟩ | ⟨g, cap, cur, rfl, _, _, hnc, hcm, _⟩
    · exact ⟨none, 0, rfl, Nat.le_refl _, by unfold maxLen; omega, ⟨rfl, by simp, by simp, fun h => absurd h (by simp)⟩, fun _ => rfl⟩
    · exact ⟨_, cap, rfl, hnc, hcm, ⟨rfl, by simp, by simp, fun h => absurd h (by simp)⟩, fun e => by cases e⟩
  · obtain ⟨g, cap, rfl, h1, h2, _, h3⟩ := h.ints h0 hl hf
    exact ⟨_, cap, rfl, h1, h2, h3, fun e => by cases e⟩
theorem OwnInts.alloc {w : World} {base : Nat} {v : Value} {l : List Int} (h : OwnInts w base v l) (o : Obj) : OwnInts (w.alloc o) base v l := World.ownsRow.alloc h o
theorem Ints.one (w : World) (x : Int) (hx : fitsB x = true) : Ints (w.alloc (.cells #[.int .i64 x] 3)) (w.heap.size + 1) (some ⟨w.heap.size, 0, none⟩) 1 [x] := by
  refine ⟨rfl, by omega, ?_, fun _ => ⟨_, _, rfl, by omega, ?_⟩⟩
  · intro u hu; simp at hu; subst hu; exact hx
  · intro j hj
    rw [World.cell?_alloc_at _ _ _ _ rfl]
    obtain rfl : j = 0 := by omega
    rfl
theorem Ints.store {w : World} {B n : Nat} {A : Option Addr} {l : List Int} (h : Ints w B A n l) {p : Addr} {v : Value} (hp : w.cell? p = some v) (hv : ∀ k z, v ≠ .int k z) (u : Value) : Ints (w.setCell p u) B A n l :=
  ⟨h.1, h.2.1, h.2.2.1, fun h0 => by
    obtain ⟨b, off, e, hb, hc⟩ := h.2.2.2 h0
    refine ⟨b, off, e, hb, fun j hj => ?_⟩
    rw [World.cell?_setCell_other]
    · exact hc j hj
    · intro e2
      have := hc j hj
      rw [← e2, hp] at this
      injection this with this
      exact hv _ _ this⟩

/-- A number stored into a struct of its own: it is that number there. -/
theorem num_store {w1 : World} {g : Nat} {b0 : Bool} {a1 : Option Addr} {l1 k1 : Nat} (m : Bool) {A : Option Addr} {k c K : Nat} {ds : List Int} {x : Int}
    (c0 : w1.cell? ⟨g, 0, none⟩ = some (.bool b0)) (c1 : w1.cell? ⟨g, 1, none⟩ = some (.slice a1 l1 k1)) (hI : Ints w1 w1.heap.size A k ds) (hkc : k ≤ c) (hcm : c ≤ maxLen) (hK : k ≤ K) (hd : Digs ds) (hn : Norm ds)
    (hm : m = true → 0 < k) (hx : x = if m then -valD ds else valD ds) :
    NumV ((w1.setCell ⟨g, 0, none⟩ (.bool m)).setCell ⟨g, 1, none⟩ (.slice A k c)) K (.agg #[.bool m, .slice A k c]) x := by
  refine ⟨m, A, k, c, ds, rfl, ?_, hkc, hcm, hK, hd, hn, hm, hx⟩
  have h1 := hI.store c0 (by intro k z e; cases e) (.bool m)
  have e1 : (w1.setCell ⟨g, 0, none⟩ (.bool m)).cell? ⟨g, 1, none⟩ = some (.slice a1 l1 k1) := by
    rw [World.cell?_setCell_other]
    · exact c1
    · intro e; injection e with _ e; cases e
  have h2 := h1.store e1 (by intro k z e; cases e) (.slice A k c)
  simpa using h2

set_option maxHeartbeats 400000 in
theorem of_neg (n : Int) (w : World) (hf : fitsB n = true) (h : n < 0) :
    Calls Try.prog 26 #[.int .i64 n] w fun e w' => SomeNum w' 19 e n ∧ Below w.heap.size w w' := by
  have HF := Lib.hid ((fits_iff _).1 hf)
  clear hf
  go_enter Try.func26, Try.ntmps26
  go_wp2
  go_loopw [3, 4] (fun v x wr => ∃ (q : Nat) (ds : List Int), x = .int .i64 (-(q : Int)) ∧ Hid (OwnInts wr (w.heap.size + 1) v ds) ∧ Hid (Digs ds) ∧ Hid (valD ds + ten ds.length * q = n.natAbs) ∧ Hid (ds.length ≤ 19) ∧ Hid (Below (w.heap.size + 1) (w.alloc (.cells #[.bool false, .slice none 0 0] 46)) wr)) (fun _ x _ => (intOf x).natAbs)
  case atStart =>
    exact ⟨n.natAbs, [], by congr 1; omega, Lib.hid (ownInts_nil _ _), Lib.hid digs_nil, Lib.hid (by simp [valD, ten_zero]), Lib.hid (by simp), Lib.hid (Below.refl _ _)⟩
  case round =>
    obtain ⟨q, ds, rfl, ho, hd, hv, hl, hbel⟩ := hrel
    by_cases h0 : q = 0
    · subst h0
      obtain ⟨A, c, rfl, hc, hcm, hI, _⟩ := ho.out.form (by have := hl.out; omega) (digs_fits hd.out)
      have HI := Lib.hid hI
      have HCM := Lib.hid hcm
      clear hI hcm
      go_wp2_with fail
      refine (trim_any _ _ _ _ _ _ _ HI.out (Nat.le_refl _) hc HCM.out).mono ?_
      rintro e w1 ⟨⟨k, rfl, hk, hvk, hnk⟩, hb1⟩
      have HV := Lib.hid hvk
      have HN := Lib.hid hnk
      have hb2 := hbel.out.trans (hb1.mono (by have := hbel.out.size; simpa using this))
      have hz2 : w.heap.size < w1.heap.size := by have := hb2.size; simp at this; omega
      have HB := Lib.hid hb2
      have c0 : w1.cell? ⟨w.heap.size, 0, none⟩ = some (.bool false) := by rw [hb2.cell (by simp)]; exact World.cell?_alloc_at _ _ _ _ rfl
      have c1 : w1.cell? ⟨w.heap.size, 1, none⟩ = some (.slice none 0 0) := by rw [hb2.cell (by simp)]; exact World.cell?_alloc_at _ _ _ _ rfl
      have f0 : w1.frozen? ⟨w.heap.size, 0, none⟩ = false := by rw [hb2.frozen (by simp)]; exact World.frozen?_alloc_at _ _ _ _ rfl
      have f1 : w1.frozen? ⟨w.heap.size, 1, none⟩ = false := by rw [hb2.frozen (by simp)]; exact World.frozen?_alloc_at _ _ _ _ rfl
      have I1 := Lib.hid (((HI.out.front k hk).below hb1 (Nat.le_refl _)).more hb1.size)
      have HB3 : Hid (Below w.heap.size w w1) := Lib.hid ((below_new _ _).trans (hb2.mono (by omega)))
      clear hvk hnk hb1 hb2
      go_wp2
      refine bodyPost_ret (v := .agg #[.bool (decide (0 < k)), .slice A k c]) (by simp [results, Try.results26, go_sem, c0, c1]) rfl ⟨⟨_, rfl, num_store _ c0 c1 I1.out (by omega) HCM.out (by have := hl.out; omega) (digs_take hd.out k) HN.out (by simp) ?_⟩, (HB3.out.setCell (Nat.le_refl _) _).setCell (Nat.le_refl _) _⟩
      have e1 := hv.out
      rw [HV.out]
      have hk0 : 0 < k := by
        rcases Nat.eq_zero_or_pos k with h' | h'
        · subst h'
          have := HV.out
          simp [valD] at this
          simp [← this] at e1
          omega
        · exact h'
      simp [hk0]
      simp at e1
      omega
    · obtain ⟨q', r, hqr, hr9⟩ : ∃ q' r : Nat, q = r + 10 * q' ∧ r ≤ 9 := ⟨q / 10, q % 10, by omega, by omega⟩
      have hqe : Hid ((q : Int) = r + 10 * q') := Lib.hid (by omega)
      have HL : Hid (ds.length ≤ 18) := Lib.hid (by
        have e1 := hv.out
        have e2 := valD_nonneg hd.out
        have e3 := HF.out
        have e4 := ten_pos ds.length
        rcases Nat.lt_or_ge 18 ds.length with hh | hh
        · have e5 := ten_mono (show 19 ≤ ds.length by omega)
          have e6 : ten ds.length ≤ ten ds.length * q := by
            have := Int.mul_le_mul_of_nonneg_left (show (1 : Int) ≤ q by omega) (Int.le_of_lt e4)
            rwa [Int.mul_one] at this
          have e7 : ten 19 = 10000000000000000000 := by decide
          omega
        · exact hh)
      have hq0 : ((-(q : Int)) != 0) = true := by rw [bne_iff_ne]; omega
      have hqb : (q : Int) ≤ 9223372036854775808 := by
        have e1 := hv.out
        have e2 := valD_nonneg hd.out
        have e3 := HF.out
        have e4 := ten_pos ds.length
        have e6 : (q : Int) ≤ ten ds.length * q := by
          have := Int.mul_le_mul_of_nonneg_right (show (1 : Int) ≤ ten ds.length by omega) (show (0 : Int) ≤ q by omega)
          rwa [Int.one_mul] at this
        omega
      have hr : (-(q : Int)).tmod 10 = -(r : Int) := by rw [Int.neg_tmod, Int.tmod_eq_emod_of_nonneg (by omega)]; omega
      have hdv : (-(q : Int)).tdiv 10 = -(q' : Int) := by rw [Int.neg_tdiv, Int.tdiv_eq_ediv_of_nonneg (by omega)]; omega
      have hlt : q' < q := by omega
      have hqb' : (q' : Int) ≤ 922337203685477580 := by omega
      clear hqr h0
      by_cases hr0 : r = 0
      · subst hr0
        have hr' : (-(q : Int)).tmod 10 = 0 := by simpa using hr
        clear hr
        go_wp2_with (at_builtin; refine append_ints rfl (.tmp 15) (.tmp 17) rfl (w.heap.size + 1) _ ds rfl (ho.out.alloc _) (some ⟨wr.heap.size, 0, none⟩) (wr.heap.size + 1) 1 1 [0] rfl (by simp) (Ints.one wr 0 (by rw [fits_iff]; omega)) (by have := hl.out; omega) (by have := hbel.out.size; simp at this ⊢; omega) ?_; intro v1 w1 ho1 hg1; have O1 := Lib.hid ho1; have B1 : Hid (Below (w.heap.size + 1) (w.alloc (.cells #[.bool false, .slice none 0 0] 46)) w1) := Lib.hid ((hbel.out.alloc (by have := hbel.out.size; simpa using this) _).grown hg1 (by have := hbel.out.size; simp at this ⊢; omega) (fun g e => (World.ownsRow.lt ho.out g e).1)); clear ho1 hg1)
        go_roundw
        case rel => exact ⟨q', ds ++ [0], by go_num, O1, Lib.hid (digs_snoc hd.out (by omega) (by omega)), Lib.hid (by rw [valD_snoc, List.length_append, List.length_singleton, ten_succ, ← hv.out, hqe.out, Int.mul_zero, show ((0 : Nat) : Int) = 0 from rfl, Int.zero_add, ← Int.mul_assoc, Int.mul_comm (ten ds.length) 10, Int.add_zero]), Lib.hid (by have := HL.out; simp; omega), B1⟩
        case measure => simp [intOf]; omega
      · have hr0' : (0 : Int) < r := by omega
        go_wp2_with (at_builtin; refine append_ints rfl (.tmp 15) (.tmp 17) rfl (w.heap.size + 1) _ ds rfl (ho.out.alloc _) (some ⟨wr.heap.size, 0, none⟩) (wr.heap.size + 1) 1 1 [(r : Int)] rfl (by simp) (Ints.one wr (r : Int) (by rw [fits_iff]; omega)) (by have := hl.out; omega) (by have := hbel.out.size; simp at this ⊢; omega) ?_; intro v1 w1 ho1 hg1; have O1 := Lib.hid ho1; have B1 : Hid (Below (w.heap.size + 1) (w.alloc (.cells #[.bool false, .slice none 0 0] 46)) w1) := Lib.hid ((hbel.out.alloc (by have := hbel.out.size; simpa using this) _).grown hg1 (by have := hbel.out.size; simp at this ⊢; omega) (fun g e => (World.ownsRow.lt ho.out g e).1)); clear ho1 hg1)
        go_roundw
        case rel => exact ⟨q', ds ++ [(r : Int)], by go_num, O1, Lib.hid (digs_snoc hd.out (by omega) (by omega)), Lib.hid (by rw [valD_snoc, List.length_append, List.length_singleton, ten_succ, ← hv.out, hqe.out, Int.mul_add, ← Int.mul_assoc, Int.mul_comm (ten ds.length) 10, Int.add_assoc]), Lib.hid (by have := HL.out; simp; omega), B1⟩
        case measure => simp [intOf]; omega

set_option maxHeartbeats 400000 in
theorem of_pos (n : Int) (w : World) (hf : fitsB n = true) (h : 0 ≤ n) :
    Calls Try.prog 26 #[.int .i64 n] w fun e w' => SomeNum w' 19 e n ∧ Below w.heap.size w w' := by
  have HF := Lib.hid ((fits_iff _).1 hf)
  clear hf
  go_enter Try.func26, Try.ntmps26
  go_wp2
  go_loopw [3, 4] (fun v x wr => ∃ (q : Nat) (ds : List Int), x = .int .i64 (q : Int) ∧ Hid (OwnInts wr (w.heap.size + 1) v ds) ∧ Hid (Digs ds) ∧ Hid (valD ds + ten ds.length * q = n.natAbs) ∧ Hid (ds.length ≤ 19) ∧ Hid (Below (w.heap.size + 1) (w.alloc (.cells #[.bool false, .slice none 0 0] 46)) wr)) (fun _ x _ => (intOf x).natAbs)
  case atStart =>
    exact ⟨n.natAbs, [], by congr 1; omega, Lib.hid (ownInts_nil _ _), Lib.hid digs_nil, Lib.hid (by simp [valD, ten_zero]), Lib.hid (by simp), Lib.hid (Below.refl _ _)⟩
  case round =>
    obtain ⟨q, ds, rfl, ho, hd, hv, hl, hbel⟩ := hrel
    by_cases h0 : q = 0
    · subst h0
      obtain ⟨A, c, rfl, hc, hcm, hI, _⟩ := ho.out.form (by have := hl.out; omega) (digs_fits hd.out)
      have HI := Lib.hid hI
      have HCM := Lib.hid hcm
      clear hI hcm
      go_wp2_with fail
      refine (trim_any _ _ _ _ _ _ _ HI.out (Nat.le_refl _) hc HCM.out).mono ?_
      rintro e w1 ⟨⟨k, rfl, hk, hvk, hnk⟩, hb1⟩
      have HV := Lib.hid hvk
      have HN := Lib.hid hnk
      have hb2 := hbel.out.trans (hb1.mono (by have := hbel.out.size; simpa using this))
      have hz2 : w.heap.size < w1.heap.size := by have := hb2.size; simp at this; omega
      have HB := Lib.hid hb2
      have c0 : w1.cell? ⟨w.heap.size, 0, none⟩ = some (.bool false) := by rw [hb2.cell (by simp)]; exact World.cell?_alloc_at _ _ _ _ rfl
      have c1 : w1.cell? ⟨w.heap.size, 1, none⟩ = some (.slice none 0 0) := by rw [hb2.cell (by simp)]; exact World.cell?_alloc_at _ _ _ _ rfl
      have f0 : w1.frozen? ⟨w.heap.size, 0, none⟩ = false := by rw [hb2.frozen (by simp)]; exact World.frozen?_alloc_at _ _ _ _ rfl
      have f1 : w1.frozen? ⟨w.heap.size, 1, none⟩ = false := by rw [hb2.frozen (by simp)]; exact World.frozen?_alloc_at _ _ _ _ rfl
      have I1 := Lib.hid (((HI.out.front k hk).below hb1 (Nat.le_refl _)).more hb1.size)
      have HB3 : Hid (Below w.heap.size w w1) := Lib.hid ((below_new _ _).trans (hb2.mono (by omega)))
      clear hvk hnk hb1 hb2
      go_wp2
      refine bodyPost_ret (v := .agg #[.bool (decide (n < 0) && decide (0 < k)), .slice A k c]) (by simp [results, Try.results26, go_sem, c0, c1]) rfl ⟨⟨_, rfl, num_store _ c0 c1 I1.out (by omega) HCM.out (by have := hl.out; omega) (digs_take hd.out k) HN.out (by intro e; simp at e; omega) ?_⟩, (HB3.out.setCell (Nat.le_refl _) _).setCell (Nat.le_refl _) _⟩
      have e1 := hv.out
      rw [HV.out]
      have hn0 : decide (n < 0) = false := by simp; omega
      simp [hn0]
      simp at e1
      omega
    · obtain ⟨q', r, hqr, hr9⟩ : ∃ q' r : Nat, q = r + 10 * q' ∧ r ≤ 9 := ⟨q / 10, q % 10, by omega, by omega⟩
      have hqe : Hid ((q : Int) = r + 10 * q') := Lib.hid (by omega)
      have HL : Hid (ds.length ≤ 18) := Lib.hid (by
        have e1 := hv.out
        have e2 := valD_nonneg hd.out
        have e3 := HF.out
        have e4 := ten_pos ds.length
        rcases Nat.lt_or_ge 18 ds.length with hh | hh
        · have e5 := ten_mono (show 19 ≤ ds.length by omega)
          have e6 : ten ds.length ≤ ten ds.length * q := by
            have := Int.mul_le_mul_of_nonneg_left (show (1 : Int) ≤ q by omega) (Int.le_of_lt e4)
            rwa [Int.mul_one] at this
          have e7 : ten 19 = 10000000000000000000 := by decide
          omega
        · exact hh)
      have hq0 : ((q : Int) != 0) = true := by rw [bne_iff_ne]; omega
      have hqb : (q : Int) ≤ 9223372036854775808 := by
        have e1 := hv.out
        have e2 := valD_nonneg hd.out
        have e3 := HF.out
        have e4 := ten_pos ds.length
        have e6 : (q : Int) ≤ ten ds.length * q := by
          have := Int.mul_le_mul_of_nonneg_right (show (1 : Int) ≤ ten ds.length by omega) (show (0 : Int) ≤ q by omega)
          rwa [Int.one_mul] at this
        omega
      have hr : (q : Int) % 10 = (r : Int) := by omega
      have hdv : (q : Int) / 10 = (q' : Int) := by omega
      have hlt : q' < q := by omega
      have hqb' : (q' : Int) ≤ 922337203685477580 := by omega
      clear hqr h0
      go_wp2_with (at_builtin; refine append_ints rfl (.tmp 15) (.tmp 17) rfl (w.heap.size + 1) _ ds rfl (ho.out.alloc _) (some ⟨wr.heap.size, 0, none⟩) (wr.heap.size + 1) 1 1 [(r : Int)] rfl (by simp) (Ints.one wr (r : Int) (by rw [fits_iff]; omega)) (by have := hl.out; omega) (by have := hbel.out.size; simp at this ⊢; omega) ?_; intro v1 w1 ho1 hg1; have O1 := Lib.hid ho1; have B1 : Hid (Below (w.heap.size + 1) (w.alloc (.cells #[.bool false, .slice none 0 0] 46)) w1) := Lib.hid ((hbel.out.alloc (by have := hbel.out.size; simpa using this) _).grown hg1 (by have := hbel.out.size; simp at this ⊢; omega) (fun g e => (World.ownsRow.lt ho.out g e).1)); clear ho1 hg1)
      go_roundw
      case rel => exact ⟨q', ds ++ [(r : Int)], by go_num, O1, Lib.hid (digs_snoc hd.out (by omega) (by omega)), Lib.hid (by rw [valD_snoc, List.length_append, List.length_singleton, ten_succ, ← hv.out, hqe.out, Int.mul_add, ← Int.mul_assoc, Int.mul_comm (ten ds.length) 10, Int.add_assoc]), Lib.hid (by have := HL.out; simp; omega), B1⟩
      case measure => simp [intOf]; omega

theorem of_any (n : Int) (w : World) (hf : fitsB n = true) : Calls Try.prog 26 #[.int .i64 n] w fun e w' => SomeNum w' 19 e n ∧ Below w.heap.size w w' := by
  by_cases h : n < 0
  · exact of_neg n w hf h
  · exact of_pos n w hf (by omega)
end Go.Proofs.Ytgjimgopfpaimaa
