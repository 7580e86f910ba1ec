/- LexerTexts, walked. -/
import Derived.Test.YthjbmlgjlndihaaLJ
import Derived.Test.YthjbmlgjlndihaaLS
import Derived.Deep.CutBlock
import Derived.IntWalk
namespace Go.Proofs.Ythjbmlgjlndihaa
set_option maxRecDepth 100000
open Go.RowKit Go.Sort

/-! Plain: a text with a backslash ahead of each quote and each backslash. -/
def escB (c : UInt8) : Bs := if c = 39 ∨ c = 92 then [92, c] else [c]
def escL (s : Bs) : Bs := s.flatMap escB
def goodB (s : Bs) : Bool := s.all fun c => decide (32 ≤ c.toNat)
theorem escL_cons (c : UInt8) (s : Bs) : escL (c :: s) = escB c ++ escL s := rfl
theorem escL_snoc (s : Bs) (c : UInt8) : escL (s ++ [c]) = escL s ++ escB c := by simp [escL]
theorem escL_len : ∀ s : Bs, (escL s).length ≤ 2 * s.length
  | [] => by simp [escL]
  | c :: s => by
    have := escL_len s
    have h : (escB c).length ≤ 2 := by unfold escB; split <;> simp
    rw [escL_cons, List.length_append, List.length_cons]; omega
theorem byte_39 {c : UInt8} (h : c = 39) : c.toNat = 39 := by rw [h]; rfl
theorem byte_92 {c : UInt8} (h : c = 92) : c.toNat = 92 := by rw [h]; rfl
theorem not_39 {c : UInt8} (h : ¬ c = 39) : ¬ c.toNat = 39 := fun e => h (UInt8.toNat_inj.1 e)
theorem not_92 {c : UInt8} (h : ¬ c = 92) : ¬ c.toNat = 92 := fun e => h (UInt8.toNat_inj.1 e)
theorem esc_step (c : UInt8) (r acc : Bs) (i : Nat) (h32 : ¬ c.toNat < 32) (h : ¬ acc.length = 1000) : textP (escB c ++ r) acc i = textP r (acc ++ [c]) (i + (escB c).length) := by
  unfold escB
  split
  · rename_i hc
    rw [List.cons_append, List.cons_append, List.nil_append, textP_cons]
    simp only []
    rw [if_neg (by decide), if_neg (by decide), if_pos (by decide), if_pos (by rcases hc with h | h; exact .inl (byte_39 h); exact .inr (byte_92 h)), if_neg h]
    rfl
  · rename_i hc
    rw [List.cons_append, List.nil_append, textP_cons, if_neg h32, if_neg (not_39 (fun e => hc (.inl e))), if_neg (not_92 (fun e => hc (.inr e))), if_neg h]
    rfl
theorem esc_full (c : UInt8) (r acc : Bs) (i : Nat) (h : acc.length = 1000) : textP (escB c ++ r) acc i = none := by
  unfold escB
  split
  · rename_i hc
    rw [List.cons_append, List.cons_append, List.nil_append, textP_cons]
    simp only []
    rw [if_neg (by decide), if_neg (by decide), if_pos (by decide), if_pos (by rcases hc with h | h; exact .inl (byte_39 h); exact .inr (byte_92 h)), if_pos h]
  · rename_i hc
    rw [List.cons_append, List.nil_append, textP_cons]
    by_cases h32 : c.toNat < 32
    · rw [if_pos h32]
    · rw [if_neg h32, if_neg (not_39 (fun e => hc (.inl e))), if_neg (not_92 (fun e => hc (.inr e))), if_pos h]
theorem esc_low (c : UInt8) (r acc : Bs) (i : Nat) (h : c.toNat < 32) : textP (escB c ++ r) acc i = none := by
  unfold escB
  rw [if_neg (by rintro (e | e); have := byte_39 e; omega; have := byte_92 e; omega), List.cons_append, textP_cons, if_pos h]
theorem esc_all (r : Bs) : ∀ (s acc : Bs) (i : Nat), goodB s = true → acc.length + s.length ≤ 1000 → textP (escL s ++ r) acc i = textP r (acc ++ s) (i + (escL s).length)
  | [], acc, i, _, _ => by simp [escL]
  | c :: s, acc, i, hg, hl => by
    simp only [goodB, List.all_cons, Bool.and_eq_true, decide_eq_true_eq] at hg
    rw [List.length_cons] at hl
    rw [escL_cons, List.append_assoc, esc_step c _ _ _ (by omega) (by omega), esc_all r s _ _ hg.2 (by rw [List.length_append, List.length_singleton]; omega)]
    rw [List.length_append, List.append_assoc, Nat.add_assoc]
    rfl
theorem esc_no (r : Bs) : ∀ (s acc : Bs) (i : Nat), acc.length ≤ 1000 → ¬ (goodB s = true ∧ acc.length + s.length ≤ 1000) → textP (escL s ++ r) acc i = none
  | [], acc, i, h, hn => absurd ⟨rfl, by simpa using h⟩ hn
  | c :: s, acc, i, h, hn => by
    rw [escL_cons, List.append_assoc]
    by_cases hlow : c.toNat < 32
    · exact esc_low c _ _ _ hlow
    · by_cases hf : acc.length = 1000
      · exact esc_full c _ _ _ hf
      · rw [esc_step c _ _ _ hlow hf]
        refine esc_no r s _ _ (by rw [List.length_append, List.length_singleton]; omega) (fun hh => hn ⟨?_, ?_⟩)
        · simp only [goodB, List.all_cons, Bool.and_eq_true, decide_eq_true_eq]
          exact ⟨by omega, hh.1⟩
        · have := hh.2
          rw [List.length_append, List.length_singleton] at this
          rw [List.length_cons]; omega
theorem first_39 (m : Bs) : firstP (39 :: m) = textO (textP m [] 1) := by
  unfold firstP
  rw [show (39 :: m : Bs).headD 0 = 39 from rfl, if_neg (by decide), if_neg (by decide), if_pos (by decide)]
  rfl
theorem its_39_none (m : Bs) (h : textP m [] 1 = none) : its (39 :: m) 0 = [⟨TK.zero.at_ 0, false⟩] := its_none 39 m 0 (by decide) (by rw [first_39, h]; rfl)
theorem all_39_none (m : Bs) (hl : m.length < 20000) (h : textP m [] 1 = none) : allL (39 :: m) = ([], 0, 30) := all_bad (by rw [List.length_cons]; omega) (xs := []) (x := ⟨TK.zero.at_ 0, false⟩) (its_39_none m h) (by simp) rfl
theorem all_39 (s : Bs) (hl : s.length ≤ 1000) (hg : goodB s = true) : allL (39 :: (escL s ++ [39])) = ([⟨3, 0, s, 0⟩], 0, 0) := by
  have hx := esc_all [39] s [] 1 hg (by simpa using hl)
  rw [textP_cons, if_neg (by decide), if_pos (by decide), List.nil_append] at hx
  have he := escL_len s
  have hi := its_some 39 (escL s ++ [39]) 0 (by decide) ⟨3, 0, s, 0⟩ (1 + (escL s).length + 1) (by rw [first_39, hx]; rfl)
  rw [List.drop_eq_nil_of_le (by simp; omega), its_nil] at hi
  rw [all_ok (by simp; omega) (by rw [hi]; intro x hx; simp at hx; rw [hx]), hi]
  rfl
theorem all_39_open (s : Bs) (hl : s.length ≤ 1000) (hg : goodB s = true) : allL (39 :: escL s) = ([], 0, 30) := by
  have hx := esc_all [] s [] 1 hg (by simpa using hl)
  rw [List.append_nil, textP_nil] at hx
  exact all_39_none _ (by have := escL_len s; omega) hx
theorem all_39_low (s : Bs) (hl : s.length ≤ 1000) (hg : goodB s = true) (c : UInt8) (hc : c.toNat < 32) : allL (39 :: (escL s ++ [c, 39])) = ([], 0, 30) := by
  have hx := esc_all [c, 39] s [] 1 hg (by simpa using hl)
  rw [textP_cons, if_pos hc] at hx
  exact all_39_none _ (by have := escL_len s; simp; omega) hx
theorem all_39_bad (s : Bs) (hl : s.length ≤ 1500) (hn : ¬ (s.length ≤ 1000 ∧ goodB s = true)) : allL (39 :: (escL s ++ [39])) = ([], 0, 30) := by
  refine all_39_none _ (by have := escL_len s; simp; omega) (esc_no [39] s [] 1 (by simp) (fun hh => hn ⟨by simpa using hh.2, hh.1⟩))

theorem BRow.elem {w : World} {A : Option Addr} {c : Nat} {l : Bs} (h : BRow w A c l) {k : Nat} (hk : k < l.length) : ∃ b off x, A = some ⟨b, off, none⟩ ∧ b < w.heap.size ∧ l[k]? = some x ∧ w.cell? ⟨b, off + k, none⟩ = some (u8v x) := by
  obtain ⟨b, off, e, hb, hc⟩ := h.at_ (by omega)
  exact ⟨b, off, l[k], e, hb, List.getElem?_eq_getElem hk, hc k _ (List.getElem?_eq_getElem hk)⟩
theorem bown_one (w : World) (z : Int) (x : UInt8) (hz : z = (x.toNat : Int)) : BOwn (w.alloc (.cells #[.int .u8 z] 5)) w.heap.size (some ⟨w.heap.size, 0, none⟩) 1 1 [x] :=
  ⟨by simp, .inr ⟨w.heap.size, 1, _, rfl, Nat.le_refl _, World.alloc_heap_new w _, by simp, by unfold maxLen; omega, by simp, by subst hz; simp⟩⟩
theorem take_snocB (s : Bs) (k : Nat) {x : UInt8} (h : s[k]? = some x) : s.take (k + 1) = s.take k ++ [x] := by rw [List.take_add_one, h]; rfl

theorem texts_1 (W : World) (A : Option Addr) (n c : Nat) (x : Int) (h : ¬ n ≤ 1500) : Calls Try.prog 6 #[.slice A n c, .int .u8 x] W (Tr W) := by
  have h1i : (1500 : Int) < (n : Int) := by omega
  clear h
  go_enter Try.func6, Try.ntmps6
  go_wp2_with fail
  refine (known_any _).mono ?_
  rintro e w' ⟨rfl, hb⟩
  have HB := Lib.hid hb
  clear hb
  go_wp2
  go_ret
  exact ⟨rfl, HB.out⟩

theorem bown_39 (W : World) : BOwn (W.alloc (.cells #[.int .u8 39] 5)) W.heap.size (some ⟨W.heap.size, 0, none⟩) 1 1 [39] := bown_one W 39 39 (by decide)
theorem brow_low (w : World) (z : UInt8) : BRow (w.alloc (.cells #[.int .u8 (z.toNat : Int), .int .u8 39] 5)) (some ⟨w.heap.size, 0, none⟩) 2 [z, 39] := brow_two w z 39
def w0 (W : World) : World := W.alloc (.cells #[.int .u8 39] 5)
theorem brow_92 (w : World) : BRow (w.alloc (.cells #[.int .u8 92] 5)) (some ⟨w.heap.size, 0, none⟩) 1 [92] := brow_one w 92
theorem brow_39 (w : World) : BRow (w.alloc (.cells #[.int .u8 39] 5)) (some ⟨w.heap.size, 0, none⟩) 1 [39] := brow_one w 39

set_option maxHeartbeats 6400000 in
theorem texts_2 (W : World) (A : Option Addr) (n c : Nat) (y : Int) (hy0 : 0 ≤ y) (hy1 : y ≤ 255) (s : Bs) (hA : BRow W A c s) (hn : n = s.length) (h1 : n ≤ 1500) (h2 : n ≤ 1000) (hg : Hid (goodB s = true)) (hR1 : Hid (allL (39 :: escL s) = ([], 0, 30))) (hR2 : Hid (allL (39 :: (escL s ++ [39])) = ([⟨3, 0, s, 0⟩], 0, 0))) (hR3 : Hid (∀ z : UInt8, z.toNat < 32 → allL (39 :: (escL s ++ [z, 39])) = ([], 0, 30))) : Calls Try.prog 6 #[.slice A n c, .int .u8 y] W (Tr W) := by
  have h1i : (n : Int) ≤ 1500 := by omega
  have HN := Lib.hid hn
  have HA := Lib.hid hA
  clear hn hA
  have hd : decide ((n : Int) ≤ 1000) = true := by simp; omega
  obtain ⟨z, hz1, hz2⟩ : ∃ z : UInt8, y % 32 = (z.toNat : Int) ∧ z.toNat < 32 := ⟨UInt8.ofNat (y % 32).toNat, by simp; omega, by simp; omega⟩
  go_enter Try.func6, Try.ntmps6
  go_wp2_with fail
  have O0 : Hid (BOwn (w0 W) W.heap.size (some ⟨W.heap.size, 0, none⟩) 1 1 [39]) := Lib.hid (by unfold w0; exact bown_39 W)
  have G0 : Hid (Below W.heap.size W (w0 W)) := Lib.hid (by unfold w0; exact below_new W _)
  unfold w0 at O0 G0
  generalize World.alloc W _ = W0 at O0 G0 ⊢
  go_loopw [5, 6, 7] (fun q r v wr => ∃ (k lq cq : Nat) (Aq : Option Addr) (rb : Bool) (lqs : Bs), v = .int .i64 k ∧ q = .slice Aq lq cq ∧ r = .bool rb ∧ k ≤ n ∧ 1 ≤ lq ∧ lq ≤ 1 + 2 * k ∧ Hid (lqs = 39 :: escL (s.take k)) ∧ Hid (rb = (true && goodB (s.take k))) ∧ Hid (BOwn wr W.heap.size Aq lq cq lqs) ∧ Hid (Below W.heap.size W wr)) (fun _ _ v _ => n - (RowKit.intOf v).toNat)
  case atStart => exact ⟨0, 1, 1, _, true, [39], rfl, rfl, rfl, by omega, by omega, by omega, Lib.hid (by simp [escL]), Lib.hid (by simp [goodB]), O0, G0⟩
  case round =>
    obtain ⟨k, lq, cq, Aq, rb, lqs, rfl, rfl, rfl, hk, hl0, hl1, hls, hrb, hown, hbel⟩ := hrel
    by_cases hlt : k < n
    · obtain ⟨b1, o1, x, rfl, hb1, hx, q0⟩ := HA.out.elem (k := k) (by have := HN.out; omega)
      have q1 := cell_below hbel.out q0 hb1
      have HQ0 := Lib.hid q0
      clear q0
      have HTK := Lib.hid (take_snocB s k hx)
      have HLS := Lib.hid hls.out
      have hlti : (k : Int) < (n : Int) := by omega
      clear hls hx
      have hg1 : goodB (s.take k ++ [x]) = (goodB (s.take k) && decide (32 ≤ (x.toNat : Int))) := by unfold goodB; rw [List.all_append, List.all_cons, List.all_nil, Bool.and_true]; congr 1; rw [decide_eq_decide]; omega
      cases rb
      · have HRB : false = (true && goodB (s.take k ++ [x])) := by rw [hg1]; have := hrb.out; revert this; cases goodB (s.take k) <;> simp
        replace HRB := Lib.hid HRB
        clear hg1 hrb
        by_cases h39 : x = 39
        · have HE : Hid (escB x = [92, x]) := Lib.hid (if_pos (.inl h39))
          have h39' := byte_39 h39
          have e1 : (((x.toNat : Int)) == 39) = true := by simp; omega
          clear h39 h39'
          go_wp2_with (first
            | (at_builtin; refine append_anyB rfl (.tmp 44) (.tmp 45) rfl W.heap.size (hown.out.next (below_new wr _)) rfl rfl (brow_92 wr) rfl (by omega) (by have := hbel.out.size; simp; omega) ?_; intro A1 c1 w1 hown1 hgr1; have O1 := Lib.hid hown1; have G1 : Hid (Below W.heap.size W w1) := Lib.hid (grown_below (Nat.le_refl _) (hbel.out.alloc hbel.out.size _) hgr1 (own_block hown.out)); clear hown1 hgr1; have q2 := cell_below G1.out HQ0.out hb1)
            | (at_builtin; refine append_anyB rfl (.tmp 55) (.tmp 60) rfl W.heap.size (O1.out.next (below_new w1 _)) rfl rfl (brow_one w1 x) rfl (by omega) (by have := G1.out.size; simp; omega) ?_; intro A2 c2 w2 hown2 hgr2; have O2 := Lib.hid hown2; have G2 : Hid (Below W.heap.size W w2) := Lib.hid (grown_below (Nat.le_refl _) (G1.out.alloc G1.out.size _) hgr2 (own_block O1.out)); clear hown2 hgr2))
          go_roundw
          case rel => exact ⟨k + 1, lq + 1 + 1, c2, A2, false, lqs ++ [92] ++ [x], by go_num, rfl, rfl, by omega, by omega, by omega, Lib.hid (by have h1 := HLS.out; have h2 := HE.out; rw [HTK.out, escL_snoc, h2, ← List.cons_append, ← h1]; simp), Lib.hid (by rw [HTK.out]; exact HRB.out), O2, G2⟩
          case measure => simp [RowKit.intOf]; omega
        · by_cases h92 : x = 92
          · have HE : Hid (escB x = [92, x]) := Lib.hid (if_pos (.inr h92))
            have h92' := byte_92 h92
            have e1 : (((x.toNat : Int)) == 39) = false := by simp; omega
            have e2 : (((x.toNat : Int)) == 92) = true := by simp; omega
            clear h39 h92 h92'
            go_wp2_with (first
              | (at_builtin; refine append_anyB rfl (.tmp 44) (.tmp 45) rfl W.heap.size (hown.out.next (below_new wr _)) rfl rfl (brow_92 wr) rfl (by omega) (by have := hbel.out.size; simp; omega) ?_; intro A1 c1 w1 hown1 hgr1; have O1 := Lib.hid hown1; have G1 : Hid (Below W.heap.size W w1) := Lib.hid (grown_below (Nat.le_refl _) (hbel.out.alloc hbel.out.size _) hgr1 (own_block hown.out)); clear hown1 hgr1; have q2 := cell_below G1.out HQ0.out hb1)
              | (at_builtin; refine append_anyB rfl (.tmp 55) (.tmp 60) rfl W.heap.size (O1.out.next (below_new w1 _)) rfl rfl (brow_one w1 x) rfl (by omega) (by have := G1.out.size; simp; omega) ?_; intro A2 c2 w2 hown2 hgr2; have O2 := Lib.hid hown2; have G2 : Hid (Below W.heap.size W w2) := Lib.hid (grown_below (Nat.le_refl _) (G1.out.alloc G1.out.size _) hgr2 (own_block O1.out)); clear hown2 hgr2))
            go_roundw
            case rel => exact ⟨k + 1, lq + 1 + 1, c2, A2, false, lqs ++ [92] ++ [x], by go_num, rfl, rfl, by omega, by omega, by omega, Lib.hid (by have h1 := HLS.out; have h2 := HE.out; rw [HTK.out, escL_snoc, h2, ← List.cons_append, ← h1]; simp), Lib.hid (by rw [HTK.out]; exact HRB.out), O2, G2⟩
            case measure => simp [RowKit.intOf]; omega
          · have HE : Hid (escB x = [x]) := Lib.hid (if_neg (by rintro (h | h); exact h39 h; exact h92 h))
            have h39' := not_39 h39
            have h92' := not_92 h92
            have e1 : (((x.toNat : Int)) == 39) = false := by simp; omega
            have e2 : (((x.toNat : Int)) == 92) = false := by simp; omega
            clear h39 h92 h39' h92'
            go_wp2_with (at_builtin; refine append_anyB rfl (.tmp 55) (.tmp 60) rfl W.heap.size (hown.out.next (below_new wr _)) rfl rfl (brow_one wr x) rfl (by omega) (by have := hbel.out.size; simp; omega) ?_; intro A2 c2 w2 hown2 hgr2; have O2 := Lib.hid hown2; have G2 : Hid (Below W.heap.size W w2) := Lib.hid (grown_below (Nat.le_refl _) (hbel.out.alloc hbel.out.size _) hgr2 (own_block hown.out)); clear hown2 hgr2)
            go_roundw
            case rel => exact ⟨k + 1, lq + 1, c2, A2, false, lqs ++ [x], by go_num, rfl, rfl, by omega, by omega, by omega, Lib.hid (by have h1 := HLS.out; have h2 := HE.out; rw [HTK.out, escL_snoc, h2, ← List.cons_append, ← h1]), Lib.hid (by rw [HTK.out]; exact HRB.out), O2, G2⟩
            case measure => simp [RowKit.intOf]; omega
      · have HRB : decide (32 ≤ (x.toNat : Int)) = (true && goodB (s.take k ++ [x])) := by rw [hg1]; have := hrb.out; revert this; cases goodB (s.take k) <;> simp
        replace HRB := Lib.hid HRB
        clear hg1 hrb
        by_cases h39 : x = 39
        · have HE : Hid (escB x = [92, x]) := Lib.hid (if_pos (.inl h39))
          have h39' := byte_39 h39
          have e1 : (((x.toNat : Int)) == 39) = true := by simp; omega
          clear h39 h39'
          go_wp2_with (first
            | (at_builtin; refine append_anyB rfl (.tmp 44) (.tmp 45) rfl W.heap.size (hown.out.next (below_new wr _)) rfl rfl (brow_92 wr) rfl (by omega) (by have := hbel.out.size; simp; omega) ?_; intro A1 c1 w1 hown1 hgr1; have O1 := Lib.hid hown1; have G1 : Hid (Below W.heap.size W w1) := Lib.hid (grown_below (Nat.le_refl _) (hbel.out.alloc hbel.out.size _) hgr1 (own_block hown.out)); clear hown1 hgr1; have q2 := cell_below G1.out HQ0.out hb1)
            | (at_builtin; refine append_anyB rfl (.tmp 55) (.tmp 60) rfl W.heap.size (O1.out.next (below_new w1 _)) rfl rfl (brow_one w1 x) rfl (by omega) (by have := G1.out.size; simp; omega) ?_; intro A2 c2 w2 hown2 hgr2; have O2 := Lib.hid hown2; have G2 : Hid (Below W.heap.size W w2) := Lib.hid (grown_below (Nat.le_refl _) (G1.out.alloc G1.out.size _) hgr2 (own_block O1.out)); clear hown2 hgr2))
          go_roundw
          case rel => exact ⟨k + 1, lq + 1 + 1, c2, A2, decide (32 ≤ (x.toNat : Int)), lqs ++ [92] ++ [x], by go_num, rfl, rfl, by omega, by omega, by omega, Lib.hid (by have h1 := HLS.out; have h2 := HE.out; rw [HTK.out, escL_snoc, h2, ← List.cons_append, ← h1]; simp), Lib.hid (by rw [HTK.out]; exact HRB.out), O2, G2⟩
          case measure => simp [RowKit.intOf]; omega
        · by_cases h92 : x = 92
          · have HE : Hid (escB x = [92, x]) := Lib.hid (if_pos (.inr h92))
            have h92' := byte_92 h92
            have e1 : (((x.toNat : Int)) == 39) = false := by simp; omega
            have e2 : (((x.toNat : Int)) == 92) = true := by simp; omega
            clear h39 h92 h92'
            go_wp2_with (first
              | (at_builtin; refine append_anyB rfl (.tmp 44) (.tmp 45) rfl W.heap.size (hown.out.next (below_new wr _)) rfl rfl (brow_92 wr) rfl (by omega) (by have := hbel.out.size; simp; omega) ?_; intro A1 c1 w1 hown1 hgr1; have O1 := Lib.hid hown1; have G1 : Hid (Below W.heap.size W w1) := Lib.hid (grown_below (Nat.le_refl _) (hbel.out.alloc hbel.out.size _) hgr1 (own_block hown.out)); clear hown1 hgr1; have q2 := cell_below G1.out HQ0.out hb1)
              | (at_builtin; refine append_anyB rfl (.tmp 55) (.tmp 60) rfl W.heap.size (O1.out.next (below_new w1 _)) rfl rfl (brow_one w1 x) rfl (by omega) (by have := G1.out.size; simp; omega) ?_; intro A2 c2 w2 hown2 hgr2; have O2 := Lib.hid hown2; have G2 : Hid (Below W.heap.size W w2) := Lib.hid (grown_below (Nat.le_refl _) (G1.out.alloc G1.out.size _) hgr2 (own_block O1.out)); clear hown2 hgr2))
            go_roundw
            case rel => exact ⟨k + 1, lq + 1 + 1, c2, A2, decide (32 ≤ (x.toNat : Int)), lqs ++ [92] ++ [x], by go_num, rfl, rfl, by omega, by omega, by omega, Lib.hid (by have h1 := HLS.out; have h2 := HE.out; rw [HTK.out, escL_snoc, h2, ← List.cons_append, ← h1]; simp), Lib.hid (by rw [HTK.out]; exact HRB.out), O2, G2⟩
            case measure => simp [RowKit.intOf]; omega
          · have HE : Hid (escB x = [x]) := Lib.hid (if_neg (by rintro (h | h); exact h39 h; exact h92 h))
            have h39' := not_39 h39
            have h92' := not_92 h92
            have e1 : (((x.toNat : Int)) == 39) = false := by simp; omega
            have e2 : (((x.toNat : Int)) == 92) = false := by simp; omega
            clear h39 h92 h39' h92'
            go_wp2_with (at_builtin; refine append_anyB rfl (.tmp 55) (.tmp 60) rfl W.heap.size (hown.out.next (below_new wr _)) rfl rfl (brow_one wr x) rfl (by omega) (by have := hbel.out.size; simp; omega) ?_; intro A2 c2 w2 hown2 hgr2; have O2 := Lib.hid hown2; have G2 : Hid (Below W.heap.size W w2) := Lib.hid (grown_below (Nat.le_refl _) (hbel.out.alloc hbel.out.size _) hgr2 (own_block hown.out)); clear hown2 hgr2)
            go_roundw
            case rel => exact ⟨k + 1, lq + 1, c2, A2, decide (32 ≤ (x.toNat : Int)), lqs ++ [x], by go_num, rfl, rfl, by omega, by omega, by omega, Lib.hid (by have h1 := HLS.out; have h2 := HE.out; rw [HTK.out, escL_snoc, h2, ← List.cons_append, ← h1]), Lib.hid (by rw [HTK.out]; exact HRB.out), O2, G2⟩
            case measure => simp [RowKit.intOf]; omega
    · obtain rfl : k = n := by omega
      have hL : s.take k = s := List.take_of_length_le (by have := HN.out; omega)
      have HLS := Lib.hid (show lqs = 39 :: escL s by rw [hls.out, hL])
      have HRB := hrb.out
      rw [hL] at HRB
      have HLQ := Lib.hid (show lq = (39 :: escL s).length by rw [← HLS.out]; exact hown.out.len.symm)
      have OQ := Lib.hid (show BOwn wr W.heap.size Aq lq cq (39 :: escL s) by rw [← HLS.out]; exact hown.out)
      clear hls hrb hL hown HLS
      have HRB' : rb = true := by rw [HRB, hg.out]; rfl
      subst HRB'
      clear HRB
      go_wp2_with fail
      refine (all_at (by have := HLQ.out; omega) HLQ.out hR1.out rfl OQ.out.row).mono ?_
      rintro e w1 ⟨A1, c1, rfl, hO1, hb1⟩
      have G1 : Hid (Below W.heap.size W w1) := Lib.hid (hbel.out.trans (hb1.mono hbel.out.size))
      have OQ1 := Lib.hid (OQ.out.next hb1)
      clear hO1 hb1
      go_wp2_with (at_builtin; refine append_anyB rfl (.tmp 68) (.tmp 69) rfl W.heap.size (OQ1.out.next (below_new w1 _)) rfl rfl (brow_39 w1) rfl (by omega) (by have := G1.out.size; simp; omega) ?_; intro A2 c2 w2 hown2 hgr2; have O2 : Hid (BOwn w2 W.heap.size A2 (lq + 1) c2 (39 :: (escL s ++ [39]))) := Lib.hid (by simpa using hown2); have G2 : Hid (Below W.heap.size W w2) := Lib.hid (grown_below (Nat.le_refl _) (G1.out.alloc G1.out.size _) hgr2 (own_block OQ1.out)); clear hown2 hgr2)
      refine (all_at (by have := O2.out.len; omega) O2.out.len.symm hR2.out rfl O2.out.row).mono ?_
      rintro e w3 ⟨A3, c3, rfl, hO3, hb3⟩
      have G3 : Hid (Below W.heap.size W w3) := Lib.hid (G2.out.trans (hb3.mono G2.out.size))
      have O3 := Lib.hid (O2.out.next hb3)
      have T3 := Lib.hid hO3.row
      clear hO3 hb3
      obtain ⟨X1, run1, X1r⟩ := O3.out.row.front (lq + 1) lq (by have := O3.out.len; omega)
      have HX1 := Lib.hid (show BRow w3 X1 c2 (39 :: escL s) by have h1 := X1r; have h2 := HLQ.out; rw [← List.cons_append, List.take_append_of_le_length (by omega), List.take_of_length_le (by omega)] at h1; exact h1)
      have hw1 : (lq : Int) + 1 - 1 = (lq : Int) := by omega
      clear X1r
      go_wp2_with (first
        | (at_builtin; refine append_anyB rfl (.tmp 88) (.tmp 93) rfl w3.heap.size (bown_nil _ _) rfl rfl HX1.out HLQ.out.symm (by omega) (Nat.le_refl _) ?_; intro A4 c4 w4 hown hgr; have O4 : Hid (BOwn w4 w3.heap.size A4 lq c4 (39 :: escL s)) := Lib.hid (by simpa using hown); have G4 : Hid (Below w3.heap.size w3 w4) := Lib.hid (grown_below (Nat.le_refl _) (Below.refl w3.heap.size w3) hgr (fun k e => by cases e)); clear hown hgr)
        | (at_builtin; refine append_anyB rfl (.tmp 95) (.tmp 98) rfl w3.heap.size (O4.out.next (below_new w4 _)) rfl rfl (brow_low w4 z) rfl (by omega) (by have := G4.out.size; simp; omega) ?_; intro A5 c5 w5 hown hgr; have O5 : Hid (BOwn w5 w3.heap.size A5 (lq + 2) c5 (39 :: (escL s ++ [z, 39]))) := Lib.hid (by simpa using hown); have G5 : Hid (Below w3.heap.size w3 w5) := Lib.hid (grown_below (Nat.le_refl _) (G4.out.alloc G4.out.size _) hgr (own_block O4.out)); clear hown hgr))
      refine (all_at (by have := O5.out.len; omega) O5.out.len.symm (hR3.out z hz2) rfl O5.out.row).mono ?_
      rintro e w6 ⟨A6, c6, rfl, hO6, hb6⟩
      have G6 : Hid (Below W.heap.size W w6) := Lib.hid (G3.out.trans ((G5.out.mono G3.out.size).trans (hb6.mono (by have h1 := G3.out.size; have h2 := G5.out.size; omega))))
      obtain ⟨b7, o7, t7, rfl, hb7, ht7, q7⟩ := ((T3.out.next G5.out).next hb6).elem (k := 0) (by simp)
      injection ht7 with ht7
      subst ht7
      clear hO6 hb6
      obtain ⟨S, hS⟩ : ∃ S, S = bs s := ⟨_, rfl⟩
      have hcv : ∀ W', Below W.heap.size W W' → (convert 22 9 (.slice A k c)).run Try.prog W' = .ok (.string S) W' := fun W' hb => by rw [hS, HN.out]; exact (HA.out.next hb).conv 9 Try.underlying9
      have hcv0 := hcv w6 G6.out
      have hcvn := fun d => hcv (w6.drewN d) (G6.out.trans (drewN_below _ _ _))
      have y0 : w6.cell? ⟨b7, o7, none⟩ = some (.int .i64 3) := by have := q7.c0; simpa using this
      have y2 : w6.cell? ⟨b7, o7 + 2, none⟩ = some (.string S) := by rw [hS]; have := q7.c2; simpa using this
      clear q7 hS hcv
      go_wp2_with fail
      go_quiet (fail)
      go_wp2_with fail
      refine (known_any _).mono ?_
      rintro e w' ⟨rfl, hb⟩
      have HF : Hid (Below W.heap.size W w') := Lib.hid ((G6.out.trans (drewN_below _ _ _)).trans (hb.mono (by have := G6.out.size; exact this)))
      clear hb
      go_wp2
      go_ret
      exact ⟨rfl, HF.out⟩

set_option maxHeartbeats 6400000 in
theorem texts_3 (W : World) (A : Option Addr) (n c : Nat) (y : Int) (_hy0 : 0 ≤ y) (_hy1 : y ≤ 255) (s : Bs) (hA : BRow W A c s) (hn : n = s.length) (h1 : n ≤ 1500) (tb : List TK) (nb eb : Int) (mb : Nat) (htb : mb = tb.length) (h2 : n ≤ 1000) (hg : Hid (goodB s = false)) (hR1 : Hid (allL (39 :: escL s) = (tb, nb, eb))) (hR2 : Hid (allL (39 :: (escL s ++ [39])) = ([], 0, 30))) : Calls Try.prog 6 #[.slice A n c, .int .u8 y] W (Tr W) := by
  have h1i : (n : Int) ≤ 1500 := by omega
  have HN := Lib.hid hn
  have HA := Lib.hid hA
  clear hn hA
  have hd : decide ((n : Int) ≤ 1000) = true := by simp; omega
  obtain ⟨z, hz1, hz2⟩ : ∃ z : UInt8, y % 32 = (z.toNat : Int) ∧ z.toNat < 32 := ⟨UInt8.ofNat (y % 32).toNat, by simp; omega, by simp; omega⟩
  go_enter Try.func6, Try.ntmps6
  go_wp2_with fail
  have O0 : Hid (BOwn (w0 W) W.heap.size (some ⟨W.heap.size, 0, none⟩) 1 1 [39]) := Lib.hid (by unfold w0; exact bown_39 W)
  have G0 : Hid (Below W.heap.size W (w0 W)) := Lib.hid (by unfold w0; exact below_new W _)
  unfold w0 at O0 G0
  generalize World.alloc W _ = W0 at O0 G0 ⊢
  go_loopw [5, 6, 7] (fun q r v wr => ∃ (k lq cq : Nat) (Aq : Option Addr) (rb : Bool) (lqs : Bs), v = .int .i64 k ∧ q = .slice Aq lq cq ∧ r = .bool rb ∧ k ≤ n ∧ 1 ≤ lq ∧ lq ≤ 1 + 2 * k ∧ Hid (lqs = 39 :: escL (s.take k)) ∧ Hid (rb = (true && goodB (s.take k))) ∧ Hid (BOwn wr W.heap.size Aq lq cq lqs) ∧ Hid (Below W.heap.size W wr)) (fun _ _ v _ => n - (RowKit.intOf v).toNat)
  case atStart => exact ⟨0, 1, 1, _, true, [39], rfl, rfl, rfl, by omega, by omega, by omega, Lib.hid (by simp [escL]), Lib.hid (by simp [goodB]), O0, G0⟩
  case round =>
    obtain ⟨k, lq, cq, Aq, rb, lqs, rfl, rfl, rfl, hk, hl0, hl1, hls, hrb, hown, hbel⟩ := hrel
    by_cases hlt : k < n
    · obtain ⟨b1, o1, x, rfl, hb1, hx, q0⟩ := HA.out.elem (k := k) (by have := HN.out; omega)
      have q1 := cell_below hbel.out q0 hb1
      have HQ0 := Lib.hid q0
      clear q0
      have HTK := Lib.hid (take_snocB s k hx)
      have HLS := Lib.hid hls.out
      have hlti : (k : Int) < (n : Int) := by omega
      clear hls hx
      have hg1 : goodB (s.take k ++ [x]) = (goodB (s.take k) && decide (32 ≤ (x.toNat : Int))) := by unfold goodB; rw [List.all_append, List.all_cons, List.all_nil, Bool.and_true]; congr 1; rw [decide_eq_decide]; omega
      cases rb
      · have HRB : false = (true && goodB (s.take k ++ [x])) := by rw [hg1]; have := hrb.out; revert this; cases goodB (s.take k) <;> simp
        replace HRB := Lib.hid HRB
        clear hg1 hrb
        by_cases h39 : x = 39
        · have HE : Hid (escB x = [92, x]) := Lib.hid (if_pos (.inl h39))
          have h39' := byte_39 h39
          have e1 : (((x.toNat : Int)) == 39) = true := by simp; omega
          clear h39 h39'
          go_wp2_with (first
            | (at_builtin; refine append_anyB rfl (.tmp 44) (.tmp 45) rfl W.heap.size (hown.out.next (below_new wr _)) rfl rfl (brow_92 wr) rfl (by omega) (by have := hbel.out.size; simp; omega) ?_; intro A1 c1 w1 hown1 hgr1; have O1 := Lib.hid hown1; have G1 : Hid (Below W.heap.size W w1) := Lib.hid (grown_below (Nat.le_refl _) (hbel.out.alloc hbel.out.size _) hgr1 (own_block hown.out)); clear hown1 hgr1; have q2 := cell_below G1.out HQ0.out hb1)
            | (at_builtin; refine append_anyB rfl (.tmp 55) (.tmp 60) rfl W.heap.size (O1.out.next (below_new w1 _)) rfl rfl (brow_one w1 x) rfl (by omega) (by have := G1.out.size; simp; omega) ?_; intro A2 c2 w2 hown2 hgr2; have O2 := Lib.hid hown2; have G2 : Hid (Below W.heap.size W w2) := Lib.hid (grown_below (Nat.le_refl _) (G1.out.alloc G1.out.size _) hgr2 (own_block O1.out)); clear hown2 hgr2))
          go_roundw
          case rel => exact ⟨k + 1, lq + 1 + 1, c2, A2, false, lqs ++ [92] ++ [x], by go_num, rfl, rfl, by omega, by omega, by omega, Lib.hid (by have h1 := HLS.out; have h2 := HE.out; rw [HTK.out, escL_snoc, h2, ← List.cons_append, ← h1]; simp), Lib.hid (by rw [HTK.out]; exact HRB.out), O2, G2⟩
          case measure => simp [RowKit.intOf]; omega
        · by_cases h92 : x = 92
          · have HE : Hid (escB x = [92, x]) := Lib.hid (if_pos (.inr h92))
            have h92' := byte_92 h92
            have e1 : (((x.toNat : Int)) == 39) = false := by simp; omega
            have e2 : (((x.toNat : Int)) == 92) = true := by simp; omega
            clear h39 h92 h92'
            go_wp2_with (first
              | (at_builtin; refine append_anyB rfl (.tmp 44) (.tmp 45) rfl W.heap.size (hown.out.next (below_new wr _)) rfl rfl (brow_92 wr) rfl (by omega) (by have := hbel.out.size; simp; omega) ?_; intro A1 c1 w1 hown1 hgr1; have O1 := Lib.hid hown1; have G1 : Hid (Below W.heap.size W w1) := Lib.hid (grown_below (Nat.le_refl _) (hbel.out.alloc hbel.out.size _) hgr1 (own_block hown.out)); clear hown1 hgr1; have q2 := cell_below G1.out HQ0.out hb1)
              | (at_builtin; refine append_anyB rfl (.tmp 55) (.tmp 60) rfl W.heap.size (O1.out.next (below_new w1 _)) rfl rfl (brow_one w1 x) rfl (by omega) (by have := G1.out.size; simp; omega) ?_; intro A2 c2 w2 hown2 hgr2; have O2 := Lib.hid hown2; have G2 : Hid (Below W.heap.size W w2) := Lib.hid (grown_below (Nat.le_refl _) (G1.out.alloc G1.out.size _) hgr2 (own_block O1.out)); clear hown2 hgr2))
            go_roundw
            case rel => exact ⟨k + 1, lq + 1 + 1, c2, A2, false, lqs ++ [92] ++ [x], by go_num, rfl, rfl, by omega, by omega, by omega, Lib.hid (by have h1 := HLS.out; have h2 := HE.out; rw [HTK.out, escL_snoc, h2, ← List.cons_append, ← h1]; simp), Lib.hid (by rw [HTK.out]; exact HRB.out), O2, G2⟩
            case measure => simp [RowKit.intOf]; omega
          · have HE : Hid (escB x = [x]) := Lib.hid (if_neg (by rintro (h | h); exact h39 h; exact h92 h))
            have h39' := not_39 h39
            have h92' := not_92 h92
            have e1 : (((x.toNat : Int)) == 39) = false := by simp; omega
            have e2 : (((x.toNat : Int)) == 92) = false := by simp; omega
            clear h39 h92 h39' h92'
            go_wp2_with (at_builtin; refine append_anyB rfl (.tmp 55) (.tmp 60) rfl W.heap.size (hown.out.next (below_new wr _)) rfl rfl (brow_one wr x) rfl (by omega) (by have := hbel.out.size; simp; omega) ?_; intro A2 c2 w2 hown2 hgr2; have O2 := Lib.hid hown2; have G2 : Hid (Below W.heap.size W w2) := Lib.hid (grown_below (Nat.le_refl _) (hbel.out.alloc hbel.out.size _) hgr2 (own_block hown.out)); clear hown2 hgr2)
            go_roundw
            case rel => exact ⟨k + 1, lq + 1, c2, A2, false, lqs ++ [x], by go_num, rfl, rfl, by omega, by omega, by omega, Lib.hid (by have h1 := HLS.out; have h2 := HE.out; rw [HTK.out, escL_snoc, h2, ← List.cons_append, ← h1]), Lib.hid (by rw [HTK.out]; exact HRB.out), O2, G2⟩
            case measure => simp [RowKit.intOf]; omega
      · have HRB : decide (32 ≤ (x.toNat : Int)) = (true && goodB (s.take k ++ [x])) := by rw [hg1]; have := hrb.out; revert this; cases goodB (s.take k) <;> simp
        replace HRB := Lib.hid HRB
        clear hg1 hrb
        by_cases h39 : x = 39
        · have HE : Hid (escB x = [92, x]) := Lib.hid (if_pos (.inl h39))
          have h39' := byte_39 h39
          have e1 : (((x.toNat : Int)) == 39) = true := by simp; omega
          clear h39 h39'
          go_wp2_with (first
            | (at_builtin; refine append_anyB rfl (.tmp 44) (.tmp 45) rfl W.heap.size (hown.out.next (below_new wr _)) rfl rfl (brow_92 wr) rfl (by omega) (by have := hbel.out.size; simp; omega) ?_; intro A1 c1 w1 hown1 hgr1; have O1 := Lib.hid hown1; have G1 : Hid (Below W.heap.size W w1) := Lib.hid (grown_below (Nat.le_refl _) (hbel.out.alloc hbel.out.size _) hgr1 (own_block hown.out)); clear hown1 hgr1; have q2 := cell_below G1.out HQ0.out hb1)
            | (at_builtin; refine append_anyB rfl (.tmp 55) (.tmp 60) rfl W.heap.size (O1.out.next (below_new w1 _)) rfl rfl (brow_one w1 x) rfl (by omega) (by have := G1.out.size; simp; omega) ?_; intro A2 c2 w2 hown2 hgr2; have O2 := Lib.hid hown2; have G2 : Hid (Below W.heap.size W w2) := Lib.hid (grown_below (Nat.le_refl _) (G1.out.alloc G1.out.size _) hgr2 (own_block O1.out)); clear hown2 hgr2))
          go_roundw
          case rel => exact ⟨k + 1, lq + 1 + 1, c2, A2, decide (32 ≤ (x.toNat : Int)), lqs ++ [92] ++ [x], by go_num, rfl, rfl, by omega, by omega, by omega, Lib.hid (by have h1 := HLS.out; have h2 := HE.out; rw [HTK.out, escL_snoc, h2, ← List.cons_append, ← h1]; simp), Lib.hid (by rw [HTK.out]; exact HRB.out), O2, G2⟩
          case measure => simp [RowKit.intOf]; omega
        · by_cases h92 : x = 92
          · have HE : Hid (escB x = [92, x]) := Lib.hid (if_pos (.inr h92))
            have h92' := byte_92 h92
            have e1 : (((x.toNat : Int)) == 39) = false := by simp; omega
            have e2 : (((x.toNat : Int)) == 92) = true := by simp; omega
            clear h39 h92 h92'
            go_wp2_with (first
              | (at_builtin; refine append_anyB rfl (.tmp 44) (.tmp 45) rfl W.heap.size (hown.out.next (below_new wr _)) rfl rfl (brow_92 wr) rfl (by omega) (by have := hbel.out.size; simp; omega) ?_; intro A1 c1 w1 hown1 hgr1; have O1 := Lib.hid hown1; have G1 : Hid (Below W.heap.size W w1) := Lib.hid (grown_below (Nat.le_refl _) (hbel.out.alloc hbel.out.size _) hgr1 (own_block hown.out)); clear hown1 hgr1; have q2 := cell_below G1.out HQ0.out hb1)
              | (at_builtin; refine append_anyB rfl (.tmp 55) (.tmp 60) rfl W.heap.size (O1.out.next (below_new w1 _)) rfl rfl (brow_one w1 x) rfl (by omega) (by have := G1.out.size; simp; omega) ?_; intro A2 c2 w2 hown2 hgr2; have O2 := Lib.hid hown2; have G2 : Hid (Below W.heap.size W w2) := Lib.hid (grown_below (Nat.le_refl _) (G1.out.alloc G1.out.size _) hgr2 (own_block O1.out)); clear hown2 hgr2))
            go_roundw
            case rel => exact ⟨k + 1, lq + 1 + 1, c2, A2, decide (32 ≤ (x.toNat : Int)), lqs ++ [92] ++ [x], by go_num, rfl, rfl, by omega, by omega, by omega, Lib.hid (by have h1 := HLS.out; have h2 := HE.out; rw [HTK.out, escL_snoc, h2, ← List.cons_append, ← h1]; simp), Lib.hid (by rw [HTK.out]; exact HRB.out), O2, G2⟩
            case measure => simp [RowKit.intOf]; omega
          · have HE : Hid (escB x = [x]) := Lib.hid (if_neg (by rintro (h | h); exact h39 h; exact h92 h))
            have h39' := not_39 h39
            have h92' := not_92 h92
            have e1 : (((x.toNat : Int)) == 39) = false := by simp; omega
            have e2 : (((x.toNat : Int)) == 92) = false := by simp; omega
            clear h39 h92 h39' h92'
            go_wp2_with (at_builtin; refine append_anyB rfl (.tmp 55) (.tmp 60) rfl W.heap.size (hown.out.next (below_new wr _)) rfl rfl (brow_one wr x) rfl (by omega) (by have := hbel.out.size; simp; omega) ?_; intro A2 c2 w2 hown2 hgr2; have O2 := Lib.hid hown2; have G2 : Hid (Below W.heap.size W w2) := Lib.hid (grown_below (Nat.le_refl _) (hbel.out.alloc hbel.out.size _) hgr2 (own_block hown.out)); clear hown2 hgr2)
            go_roundw
            case rel => exact ⟨k + 1, lq + 1, c2, A2, decide (32 ≤ (x.toNat : Int)), lqs ++ [x], by go_num, rfl, rfl, by omega, by omega, by omega, Lib.hid (by have h1 := HLS.out; have h2 := HE.out; rw [HTK.out, escL_snoc, h2, ← List.cons_append, ← h1]), Lib.hid (by rw [HTK.out]; exact HRB.out), O2, G2⟩
            case measure => simp [RowKit.intOf]; omega
    · obtain rfl : k = n := by omega
      have hL : s.take k = s := List.take_of_length_le (by have := HN.out; omega)
      have HLS := Lib.hid (show lqs = 39 :: escL s by rw [hls.out, hL])
      have HRB := hrb.out
      rw [hL] at HRB
      have HLQ := Lib.hid (show lq = (39 :: escL s).length by rw [← HLS.out]; exact hown.out.len.symm)
      have OQ := Lib.hid (show BOwn wr W.heap.size Aq lq cq (39 :: escL s) by rw [← HLS.out]; exact hown.out)
      clear hls hrb hL hown HLS
      have HRB' : rb = false := by rw [HRB, hg.out]; rfl
      subst HRB'
      clear HRB
      go_wp2_with fail
      refine (all_at (by have := HLQ.out; omega) HLQ.out hR1.out htb OQ.out.row).mono ?_
      rintro e w1 ⟨A1, c1, rfl, hO1, hb1⟩
      have G1 : Hid (Below W.heap.size W w1) := Lib.hid (hbel.out.trans (hb1.mono hbel.out.size))
      have OQ1 := Lib.hid (OQ.out.next hb1)
      clear hO1 hb1
      go_wp2_with (at_builtin; refine append_anyB rfl (.tmp 68) (.tmp 69) rfl W.heap.size (OQ1.out.next (below_new w1 _)) rfl rfl (brow_39 w1) rfl (by omega) (by have := G1.out.size; simp; omega) ?_; intro A2 c2 w2 hown2 hgr2; have O2 : Hid (BOwn w2 W.heap.size A2 (lq + 1) c2 (39 :: (escL s ++ [39]))) := Lib.hid (by simpa using hown2); have G2 : Hid (Below W.heap.size W w2) := Lib.hid (grown_below (Nat.le_refl _) (G1.out.alloc G1.out.size _) hgr2 (own_block OQ1.out)); clear hown2 hgr2)
      refine (all_at (by have := O2.out.len; omega) O2.out.len.symm hR2.out rfl O2.out.row).mono ?_
      rintro e w3 ⟨A3, c3, rfl, hO3, hb3⟩
      have G3 : Hid (Below W.heap.size W w3) := Lib.hid (G2.out.trans (hb3.mono G2.out.size))
      have O3 := Lib.hid (O2.out.next hb3)
      have T3 := Lib.hid hO3.row
      clear hO3 hb3
      go_wp2_with fail
      refine (known_any _).mono ?_
      rintro e w' ⟨rfl, hb⟩
      have HF : Hid (Below W.heap.size W w') := Lib.hid (G3.out.trans (hb.mono G3.out.size))
      clear hb
      go_wp2
      go_ret
      exact ⟨rfl, HF.out⟩

set_option maxHeartbeats 6400000 in
theorem texts_4 (W : World) (A : Option Addr) (n c : Nat) (y : Int) (_hy0 : 0 ≤ y) (_hy1 : y ≤ 255) (s : Bs) (hA : BRow W A c s) (hn : n = s.length) (h1 : n ≤ 1500) (tb : List TK) (nb eb : Int) (mb : Nat) (htb : mb = tb.length) (h2 : 1000 < n) (hR1 : Hid (allL (39 :: escL s) = (tb, nb, eb))) (hR2 : Hid (allL (39 :: (escL s ++ [39])) = ([], 0, 30))) : Calls Try.prog 6 #[.slice A n c, .int .u8 y] W (Tr W) := by
  have h1i : (n : Int) ≤ 1500 := by omega
  have HN := Lib.hid hn
  have HA := Lib.hid hA
  clear hn hA
  have hd : decide ((n : Int) ≤ 1000) = false := by simp; omega
  obtain ⟨z, hz1, hz2⟩ : ∃ z : UInt8, y % 32 = (z.toNat : Int) ∧ z.toNat < 32 := ⟨UInt8.ofNat (y % 32).toNat, by simp; omega, by simp; omega⟩
  go_enter Try.func6, Try.ntmps6
  go_wp2_with fail
  have O0 : Hid (BOwn (w0 W) W.heap.size (some ⟨W.heap.size, 0, none⟩) 1 1 [39]) := Lib.hid (by unfold w0; exact bown_39 W)
  have G0 : Hid (Below W.heap.size W (w0 W)) := Lib.hid (by unfold w0; exact below_new W _)
  unfold w0 at O0 G0
  generalize World.alloc W _ = W0 at O0 G0 ⊢
  go_loopw [5, 6, 7] (fun q r v wr => ∃ (k lq cq : Nat) (Aq : Option Addr) (rb : Bool) (lqs : Bs), v = .int .i64 k ∧ q = .slice Aq lq cq ∧ r = .bool rb ∧ k ≤ n ∧ 1 ≤ lq ∧ lq ≤ 1 + 2 * k ∧ Hid (lqs = 39 :: escL (s.take k)) ∧ Hid (rb = (false && goodB (s.take k))) ∧ Hid (BOwn wr W.heap.size Aq lq cq lqs) ∧ Hid (Below W.heap.size W wr)) (fun _ _ v _ => n - (RowKit.intOf v).toNat)
  case atStart => exact ⟨0, 1, 1, _, false, [39], rfl, rfl, rfl, by omega, by omega, by omega, Lib.hid (by simp [escL]), Lib.hid (by simp [goodB]), O0, G0⟩
  case round =>
    obtain ⟨k, lq, cq, Aq, rb, lqs, rfl, rfl, rfl, hk, hl0, hl1, hls, hrb, hown, hbel⟩ := hrel
    by_cases hlt : k < n
    · obtain ⟨b1, o1, x, rfl, hb1, hx, q0⟩ := HA.out.elem (k := k) (by have := HN.out; omega)
      have q1 := cell_below hbel.out q0 hb1
      have HQ0 := Lib.hid q0
      clear q0
      have HTK := Lib.hid (take_snocB s k hx)
      have HLS := Lib.hid hls.out
      have hlti : (k : Int) < (n : Int) := by omega
      clear hls hx
      have hg1 : goodB (s.take k ++ [x]) = (goodB (s.take k) && decide (32 ≤ (x.toNat : Int))) := by unfold goodB; rw [List.all_append, List.all_cons, List.all_nil, Bool.and_true]; congr 1; rw [decide_eq_decide]; omega
      cases rb
      · have HRB : false = (false && goodB (s.take k ++ [x])) := by rw [hg1]; have := hrb.out; revert this; cases goodB (s.take k) <;> simp
        replace HRB := Lib.hid HRB
        clear hg1 hrb
        by_cases h39 : x = 39
        · have HE : Hid (escB x = [92, x]) := Lib.hid (if_pos (.inl h39))
          have h39' := byte_39 h39
          have e1 : (((x.toNat : Int)) == 39) = true := by simp; omega
          clear h39 h39'
          go_wp2_with (first
            | (at_builtin; refine append_anyB rfl (.tmp 44) (.tmp 45) rfl W.heap.size (hown.out.next (below_new wr _)) rfl rfl (brow_92 wr) rfl (by omega) (by have := hbel.out.size; simp; omega) ?_; intro A1 c1 w1 hown1 hgr1; have O1 := Lib.hid hown1; have G1 : Hid (Below W.heap.size W w1) := Lib.hid (grown_below (Nat.le_refl _) (hbel.out.alloc hbel.out.size _) hgr1 (own_block hown.out)); clear hown1 hgr1; have q2 := cell_below G1.out HQ0.out hb1)
            | (at_builtin; refine append_anyB rfl (.tmp 55) (.tmp 60) rfl W.heap.size (O1.out.next (below_new w1 _)) rfl rfl (brow_one w1 x) rfl (by omega) (by have := G1.out.size; simp; omega) ?_; intro A2 c2 w2 hown2 hgr2; have O2 := Lib.hid hown2; have G2 : Hid (Below W.heap.size W w2) := Lib.hid (grown_below (Nat.le_refl _) (G1.out.alloc G1.out.size _) hgr2 (own_block O1.out)); clear hown2 hgr2))
          go_roundw
          case rel => exact ⟨k + 1, lq + 1 + 1, c2, A2, false, lqs ++ [92] ++ [x], by go_num, rfl, rfl, by omega, by omega, by omega, Lib.hid (by have h1 := HLS.out; have h2 := HE.out; rw [HTK.out, escL_snoc, h2, ← List.cons_append, ← h1]; simp), Lib.hid (by rw [HTK.out]; exact HRB.out), O2, G2⟩
          case measure => simp [RowKit.intOf]; omega
        · by_cases h92 : x = 92
          · have HE : Hid (escB x = [92, x]) := Lib.hid (if_pos (.inr h92))
            have h92' := byte_92 h92
            have e1 : (((x.toNat : Int)) == 39) = false := by simp; omega
            have e2 : (((x.toNat : Int)) == 92) = true := by simp; omega
            clear h39 h92 h92'
            go_wp2_with (first
              | (at_builtin; refine append_anyB rfl (.tmp 44) (.tmp 45) rfl W.heap.size (hown.out.next (below_new wr _)) rfl rfl (brow_92 wr) rfl (by omega) (by have := hbel.out.size; simp; omega) ?_; intro A1 c1 w1 hown1 hgr1; have O1 := Lib.hid hown1; have G1 : Hid (Below W.heap.size W w1) := Lib.hid (grown_below (Nat.le_refl _) (hbel.out.alloc hbel.out.size _) hgr1 (own_block hown.out)); clear hown1 hgr1; have q2 := cell_below G1.out HQ0.out hb1)
              | (at_builtin; refine append_anyB rfl (.tmp 55) (.tmp 60) rfl W.heap.size (O1.out.next (below_new w1 _)) rfl rfl (brow_one w1 x) rfl (by omega) (by have := G1.out.size; simp; omega) ?_; intro A2 c2 w2 hown2 hgr2; have O2 := Lib.hid hown2; have G2 : Hid (Below W.heap.size W w2) := Lib.hid (grown_below (Nat.le_refl _) (G1.out.alloc G1.out.size _) hgr2 (own_block O1.out)); clear hown2 hgr2))
            go_roundw
            case rel => exact ⟨k + 1, lq + 1 + 1, c2, A2, false, lqs ++ [92] ++ [x], by go_num, rfl, rfl, by omega, by omega, by omega, Lib.hid (by have h1 := HLS.out; have h2 := HE.out; rw [HTK.out, escL_snoc, h2, ← List.cons_append, ← h1]; simp), Lib.hid (by rw [HTK.out]; exact HRB.out), O2, G2⟩
            case measure => simp [RowKit.intOf]; omega
          · have HE : Hid (escB x = [x]) := Lib.hid (if_neg (by rintro (h | h); exact h39 h; exact h92 h))
            have h39' := not_39 h39
            have h92' := not_92 h92
            have e1 : (((x.toNat : Int)) == 39) = false := by simp; omega
            have e2 : (((x.toNat : Int)) == 92) = false := by simp; omega
            clear h39 h92 h39' h92'
            go_wp2_with (at_builtin; refine append_anyB rfl (.tmp 55) (.tmp 60) rfl W.heap.size (hown.out.next (below_new wr _)) rfl rfl (brow_one wr x) rfl (by omega) (by have := hbel.out.size; simp; omega) ?_; intro A2 c2 w2 hown2 hgr2; have O2 := Lib.hid hown2; have G2 : Hid (Below W.heap.size W w2) := Lib.hid (grown_below (Nat.le_refl _) (hbel.out.alloc hbel.out.size _) hgr2 (own_block hown.out)); clear hown2 hgr2)
            go_roundw
            case rel => exact ⟨k + 1, lq + 1, c2, A2, false, lqs ++ [x], by go_num, rfl, rfl, by omega, by omega, by omega, Lib.hid (by have h1 := HLS.out; have h2 := HE.out; rw [HTK.out, escL_snoc, h2, ← List.cons_append, ← h1]), Lib.hid (by rw [HTK.out]; exact HRB.out), O2, G2⟩
            case measure => simp [RowKit.intOf]; omega
      · have HRB : decide (32 ≤ (x.toNat : Int)) = (false && goodB (s.take k ++ [x])) := by rw [hg1]; have := hrb.out; revert this; cases goodB (s.take k) <;> simp
        replace HRB := Lib.hid HRB
        clear hg1 hrb
        by_cases h39 : x = 39
        · have HE : Hid (escB x = [92, x]) := Lib.hid (if_pos (.inl h39))
          have h39' := byte_39 h39
          have e1 : (((x.toNat : Int)) == 39) = true := by simp; omega
          clear h39 h39'
          go_wp2_with (first
            | (at_builtin; refine append_anyB rfl (.tmp 44) (.tmp 45) rfl W.heap.size (hown.out.next (below_new wr _)) rfl rfl (brow_92 wr) rfl (by omega) (by have := hbel.out.size; simp; omega) ?_; intro A1 c1 w1 hown1 hgr1; have O1 := Lib.hid hown1; have G1 : Hid (Below W.heap.size W w1) := Lib.hid (grown_below (Nat.le_refl _) (hbel.out.alloc hbel.out.size _) hgr1 (own_block hown.out)); clear hown1 hgr1; have q2 := cell_below G1.out HQ0.out hb1)
            | (at_builtin; refine append_anyB rfl (.tmp 55) (.tmp 60) rfl W.heap.size (O1.out.next (below_new w1 _)) rfl rfl (brow_one w1 x) rfl (by omega) (by have := G1.out.size; simp; omega) ?_; intro A2 c2 w2 hown2 hgr2; have O2 := Lib.hid hown2; have G2 : Hid (Below W.heap.size W w2) := Lib.hid (grown_below (Nat.le_refl _) (G1.out.alloc G1.out.size _) hgr2 (own_block O1.out)); clear hown2 hgr2))
          go_roundw
          case rel => exact ⟨k + 1, lq + 1 + 1, c2, A2, decide (32 ≤ (x.toNat : Int)), lqs ++ [92] ++ [x], by go_num, rfl, rfl, by omega, by omega, by omega, Lib.hid (by have h1 := HLS.out; have h2 := HE.out; rw [HTK.out, escL_snoc, h2, ← List.cons_append, ← h1]; simp), Lib.hid (by rw [HTK.out]; exact HRB.out), O2, G2⟩
          case measure => simp [RowKit.intOf]; omega
        · by_cases h92 : x = 92
          · have HE : Hid (escB x = [92, x]) := Lib.hid (if_pos (.inr h92))
            have h92' := byte_92 h92
            have e1 : (((x.toNat : Int)) == 39) = false := by simp; omega
            have e2 : (((x.toNat : Int)) == 92) = true := by simp; omega
            clear h39 h92 h92'
            go_wp2_with (first
              | (at_builtin; refine append_anyB rfl (.tmp 44) (.tmp 45) rfl W.heap.size (hown.out.next (below_new wr _)) rfl rfl (brow_92 wr) rfl (by omega) (by have := hbel.out.size; simp; omega) ?_; intro A1 c1 w1 hown1 hgr1; have O1 := Lib.hid hown1; have G1 : Hid (Below W.heap.size W w1) := Lib.hid (grown_below (Nat.le_refl _) (hbel.out.alloc hbel.out.size _) hgr1 (own_block hown.out)); clear hown1 hgr1; have q2 := cell_below G1.out HQ0.out hb1)
              | (at_builtin; refine append_anyB rfl (.tmp 55) (.tmp 60) rfl W.heap.size (O1.out.next (below_new w1 _)) rfl rfl (brow_one w1 x) rfl (by omega) (by have := G1.out.size; simp; omega) ?_; intro A2 c2 w2 hown2 hgr2; have O2 := Lib.hid hown2; have G2 : Hid (Below W.heap.size W w2) := Lib.hid (grown_below (Nat.le_refl _) (G1.out.alloc G1.out.size _) hgr2 (own_block O1.out)); clear hown2 hgr2))
            go_roundw
            case rel => exact ⟨k + 1, lq + 1 + 1, c2, A2, decide (32 ≤ (x.toNat : Int)), lqs ++ [92] ++ [x], by go_num, rfl, rfl, by omega, by omega, by omega, Lib.hid (by have h1 := HLS.out; have h2 := HE.out; rw [HTK.out, escL_snoc, h2, ← List.cons_append, ← h1]; simp), Lib.hid (by rw [HTK.out]; exact HRB.out), O2, G2⟩
            case measure => simp [RowKit.intOf]; omega
          · have HE : Hid (escB x = [x]) := Lib.hid (if_neg (by rintro (h | h); exact h39 h; exact h92 h))
            have h39' := not_39 h39
            have h92' := not_92 h92
            have e1 : (((x.toNat : Int)) == 39) = false := by simp; omega
            have e2 : (((x.toNat : Int)) == 92) = false := by simp; omega
            clear h39 h92 h39' h92'
            go_wp2_with (at_builtin; refine append_anyB rfl (.tmp 55) (.tmp 60) rfl W.heap.size (hown.out.next (below_new wr _)) rfl rfl (brow_one wr x) rfl (by omega) (by have := hbel.out.size; simp; omega) ?_; intro A2 c2 w2 hown2 hgr2; have O2 := Lib.hid hown2; have G2 : Hid (Below W.heap.size W w2) := Lib.hid (grown_below (Nat.le_refl _) (hbel.out.alloc hbel.out.size _) hgr2 (own_block hown.out)); clear hown2 hgr2)
            go_roundw
            case rel => exact ⟨k + 1, lq + 1, c2, A2, decide (32 ≤ (x.toNat : Int)), lqs ++ [x], by go_num, rfl, rfl, by omega, by omega, by omega, Lib.hid (by have h1 := HLS.out; have h2 := HE.out; rw [HTK.out, escL_snoc, h2, ← List.cons_append, ← h1]), Lib.hid (by rw [HTK.out]; exact HRB.out), O2, G2⟩
            case measure => simp [RowKit.intOf]; omega
    · obtain rfl : k = n := by omega
      have hL : s.take k = s := List.take_of_length_le (by have := HN.out; omega)
      have HLS := Lib.hid (show lqs = 39 :: escL s by rw [hls.out, hL])
      have HRB := hrb.out
      rw [hL] at HRB
      have HLQ := Lib.hid (show lq = (39 :: escL s).length by rw [← HLS.out]; exact hown.out.len.symm)
      have OQ := Lib.hid (show BOwn wr W.heap.size Aq lq cq (39 :: escL s) by rw [← HLS.out]; exact hown.out)
      clear hls hrb hL hown HLS
      have HRB' : rb = false := by rw [HRB]; rfl
      subst HRB'
      clear HRB
      go_wp2_with fail
      refine (all_at (by have := HLQ.out; omega) HLQ.out hR1.out htb OQ.out.row).mono ?_
      rintro e w1 ⟨A1, c1, rfl, hO1, hb1⟩
      have G1 : Hid (Below W.heap.size W w1) := Lib.hid (hbel.out.trans (hb1.mono hbel.out.size))
      have OQ1 := Lib.hid (OQ.out.next hb1)
      clear hO1 hb1
      go_wp2_with (at_builtin; refine append_anyB rfl (.tmp 68) (.tmp 69) rfl W.heap.size (OQ1.out.next (below_new w1 _)) rfl rfl (brow_39 w1) rfl (by omega) (by have := G1.out.size; simp; omega) ?_; intro A2 c2 w2 hown2 hgr2; have O2 : Hid (BOwn w2 W.heap.size A2 (lq + 1) c2 (39 :: (escL s ++ [39]))) := Lib.hid (by simpa using hown2); have G2 : Hid (Below W.heap.size W w2) := Lib.hid (grown_below (Nat.le_refl _) (G1.out.alloc G1.out.size _) hgr2 (own_block OQ1.out)); clear hown2 hgr2)
      refine (all_at (by have := O2.out.len; omega) O2.out.len.symm hR2.out rfl O2.out.row).mono ?_
      rintro e w3 ⟨A3, c3, rfl, hO3, hb3⟩
      have G3 : Hid (Below W.heap.size W w3) := Lib.hid (G2.out.trans (hb3.mono G2.out.size))
      have O3 := Lib.hid (O2.out.next hb3)
      have T3 := Lib.hid hO3.row
      clear hO3 hb3
      go_wp2_with fail
      refine (known_any _).mono ?_
      rintro e w' ⟨rfl, hb⟩
      have HF : Hid (Below W.heap.size W w') := Lib.hid (G3.out.trans (hb.mono G3.out.size))
      clear hb
      go_wp2
      go_ret
      exact ⟨rfl, HF.out⟩

theorem texts_law (W : World) (A : Option Addr) (c : Nat) (s : Bs) (y : Int) (hA : BRow W A c s) (hy : 0 ≤ y ∧ y ≤ 255) : Calls Try.prog 6 #[.slice A s.length c, .int .u8 y] W (Tr W) := by
  by_cases h : s.length ≤ 1500
  · obtain ⟨⟨tb, nb, eb⟩, hR⟩ : ∃ r, allL (39 :: escL s) = r := ⟨_, rfl⟩
    by_cases h2 : s.length ≤ 1000
    · cases hg : goodB s
      · exact texts_3 W A _ c y hy.1 hy.2 s hA rfl h tb nb eb tb.length rfl h2 (Lib.hid hg) (Lib.hid hR) (Lib.hid (all_39_bad s h (by rw [hg]; simp)))
      · exact texts_2 W A _ c y hy.1 hy.2 s hA rfl h h2 (Lib.hid hg) (Lib.hid (all_39_open s h2 hg)) (Lib.hid (all_39 s h2 hg)) (Lib.hid (fun z hz => all_39_low s h2 hg z hz))
    · exact texts_4 W A _ c y hy.1 hy.2 s hA rfl h tb nb eb tb.length rfl (by omega) (Lib.hid hR) (Lib.hid (all_39_bad s h (fun hh => h2 hh.1)))
  · exact texts_1 W A _ c y h
end Go.Proofs.Ythjbmlgjlndihaa
