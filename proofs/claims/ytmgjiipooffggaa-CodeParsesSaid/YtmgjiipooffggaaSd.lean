/- The document's reader of texts: a text between quotes. -/
import Derived.Test.YtmgjiipooffggaaSc
namespace Go.Proofs.Ytmgjiipooffggaa
set_option maxRecDepth 100000
open Go.RowKit Go.Sort

theorem text_go {n : Nat} {acc b q : Bs} {c : UInt8} {r : Bs} (h : textR n acc (c :: r) = some (b, q)) :
    (c = 39 ∧ b = acc ∧ q = r) ∨ (c = 92 ∧ ∃ x z m, meantL r = some (x, z) ∧ textR m (acc ++ [x]) z = some (b, q)) ∨ (c ≠ 39 ∧ c ≠ 92 ∧ ∃ m, textR m (acc ++ [c]) r = some (b, q)) := by
  cases n with
  | zero => cases h
  | succ n =>
    have h' : (if c = 39 then some (acc, r) else if c = 92 then (match meantL r with | none => none | some (x, z) => textR n (acc ++ [x]) z) else if seenB c then textR n (acc ++ [c]) r else none) = some (b, q) := h
    by_cases h1 : c = 39
    · rw [if_pos h1] at h'
      injection h' with h'
      injection h' with h2 h3
      exact .inl ⟨h1, h2.symm, h3.symm⟩
    · rw [if_neg h1] at h'
      by_cases h2 : c = 92
      · rw [if_pos h2] at h'
        cases hm : meantL r with
        | none => rw [hm] at h'; cases h'
        | some p =>
          obtain ⟨x, z⟩ := p
          rw [hm] at h'
          exact .inr (.inl ⟨h2, x, z, n, rfl, h'⟩)
      · rw [if_neg h2] at h'
        split at h'
        · exact .inr (.inr ⟨h1, h2, n, h'⟩)
        · cases h'
theorem text_nil {n : Nat} {acc : Bs} {p : Bs × Bs} (h : textR n acc [] = some p) : False := by
  cases n with
  | zero => cases h
  | succ n =>
    have : textR (n + 1) acc [] = none := by
      show (if (0 : UInt8) = 39 then _ else if (0 : UInt8) = 92 then _ else if seenB 0 then _ else none) = none
      rw [if_neg (by decide), if_neg (by decide), if_neg (by decide)]
    rw [this] at h; cases h
theorem meant_go {r z : Bs} {x : UInt8} (h : meantL r = some (x, z)) : (∃ c, r = c :: z ∧ c ≠ 120 ∧ x = c) ∨ ∃ c1 c2 h1 h2, r = 120 :: c1 :: c2 :: z ∧ nibL c1 = some h1 ∧ nibL c2 = some h2 ∧ x = UInt8.ofNat (16 * h1 + h2) := by
  cases r with
  | nil =>
    have : meantL [] = none := by decide
    rw [this] at h; cases h
  | cons c t =>
    have h' : (if c = 39 ∨ c = 92 then some (c, t) else if c = 120 then hiddenL t else none) = some (x, z) := h
    by_cases h1 : c = 39 ∨ c = 92
    · rw [if_pos h1] at h'
      injection h' with h'
      injection h' with h2 h3
      exact .inl ⟨c, by rw [h3], by rcases h1 with rfl | rfl <;> decide, h2.symm⟩
    · rw [if_neg h1] at h'
      by_cases h2 : c = 120
      · rw [if_pos h2] at h'
        subst h2
        cases t with
        | nil =>
          have : hiddenL [] = none := by decide
          rw [this] at h'; cases h'
        | cons c1 t1 =>
          cases t1 with
          | nil =>
            unfold hiddenL at h'
            rw [show nibL ((([c1] : Bs).drop 1).headD 0) = none from nib_zero] at h'
            cases hx : nibL (([c1] : Bs).headD 0) <;> rw [hx] at h' <;> cases h'
          | cons c2 t2 =>
            unfold hiddenL at h'
            cases hx : nibL c1 with
            | none => rw [show ((c1 :: c2 :: t2 : Bs).headD 0) = c1 from rfl, hx] at h'; cases h'
            | some a1 =>
              cases hy : nibL c2 with
              | none => rw [show ((c1 :: c2 :: t2 : Bs).headD 0) = c1 from rfl, show (((c1 :: c2 :: t2 : Bs).drop 1).headD 0) = c2 from rfl, hx, hy] at h'; cases h'
              | some a2 =>
                rw [show ((c1 :: c2 :: t2 : Bs).headD 0) = c1 from rfl, show (((c1 :: c2 :: t2 : Bs).drop 1).headD 0) = c2 from rfl, hx, hy] at h'
                simp only at h'
                split at h'
                · cases h'
                · injection h' with h'
                  injection h' with h3 h4
                  exact .inr ⟨c1, c2, a1, a2, by rw [← h4]; rfl, hx, hy, h3.symm⟩
      · rw [if_neg h2] at h'; cases h'
theorem nibI_none {c : UInt8} (h : nibL c = none) : nibI c = -1 := by unfold nibI; rw [h]
theorem nibI_some {c : UInt8} {n : Nat} (h : nibL c = some n) : nibI c = (n : Int) ∧ n < 16 := ⟨by unfold nibI; rw [h], (nib_hex c n h).1⟩
theorem drop_at (s : ByteArray) (k : Nat) (h : k < s.size) : s.toList.drop k = s[k]'h :: s.toList.drop (k + 1) := by
  rw [List.drop_eq_getElem_cons (by rw [toList_size]; exact h)]
  have := toList_at s k h
  rw [List.getElem?_eq_getElem (by rw [toList_size]; exact h)] at this
  rw [Option.some.inj this]

theorem w64_small (z : Int) (h0 : 0 ≤ z) (h1 : z ≤ 10000) : wrap64 z = z := by unfold wrap64; omega
theorem w64_add (k : Nat) (c : Int) (hk : k ≤ 10000) (h0 : 0 ≤ c) (h1 : c ≤ 10) : wrap64 ((k : Int) + c) = (k : Int) + c := by unfold wrap64; omega
def UPost (s : ByteArray) (a : Nat) (w : World) (e : Ending) (w' : World) : Prop :=
  ∃ (b : Bs) (n : Int), e = .returned (.tuple #[.string ⟨b.toArray⟩, .int .i64 n]) ∧ Below w.heap.size w w' ∧ b.length ≤ 3000 ∧ (n = -1 ∨ ∃ k : Nat, n = (k : Int) ∧ a < k ∧ k ≤ s.size ∧ b.length + a + 2 ≤ k) ∧ ∀ b' q, textR 1001 [] (s.toList.drop (a + 1)) = some (b', q) → b = b' ∧ ∃ k : Nat, n = (k : Int) ∧ s.toList.drop k = q

set_option maxHeartbeats 6400000 in
theorem punq_any (s : ByteArray) (a : Nat) (w : World) (hs : s.size ≤ 3000) (ha : a < s.size) :
    Calls Try.prog 61 #[.string s, .int .i64 (a : Int)] w (UPost s a w) := by
  obtain ⟨i0, hi, hz0, hz1, hz2⟩ := info_parts info5
  have a0 : (0 : Int) ≤ (a : Int) := by omega
  have wa : wrap64 ((a : Int) + 1) = (a : Int) + 1 := w64_add a 1 (by omega) (by decide) (by decide)
  obtain ⟨NN, hNN⟩ : ∃ N : Nat, N = 1001 := ⟨_, rfl⟩
  unfold UPost
  rw [← hNN]
  generalize hG : textR NN [] (s.toList.drop (a + 1)) = G
  have G0 : Hid (∀ b q, G = some (b, q) → ∃ n, textR n [] (s.toList.drop (a + 1)) = some (b, q)) := Lib.hid (fun b q h => ⟨NN, by rw [hG, h]⟩)
  clear hG hNN
  go_enter Try.func61, Try.ntmps61
  go_wp2
  go_loopw [6, 7] (fun v i wr => ∃ (k : Nat) (acc : Bs) (A : Option Addr) (cap : Nat), v = .slice A acc.length cap ∧ i = .int .i64 k ∧ a + 1 ≤ k ∧ k ≤ s.size ∧ acc.length + a + 1 ≤ k ∧ Hid (wr.ownsRow w.heap.size 5 1 (.slice A acc.length cap) acc.length (acc.map u8v)) ∧ Hid (Below w.heap.size w wr) ∧ Hid (∀ b q, G = some (b, q) → ∃ n, textR n acc (s.toList.drop k) = some (b, q))) (fun _ i _ => s.size - (RowKit.intOf i).toNat)
  case atStart => exact ⟨a + 1, [], none, 0, rfl, by go_num, by omega, by omega, by simp, Lib.hid (World.ownsRow_nil w _ _ _), Lib.hid (Below.refl _ _), G0⟩
  case round =>
    obtain ⟨k, acc, A, cap, rfl, rfl, hak, hks, hal, hown, hbel, GH⟩ := hrel
    clear wa
    have k0 : (0 : Int) ≤ (k : Int) := by omega
    have W1 : Hid (wrap64 ((k : Int) + 1) = (k : Int) + 1) := Lib.hid (w64_add k 1 (by omega) (by decide) (by decide))
    have W2 : Hid (wrap64 ((k : Int) + 2) = (k : Int) + 2) := Lib.hid (w64_add k 2 (by omega) (by decide) (by decide))
    have W3 : Hid (wrap64 ((k : Int) + 3) = (k : Int) + 3) := Lib.hid (w64_add k 3 (by omega) (by decide) (by decide))
    have W4 : Hid (wrap64 ((k : Int) + 4) = (k : Int) + 4) := Lib.hid (w64_add k 4 (by omega) (by decide) (by decide))
    by_cases hlt : k < s.size
    · have k1 : (k : Int) < (s.size : Int) := by omega
      have D0 := Lib.hid (drop_at s k hlt)
      by_cases h39 : s[k]'hlt = 39
      · have b1 : (((s[k]'hlt).toNat : Int) == 39) = true := by rw [h39]; rfl
        have hcv := str_own hown.out
        have FIN : Hid (∀ b q, G = some (b, q) → acc = b ∧ s.toList.drop (k + 1) = q) := Lib.hid (fun b q h => by
          obtain ⟨n, hn⟩ := GH.out b q h
          rw [D0.out] at hn
          rcases text_go hn with ⟨_, h2, h3⟩ | ⟨h1, _⟩ | ⟨h1, _⟩
          · exact ⟨h2.symm, h3.symm⟩
          · rw [h39] at h1; exact absurd h1 (by decide)
          · exact absurd h39 h1)
        clear h39
        obtain ⟨R, hR⟩ : ∃ R : ByteArray, R = ⟨acc.toArray⟩ := ⟨_, rfl⟩
        rw [← hR] at hcv
        replace hR := Lib.hid hR
        have w1k := W1.out
        go_wp2
        go_ret2
        clear w1k
        exact ⟨acc, (k : Int) + 1, by rw [← hR.out]; rfl, hbel.out, by omega, .inr ⟨k + 1, by omega, by omega, by omega, by omega⟩, fun b q h => ⟨(FIN.out b q h).1, k + 1, by omega, (FIN.out b q h).2⟩⟩
      · have b1 : (((s[k]'hlt).toNat : Int) == 39) = false := by
          rw [beq_eq_false_iff_ne]
          intro e
          exact h39 (UInt8.toNat_inj.1 (by show (s[k]'hlt).toNat = 39; omega))
        by_cases h92 : s[k]'hlt = 92
        · have b2 : (((s[k]'hlt).toNat : Int) != 92) = false := by rw [h92]; rfl
          have GM : Hid (∀ b q, G = some (b, q) → ∃ x z m, meantL (s.toList.drop (k + 1)) = some (x, z) ∧ textR m (acc ++ [x]) z = some (b, q)) := Lib.hid (fun b q h => by
            obtain ⟨n, hn⟩ := GH.out b q h
            rw [D0.out] at hn
            rcases text_go hn with ⟨h1, _⟩ | ⟨_, h2⟩ | ⟨_, h1, _⟩
            · exact absurd h1 h39
            · exact h2
            · exact absurd h92 h1)
          have WD := pword_any s ⟨#[92, 120]⟩ k wr hs (by omega) (by decide) (by decide)
          rw [show (⟨#[92, 120]⟩ : ByteArray).toList = [92, 120] from lit_list [92, 120]] at WD
          have AT : Hid (atL [92, 120] s.toList k = [120].isPrefixOf (s.toList.drop (k + 1))) := Lib.hid (by unfold atL; rw [D0.out, h92]; rfl)
          generalize hb : atL [92, 120] s.toList k = bb at WD AT
          clear hb h39 h92
          replace WD := Lib.hid WD
          go_wp2_with fail
          refine WD.out.mono ?_
          rintro e w2 ⟨rfl, rfl⟩
          clear WD
          by_cases hx : bb = true ∧ k + 4 ≤ s.size
          · obtain ⟨rfl, hx4⟩ := hx
            have k4 : (k : Int) + 4 ≤ (s.size : Int) := by omega
            have k2 : (k : Int) + 2 < (s.size : Int) := by omega
            have k3 : (k : Int) + 3 < (s.size : Int) := by omega
            have k20 : (0 : Int) ≤ (k : Int) + 2 := by omega
            have k30 : (0 : Int) ≤ (k : Int) + 3 := by omega
            have hl2 : k + 2 < s.size := by omega
            have hl3 : k + 3 < s.size := by omega
            have D1 := drop_at s (k + 1) (by omega)
            have D2 := drop_at s (k + 2) hl2
            have D3 := drop_at s (k + 3) hl3
            have GX : Hid (∀ b q, G = some (b, q) → ∃ n1 n2 m, nibL (s[k + 2]'hl2) = some n1 ∧ nibL (s[k + 3]'hl3) = some n2 ∧ textR m (acc ++ [UInt8.ofNat (16 * n1 + n2)]) (s.toList.drop (k + 4)) = some (b, q)) := Lib.hid (fun b q h => by
              obtain ⟨x, z, m, h1, h2⟩ := GM.out b q h
              have h3 := AT.out
              rw [D1] at h1 h3
              rcases meant_go h1 with ⟨c, h4, h5, h6⟩ | ⟨c1, c2, n1, n2, h4, h5, h6, h7⟩
              · injection h4 with h4 _
                have h8 : ([120] : Bs).isPrefixOf (s[k + 1]'(by omega) :: s.toList.drop (k + 1 + 1)) = ((120 : UInt8) == s[k + 1]'(by omega) && true) := rfl
                rw [h8, Bool.and_true, eq_comm, beq_iff_eq] at h3
                exact absurd (h4.symm.trans h3.symm) h5
              · injection h4 with _ h4
                rw [show k + 1 + 1 = k + 2 from rfl, D2] at h4
                injection h4 with h8 h4
                rw [show k + 2 + 1 = k + 3 from rfl, D3] at h4
                injection h4 with h9 h4
                exact ⟨n1, n2, m, by rw [h8]; exact h5, by rw [h9]; exact h6, by rw [← h7, show k + 4 = k + 3 + 1 from rfl, h4]; exact h2⟩)
            clear D1 D2 D3 GM AT D0
            have N1 := pnib_any (s[k + 2]'hl2) wr
            have N2 := pnib_any (s[k + 3]'hl3) wr
            replace N1 := Lib.hid N1
            replace N2 := Lib.hid N2
            have w4k := W4.out
            have w2k := W2.out
            go_wp2_with fail
            clear w4k w2k
            refine N1.out.mono ?_
            rintro e w2 ⟨rfl, rfl⟩
            clear N1
            have w3k := W3.out
            go_wp2_with fail
            clear w3k
            refine N2.out.mono ?_
            rintro e w2 ⟨rfl, rfl⟩
            clear N2
            cases hn1 : nibL (s[k + 2]'hl2) with
            | none =>
              have e1 := nibI_none hn1
              have NO : Hid (∀ b q, ¬ G = some (b, q)) := Lib.hid (fun b q h => by
                obtain ⟨n1, n2, m, h1, _⟩ := GX.out b q h
                rw [hn1] at h1; cases h1)
              clear hn1 GX GH
              rw [e1]
              clear e1
              go_wp2
              go_ret2
              exact ⟨[], -1, rfl, hbel.out, by simp, .inl rfl, fun b' q h => absurd h (NO.out b' q)⟩
            | some n1 =>
              obtain ⟨e1, l1⟩ := nibI_some hn1
              cases hn2 : nibL (s[k + 3]'hl3) with
              | none =>
                have e2 := nibI_none hn2
                have NO : Hid (∀ b q, ¬ G = some (b, q)) := Lib.hid (fun b q h => by
                  obtain ⟨n1', n2, m, _, h1, _⟩ := GX.out b q h
                  rw [hn2] at h1; cases h1)
                clear hn1 hn2 GX GH
                have g1 : ¬ (n1 : Int) < 0 := by omega
                rw [e1, e2]
                clear e1 e2
                go_wp2
                go_ret2
                exact ⟨[], -1, rfl, hbel.out, by simp, .inl rfl, fun b' q h => absurd h (NO.out b' q)⟩
              | some n2 =>
                obtain ⟨e2, l2⟩ := nibI_some hn2
                have GG : Hid (∀ b q, G = some (b, q) → ∃ n, textR n (acc ++ [UInt8.ofNat (16 * n1 + n2)]) (s.toList.drop (k + 4)) = some (b, q)) := Lib.hid (fun b q h => by
                  obtain ⟨m1, m2, m, h1, h2, h3⟩ := GX.out b q h
                  rw [hn1] at h1
                  rw [hn2] at h2
                  injection h1 with h1
                  injection h2 with h2
                  subst h1 h2
                  exact ⟨m, h3⟩)
                have TN : (UInt8.ofNat (16 * n1 + n2)).toNat = 16 * n1 + n2 := by simp; omega
                have g1 : ¬ (n1 : Int) < 0 := by omega
                have g2 : ¬ (n2 : Int) < 0 := by omega
                have V1 : Hid (wrap64 (16 * (n1 : Int)) = 16 * (n1 : Int)) := Lib.hid (w64_small _ (by omega) (by omega))
                rw [e1, e2]
                clear e1 e2 hn1 hn2 GX GH
                obtain ⟨cb, hcb⟩ : ∃ c : UInt8, c = UInt8.ofNat (16 * n1 + n2) := ⟨_, rfl⟩
                rw [← hcb] at TN GG
                have TI : (16 * (n1 : Int) + (n2 : Int)) = (cb.toNat : Int) := by omega
                have V2 : Hid (wrap64 (16 * (n1 : Int) + (n2 : Int)) = 16 * (n1 : Int) + (n2 : Int)) := Lib.hid (w64_small _ (by omega) (by omega))
                have V3 : Hid (IntKind.u8.wrap (16 * (n1 : Int) + (n2 : Int)) = 16 * (n1 : Int) + (n2 : Int)) := Lib.hid (IntWalk.u8_in _ (by omega))
                replace TI := Lib.hid TI
                clear hcb TN
                have v1 := V1.out
                have v2 := V2.out
                have v3 := V3.out
                go_wp2_with (at_builtin; refine wpList_append_own _ rfl _ _ 45 rfl w.heap.size 5 i0 (.int .u8 0) 1 1 Try.underlying45 hi hz0 hz1 hz2 rfl (by decide) _ _ _ rfl (hown.out.alloc _) ⟨wr.heap.size, 0, none⟩ 1 1 [.int .u8 (16 * (n1 : Int) + (n2 : Int))] rfl rfl ?x1 ?x2 ?x3 ?x4 ?x5 ?_)
                all_goals (try clear v1 v2 v3)
                try case x1 =>
                  intro j u hj
                  match j, hj with
                  | 0, hj => simp at hj; subst hj; simp [Addr.add]
                case x2 => first | rfl | (intro u hu; simp at hu; subst hu; rfl)
                case x3 => unfold maxLen; omega
                case x4 => omega
                case x5 => have := hbel.out.size; simp; omega
                intro v' w1 hown' hgrow _
                have HO : Hid (w1.ownsRow w.heap.size 5 1 v' (acc ++ [cb]).length ((acc ++ [cb]).map u8v)) := Lib.hid (by have h := hown'; rw [TI.out] at h; simpa using h)
                have HB2 : Hid (Below w.heap.size w w1) := Lib.hid ((hbel.out.alloc hbel.out.size _).grown hgrow (by have := hbel.out.size; simp; omega) (fun g hg => (hown.out.lt g hg).1))
                clear hown' hgrow
                obtain ⟨A', cap', rfl⟩ := own_slice' HO.out
                have w4k := W4.out
                go_wp2
                go_roundw
                all_goals (try clear w4k)
                case rel => exact ⟨k + 4, acc ++ [cb], A', cap', rfl, by go_num, by omega, by omega, by simp; omega, HO, HB2, GG⟩
                case measure => simp [RowKit.intOf]; omega
          · have B3 : Hid ((bb && decide ((k : Int) + 4 ≤ (s.size : Int))) = false) := Lib.hid (by
              cases bb
              · rfl
              · have : ¬ k + 4 ≤ s.size := fun h => hx ⟨rfl, h⟩
                simp; omega)
            have NX : Hid (∀ b q, G = some (b, q) → ∃ (h : k + 1 < s.size) (m : Nat), s[k + 1]'h ≠ 120 ∧ textR m (acc ++ [s[k + 1]'h]) (s.toList.drop (k + 2)) = some (b, q)) := Lib.hid (fun b q h => by
              obtain ⟨x, z, m, h1, h2⟩ := GM.out b q h
              rcases meant_go h1 with ⟨c, h4, h5, h6⟩ | ⟨c1, c2, n1, n2, h4, h5, h6, h7⟩
              · have hl : k + 1 < s.size := by
                  have := congrArg List.length h4
                  rw [List.length_drop, toList_size] at this
                  simp at this; omega
                rw [drop_at s (k + 1) hl] at h4
                injection h4 with h8 h9
                subst h6
                exact ⟨hl, m, by rw [h8]; exact h5, by rw [h8, show k + 2 = k + 1 + 1 from rfl, h9]; exact h2⟩
              · exfalso
                have hl : k + 4 ≤ s.size := by
                  have := congrArg List.length h4
                  rw [List.length_drop, toList_size] at this
                  simp at this; omega
                have h8 := AT.out
                rw [h4] at h8
                exact hx ⟨h8, hl⟩)
            clear GM AT D0 hx
            have hbb : (k : Int) + 4 ≤ (s.size : Int) → bb = false := fun h => by
              have := B3.out
              rw [decide_eq_true h, Bool.and_true] at this
              exact this
            by_cases hl1 : k + 1 < s.size
            · have k11 : (k : Int) + 1 < (s.size : Int) := by omega
              have k10 : (0 : Int) ≤ (k : Int) + 1 := by omega
              by_cases h120 : s[k + 1]'hl1 = 120
              · have b3 : (((s[k + 1]'hl1).toNat : Int) != 120) = false := by rw [h120]; rfl
                have NO : Hid (∀ b q, ¬ G = some (b, q)) := Lib.hid (fun b q h => by
                  obtain ⟨_, m, h1, _⟩ := NX.out b q h
                  exact h1 h120)
                clear h120 NX GH B3
                cases bb with
                | false =>
                  have w1k := W1.out
                  go_wp2
                  go_ret2
                  exact ⟨[], -1, rfl, hbel.out, by simp, .inl rfl, fun b' q h => absurd h (NO.out b' q)⟩
                | true =>
                  have k4 : ¬ (k : Int) + 4 ≤ (s.size : Int) := fun h => by cases hbb h
                  clear hbb
                  have w4k := W4.out
                  have w1k := W1.out
                  go_wp2
                  go_ret2
                  exact ⟨[], -1, rfl, hbel.out, by simp, .inl rfl, fun b' q h => absurd h (NO.out b' q)⟩
              · have b3 : (((s[k + 1]'hl1).toNat : Int) != 120) = true := by
                  rw [bne_iff_ne]
                  intro e
                  exact h120 (UInt8.toNat_inj.1 (by show (s[k + 1]'hl1).toNat = 120; omega))
                have GG : Hid (∀ b q, G = some (b, q) → ∃ n, textR n (acc ++ [s[k + 1]'hl1]) (s.toList.drop (k + 2)) = some (b, q)) := Lib.hid (fun b q h => by
                  obtain ⟨_, m, _, h2⟩ := NX.out b q h
                  exact ⟨m, h2⟩)
                clear h120 NX GH B3
                cases bb with
                | false =>
                  have w1k := W1.out
                  go_wp2_with (at_builtin; refine wpList_append_own _ rfl _ _ 45 rfl w.heap.size 5 i0 (.int .u8 0) 1 1 Try.underlying45 hi hz0 hz1 hz2 rfl (by decide) _ _ _ rfl (hown.out.alloc _) ⟨wr.heap.size, 0, none⟩ 1 1 [.int .u8 (((s[k + 1]'hl1).toNat : Int))] rfl rfl ?y1 ?y2 ?y3 ?y4 ?y5 ?_)
                  all_goals (try clear w1k)
                  try case y1 =>
                    intro j u hj
                    match j, hj with
                    | 0, hj => simp at hj; subst hj; simp [Addr.add]
                  case y2 => first | rfl | (intro u hu; simp at hu; subst hu; rfl)
                  case y3 => unfold maxLen; omega
                  case y4 => omega
                  case y5 => have := hbel.out.size; simp; omega
                  intro v' w1 hown' hgrow _
                  have HO : Hid (w1.ownsRow w.heap.size 5 1 v' (acc ++ [s[k + 1]'hl1]).length ((acc ++ [s[k + 1]'hl1]).map u8v)) := Lib.hid (by simpa using hown')
                  have HB2 : Hid (Below w.heap.size w w1) := Lib.hid ((hbel.out.alloc hbel.out.size _).grown hgrow (by have := hbel.out.size; simp; omega) (fun g hg => (hown.out.lt g hg).1))
                  clear hown' hgrow
                  obtain ⟨A', cap', rfl⟩ := own_slice' HO.out
                  have w2k := W2.out
                  go_wp2
                  go_roundw
                  all_goals (try clear w2k)
                  case rel => exact ⟨k + 2, acc ++ [s[k + 1]'hl1], A', cap', rfl, by go_num, by omega, by omega, by simp; omega, HO, HB2, GG⟩
                  case measure => simp [RowKit.intOf]; omega
                | true =>
                  have k4 : ¬ (k : Int) + 4 ≤ (s.size : Int) := fun h => by cases hbb h
                  clear hbb
                  have w4k := W4.out
                  have w1k := W1.out
                  go_wp2_with (at_builtin; refine wpList_append_own _ rfl _ _ 45 rfl w.heap.size 5 i0 (.int .u8 0) 1 1 Try.underlying45 hi hz0 hz1 hz2 rfl (by decide) _ _ _ rfl (hown.out.alloc _) ⟨wr.heap.size, 0, none⟩ 1 1 [.int .u8 (((s[k + 1]'hl1).toNat : Int))] rfl rfl ?v1 ?v2 ?v3 ?v4 ?v5 ?_)
                  all_goals (try clear w4k w1k)
                  try case v1 =>
                    intro j u hj
                    match j, hj with
                    | 0, hj => simp at hj; subst hj; simp [Addr.add]
                  case v2 => first | rfl | (intro u hu; simp at hu; subst hu; rfl)
                  case v3 => unfold maxLen; omega
                  case v4 => omega
                  case v5 => have := hbel.out.size; simp; omega
                  intro v' w1 hown' hgrow _
                  have HO : Hid (w1.ownsRow w.heap.size 5 1 v' (acc ++ [s[k + 1]'hl1]).length ((acc ++ [s[k + 1]'hl1]).map u8v)) := Lib.hid (by simpa using hown')
                  have HB2 : Hid (Below w.heap.size w w1) := Lib.hid ((hbel.out.alloc hbel.out.size _).grown hgrow (by have := hbel.out.size; simp; omega) (fun g hg => (hown.out.lt g hg).1))
                  clear hown' hgrow
                  obtain ⟨A', cap', rfl⟩ := own_slice' HO.out
                  have w2k := W2.out
                  go_wp2
                  go_roundw
                  all_goals (try clear w2k)
                  case rel => exact ⟨k + 2, acc ++ [s[k + 1]'hl1], A', cap', rfl, by go_num, by omega, by omega, by simp; omega, HO, HB2, GG⟩
                  case measure => simp [RowKit.intOf]; omega
            · have k11 : ¬ (k : Int) + 1 < (s.size : Int) := by omega
              have NO : Hid (∀ b q, ¬ G = some (b, q)) := Lib.hid (fun b q h => by
                obtain ⟨h1, _⟩ := NX.out b q h
                exact hl1 h1)
              clear NX GH B3
              cases bb with
              | false =>
                have w1k := W1.out
                go_wp2
                go_ret2
                exact ⟨[], -1, rfl, hbel.out, by simp, .inl rfl, fun b' q h => absurd h (NO.out b' q)⟩
              | true =>
                have k4 : ¬ (k : Int) + 4 ≤ (s.size : Int) := fun h => by cases hbb h
                clear hbb
                have w4k := W4.out
                have w1k := W1.out
                go_wp2
                go_ret2
                exact ⟨[], -1, rfl, hbel.out, by simp, .inl rfl, fun b' q h => absurd h (NO.out b' q)⟩
        · have b2 : (((s[k]'hlt).toNat : Int) != 92) = true := by
            rw [bne_iff_ne]
            intro e
            exact h92 (UInt8.toNat_inj.1 (by show (s[k]'hlt).toNat = 92; omega))
          have GG : Hid (∀ b q, G = some (b, q) → ∃ n, textR n (acc ++ [s[k]'hlt]) (s.toList.drop (k + 1)) = some (b, q)) := Lib.hid (fun b q h => by
            obtain ⟨n, hn⟩ := GH.out b q h
            rw [D0.out] at hn
            rcases text_go hn with ⟨h1, _⟩ | ⟨h1, _⟩ | ⟨_, _, h3⟩
            · exact absurd h1 h39
            · exact absurd h1 h92
            · exact h3)
          clear h39 h92 D0 GH
          go_wp2_with (at_builtin; refine wpList_append_own _ rfl _ _ 45 rfl w.heap.size 5 i0 (.int .u8 0) 1 1 Try.underlying45 hi hz0 hz1 hz2 rfl (by decide) _ _ _ rfl (hown.out.alloc _) ⟨wr.heap.size, 0, none⟩ 1 1 [.int .u8 (((s[k]'hlt).toNat : Int))] rfl rfl ?u1 ?u2 ?u3 ?u4 ?u5 ?_)
          all_goals (try clear k0)
          try case u1 =>
            intro j u hj
            match j, hj with
            | 0, hj => simp at hj; subst hj; simp [Addr.add]
          case u2 => first | rfl | (intro u hu; simp at hu; subst hu; rfl)
          case u3 => unfold maxLen; omega
          case u4 => omega
          case u5 => have := hbel.out.size; simp; omega
          intro v' w1 hown' hgrow _
          have HO : Hid (w1.ownsRow w.heap.size 5 1 v' (acc ++ [s[k]'hlt]).length ((acc ++ [s[k]'hlt]).map u8v)) := Lib.hid (by simpa using hown')
          have HB2 : Hid (Below w.heap.size w w1) := Lib.hid ((hbel.out.alloc hbel.out.size _).grown hgrow (by have := hbel.out.size; simp; omega) (fun g hg => (hown.out.lt g hg).1))
          clear hown' hgrow
          obtain ⟨A', cap', rfl⟩ := own_slice' HO.out
          have w1k := W1.out
          go_wp2
          go_roundw
          all_goals (try clear w1k)
          case rel => exact ⟨k + 1, acc ++ [s[k]'hlt], A', cap', rfl, by go_num, by omega, by omega, by simp; omega, HO, HB2, GG⟩
          case measure => simp [RowKit.intOf]; omega
    · obtain rfl : k = s.size := by omega
      have NO : Hid (∀ b q, ¬ G = some (b, q)) := Lib.hid (fun b q h => by
        obtain ⟨n, hn⟩ := GH.out b q h
        rw [List.drop_eq_nil_of_le (by rw [toList_size]; exact Nat.le_refl _)] at hn
        exact text_nil hn)
      clear GH
      go_wp2
      go_ret2
      exact ⟨[], -1, rfl, hbel.out, by simp, .inl rfl, fun b' q h => absurd h (NO.out b' q)⟩
end Go.Proofs.Ytmgjiipooffggaa
