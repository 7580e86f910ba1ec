/- The document's reader of texts: its small words. -/
import Derived.Test.YtmgjiipooffggaaSa
namespace Go.Proofs.Ytmgjiipooffggaa
set_option maxRecDepth 100000
open Go.RowKit Go.Sort

theorem pre_cut (p l : Bs) (a : Nat) : ((l.take (a + p.length)).drop a == p) = p.isPrefixOf (l.drop a) := by
  rw [List.drop_take, Nat.add_sub_cancel_left, Bool.eq_iff_iff, beq_iff_eq, List.isPrefixOf_iff_prefix, List.prefix_iff_eq_take]
  exact eq_comm
theorem pre_long (p l : Bs) (a : Nat) (h : ¬ a + p.length ≤ l.length) (hp : 0 < p.length) : p.isPrefixOf (l.drop a) = false := by
  rw [Bool.eq_false_iff]
  intro e
  have := (List.isPrefixOf_iff_prefix.1 e).length_le
  rw [List.length_drop] at this
  omega
/-- Is there a word at a place? -/
def atL (p l : Bs) (a : Nat) : Bool := p.isPrefixOf (l.drop a)
theorem pword_any (s W : ByteArray) (a : Nat) (w : World) (hs : s.size ≤ 3000) (ha : a ≤ 4000) (hW : W.size ≤ 10) (hW0 : 0 < W.size) :
    Calls Try.prog 60 #[.string s, .int .i64 (a : Int), .string W] w fun e w' => e = .returned (.bool (atL W.toList s.toList a)) ∧ w = w' := by
  have k0 : (0 : Int) ≤ (a : Int) := by omega
  have k1 : (a : Int) ≤ (a : Int) + (W.size : Int) := by omega
  have i1 : wrap64 ((a : Int) + (W.size : Int)) = (a : Int) + (W.size : Int) := by unfold wrap64; omega
  by_cases h : a + W.size ≤ s.size
  · have k2 : (a : Int) + (W.size : Int) ≤ (s.size : Int) := by omega
    have HE : ((s.extract a (a + W.size)).toList == W.toList) = atL W.toList s.toList a := by
      rw [toList_cut]
      have := pre_cut W.toList s.toList a
      rw [toList_size] at this
      exact this
    go_enter Try.func60, Try.ntmps60
    go_wp2
    go_ret
    exact ⟨rfl, rfl⟩
  · have HE : Hid (atL W.toList s.toList a = false) := Lib.hid (pre_long _ _ _ (by rw [toList_size, toList_size]; exact h) (by rw [toList_size]; exact hW0))
    have k2 : ¬ (a : Int) + (W.size : Int) ≤ (s.size : Int) := by omega
    go_enter Try.func60, Try.ntmps60
    go_wp2
    go_ret
    exact ⟨by rw [HE.out]; rfl, rfl⟩

/-- A digit's number, or less than nought. -/
def nibI (c : UInt8) : Int := match nibL c with | some n => n | none => -1
theorem nibI_1 (c : UInt8) (h1 : 48 ≤ c.toNat) (h2 : c.toNat ≤ 57) : nibI c = (c.toNat : Int) - 48 := by
  unfold nibI nibL
  rw [if_pos ⟨h1, h2⟩]
  show ((c.toNat - 48 : Nat) : Int) = _
  omega
theorem nibI_2 (c : UInt8) (h1 : 97 ≤ c.toNat) (h2 : c.toNat ≤ 102) : nibI c = (c.toNat : Int) - 87 := by
  unfold nibI nibL
  rw [if_neg (by omega), if_pos ⟨h1, h2⟩]
  show ((c.toNat - 87 : Nat) : Int) = _
  omega
theorem nibI_3 (c : UInt8) (h1 : ¬ (48 ≤ c.toNat ∧ c.toNat ≤ 57)) (h2 : ¬ (97 ≤ c.toNat ∧ c.toNat ≤ 102)) : nibI c = -1 := by
  unfold nibI nibL
  rw [if_neg h1, if_neg h2]
theorem pnib_any (c : UInt8) (w : World) : Calls Try.prog 88 #[.int .u8 (c.toNat : Int)] w fun e w' => e = .returned (.int .i64 (nibI c)) ∧ w = w' := by
  have hc := c.toNat_lt
  have N1 := Lib.hid (nibI_1 c)
  have N2 := Lib.hid (nibI_2 c)
  have N3 := Lib.hid (nibI_3 c)
  generalize nibI c = z at N1 N2 N3 ⊢
  generalize hn : c.toNat = n at hc N1 N2 N3 ⊢
  clear hn
  go_enter Try.func88, Try.ntmps88
  by_cases h48 : 48 ≤ n
  · by_cases h57 : n ≤ 57
    · have q := Lib.hid (N1.out h48 h57)
      have i2 : wrap64 (n : Int) = (n : Int) := by unfold wrap64; omega
      have i3 : wrap64 ((n : Int) - 48) = (n : Int) - 48 := by unfold wrap64; omega
      go_wp2
      go_ret
      exact ⟨by rw [q.out]; rfl, rfl⟩
    · by_cases h97 : 97 ≤ n
      · by_cases h102 : n ≤ 102
        · have q := Lib.hid (N2.out h97 h102)
          have i2 : wrap64 (n : Int) = (n : Int) := by unfold wrap64; omega
          have i3 : wrap64 ((n : Int) - 87) = (n : Int) - 87 := by unfold wrap64; omega
          go_wp2
          go_ret
          exact ⟨by rw [q.out]; rfl, rfl⟩
        · have q := Lib.hid (N3.out (by omega) (by omega))
          go_wp2
          go_ret
          exact ⟨by rw [q.out]; rfl, rfl⟩
      · have q := Lib.hid (N3.out (by omega) (by omega))
        go_wp2
        go_ret
        exact ⟨by rw [q.out]; rfl, rfl⟩
  · have q := Lib.hid (N3.out (by omega) (by omega))
    have h97 : ¬ (97 ≤ n) := by omega
    go_wp2
    go_ret
    exact ⟨by rw [q.out]; rfl, rfl⟩

theorem tw_end {p : UInt8 → Bool} : ∀ (l : Bs) (m : Nat), (l.take m).all p = true → (l.length ≤ m ∨ ∃ c, l[m]? = some c ∧ p c = false) → l.takeWhile p = l.take m
  | [], m, _, _ => by simp
  | x :: r, 0, _, h => by
    rcases h with h | ⟨c, hc, hp⟩
    · simp at h
    · have : x = c := by simpa using hc
      subst this
      simp [List.takeWhile, hp]
  | x :: r, m + 1, h1, h2 => by
    simp only [List.take_succ_cons, List.all_cons, Bool.and_eq_true] at h1
    rw [List.takeWhile_cons, h1.1, List.take_succ_cons]
    have := tw_end r m h1.2 (by
      rcases h2 with h | ⟨c, hc, hp⟩
      · exact .inl (by simpa using h)
      · exact .inr ⟨c, by simpa using hc, hp⟩)
    rw [this]; rfl
/-- The number at a place, and where it ends. -/
def digN (l : Bs) : Int := if parseE (l.takeWhile numB) = 0 then parseV (l.takeWhile numB) else 0
def digE (l : Bs) (a : Nat) : Int := if parseE (l.takeWhile numB) = 0 then ((a + (l.takeWhile numB).length : Nat) : Int) else -1
theorem tw_drop (l : Bs) (p : UInt8 → Bool) : l.drop (l.takeWhile p).length = l.dropWhile p := by
  have h := List.takeWhile_append_dropWhile (p := p) (l := l)
  have h2 : (l.takeWhile p ++ l.dropWhile p).drop (l.takeWhile p).length = l.dropWhile p := List.drop_left' rfl
  rwa [h] at h2
theorem numR_dig {l q : Bs} {n : Int} (a : Nat) (h : numR l = some (n, q)) : digN l = n ∧ ∃ m, digE l a = ((a + m : Nat) : Int) ∧ l.drop m = q := by
  unfold numR at h
  split at h
  · rename_i h0
    injection h with h
    injection h with h1 h2
    exact ⟨by unfold digN; rw [if_pos h0]; exact h1, _, by unfold digE; rw [if_pos h0], by rw [tw_drop]; exact h2⟩
  · cases h
theorem numB_is (c : UInt8) : numB c = (((c.toNat : Int) == 45) || (decide ((48 : Int) ≤ (c.toNat : Int)) && decide ((c.toNat : Int) ≤ 57))) := by
  have h1 : (c == 45) = ((c.toNat : Int) == 45) := by
    rw [Bool.eq_iff_iff, beq_iff_eq, beq_iff_eq, ← UInt8.toNat_inj]
    show c.toNat = 45 ↔ _
    omega
  unfold numB digB
  rw [h1]
  congr 1
  rw [Bool.eq_iff_iff]
  simp
  omega
def DigPost (l : Bs) (a : Nat) (w : World) (e : Ending) (w' : World) : Prop := e = .returned (.tuple #[.int .i64 (digN l), .int .i64 (digE l a)]) ∧ Below w.heap.size w w'
set_option maxHeartbeats 3200000 in
theorem pdig_any (s : ByteArray) (a : Nat) (w : World) (hs : s.size ≤ 3000) (ha : a ≤ s.size) :
    Calls Try.prog 64 #[.string s, .int .i64 (a : Int)] w (DigPost (s.toList.drop a) a w) := by
  have a0 : (0 : Int) ≤ (a : Int) := by omega
  go_enter Try.func64, Try.ntmps64
  go_wp2
  go_loopw [6] (fun i wr => ∃ (k : Nat), i = .int .i64 k ∧ a ≤ k ∧ k ≤ s.size ∧ Hid (((s.toList.drop a).take (k - a)).all numB = true) ∧ w = wr) (fun i _ => s.size - (RowKit.intOf i).toNat)
  case atStart => exact ⟨a, rfl, by omega, ha, Lib.hid (by simp), rfl⟩
  case round =>
    obtain ⟨k, rfl, hak, hks, hall, rfl⟩ := hrel
    have k0 : (0 : Int) ≤ (k : Int) := by omega
    have k3 : (a : Int) ≤ (k : Int) := by omega
    have k4 : (k : Int) ≤ (s.size : Int) := by omega
    by_cases hlt : k < s.size
    · have k1 : (k : Int) < (s.size : Int) := by omega
      have hat : (s.toList.drop a)[k - a]? = some (s[k]'hlt) := by
        rw [List.getElem?_drop, show a + (k - a) = k by omega]
        exact toList_at s k hlt
      have HAT := Lib.hid hat
      have NB := numB_is (s[k]'hlt)
      have wk : wrap64 ((k : Int) + 1) = (k : Int) + 1 := by unfold wrap64; omega
      clear hat
      have ON : Hid (numB (s[k]'hlt) = true → ((s.toList.drop a).take (k + 1 - a)).all numB = true) := Lib.hid (fun h => by
        rw [show k + 1 - a = (k - a) + 1 by omega, take_next _ _ HAT.out, List.all_append, hall.out]
        simp [h])
      have OFF : Hid (numB (s[k]'hlt) = false → (s.extract a k).toList = (s.toList.drop a).takeWhile numB) := Lib.hid (fun h => by
        rw [toList_cut, List.drop_take]
        exact (tw_end _ _ hall.out (.inr ⟨_, HAT.out, h⟩)).symm)
      clear HAT hall
      by_cases h45 : ((s[k]'hlt).toNat : Int) = 45
      · have b1 : (((s[k]'hlt).toNat : Int) == 45) = true := by rw [h45]; rfl
        have HA := Lib.hid (ON.out (by rw [NB, b1]; rfl))
        clear NB ON OFF h45
        go_wp2
        go_roundw
        case rel => exact ⟨k + 1, by go_num, by omega, by omega, HA, trivial⟩
        case measure => simp [RowKit.intOf]; omega
      · have b1 : (((s[k]'hlt).toNat : Int) == 45) = false := by simpa using h45
        by_cases h48 : (48 : Int) ≤ ((s[k]'hlt).toNat : Int)
        · by_cases h57 : ((s[k]'hlt).toNat : Int) ≤ 57
          · have HA := Lib.hid (ON.out (by rw [NB, b1]; simp [h48, h57]))
            clear NB ON OFF h45
            go_wp2
            go_roundw
            case rel => exact ⟨k + 1, by go_num, by omega, by omega, HA, trivial⟩
            case measure => simp [RowKit.intOf]; omega
          · have TW := Lib.hid (OFF.out (by rw [NB, b1]; simp [h57]))
            clear NB ON OFF h45
            have ZL : Hid (((s.toList.drop a).takeWhile numB).length = k - a) := Lib.hid (by rw [← TW.out, toList_size, ByteArray.size_extract]; omega)
            have PA := refParseB (s.extract a k) w (by rw [ByteArray.size_extract]; omega)
            rw [TW.out] at PA
            have DN := Lib.hid (show digN (s.toList.drop a) = if parseE ((s.toList.drop a).takeWhile numB) = 0 then parseV ((s.toList.drop a).takeWhile numB) else 0 from rfl)
            have DE := Lib.hid (show digE (s.toList.drop a) a = if parseE ((s.toList.drop a).takeWhile numB) = 0 then ((a + ((s.toList.drop a).takeWhile numB).length : Nat) : Int) else -1 from rfl)
            generalize parseE ((s.toList.drop a).takeWhile numB) = E at PA DN DE
            generalize parseV ((s.toList.drop a).takeWhile numB) = Vv at PA DN
            replace PA := Lib.hid PA
            go_wp2_with fail
            refine PA.out.mono ?_
            rintro e w2 ⟨rfl, hb⟩
            have HB := Lib.hid hb
            clear hb PA
            by_cases hE : E = 0
            · have D1 : Hid (digN (s.toList.drop a) = Vv) := Lib.hid (by rw [DN.out]; exact if_pos hE)
              have D2 : Hid (digE (s.toList.drop a) a = (k : Int)) := Lib.hid (by rw [DE.out, ZL.out, if_pos hE]; omega)
              subst hE
              go_wp2
              go_ret2
              refine ⟨?_, HB.out⟩
              rw [D1.out, D2.out]
              rfl
            · have D1 : Hid (digN (s.toList.drop a) = 0) := Lib.hid (by rw [DN.out]; exact if_neg hE)
              have D2 : Hid (digE (s.toList.drop a) a = -1) := Lib.hid (by rw [DE.out]; exact if_neg hE)
              have hE' : (E == 0) = false := by simpa using hE
              clear hE
              go_wp2
              go_ret2
              refine ⟨?_, HB.out⟩
              rw [D1.out, D2.out]
              rfl
        · have TW := Lib.hid (OFF.out (by rw [NB, b1]; simp [h48]))
          clear NB ON OFF h45
          have ZL : Hid (((s.toList.drop a).takeWhile numB).length = k - a) := Lib.hid (by rw [← TW.out, toList_size, ByteArray.size_extract]; omega)
          have PA := refParseB (s.extract a k) w (by rw [ByteArray.size_extract]; omega)
          rw [TW.out] at PA
          have DN := Lib.hid (show digN (s.toList.drop a) = if parseE ((s.toList.drop a).takeWhile numB) = 0 then parseV ((s.toList.drop a).takeWhile numB) else 0 from rfl)
          have DE := Lib.hid (show digE (s.toList.drop a) a = if parseE ((s.toList.drop a).takeWhile numB) = 0 then ((a + ((s.toList.drop a).takeWhile numB).length : Nat) : Int) else -1 from rfl)
          generalize parseE ((s.toList.drop a).takeWhile numB) = E at PA DN DE
          generalize parseV ((s.toList.drop a).takeWhile numB) = Vv at PA DN
          replace PA := Lib.hid PA
          go_wp2_with fail
          refine PA.out.mono ?_
          rintro e w2 ⟨rfl, hb⟩
          have HB := Lib.hid hb
          clear hb PA
          by_cases hE : E = 0
          · have D1 : Hid (digN (s.toList.drop a) = Vv) := Lib.hid (by rw [DN.out]; exact if_pos hE)
            have D2 : Hid (digE (s.toList.drop a) a = (k : Int)) := Lib.hid (by rw [DE.out, ZL.out, if_pos hE]; omega)
            subst hE
            go_wp2
            go_ret2
            refine ⟨?_, HB.out⟩
            rw [D1.out, D2.out]
            rfl
          · have D1 : Hid (digN (s.toList.drop a) = 0) := Lib.hid (by rw [DN.out]; exact if_neg hE)
            have D2 : Hid (digE (s.toList.drop a) a = -1) := Lib.hid (by rw [DE.out]; exact if_neg hE)
            have hE' : (E == 0) = false := by simpa using hE
            clear hE
            go_wp2
            go_ret2
            refine ⟨?_, HB.out⟩
            rw [D1.out, D2.out]
            rfl
    · obtain rfl : k = s.size := by omega
      have TW : Hid ((s.extract a s.size).toList = (s.toList.drop a).takeWhile numB) := Lib.hid (by
        rw [toList_cut, List.drop_take]
        exact (tw_end _ _ hall.out (.inl (by rw [List.length_drop, toList_size]; exact Nat.le_refl _))).symm)
      have ZL : Hid (((s.toList.drop a).takeWhile numB).length = s.size - a) := Lib.hid (by rw [← TW.out, toList_size, ByteArray.size_extract]; omega)
      have PA := refParseB (s.extract a s.size) w (by rw [ByteArray.size_extract]; omega)
      rw [TW.out] at PA
      have DN := Lib.hid (show digN (s.toList.drop a) = if parseE ((s.toList.drop a).takeWhile numB) = 0 then parseV ((s.toList.drop a).takeWhile numB) else 0 from rfl)
      have DE := Lib.hid (show digE (s.toList.drop a) a = if parseE ((s.toList.drop a).takeWhile numB) = 0 then ((a + ((s.toList.drop a).takeWhile numB).length : Nat) : Int) else -1 from rfl)
      generalize parseE ((s.toList.drop a).takeWhile numB) = E at PA DN DE
      generalize parseV ((s.toList.drop a).takeWhile numB) = Vv at PA DN
      replace PA := Lib.hid PA
      go_wp2_with fail
      refine PA.out.mono ?_
      rintro e w2 ⟨rfl, hb⟩
      have HB := Lib.hid hb
      clear hb PA
      by_cases hE : E = 0
      · have D1 : Hid (digN (s.toList.drop a) = Vv) := Lib.hid (by rw [DN.out]; exact if_pos hE)
        have D2 : Hid (digE (s.toList.drop a) a = (s.size : Int)) := Lib.hid (by rw [DE.out, ZL.out, if_pos hE]; omega)
        subst hE
        go_wp2
        go_ret2
        refine ⟨?_, HB.out⟩
        rw [D1.out, D2.out]
        rfl
      · have D1 : Hid (digN (s.toList.drop a) = 0) := Lib.hid (by rw [DN.out]; exact if_neg hE)
        have D2 : Hid (digE (s.toList.drop a) a = -1) := Lib.hid (by rw [DE.out]; exact if_neg hE)
        have hE' : (E == 0) = false := by simpa using hE
        clear hE
        go_wp2
        go_ret2
        refine ⟨?_, HB.out⟩
        rw [D1.out, D2.out]
        rfl
end Go.Proofs.Ytmgjiipooffggaa
