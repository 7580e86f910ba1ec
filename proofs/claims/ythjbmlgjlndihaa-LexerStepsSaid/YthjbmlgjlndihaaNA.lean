/- The document's texts. -/
import Derived.Test.YthjbmlgjlndihaaLZ
import Derived.Deep.CutBlock
namespace Go.Proofs.Ythjbmlgjlndihaa
set_option maxRecDepth 100000
open Go.RowKit Go.Sort

theorem drop_get (l : Bs) (k : Nat) (c : UInt8) (h : l[k]? = some c) : l.drop k = c :: l.drop (k + 1) := by
  obtain ⟨hlt, e⟩ := List.getElem?_eq_some_iff.1 h
  rw [← e]
  exact List.drop_eq_getElem_cons hlt
/-- What is so while the document goes through a text: as much has come as may be, or too much. -/
def QI (l : Bs) (p : Nat) (G : Option (Bs × Nat)) (acc : Bs) (k : Nat) : Prop := (acc.length ≤ 1000 ∧ textP (l.drop k) acc (k - p) = G) ∨ (1000 < acc.length ∧ G = none)
theorem qi_end {l : Bs} {p k : Nat} {G : Option (Bs × Nat)} {acc : Bs} (h : QI l p G acc k) (hk : l.length ≤ k) : G = none := by
  rcases h with ⟨_, h⟩ | ⟨_, h⟩
  · rw [List.drop_eq_nil_of_le hk, textP_nil] at h; exact h.symm
  · exact h
theorem qi_low {l : Bs} {p k : Nat} {G : Option (Bs × Nat)} {acc : Bs} (h : QI l p G acc k) {c : UInt8} (hc : l[k]? = some c) (h32 : c.toNat < 32) : G = none := by
  rcases h with ⟨_, h⟩ | ⟨_, h⟩
  · rw [drop_get l k c hc, textP_cons, if_pos h32] at h; exact h.symm
  · exact h
theorem qi_q {l : Bs} {p k : Nat} {G : Option (Bs × Nat)} {acc : Bs} (h : QI l p G acc k) {c : UInt8} (hc : l[k]? = some c) (h39 : c.toNat = 39) : (acc.length ≤ 1000 ∧ G = some (acc, k - p + 1)) ∨ (1000 < acc.length ∧ G = none) := by
  rcases h with ⟨h0, h⟩ | h
  · rw [drop_get l k c hc, textP_cons, if_neg (by omega), if_pos h39] at h; exact .inl ⟨h0, h.symm⟩
  · exact .inr h
theorem qi_bend {l : Bs} {p k : Nat} {G : Option (Bs × Nat)} {acc : Bs} (h : QI l p G acc k) {c : UInt8} (hc : l[k]? = some c) (h92 : c.toNat = 92) (hk : l.length ≤ k + 1) : G = none := by
  rcases h with ⟨_, h⟩ | ⟨_, h⟩
  · rw [drop_get l k c hc, textP_cons, if_neg (by omega), if_neg (by omega), if_pos h92, List.drop_eq_nil_of_le hk] at h; exact h.symm
  · exact h
theorem qi_bad {l : Bs} {p k : Nat} {G : Option (Bs × Nat)} {acc : Bs} (h : QI l p G acc k) {c d : UInt8} (hc : l[k]? = some c) (h92 : c.toNat = 92) (hd : l[k + 1]? = some d) (hn : ¬ (d.toNat = 39 ∨ d.toNat = 92)) : G = none := by
  rcases h with ⟨_, h⟩ | ⟨_, h⟩
  · rw [drop_get l k c hc, textP_cons, if_neg (by omega), if_neg (by omega), if_pos h92, drop_get l (k + 1) d hd] at h
    simp only [if_neg hn] at h
    exact h.symm
  · exact h
theorem qi_bnext {l : Bs} {p k : Nat} {G : Option (Bs × Nat)} {acc : Bs} (h : QI l p G acc k) {c d : UInt8} (hc : l[k]? = some c) (h92 : c.toNat = 92) (hd : l[k + 1]? = some d) (hn : d.toNat = 39 ∨ d.toNat = 92) (hp : p ≤ k) : QI l p G (acc ++ [d]) (k + 2) := by
  rcases h with ⟨h0, h⟩ | ⟨h0, h⟩
  · rw [drop_get l k c hc, textP_cons, if_neg (by omega), if_neg (by omega), if_pos h92, drop_get l (k + 1) d hd] at h
    simp only [if_pos hn] at h
    split at h
    · rename_i h1
      exact .inr ⟨by rw [List.length_append, List.length_singleton]; omega, h.symm⟩
    · rename_i h1
      exact .inl ⟨by rw [List.length_append, List.length_singleton]; omega, by rw [show k + 2 - p = k - p + 2 from by omega]; exact h⟩
  · exact .inr ⟨by rw [List.length_append]; omega, h⟩
theorem qi_next {l : Bs} {p k : Nat} {G : Option (Bs × Nat)} {acc : Bs} (h : QI l p G acc k) {c : UInt8} (hc : l[k]? = some c) (h32 : ¬ c.toNat < 32) (h39 : ¬ c.toNat = 39) (h92 : ¬ c.toNat = 92) (hp : p ≤ k) : QI l p G (acc ++ [c]) (k + 1) := by
  rcases h with ⟨h0, h⟩ | ⟨h0, h⟩
  · rw [drop_get l k c hc, textP_cons, if_neg h32, if_neg h39, if_neg h92] at h
    split at h
    · rename_i h1
      exact .inr ⟨by rw [List.length_append, List.length_singleton]; omega, h.symm⟩
    · rename_i h1
      exact .inl ⟨by rw [List.length_append, List.length_singleton]; omega, by rw [show k + 1 - p = k - p + 1 from by omega]; exact h⟩
  · exact .inr ⟨by rw [List.length_append]; omega, h⟩

def QPost (w : World) (p : Nat) (G : Option (Bs × Nat)) (e : Ending) (w' : World) : Prop :=
  ∃ A c x acc, e = .returned (.tuple #[.slice A (List.length (α := UInt8) acc) c, .int .i64 x]) ∧ BRow w' A c acc ∧ Below w.heap.size w w' ∧ ((∃ n : Nat, G = some (acc, n) ∧ x = (p : Int) + (n : Int)) ∨ (G = none ∧ x = -1))
theorem qpost_none {w w' : World} {p : Nat} {G : Option (Bs × Nat)} (h : G = none) (hb : Below w.heap.size w w') : QPost w p G (.returned (.tuple #[.slice none 0 0, .int .i64 (-1)])) w' :=
  ⟨none, 0, -1, [], rfl, brow_end (by unfold maxLen; omega) (fun _ => rfl), hb, .inr ⟨h, rfl⟩⟩
set_option maxHeartbeats 3200000 in
theorem quoted_any (l : Bs) (n p c : Nat) (A : Option Addr) (w : World) (hA : BRow w A c l) (hn : n = l.length) (hs : n ≤ 20000) (hp : p < n) :
    Calls Try.prog 22 #[.slice A n c, .int .i64 (p : Int)] w (QPost w p (textP (l.drop (p + 1)) [] 1)) := by
  generalize hG : textP (l.drop (p + 1)) [] 1 = G
  have HG : Hid (QI l p G [] (p + 1)) := Lib.hid (.inl ⟨by simp, by rw [show p + 1 - p = 1 from by omega]; exact hG⟩)
  have HN := Lib.hid hn
  obtain ⟨bq, oq, rfl, hbq, hcq⟩ := hA.at_ (by omega)
  have HC : Hid (∀ W', Below w.heap.size w W' → ∀ (j : Nat) (x : UInt8), l[j]? = some x → W'.cell? ⟨bq, oq + j, none⟩ = some (u8v x)) := Lib.hid (fun W' hb j x hj => cell_below hb (hcq j x hj) hbq)
  clear hG hA hcq hbq hn
  go_enter Try.func22, Try.ntmps22
  go_wp2_with fail
  go_loopw [6, 7] (fun v i wr => ∃ (acc : Bs) (lq : Nat) (Aq : Option Addr) (cap k : Nat), v = .slice Aq lq cap ∧ i = .int .i64 k ∧ p < k ∧ k ≤ n + 1 ∧ lq ≤ k ∧ Hid (BOwn wr w.heap.size Aq lq cap acc) ∧ Hid (Below w.heap.size w wr) ∧ Hid (QI l p G acc k)) (fun _ i _ => n + 1 - (RowKit.intOf i).toNat)
  case atStart => exact ⟨[], 0, none, 0, p + 1, rfl, by go_num, by omega, by omega, by omega, Lib.hid (bown_nil _ _), Lib.hid (Below.refl _ _), HG⟩
  case round =>
    obtain ⟨acc, lq, Aq, cap, k, rfl, rfl, hk1, hk2, hlq, hown, hbel, hq⟩ := hrel
    by_cases hlt : k < n
    · obtain ⟨x, hx⟩ : ∃ x, l[k]? = some x := ⟨_, List.getElem?_eq_getElem (by have := HN.out; omega)⟩
      have hc := HC.out wr hbel.out k x hx
      by_cases h39 : x.toNat = 39
      · have e39 : (((x.toNat : Int)) != 39) = false := by simp; omega
        have hki : (k : Int) < (n : Int) := by omega
        have hll := hown.out.len
        rcases qi_q hq.out hx h39 with ⟨hle, hg⟩ | ⟨hgt, hg⟩
        · have HG2 := Lib.hid hg
          have HLL := Lib.hid hll
          have hlqi : (lq : Int) ≤ 1000 := by omega
          have HKP : Hid ((k : Int) + 1 = (p : Int) + ((k - p + 1 : Nat) : Int)) := Lib.hid (by omega)
          clear hq hg hx h39 hll hle
          go_wp2
          go_ret2
          exact ⟨Aq, cap, (k : Int) + 1, acc, by rw [HLL.out]; rfl, hown.out.row, hbel.out, .inl ⟨k - p + 1, HG2.out, HKP.out⟩⟩
        · have HG2 := Lib.hid hg
          have hlqi : (1000 : Int) < (lq : Int) := by omega
          clear hq hg hx h39 hll hgt
          go_wp2
          go_ret2
          exact qpost_none HG2.out hbel.out
      · have e39 : (((x.toNat : Int)) != 39) = true := by simp; omega
        by_cases h32 : x.toNat < 32
        · have HG2 := Lib.hid (qi_low hq.out hx h32)
          have h32i : ((x.toNat : Int)) < 32 := by omega
          clear hq hx h39 h32
          go_wp2
          go_ret2
          exact qpost_none HG2.out hbel.out
        · have h32i : (32 : Int) ≤ ((x.toNat : Int)) := by omega
          by_cases h92 : x.toNat = 92
          · have e92 : (((x.toNat : Int)) == 92) = true := by simp; omega
            by_cases hlt2 : k + 1 < n
            · obtain ⟨d, hd⟩ : ∃ d, l[k + 1]? = some d := ⟨_, List.getElem?_eq_getElem (by have := HN.out; omega)⟩
              have hc2 : wr.cell? ⟨bq, oq + (k + 1), none⟩ = some (u8v d) := HC.out wr hbel.out (k + 1) d hd
              have hti : ((k : Int) + 1).toNat = k + 1 := by omega
              have hki : (k : Int) + 1 < (n : Int) := by omega
              by_cases hdd : d.toNat = 39 ∨ d.toNat = 92
              · have HQ := Lib.hid (qi_bnext hq.out hx h92 hd hdd (by omega))
                rcases hdd with hd39 | hd92
                · have ed : (((d.toNat : Int)) != 39) = false := by simp; omega
                  clear hq hx hd h39 h32 h92 hd39
                  go_wp2_with (at_builtin; refine append_anyB rfl (.tmp 51) (.tmp 56) rfl w.heap.size (hown.out.next (below_new wr _)) rfl rfl (brow_one wr d) rfl (by omega) (by have := hbel.out.size; simp; omega) ?_; intro A2 c2 w2 hown2 hgr2; have O2 := Lib.hid hown2; have G2 : Hid (Below w.heap.size w w2) := Lib.hid (grown_below (Nat.le_refl _) (hbel.out.alloc hbel.out.size _) hgr2 (own_block hown.out)); clear hown2 hgr2)
                  go_roundw
                  case rel => exact ⟨acc ++ [d], lq + 1, A2, c2, k + 2, by go_num, by go_num, by omega, by omega, by omega, O2, G2, HQ⟩
                  case measure => simp [RowKit.intOf]; omega
                · have ed : (((d.toNat : Int)) != 39) = true := by simp; omega
                  have ed2 : (((d.toNat : Int)) != 92) = false := by simp; omega
                  clear hq hx hd h39 h32 h92 hd92
                  go_wp2_with (at_builtin; refine append_anyB rfl (.tmp 51) (.tmp 56) rfl w.heap.size (hown.out.next (below_new wr _)) rfl rfl (brow_one wr d) rfl (by omega) (by have := hbel.out.size; simp; omega) ?_; intro A2 c2 w2 hown2 hgr2; have O2 := Lib.hid hown2; have G2 : Hid (Below w.heap.size w w2) := Lib.hid (grown_below (Nat.le_refl _) (hbel.out.alloc hbel.out.size _) hgr2 (own_block hown.out)); clear hown2 hgr2)
                  go_roundw
                  case rel => exact ⟨acc ++ [d], lq + 1, A2, c2, k + 2, by go_num, by go_num, by omega, by omega, by omega, O2, G2, HQ⟩
                  case measure => simp [RowKit.intOf]; omega
              · have HG2 := Lib.hid (qi_bad hq.out hx h92 hd hdd)
                have ed : (((d.toNat : Int)) != 39) = true := by simp; omega
                have ed2 : (((d.toNat : Int)) != 92) = true := by simp; omega
                clear hq hx hd h39 h32 h92 hdd
                go_wp2
                go_ret2
                exact qpost_none HG2.out hbel.out
            · have HG2 := Lib.hid (qi_bend hq.out hx h92 (by have := HN.out; omega))
              have hki : (n : Int) ≤ (k : Int) + 1 := by omega
              clear hq hx h39 h32 h92
              go_wp2
              go_ret2
              exact qpost_none HG2.out hbel.out
          · have e92 : (((x.toNat : Int)) == 92) = false := by simp; omega
            have HQ := Lib.hid (qi_next hq.out hx h32 h39 h92 (by omega))
            clear hq hx h39 h32 h92
            go_wp2_with (at_builtin; refine append_anyB rfl (.tmp 51) (.tmp 56) rfl w.heap.size (hown.out.next (below_new wr _)) rfl rfl (brow_one wr x) rfl (by omega) (by have := hbel.out.size; simp; omega) ?_; intro A2 c2 w2 hown2 hgr2; have O2 := Lib.hid hown2; have G2 : Hid (Below w.heap.size w w2) := Lib.hid (grown_below (Nat.le_refl _) (hbel.out.alloc hbel.out.size _) hgr2 (own_block hown.out)); clear hown2 hgr2)
            go_roundw
            case rel => exact ⟨acc ++ [x], lq + 1, A2, c2, k + 1, by go_num, by go_num, by omega, by omega, by omega, O2, G2, HQ⟩
            case measure => simp [RowKit.intOf]; omega
    · have HG2 := Lib.hid (qi_end hq.out (by have := HN.out; omega))
      have hki : (n : Int) ≤ (k : Int) := by omega
      clear hq
      go_wp2
      go_ret2
      exact qpost_none HG2.out hbel.out

end Go.Proofs.Ythjbmlgjlndihaa
