/- Contract of value.Dict. -/
import Derived.Test.YtdolejafihgpmaaSm
import Derived.Test.YtdolejafihgpmaaJ
namespace Go.Proofs.Ytdolejafihgpmaa
open Go.RowKit Go.Sort
attribute [local go_sem ↓] Go.wp_at_zero Go.wp_at_succ

def NewE (w : World) (d : Nat) (t : V) (err : Int) (e : Ending) (w' : World) : Prop :=
  ∃ A c A' c', e = .returned (.tuple #[vl t A c A' c', .int .i64 err]) ∧ Rd w' w.heap.size w'.heap.size d t A c A' c' ∧ Below w.heap.size w w'
/-- The map of pairs that stand in their order. -/
def dictOf (ps : List Pr) : V := mapV ((ps.foldl gat []).map Pr.kv)
def okCopy (t : V) : V := if okV 12 t = true then copyV 12 t else zeroV
def DictPost (w : World) (l : List V) (e : Ending) (w' : World) : Prop :=
  ∃ ps ps' : List Pr, ps.map Pr.kv = pairUp l ∧ Srt ps' ∧ FEq ps ps' ∧ NewE w 13 (okCopy (dictOf ps')) (errI (okV 12 (dictOf ps'))) e w'

set_option maxHeartbeats 1600000 in
theorem dict_odd (w : World) (A : Option Addr) (c : Nat) (l : List V) (hbig : l.length ≤ 1759218604441) (hodd : l.length % 2 = 1) :
    Calls Try.prog 22 #[.slice A l.length c] w (NewE w 13 zeroV 2) := by
  have hm : (l.length : Int) % 2 = 1 := by omega
  clear hodd
  go_enter Try.func22, Try.ntmps22
  go_wp2
  exact bodyPost_ret (v := .tuple #[vl zeroV none 0 none 0, .int .i64 2]) (by simp [results, Try.results22, go_sem]; exact ⟨rfl, rfl, rfl, rfl, rfl⟩) rfl ⟨none, 0, none, 0, rfl, rd_zero _ _ _ _, below_new _ _⟩

theorem held_pairs {w w' : World} {d : Nat} {ps : Array Pr} (h1 : RowP w' w.heap.size ps) (h2 : ∀ i, i < ps.size → PrIn w 0 w.heap.size d (ps[i]!)) (hb : Below w.heap.size w w') : Held w' w' w.heap.size w.heap.size d ps.size ps :=
  ⟨rfl, h1, Near.refl _ _, fun j hj => ⟨(h2 j hj).1.below hb (Nat.le_refl _), (h2 j hj).2.below hb (Nat.le_refl _)⟩⟩

set_option maxHeartbeats 3200000 in
theorem dict_even (w : World) (d : Nat) (A : Option Addr) (c : Nat) (l : List V) (h : Rw w 0 w.heap.size d A c l) (hev : l.length % 2 = 0) (hs : StableOk (l.length / 2)) (hn : l.length ≤ 200000) :
    Calls Try.prog 22 #[.slice A l.length c] w (DictPost w l) := by
  have hm : (l.length : Int) % 2 = 0 := by omega
  have H := Lib.hid h
  have HEV := Lib.hid hev
  have HST := Lib.hid hs
  have hn0 : (l.length : Int) ≤ 200000 := by omega
  clear h hev hs
  go_enter Try.func22, Try.ntmps22
  go_wp2_with fail
  have k1 := Cell.new w (.int .i64 0) (.int .i64 0) (.string ⟨#[]⟩) (.slice none 0 0) (.slice none 0 0)
  generalize hW : World.alloc _ _ = W0
  have K1 : Hid (Cell W0 w.heap.size (.int .i64 0) (.int .i64 0) (.string ⟨#[]⟩) (.slice none 0 0) (.slice none 0 0)) := Lib.hid (by rw [← hW]; exact k1)
  have HB : Hid (Below w.heap.size w W0) := Lib.hid (by rw [← hW]; exact below_new _ _)
  have hzz : w.heap.size < W0.heap.size := by rw [← hW]; simp
  clear hW k1 hm
  refine (pairsOf_any W0 d A c l (H.out.next HB.out) HEV.out).mono ?_
  rintro e w1 ⟨ps, rfl, hsz, hrow, hb1, hlt1, hin, hkv⟩
  have HH := Lib.hid (held_pairs hrow hin hb1)
  have HK := Lib.hid hkv
  have HB1 := Lib.hid (bnext HB.out hb1)
  have R1 := Lib.hid (K1.out.below hb1 hzz)
  have SO := Lib.hid (show StableOk ps.size by rw [hsz]; exact HST.out)
  have hps : ps.size ≤ 100000 := by omega
  have hz1 : W0.heap.size ≤ w1.heap.size := hb1.size
  clear hsz hrow hb1 hin hkv
  go_wp2_with fail
  refine (mapOf_any w1 W0.heap.size W0.heap.size d ps.size ps HH.out (Nat.le_refl _) hlt1 SO.out hps).mono ?_
  rintro e w2 ⟨ps', A1, c1, A2, c2, hsrt, hfe, he, rdm, hnear⟩
  obtain ⟨M, hM⟩ : ∃ M, M = dictOf ps' := ⟨_, rfl⟩
  change e = .returned (vl (dictOf ps') A1 c1 A2 c2) at he
  change Rd w2 0 w2.heap.size (d + 1) (dictOf ps') A1 c1 A2 c2 at rdm
  rw [← hM] at he rdm
  subst he
  have HM := Lib.hid hM
  have HSR := Lib.hid hsrt
  have HFE := Lib.hid hfe
  have HB2 := Lib.hid (HB1.out.trans (hnear.below (B := w.heap.size) (by omega) (by omega)))
  have R2 := Lib.hid (R1.out.kept (hnear.block w.heap.size (by omega) (by omega)))
  have hz2 : w1.heap.size ≤ w2.heap.size := hnear.size
  have RM := Lib.hid (rdm.next (below_new w2 (.cells #[.int .i64 M.k, .int .i64 M.n, .string M.s, .slice A1 M.l.length c1, .slice A2 M.m.length c2] 24)))
  have k2 := Cell.new w2 (.int .i64 M.k) (.int .i64 M.n) (.string M.s) (.slice A1 M.l.length c1) (.slice A2 M.m.length c2)
  have bl2 := below_new w2 (.cells #[.int .i64 M.k, .int .i64 M.n, .string M.s, .slice A1 M.l.length c1, .slice A2 M.m.length c2] 24)
  clear hsrt hfe hnear rdm hM
  go_wp2_with fail
  generalize hX : World.alloc w2 _ = X at RM k2 bl2
  have hzx : w2.heap.size < X.heap.size := by rw [← hX]; simp
  clear hX
  have B3 := Lib.hid (bnext HB2.out bl2)
  have R3 := Lib.hid (R2.out.below bl2 (by omega))
  refine (check_any X (d + 1) M _ _ _ _ RM.out).mono ?_
  rintro e w4 ⟨rfl, hb4⟩
  have B4 := Lib.hid (bnext B3.out hb4)
  have R4 := Lib.hid (R3.out.below hb4 (by omega))
  have RM4 := Lib.hid (RM.out.next hb4)
  obtain ⟨q0, q1, q2, q3, q4, _⟩ := k2.below hb4 hzx
  have hz4 : X.heap.size ≤ w4.heap.size := hb4.size
  clear hb4 bl2 k2
  have FIN : Hid (∀ (err : Int) (t : V) (e : Ending) (w' : World), err = errI (okV 12 M) → t = okCopy M → NewE w 13 t err e w' → DictPost w l e w') := Lib.hid (fun err t e w' h1 h2 h => by
    refine ⟨ps.toList, ps', HK.out, HSR.out, HFE.out, ?_⟩
    rw [← HM.out, ← h1, ← h2]
    exact h)
  cases hq : okV 12 M
  · have FI := Lib.hid (FIN.out 2 zeroV · · (by rw [hq]; rfl) (by unfold okCopy; rw [hq]; rfl))
    have hE : errI false = 2 := rfl
    obtain ⟨s0, s1, s2, s3, s4, p0, p1, p2, p3, p4, hblk⟩ := R4.out
    have HR := Lib.hid (ret_box hblk (.int .i64 0) (.int .i64 0) (.string ⟨#[]⟩) (.slice none 0 0) (.slice none 0 0))
    clear hblk hq
    go_wp2
    obtain ⟨F, hF, ⟨r0, r1, r2, r3, r4, _⟩, hk, hs, hbel⟩ := HR.out
    rw [← hF]
    clear hF
    exact bodyPost_ret (v := .tuple #[vl zeroV none 0 none 0, .int .i64 2]) (by simp [results, Try.results22, go_sem, r0, r1, r2, r3, r4]; exact ⟨rfl, rfl, rfl, rfl, rfl⟩) rfl (FI.out _ _ ⟨none, 0, none, 0, rfl, rd_zero _ _ _ _, hbel _ _ (Nat.le_refl _) B4.out⟩)
  · have FI := Lib.hid (FIN.out 0 (copyV 12 M) · · (by rw [hq]; rfl) (by unfold okCopy; rw [hq]; rfl))
    have hE : errI true = 0 := rfl
    clear hq
    go_wp2_with fail
    refine (copy_any w4 _ M _ _ _ _ RM4.out).mono ?_
    rintro x2 w5 ⟨E, e1, E', e2, rfl, rd, _, _, hb5⟩
    obtain ⟨s0, s1, s2, s3, s4, p0, p1, p2, p3, p4, hblk⟩ := R4.out.below hb5 (by omega)
    have HR := Lib.hid (ret_box hblk (.int .i64 (copyV 12 M).k) (.int .i64 (copyV 12 M).n) (.string (copyV 12 M).s) (.slice E (copyV 12 M).l.length e1) (.slice E' (copyV 12 M).m.length e2))
    have RD := Lib.hid rd
    have B5 := Lib.hid (bnext B4.out hb5)
    have S4 := Lib.hid (show w.heap.size < w4.heap.size by omega)
    clear rd hb5 hblk q0 q1 q2 q3 q4
    generalize copyV 12 M = t at *
    go_wp2
    obtain ⟨F, hF, ⟨r0, r1, r2, r3, r4, _⟩, hk, hs, hbel⟩ := HR.out
    rw [← hF]
    clear hF
    exact bodyPost_ret (v := .tuple #[vl t E e1 E' e2, .int .i64 0]) (by simp [results, Try.results22, go_sem, r0, r1, r2, r3, r4]) rfl (FI.out _ _ ⟨E, e1, E', e2, rfl, by rw [hs]; exact Rd.imp (hk _ _ S4.out) (Nat.le_of_lt S4.out) (Nat.le_refl _) (Nat.le_refl _) RD.out, hbel _ _ (Nat.le_refl _) B5.out⟩)
end Go.Proofs.Ytdolejafihgpmaa
