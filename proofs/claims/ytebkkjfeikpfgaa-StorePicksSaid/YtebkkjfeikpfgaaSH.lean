/- What is seen from a vertex; those of some numbers that there are. -/
import Derived.Test.YtebkkjfeikpfgaaSG
namespace Go.Proofs.Ytebkkjfeikpfgaa
open Go.RowKit Go.Sort
set_option maxRecDepth 100000
attribute [local go_sem ↓] Go.wp_at_zero Go.wp_at_succ

/-- The map of sides, as it is read. -/
structure MRd (w : World) (m : Option Nat) (S : Int → Int → List SP) : Prop where
  lt : ∀ k, m = some k → k < w.heap.size
  at_ : ∀ v way, WfI v → WfI way → ∃ A c, SRow w A c (S v way) ∧ ∀ W, Below w.heap.size w W → (Instr.lookup 65 (.map m) (.agg #[.int .i64 v, .int .i64 way]) false).run Try.prog W = .ok (.slice A (S v way).length c) W
theorem MRd.next {a b : World} {m : Option Nat} {S : Int → Int → List SP} (h : MRd a m S) (hb : Below a.heap.size a b) : MRd b m S :=
  ⟨fun k hk => Nat.lt_of_lt_of_le (h.lt k hk) hb.size, fun v way hv hw => by
    obtain ⟨A, c, h1, h2⟩ := h.at_ v way hv hw
    exact ⟨A, c, h1.next hb, fun W hW => h2 W (bnext hb hW)⟩⟩
theorem Aro.read {w : World} {base mb n : Nat} {D : DataW Value} {val : Int → Int → Value} {S : Int → Int → List SP} (h : Aro w base mb n D val S) : MRd w (some mb) S :=
  ⟨fun k hk => by injection hk with hk; subst hk; exact h.map.lt, fun v way hv hw => by
    obtain ⟨A, c, e, ho⟩ := h.row v way
    refine ⟨A, c, ho.row, fun W hW => ?_⟩
    obtain ⟨x, ps, hrun, hx⟩ := (h.next hW).map.lookup keyed94 Try.underlying65 (zero75 W) (zd := .held (.slice none 0 0)) (zp := []) rfl (keyOf_side hv hw)
    have e1 := (exR_inv hx).1
    rw [h.at_ v way hv hw] at e1
    injection e1 with e1
    rw [← e1, e] at hrun
    exact hrun⟩
theorem mrd_nil (w : World) : MRd w none (fun _ _ => []) :=
  ⟨(fun k hk => by cases hk), fun v way hv hw => ⟨none, 0, srow_nil w, fun W _ => by
    have := Maps.look_nil (w := W) false keyed94 Try.underlying65 (zero75 W) (keyOf_side hv hw)
    simpa using this⟩⟩
/-- What lies that way around a vertex. -/
def baseS (S : Int → Int → List SP) (id way : Int) : List SP := if way = 3 then S id 1 ++ S id 2 else S id way
def seenS (S : Int → Int → List SP) (id way : Int) (ls : List ByteArray) : List SP := if ls = [] then baseS S id way else (baseS S id way).filter fun s => fitL ls s.l
/-- Bounds and sizes of what may lie around. -/
structure Few (S : Int → Int → List SP) : Prop where
  len : ∀ a b, (S a b).length ≤ 1099511627776
  sz : ∀ a b, ∀ s ∈ S a b, s.l.size ≤ maxLen
theorem Few.base {S : Int → Int → List SP} (h : Few S) (id way : Int) : (baseS S id way).length ≤ 4398046511104 ∧ ∀ s ∈ baseS S id way, s.l.size ≤ maxLen := by
  unfold baseS
  split
  · refine ⟨by rw [List.length_append]; have := h.len id 1; have := h.len id 2; omega, fun s hs => ?_⟩
    rcases List.mem_append.1 hs with h1 | h1
    · exact h.sz _ _ s h1
    · exact h.sz _ _ s h1
  · exact ⟨by have := h.len id way; omega, h.sz _ _⟩
theorem parts_two {w : World} {A1 A2 : Option Addr} {c1 c2 : Nat} {l1 l2 : List SP} (h1 : SRow w A1 c1 l1) (h2 : SRow w A2 c2 l2) : PartsS (w.alloc (.cells #[.slice A1 l1.length c1, .slice A2 l2.length c2] 75)) w.heap.size [⟨A1, c1, l1⟩, ⟨A2, c2, l2⟩] :=
  ⟨by simp, fun k p hk => by
    match k, hk with
    | 0, hk => injection hk with hk; subst hk; exact ⟨by rw [World.cell?_alloc_at _ _ _ _ rfl]; rfl, h1.next (below_new _ _)⟩
    | 1, hk => injection hk with hk; subst hk; exact ⟨by rw [World.cell?_alloc_at _ _ _ _ rfl]; rfl, h2.next (below_new _ _)⟩⟩
set_option maxHeartbeats 4000000 in
theorem concat_two (w : World) (A1 A2 : Option Addr) (c1 c2 : Nat) (l1 l2 : List SP) (h1 : SRow w A1 c1 l1) (h2 : SRow w A2 c2 l2) (hl1 : l1.length ≤ 1099511627776) (hl2 : l2.length ≤ 1099511627776) : Calls Try.prog 51 #[.slice (some ⟨w.heap.size, 0, none⟩) 2 2] (w.alloc (.cells #[.slice A1 l1.length c1, .slice A2 l2.length c2] 75)) (SPost w (l1 ++ l2)) := by
  have e : allS [⟨A1, c1, l1⟩, ⟨A2, c2, l2⟩] = l1 ++ l2 := by simp [allS]
  have := concatS_any _ _ _ (parts_two h1 h2) (by simp) (by rw [e, List.length_append]; omega)
  rw [e] at this
  refine this.mono ?_
  rintro e w' ⟨A, c, he, hr, hb⟩
  exact ⟨A, c, he, hr, bnext (below_new _ _) hb⟩
def SeenCut (W : World) (l : List SP) (s9 : Value) (w : World) : Prop := ∃ A c, s9 = .slice A l.length c ∧ Hid (SRow w A c l) ∧ Hid (Below W.heap.size W w)
set_option maxHeartbeats 8000000 in
theorem seen_any (w : World) (g off : Nat) (m : Option Nat) (S : Int → Int → List SP) (hM : MRd w m S) (hF : Few S) (_hg : g < w.heap.size) (hc : w.cell? ⟨g, off + 1, none⟩ = some (.map m)) (id way : Int) (hid : WfI id) (hway : WfI way) (B : Option Addr) (cb : Nat) (ls : List ByteArray) (hL : LRow w B cb ls) (hn : ls.length ≤ 1000000) :
    Calls Try.prog 37 #[.pointer (some ⟨g, off, none⟩), .int .i64 id, .int .i64 way, .slice B ls.length cb] w (SPost w (seenS S id way ls)) := by
  obtain ⟨A0, c0, r0, k0⟩ := hM.at_ id way hid hway
  obtain ⟨A1, c1, r1, k1⟩ := hM.at_ id 1 hid (by decide)
  obtain ⟨A2, c2, r2, k2⟩ := hM.at_ id 2 hid (by decide)
  have R0 := Lib.hid r0
  have R1 := Lib.hid r1
  have R2 := Lib.hid r2
  have K0 := Lib.hid k0
  have K1 := Lib.hid k1
  have K2 := Lib.hid k2
  have HB := Lib.hid (hF.base id way)
  have HF := Lib.hid hF
  have HL := Lib.hid hL
  have q0 := k0 w (Below.refl _ _)
  clear r0 r1 r2 k0 k1 k2 hF hL hM
  go_enter Try.func37, Try.ntmps37
  go_upto_if 19 with fail
  clear q0
  have HC := Lib.hid hc
  go_cut [9] (fun s9 wx => SeenCut w (baseS S id way) s9 wx)
  case first =>
    by_cases h3 : way = 3
    · have e3 : (way == 3) = true := by simp [h3]
      have EB : Hid (baseS S id way = S id 1 ++ S id 2) := Lib.hid (by unfold baseS; rw [if_pos h3])
      clear h3
      have q1 := K1.out w.drew (Below.refl _ _).drew
      have q2 := K2.out w.drew (Below.refl _ _).drew
      go_upto_region 3 with fail
      go_still_tail 14, (by kernel_rfl)
      change wpList _ _ _ _ _ w.drew
      have bd : Below w.heap.size w w.drew := (Below.refl _ _).drew
      have R1d := Lib.hid (R1.out.next bd)
      have R2d := Lib.hid (R2.out.next bd)
      have FL := Lib.hid (HF.out.len id)
      clear q1 q2 hc
      have BD := Lib.hid bd
      clear bd
      generalize w.drew = w1 at R1d R2d BD ⊢
      have CC := Lib.hid (concat_two w1 A1 A2 c1 c2 _ _ R1d.out R2d.out (FL.out 1) (FL.out 2))
      go_wp2_with fail
      refine CC.out.mono ?_
      rintro e w2 ⟨A3, c3, rfl, hr, hb⟩
      have R3 := Lib.hid hr
      have B3 := Lib.hid (bnext BD.out hb)
      clear hr hb
      go_wp2_with fail
      go_meet
      exact ⟨A3, c3, by rw [EB.out, List.length_append], Lib.hid (by rw [EB.out]; exact R3.out), B3⟩
    · have e3 : (way == 3) = false := by simp [h3]
      have EB : Hid (baseS S id way = S id way) := Lib.hid (by unfold baseS; rw [if_neg h3])
      clear h3
      go_wp2_with fail
      go_meet
      exact ⟨A0, c0, by rw [EB.out], Lib.hid (by rw [EB.out]; exact R0.out), Lib.hid (Below.refl _ _)⟩
  case rest =>
    obtain ⟨A3, c3, rfl, HR, HBL⟩ := hcut
    have LN := Lib.hid (HL.out.next HBL.out)
    by_cases hz : ls = []
    · subst hz
      have ES : Hid (seenS S id way [] = baseS S id way) := Lib.hid (by unfold seenS; rw [if_pos rfl])
      go_wp2
      go_ret
      exact ⟨A3, c3, by rw [ES.out]; rfl, by rw [ES.out]; exact HR.out, HBL.out⟩
    · have ES : Hid (seenS S id way ls = (baseS S id way).filter fun s => fitL ls s.l) := Lib.hid (by unfold seenS; rw [if_neg hz])
      have hpos : 0 < ls.length := List.length_pos_iff.2 hz
      have e0 : ((ls.length : Int) == 0) = false := beq_eq_false_iff_ne.2 (by omega)
      have e1 : (ls.length == 0) = false := beq_eq_false_iff_ne.2 (by omega)
      have CL := Lib.hid (labelled_any wc A3 c3 _ HR.out HB.out.1 HB.out.2 B cb ls LN.out hn)
      clear hz
      go_wp2_with fail
      refine CL.out.mono ?_
      rintro e w2 ⟨A4, c4, rfl, hr, hb⟩
      have R4 := Lib.hid hr
      have B4 := Lib.hid (bnext HBL.out hb)
      clear hr hb
      go_wp2
      go_ret
      exact ⟨A4, c4, by rw [ES.out]; rfl, by rw [ES.out]; exact R4.out, B4.out⟩
/-- Of some numbers those that there are; without any, all. -/
def pickL (ts : List TA) (ids : List Int) : List Int := if ids = [] then ts.map (fun t => t.id) else ids.filter fun id => ts.any (idB id)
set_option maxHeartbeats 8000000 in
theorem which_any (w : World) (d : Nat) (A : Option Addr) (c : Nat) (ts : List TA) (h : TRow w d A c ts) (hr : Ris ts) (g off : Nat) (hg : g < w.heap.size) (hc : w.cell? ⟨g, off, none⟩ = some (.slice A ts.length c)) (B : Option Addr) (cb : Nat) (ids : List Int) (hI : IRow w B cb ids) :
    Calls Try.prog 42 #[.pointer (some ⟨g, off, none⟩), .slice B ids.length cb] w (NumPost w (pickL ts ids)) := by
  by_cases hz : ids = []
  · subst hz
    have EP : Hid (pickL ts [] = ts.map fun t => t.id) := Lib.hid (by unfold pickL; rw [if_pos rfl])
    have CN := Lib.hid (numT_any w d A c ts h)
    clear h hr hI
    go_enter Try.func42, Try.ntmps42
    go_wp2_with fail
    refine CN.out.mono ?_
    rintro e w1 ⟨A1, c1, rfl, ho, hb⟩
    have O1 := Lib.hid ho
    have B1 := Lib.hid hb
    clear ho hb
    go_wp2
    go_ret
    exact ⟨A1, c1, by rw [EP.out, List.length_map]; rfl, by rw [EP.out]; exact O1.out, B1.out⟩
  · have EP : Hid (pickL ts ids = ids.filter fun id => ts.any (idB id)) := Lib.hid (by unfold pickL; rw [if_neg hz])
    have hpos : 0 < ids.length := List.length_pos_iff.2 hz
    have hbig : ids.length ≤ 17592186044416 := hI.big
    have hmk := make0 ids.length hbig
    have CP := Lib.hid (fun (W : World) (hb : Below w.heap.size w W) (x : Int) => place_any W d A c ts (h.next hb) hr x g off (cell_below hb hc hg))
    have H := Lib.hid hI
    clear h hr hI hz hc
    obtain ⟨n, hn⟩ : ∃ n, n = ids.length := ⟨_, rfl⟩
    rw [← hn] at hmk hbig hpos ⊢
    have HN := Lib.hid hn
    clear hn
    have e0 : ((n : Int) == 0) = false := beq_eq_false_iff_ne.2 (by omega)
    have e1 : (n == 0) = false := beq_eq_false_iff_ne.2 (by omega)
    go_enter Try.func42, Try.ntmps42
    go_wp2
    have O0 := Lib.hid (own0 w n hbig)
    have B0 := Lib.hid (below_new w (.cells (zrowI n) 3))
    generalize World.alloc w _ = W at O0 B0
    clear hmk
    go_loopw [5, 23] (fun al i wr => ∃ (k m : Nat) (A' : Option Addr) (c' : Nat), k ≤ n ∧ i = .int .i64 k ∧ al = .slice A' m c' ∧ m ≤ k ∧ Hid (Below w.heap.size w wr) ∧ Hid (IOwn wr w.heap.size A' m c' ((ids.take k).filter fun id => ts.any (idB id)))) (fun _ i _ => n - (intOf i).toNat)
    case atStart => exact ⟨0, 0, _, _, by omega, rfl, rfl, by omega, B0, O0⟩
    case round =>
      obtain ⟨k, m, A', c', hk, rfl, rfl, hmk, hbel, hO⟩ := hrel
      by_cases hlt : k < n
      · obtain ⟨b, o, x, rfl, hb, hx, q0⟩ := (H.out.next hbel.out).elem (k := k) (by have := HN.out; omega)
        have FN := Lib.hid (filter_next (fun id => ts.any (idB id)) ids k hx)
        have klt : (k : Int) < (n : Int) := by omega
        clear hx
        go_wp2_with fail
        refine (CP.out wr hbel.out x).mono ?_
        rintro e w1 ⟨i, rfl, -, -, hb1⟩
        have HB := Lib.hid (bnext hbel.out hb1)
        have HO2 := Lib.hid (hO.out.next hb1)
        clear hb1 q0
        cases hp : ts.any (idB x)
        · have FP := Lib.hid hp
          clear hp
          go_wp2
          go_roundw
          case rel => exact ⟨k + 1, m, A', c', by omega, by go_num, rfl, by omega, HB, Lib.hid (by rw [FN.out, FP.out]; simpa using HO2.out)⟩
          case measure => simp [intOf]; omega
        · have FP := Lib.hid hp
          have hm1 : m + 1 ≤ 17592186044416 := by omega
          have hI := Lib.hid (one_box w1 (.int .i64 x) 3)
          have HO3 := Lib.hid (HO2.out.next (below_new w1 (.cells #[.int .i64 x] 3)))
          have B3 := Lib.hid (bnext HB.out (below_new w1 (.cells #[.int .i64 x] 3)))
          clear hp
          go_wp2_with (at_builtin; refine append_oneI rfl _ _ rfl w.heap.size HO3.out rfl _ _ rfl hI.out hm1 B3.out.size ?_; intro A2 c2 w2 hown2 hg2; have OW2 := Lib.hid hown2; have BG := Lib.hid (grown_below (Nat.le_refl _) B3.out hg2 (own_block HO3.out)); clear hown2 hg2)
          go_roundw
          case rel => exact ⟨k + 1, m + 1, A2, c2, by omega, by go_num, rfl, by omega, BG, Lib.hid (by rw [FN.out, FP.out]; exact OW2.out)⟩
          case measure => simp [intOf]; omega
      · obtain rfl : k = n := by omega
        have hO' := hO.out
        rw [List.take_of_length_le (by have := HN.out; omega)] at hO'
        have OE := Lib.hid hO'
        have LE := Lib.hid hO'.len
        clear hO'
        go_wp2
        go_ret
        exact ⟨A', c', by rw [EP.out, LE.out]; rfl, by rw [EP.out, LE.out]; exact OE.out, hbel.out⟩
end Go.Proofs.Ytebkkjfeikpfgaa
