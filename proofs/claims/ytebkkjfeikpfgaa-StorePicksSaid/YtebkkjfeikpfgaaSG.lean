/- Labels; those spokes that have one of them; what is seen from a vertex; those of some numbers that there are. -/
import Derived.Test.YtebkkjfeikpfgaaSF
import Derived.Test.YtebkkjfeikpfgaaSE
import Derived.Test.YtebkkjfeikpfgaaSD
import Derived.StringKeys
import Derived.StillTailTactics
namespace Go.Proofs.Ytebkkjfeikpfgaa
open Go.RowKit Go.Sort
open Go.Maps (Keyed string_keyed)
open Go.WideMaps (keyOf_string_mk)
set_option maxRecDepth 100000
attribute [local go_sem ↓] Go.wp_at_zero Go.wp_at_succ

/-- A slice that reads as labels. -/
structure LRow (w : World) (A : Option Addr) (c : Nat) (l : List ByteArray) : Prop where
  le : l.length ≤ c
  big : l.length ≤ 8796093022208
  sz : ∀ s ∈ l, s.size ≤ maxLen
  at_ : 0 < l.length → ∃ b off, A = some ⟨b, off, none⟩ ∧ b < w.heap.size ∧ ∀ (j : Nat) x, l[j]? = some x → w.cell? ⟨b, off + j, none⟩ = some (.string x)
theorem LRow.next {a b : World} {A : Option Addr} {c : Nat} {l : List ByteArray} (h : LRow a A c l) (hb : Below a.heap.size a b) : LRow b A c l :=
  ⟨h.le, h.big, h.sz, fun h0 => by
    obtain ⟨g, off, e, hg, hc⟩ := h.at_ h0
    exact ⟨g, off, e, Nat.lt_of_lt_of_le hg hb.size, fun j x hj => cell_below hb (hc j x hj) hg⟩⟩
theorem LRow.elem {w : World} {A : Option Addr} {c : Nat} {l : List ByteArray} (h : LRow w A c l) {k : Nat} (hk : k < l.length) : ∃ b off x, A = some ⟨b, off, none⟩ ∧ b < w.heap.size ∧ l[k]? = some x ∧ w.cell? ⟨b, off + k, none⟩ = some (.string x) := by
  obtain ⟨b, off, e, hb, hc⟩ := h.at_ (by omega)
  exact ⟨b, off, l[k], e, hb, List.getElem?_eq_getElem hk, hc k _ (List.getElem?_eq_getElem hk)⟩
theorem lrow_nil (w : World) (A : Option Addr) (c : Nat) : LRow w A c [] := ⟨by simp, by simp, by simp, fun h => absurd h (by simp)⟩
/-- Has it one of these labels? -/
def fitL (ls : List ByteArray) (b : ByteArray) : Bool := ls.any fun s => s.data.toList == b.data.toList
theorem keyed9 : Keyed Try.prog 9 := string_keyed Try.underlying9
def LabAt (ls : List ByteArray) (D : DataW Unit) : Prop := ∀ b : ByteArray, Maps.has D (.string b.data.toList) = fitL ls b
theorem lab_put {ls : List ByteArray} {D : DataW Unit} {s : ByteArray} {u : DataW Unit} {k : Nat} (h : LabAt (ls.take k) D) (hD : Maps.IsMap D) (hs : ls[k]? = some s) : LabAt (ls.take (k + 1)) (D.put (.string s.data.toList) u) := by
  intro b
  have e : fitL (ls.take (k + 1)) b = (fitL (ls.take k) b || (s.data.toList == b.data.toList)) := by
    unfold fitL
    rw [List.take_add_one, hs]; simp
  rw [e]
  by_cases hb : s.data.toList = b.data.toList
  · rw [← hb, Maps.has_put_same (k := .string s.data.toList) hD trivial]; simp
  · rw [Maps.has_put_other (fun e => hb (by injection e with e; exact e.symm)), h b]
    have : (s.data.toList == b.data.toList) = false := beq_eq_false_iff_ne.2 hb
    rw [this]; simp
theorem make_labels (n : Nat) (_hn : n ≤ 1000000) (w : World) : (Instr.makeMap 114 (some (.int .i64 (n : Int)))).run Try.prog w = .ok (.map (some w.heap.size)) (w.alloc (.map #[] 0)) := by
  simp [Instr.makeMap, run_underlying Try.underlying114, asInt, asIntOf, Result.andThen]
theorem zero109 (w : World) : (zeroValue 109).run Try.prog w = .ok (.agg #[]) w := by kernel_rfl
theorem owns_nextL {a b : World} {mb n : Nat} {D : DataW Unit} (h : a.ownsMap Try.prog 9 (unitElem (H := Unit)) mb n D) (hb : Below a.heap.size a b) : b.ownsMap Try.prog 9 (unitElem (H := Unit)) mb n D := by
  obtain ⟨es, clock, h1, r⟩ := h
  exact ⟨es, clock, (hb.block mb (Array.getElem?_eq_some_iff.1 h1).1).trans h1, r⟩
theorem filter_next {α : Type} (p : α → Bool) (l : List α) (k : Nat) {x : α} (hx : l[k]? = some x) : (l.take (k + 1)).filter p = (l.take k).filter p ++ if p x then [x] else [] := by
  rw [List.take_add_one, hx, List.filter_append]
  simp [List.filter_cons]
theorem filter_le {α : Type} (p : α → Bool) (l : List α) (k : Nat) : ((l.take k).filter p).length ≤ k := Nat.le_trans (List.length_filter_le _ _) (List.length_take_le _ _)
set_option maxHeartbeats 8000000 in
theorem labelled_any (w : World) (A : Option Addr) (c : Nat) (l : List SP) (h : SRow w A c l) (hl : l.length ≤ 4398046511104) (hz : ∀ s ∈ l, s.l.size ≤ maxLen) (B : Option Addr) (cb : Nat) (ls : List ByteArray) (hL : LRow w B cb ls) (hn : ls.length ≤ 1000000) : Calls Try.prog 52 #[.slice A l.length c, .slice B ls.length cb] w (SPost w (l.filter fun s => fitL ls s.l)) := by
  have hmm := fun W => make_labels ls.length hn W
  have H := Lib.hid h
  have HL := Lib.hid hL
  have HZ := Lib.hid hz
  clear h hL hz
  go_enter Try.func52, Try.ntmps52
  go_wp2_with fail
  have M0 : Hid ((w.alloc (.map #[] 0)).ownsMap Try.prog 9 (unitElem (H := Unit)) w.heap.size 0 (.map [])) := Lib.hid (World.ownsMap_made _ _ _ _)
  go_loopw [18] (fun i wr => ∃ (k : Nat) (D : DataW Unit), k ≤ ls.length ∧ i = .int .i64 k ∧ Hid (wr.ownsMap Try.prog 9 (unitElem (H := Unit)) w.heap.size k D) ∧ Hid (LabAt (ls.take k) D) ∧ Hid (Below w.heap.size w wr)) (fun i _ => ls.length - (intOf i).toNat)
  case atStart => exact ⟨0, .map [], by omega, rfl, M0, Lib.hid (fun _ => rfl), Lib.hid (below_new _ _)⟩
  case round =>
    obtain ⟨k, D, hk, rfl, hown, hD, hbel⟩ := hrel
    by_cases hlt : k < ls.length
    · obtain ⟨b, off, s, rfl, hb, hs, q0⟩ := (HL.out.next hbel.out).elem hlt
      have hkey : keyOf Try.prog 9 (.string s) = some (.string s.data.toList) := keyOf_string_mk Try.underlying9 (HL.out.sz s (List.mem_of_getElem? hs))
      have HP := Lib.hid (fun u => lab_put (u := u) hD.out hown.out.isMap hs)
      have k0 : (0 : Int) ≤ (k : Int) := by omega
      have k1 : (k : Int) < (ls.length : Int) := by omega
      clear hs
      go_wp2_with (at_mapUpdate; refine wpList_mapUpdate_own _ rfl _ _ _ 114 rfl 9 109 keyed9 Try.underlying114 (unitElem (H := Unit)) w.heap.size k _ rfl hown.out (by unfold maxLen; omega) _ _ _ rfl rfl hkey _ [] unitElem_mk ?_; intro w1 hown1 hgrow1; have OW := Lib.hid hown1; have BG := Lib.hid (below_grown hbel.out hgrow1 (Nat.le_refl _) (Nat.le_refl _)); clear hown1 hgrow1)
      go_roundw
      case rel => exact ⟨k + 1, _, by omega, by go_num, OW, Lib.hid (HP.out _), BG⟩
      case measure => simp [intOf]; omega
    · obtain rfl : k = ls.length := by omega
      have DL : Hid (LabAt ls D) := Lib.hid (by have := hD.out; rwa [List.take_length] at this)
      clear hmm M0
      obtain ⟨mb, hmb⟩ : ∃ mb, mb = w.heap.size := ⟨_, rfl⟩
      rw [← hmb] at hown
      have HMB := Lib.hid hmb
      try rw [← hmb]
      clear hmb
      obtain ⟨n, hnn⟩ : ∃ n, n = l.length := ⟨_, rfl⟩
      rw [← hnn] at hl
      have HN := Lib.hid hnn
      try rw [← hnn]
      clear hnn hD
      generalize hkk : ls.length = kk at hown hn ⊢
      clear hkk
      have MLT : Hid (mb + 1 ≤ wr.heap.size) := Lib.hid hown.out.lt
      go_wp2_with fail
      go_loopw [8, 28] (fun sm i wx => ∃ (k m : Nat) (A' : Option Addr) (c' : Nat), k ≤ n ∧ i = .int .i64 k ∧ sm = .slice A' m c' ∧ m ≤ k ∧ Hid (Below w.heap.size w wx) ∧ Hid (mb + 1 ≤ wx.heap.size) ∧ Hid (SOwn wx (mb + 1) A' m c' ((l.take k).filter fun s => fitL ls s.l)) ∧ Hid (wx.ownsMap Try.prog 9 (unitElem (H := Unit)) mb kk D)) (fun _ i _ => n - (intOf i).toNat)
      case atStart => exact ⟨0, 0, none, 0, by omega, rfl, rfl, by omega, hbel, MLT, Lib.hid (sown_nil _ _), hown⟩
      case round =>
        clear hown hbel MLT
        obtain ⟨k, m, A', c', hk, rfl, rfl, hmk, hbel, hM, hO, hown⟩ := hrel
        by_cases hlt : k < n
        · obtain ⟨b, off, s, rfl, hb, hs, q3⟩ := (H.out.next (hbel.out)).elem (k := k) (by have := HN.out; omega)
          obtain ⟨q0, q1, q2⟩ := q3
          have HS := Lib.hid hs
          have hkey : keyOf Try.prog 9 (.string s.l) = some (.string s.l.data.toList) := keyOf_string_mk Try.underlying9 (HZ.out s (List.mem_of_getElem? hs))
          have FN := Lib.hid (filter_next (fun s : SP => fitL ls s.l) l k hs)
          have klt : (k : Int) < (n : Int) := by omega
          clear hs
          go_upto_region 11 with fail
          have bx := box3 wr s
          have slt : wr.heap.size < (wr.alloc (.cells #[.int .i64 s.e, .string s.l, .int .i64 s.o] 74)).heap.size := by simp
          have BW : Hid (Below wr.heap.size wr (wr.alloc (.cells #[.int .i64 s.e, .string s.l, .int .i64 s.o] 74))) := Lib.hid (below_new _ _)
          generalize World.alloc wr _ = W1 at bx slt BW ⊢
          generalize wr.heap.size = g5 at bx slt ⊢
          have K5 := Lib.hid bx
          have OWM := Lib.hid (owns_nextL hown.out BW.out)
          clear q0 q1 q2
          obtain ⟨r0, r1, r2⟩ := bx
          cases hp : fitL ls s.l
          · have FP := Lib.hid hp
            clear hp
            go_wp2_with (at_lookup; refine wpList_lookup_own_unit _ rfl _ _ 114 rfl 9 109 keyed9 Try.underlying114 (zero109 _) mb kk D rfl OWM.out _ _ rfl hkey ?_; rw [DL.out, FP.out])
            have BE := Lib.hid (bnext BW.out (below_new W1 (.cells #[] 109)))
            go_roundw
            case rel => exact ⟨k + 1, m, A', c', by omega, by go_num, rfl, by omega, Lib.hid (bnext hbel.out BE.out), Lib.hid (Nat.le_trans hM.out BE.out.size), Lib.hid (by rw [FN.out, FP.out]; simpa using hO.out.next BE.out), Lib.hid (owns_nextL hown.out BE.out)⟩
            case measure => simp [intOf]; omega
          · have FP := Lib.hid hp
            clear hp
            go_upto_region 13 with (at_lookup; refine wpList_lookup_own_unit _ rfl _ _ 114 rfl 9 109 keyed9 Try.underlying114 (zero109 _) mb kk D rfl OWM.out _ _ rfl hkey ?_; rw [DL.out, FP.out])
            have BE := Lib.hid (bnext BW.out (below_new W1 (.cells #[] 109)))
            have BF : Below W1.heap.size W1 (W1.alloc (.cells #[] 109)) := below_new _ _
            generalize World.alloc W1 _ = W2 at BE BF ⊢
            replace K5 := Lib.hid (K5.out.next BF slt)
            have slt2 : g5 < W2.heap.size := Nat.lt_of_lt_of_le slt BF.size
            have BX := Lib.hid (bnext BE.out (below_new W2 (.cells #[.int .i64 s.e, .string s.l, .int .i64 s.o] 74)))
            have HO2 := Lib.hid (hO.out.next BX.out)
            have SB := Lib.hid (srow_box W2 s)
            have HM2 := Lib.hid (owns_nextL hown.out BX.out)
            have BB := Lib.hid (bnext hbel.out BX.out)
            have M2 := Lib.hid (Nat.le_trans hM.out BX.out.size)
            clear r0 r1 r2 BF BW
            obtain ⟨r0, r1, r2⟩ := K5.out
            have hm1 : m + 1 ≤ 4398046511104 := by omega
            go_wp2_with (at_builtin; refine append_anyS rfl _ _ rfl (mb + 1) HO2.out rfl rfl SB.out rfl hm1 M2.out ?_; intro A2 c2 w2 hown2 hg2; have OW2 := Lib.hid hown2; have BG := Lib.hid (grown_below (Nat.le_refl _) BB.out hg2 (fun j hj => by have := own_block HO2.out j hj; have := HMB.out; omega)); have HM3 := Lib.hid (HM2.out.kept hg2 (fun e => by have := own_block HO2.out mb e.symm; omega)); have M3 := Lib.hid (Nat.le_trans M2.out hg2.size); clear hown2 hg2)
            go_roundw
            case rel => exact ⟨k + 1, m + 1, A2, c2, by omega, by go_num, rfl, by omega, BG, M3, Lib.hid (by rw [FN.out, FP.out]; exact OW2.out), HM3⟩
            case measure => simp [intOf]; omega
        · obtain rfl : k = n := by omega
          have hO' := hO.out
          rw [List.take_of_length_le (by have := HN.out; omega)] at hO'
          have hL := hO'.len
          have OE := Lib.hid hO'
          have LE := Lib.hid hL
          clear hO' hL
          go_wp2
          go_ret
          exact ⟨A', c', by rw [LE.out]; rfl, OE.out.row, hbel.out⟩
end Go.Proofs.Ytebkkjfeikpfgaa
