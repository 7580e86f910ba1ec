/- Contract of graph.At. -/
import Derived.Test.YtciipggccjiaiaaNR
namespace Go.Proofs.Ytciipggccjiaiaa
open Go.RowKit Go.Sort
set_option maxRecDepth 100000

def zeroTV : TV := ⟨0, ⟨#[]⟩, 0, 0, []⟩
def idB (id : Int) (t : TA) : Bool := t.id == id
set_option maxHeartbeats 1600000 in
theorem eq42 (w : World) (t : TA) (g : Nat) (id : Int) (hg : g < w.heap.size) (hc : w.cell? ⟨g, 0, none⟩ = some (.int .i64 id)) : Calls Try.prog 42 #[t.v, .pointer (some ⟨g, 0, none⟩)] w fun e w' => e = .returned (.bool (idB id t)) ∧ Below w.heap.size w w' := by
  have hc1 := cell_below (below_new w (.cells #[.int .i64 t.id, .string t.label, .int .i64 t.o, .int .i64 t.i, .slice t.A t.l.length t.c] 34)) hc hg
  clear hc
  go_enter Try.func42, Try.ntmps42
  go_wp2
  go_ret
  exact ⟨by rfl, below_new _ _⟩

set_option maxHeartbeats 1600000 in
theorem indexT42 (w : World) (d : Nat) (A : Option Addr) (c : Nat) (l : List TA) (h : TRow w d A c l) (g : Nat) (q : TA → Bool) (HC : Hid (∀ (W : World) (p : TA), Below w.heap.size w W → p ∈ l → PRow W 0 d p.A p.c p.l → Calls Try.prog 42 #[p.v, .pointer (some ⟨g, 0, none⟩)] W fun e w' => e = .returned (.bool (q p)) ∧ Below W.heap.size W w')) :
    Calls Try.prog 41 #[.slice A l.length c, .func (.func 42) #[] #[.pointer (some ⟨g, 0, none⟩)]] w fun e w' => e = .returned (.int .i64 (idxG q l 0)) ∧ Below w.heap.size w w' := by
  have H1 := Lib.hid h
  have b1 := h.big
  clear h
  go_enter Try.func41, Try.ntmps41
  go_wp2
  go_loopw [8] (fun i wr => ∃ k : Nat, k ≤ l.length ∧ i = .int .i64 k ∧ Hid (Below w.heap.size w wr) ∧ Hid (idxG q (l.drop k) k = idxG q l 0)) (fun i _ => l.length - (intOf i).toNat)
  case atStart => exact ⟨0, by omega, rfl, Lib.hid (Below.refl _ _), Lib.hid (by simp)⟩
  case round =>
    obtain ⟨k, hk, rfl, hbel, hr⟩ := hrel
    by_cases hlt : k < l.length
    · obtain ⟨b, off, x, rfl, hb, hx, q6, rx⟩ := (H1.out.next hbel.out).elem hlt
      obtain ⟨q0, q1, q2, q3, q4⟩ := q6
      have Y := Lib.hid (idxG_yes q l k hx)
      have N := Lib.hid (idxG_no q l k hx)
      have XM := Lib.hid (List.mem_of_getElem? hx)
      have RX := Lib.hid rx
      clear rx hx
      go_wp2_with fail
      refine (HC.out _ x hbel.out XM.out RX.out).mono ?_
      rintro e w1 ⟨rfl, hb1⟩
      have HB := Lib.hid (bnext hbel.out hb1)
      clear hb1
      cases hp : q x
      · go_wp2
        go_roundw
        case rel => exact ⟨k + 1, by omega, by go_num, HB, Lib.hid (by rw [← hr.out, N.out hp])⟩
        case measure => simp [intOf]; omega
      · go_wp2
        go_ret
        exact ⟨by rw [← hr.out, Y.out hp]; rfl, HB.out⟩
    · have OUT := Lib.hid (idxG_out q l k k (by omega))
      go_wp2
      go_ret
      exact ⟨by rw [← hr.out, OUT.out]; rfl, hbel.out⟩

theorem boxesA (w : World) (id : Int) (u0 u1 u2 u3 u4 : Value) (W : World) (hW : (w.alloc (.cells #[.int .i64 id] 3)).alloc (.cells #[u0, u1, u2, u3, u4] 34) = W) :
    W.cell? ⟨w.heap.size, 0, none⟩ = some (.int .i64 id) ∧ CellT W (w.heap.size + 1) u0 u1 u2 u3 u4 ∧ Below w.heap.size w W ∧ W.heap.size = w.heap.size + 2 := by
  subst hW
  refine ⟨cell_below (below_new _ _) (one_box w (.int .i64 id) 3) (by simp), ?_, below_new2 _ _ _, by simp⟩
  have := CellT.new (w.alloc (.cells #[.int .i64 id] 3)) u0 u1 u2 u3 u4
  rw [size_alloc] at this
  exact this
theorem idxG_at {α : Type} (p : α → Bool) : ∀ (l : List α) (k : Nat), (idxG p l k = -1 ∧ l.find? p = none) ∨ ∃ (i : Nat) (x : α), idxG p l k = (k : Int) + i ∧ l[i]? = some x ∧ l.find? p = some x ∧ p x = true
  | [], k => .inl ⟨rfl, rfl⟩
  | y :: r, k => by
    by_cases h : p y = true
    · exact .inr ⟨0, y, by simp [idxG, h], rfl, by simp [h], h⟩
    · have h' : p y = false := by simpa using h
      rcases idxG_at p r (k + 1) with ⟨e, f⟩ | ⟨i, x, e, hx, f, hp⟩
      · exact .inl ⟨by simp [idxG, h', e], by rw [List.find?_cons_of_neg h]; exact f⟩
      · exact .inr ⟨i + 1, x, by simp only [idxG, h']; rw [if_neg (by simp), e]; omega, hx, by rw [List.find?_cons_of_neg h]; exact f, hp⟩
/-- What At comes to. -/
def atV (ts : List TA) (id : Int) : TV × Bool := match ts.find? (idB id) with
  | some t => (t.ctv, true)
  | none => (zeroTV, false)
/-- A thing that was made. -/
structure NewT (w w' : World) (q : TA) : Prop where
  row : PRow w' w.heap.size 13 q.A q.c q.l
  mine : MineP w' q.A q.l.length
  bel : Below w.heap.size w w'
def AtPost (w : World) (r : TV × Bool) (e : Ending) (w' : World) : Prop := ∃ q : TA, e = .returned (.tuple #[q.v, .bool r.2]) ∧ q.tv' = r.1 ∧ NewT w w' q
set_option maxHeartbeats 3200000 in
theorem at_any (w : World) (d : Nat) (A : Option Addr) (c : Nat) (ts : List TA) (h : TRow w d A c ts) (id : Int) : Calls Try.prog 20 #[.slice A ts.length c, .int .i64 id] w (AtPost w (atV ts id)) := by
  have IX := Lib.hid (fun W (hb : Below w.heap.size w W) g (hg : g < W.heap.size) (hc : W.cell? ⟨g, 0, none⟩ = some (.int .i64 id)) => indexT42 W d A c ts (h.next hb) g (idB id) (Lib.hid (fun W' t hb' _ _ => eq42 W' t g id (Nat.lt_of_lt_of_le hg hb'.size) (cell_below hb' hc hg))))
  have H := Lib.hid h
  have hbig := h.big
  have HF := Lib.hid (idxG_at (idB id) ts 0)
  clear h
  go_enter Try.func20, Try.ntmps20
  go_upto_region 1 with fail
  generalize hW : World.alloc (World.alloc _ _) _ = W
  obtain ⟨kk, k2, hb, hs⟩ := boxesA _ _ _ _ _ _ _ _ hW
  have KK := Lib.hid kk
  have K2 := Lib.hid k2
  have HB := Lib.hid hb
  have hgk : w.heap.size < W.heap.size := by omega
  have hg2 : w.heap.size + 1 < W.heap.size := by omega
  clear hW kk k2 hb hs
  go_wp2_with fail
  refine (IX.out W HB.out w.heap.size hgk KK.out).mono ?_
  rintro e w1 ⟨rfl, hb1⟩
  have B1 := Lib.hid (bnext HB.out hb1)
  have K2n := Lib.hid (K2.out.next hb1)
  have hs1 := hb1.size
  clear hb1 K2
  have hf := HF.out
  rcases hf with ⟨e1, f1⟩ | ⟨i, t, e1, ht, f1, hp⟩
  · rw [e1]
    have HV : Hid (atV ts id = (zeroTV, false)) := Lib.hid (by unfold atV; rw [f1])
    have HR := Lib.hid (retT_box K2n.out.blk (.int .i64 0) (.string ⟨#[]⟩) (.int .i64 0) (.int .i64 0) (.slice none 0 0))
    obtain ⟨y0, y1, y2, y3, y4, z0, z1, z2, z3, z4, _⟩ := K2n.out
    clear e1 f1
    go_wp2
    obtain ⟨F, hF, ⟨r0', r1', r2', r3', r4', _⟩, hk, hsz, hbel⟩ := HR.out
    rw [← hF]
    clear hF
    exact bodyPost_ret (v := .tuple #[tv 0 ⟨#[]⟩ 0 0 none 0 0, .bool false]) (by simp [results, Try.results20, go_sem, r0', r1', r2', r3', r4']) rfl ⟨⟨0, ⟨#[]⟩, 0, 0, none, 0, []⟩, by rw [HV.out]; rfl, by rw [HV.out]; rfl, prow_nil _ _ _, fun h => absurd h (by simp), hbel _ _ (by omega) B1.out⟩
  · rw [e1]
    have hil := (List.getElem?_eq_some_iff.1 ht).1
    have HV : Hid (atV ts id = (t.ctv, true)) := Lib.hid (by unfold atV; rw [f1])
    have i0 : (0 : Int) ≤ (i : Int) := by omega
    have i1 : (i : Int) < (ts.length : Int) := by omega
    have hzi : ((0 : Nat) : Int) + (i : Int) = (i : Int) := by omega
    rw [hzi]
    obtain ⟨b, off, t', rfl, hb, ht', q5, rx⟩ := (H.out.next B1.out).elem hil
    rw [ht] at ht'
    injection ht' with ht'
    subst ht'
    obtain ⟨q0, q1, q2, q3, q4⟩ := q5
    have RX := Lib.hid rx
    clear ht rx e1 f1 hp hzi
    go_wp2_with fail
    refine (copyThing_any w1 d t.id t.label t.o t.i t.A t.c t.l RX.out).mono ?_
    rintro e w2 ⟨E, e1, r, rfl, hr, hm, hmp, hb2⟩
    have HRW := Lib.hid hr
    have HM := Lib.hid hm
    have MP := Lib.hid hmp
    have B2 := Lib.hid (bnext B1.out hb2)
    have K2m := Lib.hid (K2n.out.next hb2)
    have hs2 := hb2.size
    have HR := Lib.hid (retT_box K2m.out.blk (.int .i64 t.id) (.string t.label) (.int .i64 t.o) (.int .i64 t.i) (.slice E r.length e1))
    obtain ⟨y0, y1, y2, y3, y4, z0, z1, z2, z3, z4, _⟩ := K2m.out
    clear hr hm hmp hb2 q0 q1 q2 q3 q4
    go_wp2
    obtain ⟨F, hF, ⟨r0', r1', r2', r3', r4', _⟩, hk, hsz, hbel⟩ := HR.out
    rw [← hF]
    clear hF
    have hkF := hk w1.heap.size w2.heap.size (by omega)
    exact bodyPost_ret (v := .tuple #[tv t.id t.label t.o t.i E r.length e1, .bool true]) (by simp [results, Try.results20, go_sem, r0', r1', r2', r3', r4']) rfl ⟨⟨t.id, t.label, t.o, t.i, E, e1, r⟩, by rw [HV.out], by rw [HV.out]; simp [TA.tv', TA.ctv, HM.out], HRW.out.imp hkF (by omega) (by rw [hsz]; exact Nat.le_refl _), MP.out.keep HRW.out hkF, hbel _ _ (by omega) B2.out⟩
end Go.Proofs.Ytciipggccjiaiaa
