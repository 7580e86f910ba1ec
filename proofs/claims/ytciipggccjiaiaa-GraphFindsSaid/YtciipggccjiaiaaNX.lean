/- Contracts of graph.Prop whole, and of graph.place whole. -/
import Derived.Test.YtciipggccjiaiaaNW
namespace Go.Proofs.Ytciipggccjiaiaa
open Go.RowKit Go.Sort
set_option maxRecDepth 100000

def GPropPost (w : World) (l : List PA) (key : ByteArray) (e : Ending) (w' : World) : Prop := ∃ (q : At) (b : Bool), e = .returned (.tuple #[q.v, .bool b]) ∧ q.In w' 13 ∧ ((b = true ∧ ∃ p, l.find? (keyB key) = some p ∧ q.t = copyV 12 p.x.t) ∨ (b = false ∧ l.find? (keyB key) = none ∧ q = zeroAt)) ∧ Below w.heap.size w w'
set_option maxHeartbeats 3200000 in
theorem gprop_any (w : World) (d : Nat) (t : TA) (h : PRow w 0 d t.A t.c t.l) (key : ByteArray) : Calls Try.prog 23 #[t.v, .string key] w (GPropPost w t.l key) := by
  rcases idxG_at (keyB key) t.l 0 with ⟨e1, f1⟩ | ⟨i, x, e1, hx, f1, hp⟩
  · have IX := Lib.hid (fun W (hb : Below w.heap.size w W) g hg hc => index45 W d t.A t.c t.l (h.next hb) g key hg hc)
    have HF := Lib.hid f1
    have HI := Lib.hid e1
    clear h e1 f1
    go_enter Try.func23, Try.ntmps23
    go_upto_region 1 with fail
    generalize hW : World.alloc (World.alloc (World.alloc _ _) _) _ = W
    obtain ⟨k1, kk, k2, hb, hs⟩ := boxesT3 _ _ _ _ _ _ _ _ _ _ _ _ _ hW
    have K2 := Lib.hid k2
    have HB := Lib.hid hb
    have hgk : w.heap.size + 1 < W.heap.size := by omega
    have KK := Lib.hid kk
    obtain ⟨c0, c1, c2, c3, c4, _⟩ := k1
    clear hW k2 hb hs kk
    go_wp2_with fail
    refine (IX.out W HB.out (w.heap.size + 1) hgk KK.out).mono ?_
    rintro e w1 ⟨rfl, hb1⟩
    rw [show idxG (fun p : PA => p.key.toList == key.toList) t.l 0 = -1 from HI.out]
    have B1 := Lib.hid (bnext HB.out hb1)
    have K2n := Lib.hid (K2.out.next hb1)
    have HR := Lib.hid (ret_box K2n.out.blk (.int .i64 0) (.int .i64 0) (.string ⟨#[]⟩) (.slice none 0 0) (.slice none 0 0))
    obtain ⟨y0, y1, y2, y3, y4, z0, z1, z2, z3, z4, _⟩ := K2n.out
    clear hb1 c0 c1 c2 c3 c4 K2
    go_wp2
    obtain ⟨F, hF, ⟨r0', r1', r2', r3', r4', _⟩, hkk, hsz, hbel⟩ := HR.out
    rw [← hF]
    clear hF
    have bF := hbel w.heap.size _ (by omega) B1.out
    exact bodyPost_ret (v := .tuple #[zeroAt.v, .bool false]) (by simp [results, Try.results23, go_sem, r0', r1', r2', r3', r4', zeroAt]; first | done | exact ⟨rfl, rfl, rfl, rfl, rfl⟩) rfl ⟨zeroAt, false, rfl, zeroAt_in _ _, .inr ⟨rfl, HF.out, rfl⟩, bF⟩
  · have hil := (List.getElem?_eq_some_iff.1 hx).1
    refine (prop_found w d t.id t.label t.o t.i t.A t.c t.l h key i (by rw [e1]; omega) hil).mono ?_
    rintro e w' ⟨p, q, hp', rfl, hq, hin, hb⟩
    rw [hx] at hp'
    injection hp' with hp'
    subst hp'
    exact ⟨q, true, rfl, hin, .inl ⟨rfl, x, f1, hq⟩, hb⟩

/-- Its key is greater. -/
def gtB (key : ByteArray) (p : PA) : Bool := !Op.bytesLess p.key.toList key.toList && !p.key.toList == key.toList
/-- Where a property of that key is laid in. -/
def insAt (key : ByteArray) (l : List PA) : Nat := if idxG (gtB key) l 0 < 0 then l.length else (idxG (gtB key) l 0).toNat

set_option maxHeartbeats 1600000 in
theorem gt62 (w : World) (p : PA) (g : Nat) (key : ByteArray) (hg : g < w.heap.size) (hc : w.cell? ⟨g, 0, none⟩ = some (.string key)) : Calls Try.prog 62 #[p.v, .pointer (some ⟨g, 0, none⟩)] w fun e w' => e = .returned (.bool (!Op.bytesLess p.key.toList key.toList && !p.key.toList == key.toList)) ∧ Below w.heap.size w w' := by
  have hc1 := cell_below (below_new w (.cells #[.string p.key, .int .i64 p.x.t.k, .int .i64 p.x.t.n, .string p.x.t.s, .slice p.x.A p.x.t.l.length p.x.c, .slice p.x.A' p.x.t.m.length p.x.c'] 39)) hc hg
  clear hc
  go_enter Try.func62, Try.ntmps62
  go_wp2
  go_ret
  exact ⟨by rfl, below_new _ _⟩

set_option maxHeartbeats 1600000 in
theorem index62 (w : World) (d : Nat) (A : Option Addr) (c : Nat) (l : List PA) (h : PRow w 0 d A c l) (g : Nat) (key : ByteArray) (hg : g < w.heap.size) (hc : w.cell? ⟨g, 0, none⟩ = some (.string key)) :
    Calls Try.prog 44 #[.slice A l.length c, .func (.func 62) #[] #[.pointer (some ⟨g, 0, none⟩)]] w fun e w' => e = .returned (.int .i64 (idxG (fun p : PA => !Op.bytesLess p.key.toList key.toList && !p.key.toList == key.toList) l 0)) ∧ Below w.heap.size w w' := by
  generalize hp0 : (fun p : PA => !Op.bytesLess p.key.toList key.toList && !p.key.toList == key.toList) = q
  have HC : Hid (∀ (W : World) (p : PA), Below w.heap.size w W → Calls Try.prog 62 #[p.v, .pointer (some ⟨g, 0, none⟩)] W fun e w' => e = .returned (.bool (q p)) ∧ Below W.heap.size W w') := Lib.hid (fun W p hb => by subst hp0; exact gt62 W p g key (Nat.lt_of_lt_of_le hg hb.size) (cell_below hb hc hg))
  have H1 := Lib.hid h
  have b1 := h.big
  clear hp0 h hc
  go_enter Try.func44, Try.ntmps44
  go_wp2
  go_loopw [8] (fun i wr => ∃ k : Nat, k ≤ l.length ∧ i = .int .i64 k ∧ Hid (Below w.heap.size w wr) ∧ Hid (idxG q (l.drop k) k = idxG q l 0)) (fun i _ => l.length - (intOf i).toNat)
  case atStart => exact ⟨0, by omega, rfl, Lib.hid (Below.refl _ _), Lib.hid (by simp)⟩
  case round =>
    obtain ⟨k, hk, rfl, hbel, hr⟩ := hrel
    by_cases hlt : k < l.length
    · obtain ⟨b, off, x, rfl, hb, hx, q6, rx⟩ := (H1.out.next hbel.out).elem hlt
      obtain ⟨q0, q1, q2, q3, q4, q5⟩ := q6
      have Y := Lib.hid (idxG_yes q l k hx)
      have N := Lib.hid (idxG_no q l k hx)
      clear rx hx
      go_wp2_with fail
      refine (HC.out _ x hbel.out).mono ?_
      rintro e w1 ⟨rfl, hb1⟩
      have HB := Lib.hid (bnext hbel.out hb1)
      clear hb1
      cases hp : q x
      · go_wp2
        go_roundw
        case rel => exact ⟨k + 1, by omega, by go_num, HB, Lib.hid (by rw [← hr.out, N.out hp])⟩
        case measure => simp [intOf]; omega
      · go_wp2
        go_ret
        exact ⟨by rw [← hr.out, Y.out hp]; rfl, HB.out⟩
    · have OUT := Lib.hid (idxG_out q l k k (by omega))
      go_wp2
      go_ret
      exact ⟨by rw [← hr.out, OUT.out]; rfl, hbel.out⟩

theorem insAt_le (key : ByteArray) (l : List PA) : insAt key l ≤ l.length := by
  unfold insAt
  split
  · exact Nat.le_refl _
  · rcases idxG_range (gtB key) l 0 with ⟨e, _⟩ | ⟨e1, e2, _⟩ <;> omega
set_option maxHeartbeats 1600000 in
theorem place_ins (w : World) (d : Nat) (A : Option Addr) (c : Nat) (l : List PA) (h : PRow w 0 d A c l) (key : ByteArray) (hi : idxG (keyB key) l 0 = -1) :
    Calls Try.prog 47 #[.slice A l.length c, .string key] w fun e w' => e = .returned (.tuple #[.int .i64 (insAt key l : Nat), .int .i64 (insAt key l : Nat)]) ∧ Below w.heap.size w w' := by
  have IX := Lib.hid (fun W (hb : Below w.heap.size w W) g hg hc => index61 W d A c l (h.next hb) g key hg hc)
  have IY := Lib.hid (fun W (hb : Below w.heap.size w W) g hg hc => index62 W d A c l (h.next hb) g key hg hc)
  have hbig := h.big
  have HI := Lib.hid hi
  have HJ : Hid (insAt key l = if idxG (gtB key) l 0 < 0 then l.length else (idxG (gtB key) l 0).toNat) := Lib.hid rfl
  have HR := Lib.hid (idxG_range (gtB key) l 0)
  clear h hi
  generalize insAt key l = j at HJ
  go_enter Try.func47, Try.ntmps47
  go_wp2_with fail
  refine (IX.out _ (below_new _ _) w.heap.size (by simp) (one_box _ _ _)).mono ?_
  rintro e w1 ⟨rfl, hb1⟩
  have HB := Lib.hid (bnext (below_new _ _) hb1)
  have HC := Lib.hid (cell_below hb1 (one_box w (.string key) 9) (by simp))
  have hg1 : w.heap.size < w1.heap.size := by have := hb1.size; simp at this; omega
  clear hb1
  rw [show idxG (fun p : PA => p.key.toList == key.toList) l 0 = -1 from HI.out]
  go_wp2_with fail
  refine (IY.out w1 HB.out w.heap.size hg1 HC.out).mono ?_
  rintro e w2 ⟨rfl, hb2⟩
  have HB2 := Lib.hid (bnext HB.out hb2)
  clear hb2
  rw [show idxG (fun p : PA => !Op.bytesLess p.key.toList key.toList && !p.key.toList == key.toList) l 0 = idxG (gtB key) l 0 from rfl]
  generalize idxG (gtB key) l 0 = m at HJ HR
  have hr := HR.out
  have hj := HJ.out
  by_cases hm : m < 0
  · rw [if_pos hm] at hj
    have HJ2 := Lib.hid hj
    clear hr hj HJ HR
    go_wp2
    go_ret2
    exact ⟨by rw [HJ2.out]; rfl, HB2.out⟩
  · rw [if_neg hm] at hj
    have HJ2 : Hid ((j : Int) = m) := Lib.hid (by omega)
    clear hr hj HJ HR
    go_wp2
    go_ret2
    exact ⟨by rw [HJ2.out]; rfl, HB2.out⟩
end Go.Proofs.Ytciipggccjiaiaa
