/- Contracts of the document's At and Prop, and of graph.Prop. -/
import Derived.Test.YtciipggccjiaiaaNV
namespace Go.Proofs.Ytciipggccjiaiaa
open Go.RowKit Go.Sort
set_option maxRecDepth 100000

theorem find_step {α : Type} (p : α → Bool) (l : List α) (k : Nat) {x : α} (hx : l[k]? = some x) : (l.drop k).find? p = if p x = true then some x else (l.drop (k + 1)).find? p := by
  obtain ⟨h1, e1⟩ := List.getElem?_eq_some_iff.1 hx
  rw [List.drop_eq_getElem_cons h1, e1]
  by_cases h : p x = true
  · rw [if_pos h, List.find?_cons_of_pos h]
  · rw [if_neg h, List.find?_cons_of_neg h]
/-- What the document's At comes to. -/
def RAtPost (w : World) (d : Nat) (ts : List TA) (id : Int) (e : Ending) (w' : World) : Prop := ∃ (q : TA) (b : Bool), e = .returned (.tuple #[q.v, .bool b]) ∧ PRow w' 0 d q.A q.c q.l ∧ ((b = true ∧ ts.find? (idB id) = some q) ∨ (b = false ∧ ts.find? (idB id) = none ∧ q.tv' = zeroTV)) ∧ Below w.heap.size w w'
set_option maxHeartbeats 3200000 in
theorem refAt_any (w : World) (d : Nat) (A : Option Addr) (c : Nat) (ts : List TA) (h : TRow w d A c ts) (id : Int) : Calls Try.prog 21 #[.slice A ts.length c, .int .i64 id] w (RAtPost w d ts id) := by
  have H := Lib.hid h
  have hbig := h.big
  clear h
  go_enter Try.func21, Try.ntmps21
  go_upto_region 1 with fail
  have k1 := CellT.new w (.int .i64 0) (.string ⟨#[]⟩) (.int .i64 0) (.int .i64 0) (.slice none 0 0)
  generalize hW : World.alloc w _ = W at k1
  have HB : Hid (Below w.heap.size w W) := Lib.hid (by rw [← hW]; exact below_new _ _)
  clear hW
  have K1 := Lib.hid k1
  obtain ⟨y0, y1, y2, y3, y4, z0, z1, z2, z3, z4, _⟩ := k1
  go_wp2_with fail
  go_loopw [6] (fun i wr => ∃ k : Nat, k ≤ ts.length ∧ i = .int .i64 k ∧ wr = W ∧ Hid ((ts.drop k).find? (idB id) = ts.find? (idB id))) (fun i _ => ts.length - (intOf i).toNat)
  case atStart => exact ⟨0, by omega, rfl, rfl, Lib.hid (by simp)⟩
  case round =>
    obtain ⟨k, hk, rfl, rfl, hr⟩ := hrel
    by_cases hlt : k < ts.length
    · obtain ⟨b, off, t, rfl, hb, ht, ⟨q0, q1, q2, q3, q4⟩, rx⟩ := (H.out.next HB.out).elem hlt
      have HS := Lib.hid (find_step (idB id) ts k ht)
      have RX := Lib.hid rx
      have k0 : (0 : Int) ≤ (k : Int) := by omega
      have ka : (k : Int) < (ts.length : Int) := by omega
      clear ht rx
      by_cases he : t.id = id
      · have be : (t.id == id) = true := by simp [he]
        have HV := Lib.hid (show ts.find? (idB id) = some t by rw [← hr.out, HS.out, if_pos (by unfold idB; exact be)])
        have HR := Lib.hid (retT_box K1.out.blk (.int .i64 t.id) (.string t.label) (.int .i64 t.o) (.int .i64 t.i) (.slice t.A t.l.length t.c))
        have PW := Lib.hid (H.out.vals t (List.mem_of_find?_eq_some HV.out))
        clear he
        go_wp2
        obtain ⟨F, hF, ⟨r0', r1', r2', r3', r4', _⟩, hkk, hsz, hbel⟩ := HR.out
        rw [← hF]
        clear hF
        have bF := hbel w.heap.size _ (Nat.le_refl _) HB.out
        exact bodyPost_ret (v := .tuple #[t.v, .bool true]) (by simp [results, Try.results21, go_sem, r0', r1', r2', r3', r4']) rfl ⟨t, true, rfl, PW.out.next bF, .inl ⟨rfl, HV.out⟩, bF⟩
      · have be : (t.id == id) = false := by simp [he]
        have HN := Lib.hid (show (ts.drop (k + 1)).find? (idB id) = ts.find? (idB id) by rw [← hr.out, HS.out, if_neg (by unfold idB; rw [be]; simp)])
        clear he
        go_wp2
        go_roundw
        case rel => exact ⟨k + 1, by omega, by go_num, trivial, HN⟩
        case measure => simp [intOf]; omega
    · have HV := Lib.hid (show ts.find? (idB id) = none by rw [← hr.out, List.drop_eq_nil_of_le (by omega)]; rfl)
      have HR := Lib.hid (retT_box K1.out.blk (.int .i64 0) (.string ⟨#[]⟩) (.int .i64 0) (.int .i64 0) (.slice none 0 0))
      go_wp2
      obtain ⟨F, hF, ⟨r0', r1', r2', r3', r4', _⟩, hkk, hsz, hbel⟩ := HR.out
      rw [← hF]
      clear hF
      have bF := hbel w.heap.size _ (Nat.le_refl _) HB.out
      exact bodyPost_ret (v := .tuple #[tv 0 ⟨#[]⟩ 0 0 none 0 0, .bool false]) (by simp [results, Try.results21, go_sem, r0', r1', r2', r3', r4']) rfl ⟨⟨0, ⟨#[]⟩, 0, 0, none, 0, []⟩, false, rfl, prow_nil _ _ _, .inr ⟨rfl, HV.out, rfl⟩, bF⟩

theorem boxesP2 (w : World) (v0 v1 v2 v3 v4 u0 u1 u2 u3 u4 : Value) (W : World) (hW : (w.alloc (.cells #[v0, v1, v2, v3, v4] 34)).alloc (.cells #[u0, u1, u2, u3, u4] 37) = W) :
    CellT W w.heap.size v0 v1 v2 v3 v4 ∧ Cell W (w.heap.size + 1) u0 u1 u2 u3 u4 ∧ Below w.heap.size w W ∧ W.heap.size = w.heap.size + 2 := by
  subst hW
  refine ⟨(CellT.new w _ _ _ _ _).next (below_new _ _), ?_, below_new2 _ _ _, by simp⟩
  have := Cell.new (w.alloc (.cells #[v0, v1, v2, v3, v4] 34)) u0 u1 u2 u3 u4
  rw [size_alloc] at this
  exact this
def zeroAt : At := ⟨.mk 0 0 ⟨#[]⟩ [] [], none, 0, none, 0⟩
theorem zeroAt_in (w : World) (d : Nat) : zeroAt.In w (d + 1) := ⟨⟨by decide, by decide, by decide, by decide, by decide⟩, rw_nil _ _ _ _, rw_nil _ _ _ _⟩
/-- What the document's Prop comes to. -/
def RPropPost (w : World) (d : Nat) (l : List PA) (key : ByteArray) (e : Ending) (w' : World) : Prop := ∃ (q : At) (b : Bool), e = .returned (.tuple #[q.v, .bool b]) ∧ q.In w' (d + 1) ∧ ((b = true ∧ ∃ p, l.find? (keyB key) = some p ∧ q = p.x) ∨ (b = false ∧ l.find? (keyB key) = none ∧ q = zeroAt)) ∧ Below w.heap.size w w'
set_option maxHeartbeats 3200000 in
theorem refProp_any (w : World) (d : Nat) (t : TA) (h : PRow w 0 d t.A t.c t.l) (key : ByteArray) : Calls Try.prog 24 #[t.v, .string key] w (RPropPost w d t.l key) := by
  have H := Lib.hid h
  have hbig := h.big
  clear h
  go_enter Try.func24, Try.ntmps24
  go_upto_region 1 with fail
  generalize hW : World.alloc (World.alloc _ _) _ = W
  obtain ⟨k1, k2, hb, hs⟩ := boxesP2 _ _ _ _ _ _ _ _ _ _ _ _ hW
  have K2 := Lib.hid k2
  have HB := Lib.hid hb
  obtain ⟨c0, c1, c2, c3, c4, _⟩ := k1
  obtain ⟨y0, y1, y2, y3, y4, z0, z1, z2, z3, z4, _⟩ := k2
  clear hW hb hs
  go_wp2_with fail
  go_loopw [6] (fun i wr => ∃ k : Nat, k ≤ t.l.length ∧ i = .int .i64 k ∧ wr = W ∧ Hid ((t.l.drop k).find? (keyB key) = t.l.find? (keyB key))) (fun i _ => t.l.length - (intOf i).toNat)
  case atStart => exact ⟨0, by omega, rfl, rfl, Lib.hid (by simp)⟩
  case round =>
    obtain ⟨k, hk, rfl, rfl, hr⟩ := hrel
    by_cases hlt : k < t.l.length
    · obtain ⟨b, off, p, eA, hb, hp, ⟨q0, q1, q2, q3, q4, q5⟩, rx⟩ := (H.out.next HB.out).elem hlt
      rw [eA] at c4
      have HS := Lib.hid (find_step (keyB key) t.l k hp)
      have k0 : (0 : Int) ≤ (k : Int) := by omega
      have ka : (k : Int) < (t.l.length : Int) := by omega
      clear hp rx eA
      by_cases he : p.key.toList = key.toList
      · have be : (p.key.toList == key.toList) = true := by simp [he]
        have HV := Lib.hid (show t.l.find? (keyB key) = some p by rw [← hr.out, HS.out, if_pos (by unfold keyB; exact be)])
        have HR := Lib.hid (ret_box K2.out.blk (.int .i64 p.x.t.k) (.int .i64 p.x.t.n) (.string p.x.t.s) (.slice p.x.A p.x.t.l.length p.x.c) (.slice p.x.A' p.x.t.m.length p.x.c'))
        have PW := Lib.hid (H.out.vals p (List.mem_of_find?_eq_some HV.out))
        clear he
        go_wp2
        obtain ⟨F, hF, ⟨r0', r1', r2', r3', r4', _⟩, hkk, hsz, hbel⟩ := HR.out
        rw [← hF]
        clear hF
        have bF := hbel w.heap.size _ (by omega) HB.out
        exact bodyPost_ret (v := .tuple #[p.x.v, .bool true]) (by simp [results, Try.results24, go_sem, r0', r1', r2', r3', r4']) rfl ⟨p.x, true, rfl, Rd.more (Rd.next PW.out bF) (Nat.le_refl _) (Nat.le_refl _) (by omega), .inl ⟨rfl, p, HV.out, rfl⟩, bF⟩
      · have be : (p.key.toList == key.toList) = false := by simp [he]
        have HN := Lib.hid (show (t.l.drop (k + 1)).find? (keyB key) = t.l.find? (keyB key) by rw [← hr.out, HS.out, if_neg (by unfold keyB; rw [be]; simp)])
        clear he
        go_wp2
        go_roundw
        case rel => exact ⟨k + 1, by omega, by go_num, trivial, HN⟩
        case measure => simp [intOf]; omega
    · have HV := Lib.hid (show t.l.find? (keyB key) = none by rw [← hr.out, List.drop_eq_nil_of_le (by omega)]; rfl)
      have HR := Lib.hid (ret_box K2.out.blk (.int .i64 0) (.int .i64 0) (.string ⟨#[]⟩) (.slice none 0 0) (.slice none 0 0))
      go_wp2
      obtain ⟨F, hF, ⟨r0', r1', r2', r3', r4', _⟩, hkk, hsz, hbel⟩ := HR.out
      rw [← hF]
      clear hF
      have bF := hbel w.heap.size _ (by omega) HB.out
      exact bodyPost_ret (v := .tuple #[zeroAt.v, .bool false]) (by simp [results, Try.results24, go_sem, r0', r1', r2', r3', r4', zeroAt]; first | done | exact ⟨rfl, rfl, rfl, rfl, rfl⟩) rfl ⟨zeroAt, false, rfl, zeroAt_in _ _, .inr ⟨rfl, HV.out, rfl⟩, bF⟩
end Go.Proofs.Ytciipggccjiaiaa
/- Contracts of graph.Prop whole, and of graph.place whole. -/
namespace Go.Proofs.Ytciipggccjiaiaa
open Go.RowKit Go.Sort
set_option maxRecDepth 100000

def GPropPost (w : World) (l : List PA) (key : ByteArray) (e : Ending) (w' : World) : Prop := ∃ (q : At) (b : Bool), e = .returned (.tuple #[q.v, .bool b]) ∧ q.In w' 13 ∧ ((b = true ∧ ∃ p, l.find? (keyB key) = some p ∧ q.t = copyV 12 p.x.t) ∨ (b = false ∧ l.find? (keyB key) = none ∧ q = zeroAt)) ∧ Below w.heap.size w w'
set_option maxHeartbeats 3200000 in
theorem gprop_any (w : World) (d : Nat) (t : TA) (h : PRow w 0 d t.A t.c t.l) (key : ByteArray) : Calls Try.prog 23 #[t.v, .string key] w (GPropPost w t.l key) := by
  rcases idxG_at (keyB key) t.l 0 with ⟨e1, f1⟩ | ⟨i, x, e1, hx, f1, hp⟩
  · have IX := Lib.hid (fun W (hb : Below w.heap.size w W) g hg hc => index45 W d t.A t.c t.l (h.next hb) g key hg hc)
    have HF := Lib.hid f1
    have HI := Lib.hid e1
    clear h e1 f1
    go_enter Try.func23, Try.ntmps23
    go_upto_region 1 with fail
    generalize hW : World.alloc (World.alloc (World.alloc _ _) _) _ = W
    obtain ⟨k1, kk, k2, hb, hs⟩ := boxesT3 _ _ _ _ _ _ _ _ _ _ _ _ _ hW
    have K2 := Lib.hid k2
    have HB := Lib.hid hb
    have hgk : w.heap.size + 1 < W.heap.size := by omega
    have KK := Lib.hid kk
    obtain ⟨c0, c1, c2, c3, c4, _⟩ := k1
    clear hW k2 hb hs kk
    go_wp2_with fail
    refine (IX.out W HB.out (w.heap.size + 1) hgk KK.out).mono ?_
    rintro e w1 ⟨rfl, hb1⟩
    rw [show idxG (fun p : PA => p.key.toList == key.toList) t.l 0 = -1 from HI.out]
    have B1 := Lib.hid (bnext HB.out hb1)
    have K2n := Lib.hid (K2.out.next hb1)
    have HR := Lib.hid (ret_box K2n.out.blk (.int .i64 0) (.int .i64 0) (.string ⟨#[]⟩) (.slice none 0 0) (.slice none 0 0))
    obtain ⟨y0, y1, y2, y3, y4, z0, z1, z2, z3, z4, _⟩ := K2n.out
    clear hb1 c0 c1 c2 c3 c4 K2
    go_wp2
    obtain ⟨F, hF, ⟨r0', r1', r2', r3', r4', _⟩, hkk, hsz, hbel⟩ := HR.out
    rw [← hF]
    clear hF
    have bF := hbel w.heap.size _ (by omega) B1.out
    exact bodyPost_ret (v := .tuple #[zeroAt.v, .bool false]) (by simp [results, Try.results23, go_sem, r0', r1', r2', r3', r4', zeroAt]; first | done | exact ⟨rfl, rfl, rfl, rfl, rfl⟩) rfl ⟨zeroAt, false, rfl, zeroAt_in _ _, .inr ⟨rfl, HF.out, rfl⟩, bF⟩
  · have hil := (List.getElem?_eq_some_iff.1 hx).1
    refine (prop_found w d t.id t.label t.o t.i t.A t.c t.l h key i (by rw [e1]; omega) hil).mono ?_
    rintro e w' ⟨p, q, hp', rfl, hq, hin, hb⟩
    rw [hx] at hp'
    injection hp' with hp'
    subst hp'
    exact ⟨q, true, rfl, hin, .inl ⟨rfl, x, f1, hq⟩, hb⟩

/-- Its key is greater. -/
def gtB (key : ByteArray) (p : PA) : Bool := !Op.bytesLess p.key.toList key.toList && !p.key.toList == key.toList
/-- Where a property of that key is laid in. -/
def insAt (key : ByteArray) (l : List PA) : Nat := if idxG (gtB key) l 0 < 0 then l.length else (idxG (gtB key) l 0).toNat

set_option maxHeartbeats 1600000 in
theorem gt62 (w : World) (p : PA) (g : Nat) (key : ByteArray) (hg : g < w.heap.size) (hc : w.cell? ⟨g, 0, none⟩ = some (.string key)) : Calls Try.prog 62 #[p.v, .pointer (some ⟨g, 0, none⟩)] w fun e w' => e = .returned (.bool (!Op.bytesLess p.key.toList key.toList && !p.key.toList == key.toList)) ∧ Below w.heap.size w w' := by
  have hc1 := cell_below (below_new w (.cells #[.string p.key, .int .i64 p.x.t.k, .int .i64 p.x.t.n, .string p.x.t.s, .slice p.x.A p.x.t.l.length p.x.c, .slice p.x.A' p.x.t.m.length p.x.c'] 39)) hc hg
  clear hc
  go_enter Try.func62, Try.ntmps62
  go_wp2
  go_ret
  exact ⟨by rfl, below_new _ _⟩

set_option maxHeartbeats 1600000 in
theorem index62 (w : World) (d : Nat) (A : Option Addr) (c : Nat) (l : List PA) (h : PRow w 0 d A c l) (g : Nat) (key : ByteArray) (hg : g < w.heap.size) (hc : w.cell? ⟨g, 0, none⟩ = some (.string key)) :
    Calls Try.prog 44 #[.slice A l.length c, .func (.func 62) #[] #[.pointer (some ⟨g, 0, none⟩)]] w fun e w' => e = .returned (.int .i64 (idxG (fun p : PA => !Op.bytesLess p.key.toList key.toList && !p.key.toList == key.toList) l 0)) ∧ Below w.heap.size w w' := by
  generalize hp0 : (fun p : PA => !Op.bytesLess p.key.toList key.toList && !p.key.toList == key.toList) = q
  have HC : Hid (∀ (W : World) (p : PA), Below w.heap.size w W → Calls Try.prog 62 #[p.v, .pointer (some ⟨g, 0, none⟩)] W fun e w' => e = .returned (.bool (q p)) ∧ Below W.heap.size W w') := Lib.hid (fun W p hb => by subst hp0; exact gt62 W p g key (Nat.lt_of_lt_of_le hg hb.size) (cell_below hb hc hg))
  have H1 := Lib.hid h
  have b1 := h.big
  clear hp0 h hc
  go_enter Try.func44, Try.ntmps44
  go_wp2
  go_loopw [8] (fun i wr => ∃ k : Nat, k ≤ l.length ∧ i = .int .i64 k ∧ Hid (Below w.heap.size w wr) ∧ Hid (idxG q (l.drop k) k = idxG q l 0)) (fun i _ => l.length - (intOf i).toNat)
  case atStart => exact ⟨0, by omega, rfl, Lib.hid (Below.refl _ _), Lib.hid (by simp)⟩
  case round =>
    obtain ⟨k, hk, rfl, hbel, hr⟩ := hrel
    by_cases hlt : k < l.length
    · obtain ⟨b, off, x, rfl, hb, hx, q6, rx⟩ := (H1.out.next hbel.out).elem hlt
      obtain ⟨q0, q1, q2, q3, q4, q5⟩ := q6
      have Y := Lib.hid (idxG_yes q l k hx)
      have N := Lib.hid (idxG_no q l k hx)
      clear rx hx
      go_wp2_with fail
      refine (HC.out _ x hbel.out).mono ?_
      rintro e w1 ⟨rfl, hb1⟩
      have HB := Lib.hid (bnext hbel.out hb1)
      clear hb1
      cases hp : q x
      · go_wp2
        go_roundw
        case rel => exact ⟨k + 1, by omega, by go_num, HB, Lib.hid (by rw [← hr.out, N.out hp])⟩
        case measure => simp [intOf]; omega
      · go_wp2
        go_ret
        exact ⟨by rw [← hr.out, Y.out hp]; rfl, HB.out⟩
    · have OUT := Lib.hid (idxG_out q l k k (by omega))
      go_wp2
      go_ret
      exact ⟨by rw [← hr.out, OUT.out]; rfl, hbel.out⟩

theorem insAt_le (key : ByteArray) (l : List PA) : insAt key l ≤ l.length := by
  unfold insAt
  split
  · exact Nat.le_refl _
  · rcases idxG_range (gtB key) l 0 with ⟨e, _⟩ | ⟨e1, e2, _⟩ <;> omega
set_option maxHeartbeats 1600000 in
theorem place_ins (w : World) (d : Nat) (A : Option Addr) (c : Nat) (l : List PA) (h : PRow w 0 d A c l) (key : ByteArray) (hi : idxG (keyB key) l 0 = -1) :
    Calls Try.prog 47 #[.slice A l.length c, .string key] w fun e w' => e = .returned (.tuple #[.int .i64 (insAt key l : Nat), .int .i64 (insAt key l : Nat)]) ∧ Below w.heap.size w w' := by
  have IX := Lib.hid (fun W (hb : Below w.heap.size w W) g hg hc => index61 W d A c l (h.next hb) g key hg hc)
  have IY := Lib.hid (fun W (hb : Below w.heap.size w W) g hg hc => index62 W d A c l (h.next hb) g key hg hc)
  have hbig := h.big
  have HI := Lib.hid hi
  have HJ : Hid (insAt key l = if idxG (gtB key) l 0 < 0 then l.length else (idxG (gtB key) l 0).toNat) := Lib.hid rfl
  have HR := Lib.hid (idxG_range (gtB key) l 0)
  clear h hi
  generalize insAt key l = j at HJ
  go_enter Try.func47, Try.ntmps47
  go_wp2_with fail
  refine (IX.out _ (below_new _ _) w.heap.size (by simp) (one_box _ _ _)).mono ?_
  rintro e w1 ⟨rfl, hb1⟩
  have HB := Lib.hid (bnext (below_new _ _) hb1)
  have HC := Lib.hid (cell_below hb1 (one_box w (.string key) 9) (by simp))
  have hg1 : w.heap.size < w1.heap.size := by have := hb1.size; simp at this; omega
  clear hb1
  rw [show idxG (fun p : PA => p.key.toList == key.toList) l 0 = -1 from HI.out]
  go_wp2_with fail
  refine (IY.out w1 HB.out w.heap.size hg1 HC.out).mono ?_
  rintro e w2 ⟨rfl, hb2⟩
  have HB2 := Lib.hid (bnext HB.out hb2)
  clear hb2
  rw [show idxG (fun p : PA => !Op.bytesLess p.key.toList key.toList && !p.key.toList == key.toList) l 0 = idxG (gtB key) l 0 from rfl]
  generalize idxG (gtB key) l 0 = m at HJ HR
  have hr := HR.out
  have hj := HJ.out
  by_cases hm : m < 0
  · rw [if_pos hm] at hj
    have HJ2 := Lib.hid hj
    clear hr hj HJ HR
    go_wp2
    go_ret2
    exact ⟨by rw [HJ2.out]; rfl, HB2.out⟩
  · rw [if_neg hm] at hj
    have HJ2 : Hid ((j : Int) = m) := Lib.hid (by omega)
    clear hr hj HJ HR
    go_wp2
    go_ret2
    exact ⟨by rw [HJ2.out]; rfl, HB2.out⟩
end Go.Proofs.Ytciipggccjiaiaa
