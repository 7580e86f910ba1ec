/- Contract of the document's With: the walk. -/
import Derived.Test.YtciipggccjiaiaaOa
namespace Go.Proofs.Ytciipggccjiaiaa
open Go.RowKit Go.Sort
set_option maxRecDepth 100000

theorem RS.boxAfter {w0 : World} {id : Int} {label : ByteArray} {o n : Int} {X w' : World} {A : Option Addr} {c : Nat} {out : List PA} (h : RS w0 id label o n X A c out) (hg : X.grownBy w' (Value.ownBlock (.slice A out.length c))) : CellT w' w0.heap.size (.int .i64 id) (.string label) (.int .i64 o) (.int .i64 n) (.slice A out.length c) :=
  h.box.kept (hg.block _ h.lt (fun e => by have := owns_ge h.own _ e.symm; omega))
theorem owns_lt {w : World} {base n c : Nat} {A : Option Addr} {xs : List Value} (h : w.ownsRow base 39 6 (.slice A n c) n xs) : ∀ g, Value.ownBlock (.slice A n c) = some g → g < w.heap.size := fun g e => by
  rcases h.2 with ⟨e', _⟩ | ⟨g', cap, cur, e', h1, h2, _⟩
  · injection e' with e1
    subst e1
    cases e
  · injection e' with e1
    subst e1
    injection e with e
    have : g' = g := e
    subst this
    exact (Array.getElem?_eq_some_iff.1 h2).1
theorem rs_start (w : World) (id : Int) (label : ByteArray) (o n : Int) : RS w id label o n (w.alloc (.cells #[.int .i64 id, .string label, .int .i64 o, .int .i64 n, .slice none 0 0] 34)) none 0 [] :=
  ⟨below_new _ _, by simp, CellT.new _ _ _ _ _ _, World.ownsRow_nil _ _ _ _⟩
theorem rs_row {w0 wr : World} {id : Int} {label : ByteArray} {o n : Int} {A : Option Addr} {c d : Nat} {out : List PA} (h : RS w0 id label o n wr A c out) (hb : out.length ≤ 1466015503658) (hv : ∀ p ∈ out, p.x.In w0 d) : PRow wr 0 d A c out := by
  have hvals : ∀ p ∈ out, Rd wr 0 wr.heap.size d p.x.t p.x.A p.x.c p.x.A' p.x.c' := fun p hp => Rd.next (hv p hp) h.bel
  rcases h.own.2 with ⟨e, hz⟩ | ⟨g, cap, cur, e, _, _, h3, h4, _⟩
  · injection e with e1 _ e3
    subst e1 e3
    obtain rfl : out = [] := List.eq_nil_of_length_eq_zero hz
    exact prow_nil _ _ _
  · injection e with e1 _ e3
    subst e1 e3
    obtain ⟨f1, f2, f3, f4, f5⟩ := flat_cells h.own
    exact ⟨f3, f4, hb, (fun e => by cases e), fun _ => ⟨g, 0, rfl, Nat.zero_le _, f2, fun j p hj => by rw [Nat.zero_add]; exact f5 j p hj⟩, hvals⟩
theorem cells6.kept {a b : World} {g o : Nat} {p : PA} (h : cells6 a g o p) (hk : b.heap[g]? = a.heap[g]?) : cells6 b g o p := by
  have hc := fun (j : Nat) => World.cell?_of_block (w := a) (w' := b) (a := ⟨g, j, none⟩) hk
  exact ⟨(hc _).trans h.k, (hc _).trans h.c0, (hc _).trans h.c1, (hc _).trans h.c2, (hc _).trans h.c3, (hc _).trans h.c4⟩
theorem rs_rowF {w w0 wr F : World} {id : Int} {label : ByteArray} {o n : Int} {A : Option Addr} {c d : Nat} {out : List PA} (h : RS w0 id label o n wr A c out) (hk : Kept (w0.heap.size + 1) wr.heap.size wr F) (hs : F.heap.size = wr.heap.size) (hF : Below w.heap.size w F) (hb : out.length ≤ 1466015503658) (hv : ∀ p ∈ out, p.x.In w d) : PRow F 0 d A c out := by
  have hvals : ∀ p ∈ out, Rd F 0 F.heap.size d p.x.t p.x.A p.x.c p.x.A' p.x.c' := fun p hp => Rd.next (hv p hp) hF
  rcases h.own.2 with ⟨e, hz⟩ | ⟨g, cap, cur, e, _, _, h3, h4, _⟩
  · injection e with e1 _ e3
    subst e1 e3
    obtain rfl : out = [] := List.eq_nil_of_length_eq_zero hz
    exact prow_nil _ _ _
  · injection e with e1 _ e3
    subst e1 e3
    obtain ⟨f1, f2, f3, f4, f5⟩ := flat_cells h.own
    exact ⟨f3, f4, hb, (fun e => by cases e), fun _ => ⟨g, 0, rfl, Nat.zero_le _, by omega, fun j p hj => by rw [Nat.zero_add]; exact (f5 j p hj).keep hk f1 f2⟩, hvals⟩
theorem with_mem {i i2 : Nat} {l : List PA} {q p : PA} (h : p ∈ withLL i i2 l q) : p = q ∨ p ∈ l := by
  unfold withLL at h
  simp at h
  rcases h with h | h | h
  · exact .inr (List.mem_of_mem_take h)
  · exact .inl h
  · exact .inr (List.mem_of_mem_drop h)
theorem outK_len2 {i i2 : Nat} {l : List PA} {p : PA} {k : Nat} (h1 : i ≤ i2) (h2 : i2 ≤ i + 1) : (outK i i2 l p k).length ≤ k + (i + 1 - i2) := by
  unfold outK
  split
  · simp; omega
  · simp; omega
theorem ran_has {key : ByteArray} {l : List PA} {b : Bool} (h : (b = true ∧ ∃ p, l.find? (keyB key) = some p) ∨ (b = false ∧ l.find? (keyB key) = none)) : decide (¬ idxG (keyB key) l 0 < 0) = b := by
  rcases idxG_at (keyB key) l 0 with ⟨e1, f1⟩ | ⟨i, y, e1, _, f1, _⟩
  · rcases h with ⟨_, p, hp⟩ | ⟨hb, _⟩
    · rw [f1] at hp; cases hp
    · rw [hb]; simp; omega
  · rcases h with ⟨hb, _⟩ | ⟨_, hp⟩
    · rw [hb]; simp; omega
    · rw [f1] at hp; cases hp
set_option maxHeartbeats 16000000 in
theorem refWith_any (w : World) (d : Nat) (t : TA) (key : ByteArray) (x : At) (h : PRow w 0 d t.A t.c t.l) (hx : x.In w d) (hks : key.size ≤ 1000) : Calls Try.prog 26 #[t.v, .string key, x.v] w (RWithPost w d t key x) := by
  have H0 := Lib.hid h
  have HX := Lib.hid hx
  have hbig := h.big
  have AK := Lib.hid (asks_of key t.l)
  have HW : Hid (∀ e, withE key x.t t.l = e ↔ (if nameB key = false ∨ plainB x.t = false then 2 else if idxG (keyB key) t.l 0 < 0 ∧ 30 ≤ t.l.length then 3 else 0) = e) := Lib.hid (fun e => Iff.rfl)
  clear h hx
  go_enter Try.func26, Try.ntmps26
  go_upto_region 1 with fail
  generalize hW : World.alloc (World.alloc (World.alloc _ _) _) _ = W
  obtain ⟨k3, k5, k6, hb, hs⟩ := boxesW _ _ _ _ _ _ _ _ _ _ _ _ _ _ _ _ _ hW
  have K3 := Lib.hid k3
  have K5 := Lib.hid k5
  have K6 : Hid (CellT W (w.heap.size + 1 + 1) (.int .i64 0) (.string ⟨#[]⟩) (.int .i64 0) (.int .i64 0) (.slice none 0 0)) := Lib.hid k6
  have HB := Lib.hid hb
  have hsW : w.heap.size + 2 < W.heap.size := by omega
  clear hW k3 k6 hb hs
  obtain ⟨d0, d1, d2, d3, d4, _⟩ := k5
  go_wp2_with fail
  refine (refName_any key W hks).mono ?_
  rintro e w1 ⟨rfl, rfl⟩
  cases hn : nameB key
  · have HE := Lib.hid (show withE key x.t t.l = 2 by rw [HW.out, if_pos (.inl hn)])
    clear hn d0 d1 d2 d3 d4
    have HRT := Lib.hid (retT_box K6.out.blk (.int .i64 0) (.string ⟨#[]⟩) (.int .i64 0) (.int .i64 0) (.slice none 0 0))
    obtain ⟨y0, y1, y2, y3, y4, z0, z1, z2, z3, z4, _⟩ := K6.out
    go_wp2
    obtain ⟨F, hF, ⟨r0', r1', r2', r3', r4', _⟩, hkk, hsz, hbel⟩ := HRT.out
    rw [← hF]
    clear hF
    exact bodyPost_ret (v := .tuple #[zeroTv, .int .i64 2]) (by simp [results, Try.results26, go_sem, r0', r1', r2', r3', r4']) rfl ⟨⟨0, ⟨#[]⟩, 0, 0, none, 0, []⟩, by rw [HE.out]; rfl, prow_nil _ _ _, .inl ⟨by rw [HE.out]; omega, rfl⟩, hbel _ _ (by omega) HB.out⟩
  · go_wp2_with fail
    refine (refPlain_any W d x (HX.out.next HB.out)).mono ?_
    rintro e w1 ⟨rfl, hb1⟩
    have B1 := Lib.hid (bnext HB.out hb1)
    have K3b := Lib.hid (K3.out.next hb1)
    have K5b := Lib.hid (Cell.next hb1 K5.out)
    have K6b := Lib.hid (K6.out.next hb1)
    clear hb1 d0 d1 d2 d3 d4 K3 K5 K6
    cases hp : plainB x.t
    · have HE := Lib.hid (show withE key x.t t.l = 2 by rw [HW.out, if_pos (.inr hp)])
      clear hn hp
      have HRT := Lib.hid (retT_box K6b.out.blk (.int .i64 0) (.string ⟨#[]⟩) (.int .i64 0) (.int .i64 0) (.slice none 0 0))
      obtain ⟨y0, y1, y2, y3, y4, z0, z1, z2, z3, z4, _⟩ := K6b.out
      go_wp2
      obtain ⟨F, hF, ⟨r0', r1', r2', r3', r4', _⟩, hkk, hsz, hbel⟩ := HRT.out
      rw [← hF]
      clear hF
      exact bodyPost_ret (v := .tuple #[zeroTv, .int .i64 2]) (by simp [results, Try.results26, go_sem, r0', r1', r2', r3', r4']) rfl ⟨⟨0, ⟨#[]⟩, 0, 0, none, 0, []⟩, by rw [HE.out]; rfl, prow_nil _ _ _, .inl ⟨by rw [HE.out]; omega, rfl⟩, hbel _ _ (by omega) B1.out⟩
    · have HNP := Lib.hid (show ¬ (nameB key = false ∨ plainB x.t = false) by rw [hn, hp]; simp)
      clear hn hp
      obtain ⟨c0, c1, c2, c3, c4, _⟩ := K3b.out
      go_wp2_with fail
      refine (refProp_any w1 d t (H0.out.next B1.out) key).mono ?_
      rintro e w2 ⟨q, b, rfl, hqin, hqb, hb2⟩
      have HHAS := Lib.hid (ran_has (key := key) (l := t.l) (b := b) (by rcases hqb with ⟨h1, p, h2, _⟩ | ⟨h1, h2, _⟩; exact .inl ⟨h1, p, h2⟩; exact .inr ⟨h1, h2⟩))
      have B2 := Lib.hid (bnext B1.out hb2)
      have K3c := Lib.hid (K3b.out.next hb2)
      have K5c := Lib.hid (Cell.next hb2 K5b.out)
      have K6c := Lib.hid (K6b.out.next hb2)
      clear hb2 hqin hqb c0 c1 c2 c3 c4 K3b K5b K6b
      go_upto_region 4 with fail
      have hb8 := below_new w2 (.cells #[.int .i64 q.t.k, .int .i64 q.t.n, .string q.t.s, .slice q.A q.t.l.length q.c, .slice q.A' q.t.m.length q.c'] 37)
      have B3 := Lib.hid (bnext B2.out hb8)
      have K3d := Lib.hid (K3c.out.next hb8)
      have K5d := Lib.hid (Cell.next hb8 K5c.out)
      have K6d := Lib.hid (K6c.out.next hb8)
      have s2 : w2.heap.size + 1 = (w2.alloc (.cells #[.int .i64 q.t.k, .int .i64 q.t.n, .string q.t.s, .slice q.A q.t.l.length q.c, .slice q.A' q.t.m.length q.c'] 37)).heap.size := by simp
      generalize World.alloc w2 _ = w0 at B3 K3d K5d K6d s2 ⊢
      clear hb8 K3c K5c K6c B2
      have ASK : Hid (Asks key t.l b (fromOf key t.l) (toOf key t.l)) := Lib.hid (by rw [← HHAS.out]; exact AK.out)
      have HPW : Hid (∀ p ∈ t.l, ∀ Y, Below w.heap.size w Y → p.x.In Y d) := Lib.hid (fun p hp Y hY => Rd.next (H0.out.vals p hp) hY)
      obtain ⟨c0, c1, c2, c3, c4, _⟩ := K3d.out
      cases b
      · by_cases hl30 : 30 ≤ t.l.length
        · have hl : (30 : Int) ≤ (t.l.length : Int) := by omega
          have HE := Lib.hid (show withE key x.t t.l = 3 by rw [HW.out, if_neg HNP.out, if_pos ⟨by have := HHAS.out; simp at this; omega, hl30⟩])
          have HRT := Lib.hid (retT_box K6d.out.blk (.int .i64 0) (.string ⟨#[]⟩) (.int .i64 0) (.int .i64 0) (.slice none 0 0))
          obtain ⟨y0, y1, y2, y3, y4, z0, z1, z2, z3, z4, _⟩ := K6d.out
          go_wp2
          obtain ⟨F, hF, ⟨r0', r1', r2', r3', r4', _⟩, hkk, hsz, hbel⟩ := HRT.out
          rw [← hF]
          clear hF
          exact bodyPost_ret (v := .tuple #[zeroTv, .int .i64 3]) (by simp [results, Try.results26, go_sem, r0', r1', r2', r3', r4']) rfl ⟨⟨0, ⟨#[]⟩, 0, 0, none, 0, []⟩, by rw [HE.out]; rfl, prow_nil _ _ _, .inl ⟨by rw [HE.out]; omega, rfl⟩, hbel _ _ (by omega) B3.out⟩
        · have hlong : ¬ ((false : Bool) = false ∧ 30 ≤ t.l.length) := fun h => hl30 h.2
          have hl : ¬ (30 : Int) ≤ (t.l.length : Int) := by omega
          have HE := Lib.hid (show withE key x.t t.l = 0 by
            rw [HW.out, if_neg HNP.out, if_neg (fun hh => hlong ⟨rfl, hh.2⟩)])
          have hLb : Hid ((withLL (fromOf key t.l) (toOf key t.l) t.l ⟨key, x⟩).length ≤ 1466015503658 ∧ toOf key t.l ≤ t.l.length) := Lib.hid (by
            have hA := ASK.out
            have h2 := hA.no rfl
            have hle := hA.le
            rw [h2]; unfold withLL; simp; omega)
          obtain ⟨i, hfi⟩ : ∃ i, fromOf key t.l = i := ⟨_, rfl⟩
          obtain ⟨i2, hfi2⟩ : ∃ i2, toOf key t.l = i2 := ⟨_, rfl⟩
          rw [hfi, hfi2] at ASK hLb
          have HFI := Lib.hid (And.intro hfi hfi2)
          clear hlong AK HW HNP HHAS hfi hfi2
          go_upto_region 7 with fail
          have RS0 := Lib.hid (rs_start w0 t.id t.label t.o t.i)
          generalize World.alloc w0 _ = X at RS0 ⊢
          go_wp2_with fail
          go_loopw [11, 12] (fun dn j wr => ∃ (k : Nat) (A : Option Addr) (c : Nat) (out : List PA), k ≤ t.l.length ∧ j = .int .i64 k ∧ dn = .bool (decide (i < k)) ∧ Hid (out = outK i i2 t.l ⟨key, x⟩ k) ∧ Hid (RS w0 t.id t.label t.o t.i wr A c out)) (fun _ j _ => t.l.length - (intOf j).toNat)
          case atStart => exact ⟨0, none, 0, [], by omega, rfl, by simp, Lib.hid (outK_zero _ _ _ _).symm, RS0⟩
          case round =>
            obtain ⟨k, A, c, out, hk, rfl, rfl, hO, hR⟩ := hrel
            have hol : Hid (out.length ≤ k + 1) := Lib.hid (by have h := outK_len2 (p := (⟨key, x⟩ : PA)) (i := i) (i2 := i2) (l := t.l) (k := k) (by have := ASK.out.no rfl; omega) (by have := ASK.out.no rfl; omega); rw [← hO.out] at h; have := ASK.out.no rfl; omega)
            by_cases hlt : k < t.l.length
            · obtain ⟨b, off, p, eA, hb, hp, ⟨q0, q1, q2, q3, q4, q5⟩, rx⟩ := (H0.out.next (bnext B3.out hR.out.bel)).elem hlt
              obtain ⟨c0, c1, c2, c3, c4, _⟩ := K3d.out.next hR.out.bel
              rw [eA] at c4
              have HP := Lib.hid hp
              have RX := Lib.hid rx
              have k0 : (0 : Int) ≤ (k : Int) := by omega
              have ka : (k : Int) < (t.l.length : Int) := by omega
              clear hp rx eA
              go_upto_region 12 with fail
              generalize hY : World.alloc wr _ = Y
              obtain ⟨z6, hbY, hsY⟩ := box39 wr p Y hY
              have Z := Lib.hid z6
              have RSY := Lib.hid (hR.out.next hbY)
              have QI := Lib.hid (RX.out.next hbY)
              have XI := Lib.hid (HX.out.next (bnext B3.out RSY.out.bel))
              have K5y := Lib.hid (Cell.next RSY.out.bel K5d.out)
              have hwY : wr.heap.size < Y.heap.size := by omega
              have hw0 : w0.heap.size < wr.heap.size := hR.out.lt
              clear hY hsY hbY c0 c1 c2 c3 c4 q0 q1 q2 q3 q4 q5 z6
              obtain ⟨z0, z1, z2, z3, z4, z5⟩ := Z.out
              obtain ⟨u0, u1, u2, u3, u4, _⟩ := RSY.out.box
              rcases Nat.lt_trichotomy k i with hki | hki | hki
              · rw [show decide (i < k) = false by simp; omega]
                have HO := Lib.hid (show out ++ [p] = outK i i2 t.l ⟨key, x⟩ (k + 1) by rw [outK_lt hki HP.out, hO.out])
                rcases gt_parts key p false (by have h := ASK.out.low k p hki HP.out; simpa using h) with ⟨h, _⟩ | ⟨_, be⟩ | ⟨_, be, be2⟩
                · cases h
                · go_wp2_with (at_builtin; refine append_anyP rfl (.tmp 90) (.tmp 92) rfl (w0.heap.size + 1) A out.length c _ rfl (RSY.out.next (below_new Y _)).own d (some ⟨Y.heap.size, 0, none⟩) 1 [⟨p.key, p.x⟩] 1 rfl rfl (prow_one Y d p.key p.x QI.out) (by simp) (by have := hol.out; simp; omega) (by have := RSY.out.lt; simp; omega) ?_; intro g2 cap2 w2 hown hgr hlt; have RN2 := Lib.hid ((RSY.out.next (below_new Y _)).push (p := ⟨p.key, p.x⟩) hgr hown); obtain ⟨y0, y1, y2, y3, y4, f0, f1, f2, f3, f4, _⟩ := (RSY.out.next (below_new Y _)).boxAfter hgr; clear hown hgr hlt)
                  go_roundw
                  case rel => exact ⟨k + 1, _, _, _, by omega, by go_num, by simp; omega, HO, RN2⟩
                  case measure => simp [intOf]; omega
                · go_wp2_with (at_builtin; refine append_anyP rfl (.tmp 90) (.tmp 92) rfl (w0.heap.size + 1) A out.length c _ rfl (RSY.out.next (below_new Y _)).own d (some ⟨Y.heap.size, 0, none⟩) 1 [⟨p.key, p.x⟩] 1 rfl rfl (prow_one Y d p.key p.x QI.out) (by simp) (by have := hol.out; simp; omega) (by have := RSY.out.lt; simp; omega) ?_; intro g2 cap2 w2 hown hgr hlt; have RN2 := Lib.hid ((RSY.out.next (below_new Y _)).push (p := ⟨p.key, p.x⟩) hgr hown); obtain ⟨y0, y1, y2, y3, y4, f0, f1, f2, f3, f4, _⟩ := (RSY.out.next (below_new Y _)).boxAfter hgr; clear hown hgr hlt)
                  go_roundw
                  case rel => exact ⟨k + 1, _, _, _, by omega, by go_num, by simp; omega, HO, RN2⟩
                  case measure => simp [intOf]; omega

              · subst hki
                rw [show decide (k < k) = false by simp]
                obtain ⟨x0, x1, x2, x3, x4, _⟩ := K5y.out
                rcases gt_parts key p true (by have h := ASK.out.at_ p HP.out; simpa using h) with ⟨_, be, be2⟩ | ⟨h, _⟩ | ⟨h, _⟩
                · have HO := Lib.hid (show out ++ [(⟨key, x⟩ : PA)] ++ [p] = outK k i2 t.l ⟨key, x⟩ (k + 1) by have e := ASK.out.no rfl; rw [e] at hO ⊢; rw [outK_not HP.out, hO.out])
                  go_upto_region 14 with (at_builtin; refine append_anyP rfl (.tmp 81) (.tmp 85) rfl (w0.heap.size + 1) A out.length c _ rfl (RSY.out.next (below_new Y _)).own d (some ⟨Y.heap.size, 0, none⟩) 1 [⟨key, x⟩] 1 rfl rfl (prow_one Y d key x XI.out) (by simp) (by have := hol.out; simp; omega) (by have := RSY.out.lt; simp; omega) ?_; intro g1 cap1 w1 hown hgr hlt; have RN1 := Lib.hid ((RSY.out.next (below_new Y _)).push (p := ⟨key, x⟩) hgr hown); have Z1 := Lib.hid (Z.out.kept (b := w1) ((hgr.block wr.heap.size (by simp; omega) (fun e => by have := owns_lt hR.out.own wr.heap.size e.symm; omega)).trans ((below_new Y _).block wr.heap.size (by omega)))); obtain ⟨y0, y1, y2, y3, y4, f0, f1, f2, f3, f4, _⟩ := (RSY.out.next (below_new Y _)).boxAfter hgr; clear hown hgr hlt)
                  have Z2 := Lib.hid (Z1.out.kept (b := w1.setCell ⟨w0.heap.size, 4, none⟩ (.slice (some ⟨g1, 0, none⟩) (out.length + 1) cap1)) (Below.heap_setCell _ _ _ _ (by show wr.heap.size ≠ w0.heap.size; omega)))
                  generalize World.setCell w1 _ _ = Y2 at RN1 Z2 ⊢
                  have hl2 : out.length + 1 = (out ++ [(⟨key, x⟩ : PA)]).length := by simp
                  rw [hl2]
                  generalize out ++ [(⟨key, x⟩ : PA)] = out2 at RN1 HO hl2 ⊢
                  have RSY2 := Lib.hid RN1.out
                  have QI2 := Lib.hid (HPW.out p (List.mem_of_getElem? HP.out) Y2 (bnext B3.out RSY2.out.bel))
                  clear y0 y1 y2 y3 y4 f0 f1 f2 f3 f4 z0 z1 z2 z3 z4 z5 u0 u1 u2 u3 u4 x0 x1 x2 x3 x4
                  obtain ⟨z0, z1, z2, z3, z4, z5⟩ := Z2.out
                  obtain ⟨u0, u1, u2, u3, u4, _⟩ := RSY2.out.box
                  go_wp2_with (at_builtin; refine append_anyP rfl (.tmp 90) (.tmp 92) rfl (w0.heap.size + 1) (some ⟨g1, 0, none⟩) out2.length cap1 _ rfl (RSY2.out.next (below_new Y2 _)).own d (some ⟨Y2.heap.size, 0, none⟩) 1 [⟨p.key, p.x⟩] 1 rfl rfl (prow_one Y2 d p.key p.x QI2.out) (by simp) (by have := hol.out; simp; omega) (by have := RSY2.out.lt; simp; omega) ?_; intro g2 cap2 w2 hown hgr hlt; have RN2 := Lib.hid ((RSY2.out.next (below_new Y2 _)).push (p := ⟨p.key, p.x⟩) hgr hown); obtain ⟨y0, y1, y2, y3, y4, f0, f1, f2, f3, f4, _⟩ := (RSY2.out.next (below_new Y2 _)).boxAfter hgr; clear hown hgr hlt)
                  go_roundw
                  case rel => exact ⟨k + 1, _, _, _, by omega, by go_num, by simp, HO, RN2⟩
                  case measure => simp [intOf]; omega
                · cases h
                · cases h
              · rw [show decide (i < k) = true by simp; omega]
                have HO := Lib.hid (show out ++ [p] = outK i i2 t.l ⟨key, x⟩ (k + 1) by rw [outK_gt hki (by have hA := ASK.out; first | (have := (hA.yes rfl).2; omega) | (have := hA.no rfl; omega)) HP.out, hO.out])
                go_wp2_with (at_builtin; refine append_anyP rfl (.tmp 90) (.tmp 92) rfl (w0.heap.size + 1) A out.length c _ rfl (RSY.out.next (below_new Y _)).own d (some ⟨Y.heap.size, 0, none⟩) 1 [⟨p.key, p.x⟩] 1 rfl rfl (prow_one Y d p.key p.x QI.out) (by simp) (by have := hol.out; simp; omega) (by have := RSY.out.lt; simp; omega) ?_; intro g2 cap2 w2 hown hgr hlt; have RN2 := Lib.hid ((RSY.out.next (below_new Y _)).push (p := ⟨p.key, p.x⟩) hgr hown); obtain ⟨y0, y1, y2, y3, y4, f0, f1, f2, f3, f4, _⟩ := (RSY.out.next (below_new Y _)).boxAfter hgr; clear hown hgr hlt)
                go_roundw
                case rel => exact ⟨k + 1, _, _, _, by omega, by go_num, by simp; omega, HO, RN2⟩
                case measure => simp [intOf]; omega

            · obtain rfl : k = t.l.length := by omega
              obtain ⟨c0, c1, c2, c3, c4, _⟩ := K3d.out.next hR.out.bel
              by_cases hil : i < t.l.length
              · rw [show decide (i < t.l.length) = true by simp; omega]
                have HRT := Lib.hid (retT_box (K6d.out.next hR.out.bel).blk (.int .i64 t.id) (.string t.label) (.int .i64 t.o) (.int .i64 t.i) (.slice A out.length c))
                obtain ⟨y0, y1, y2, y3, y4, z0, z1, z2, z3, z4, _⟩ := K6d.out.next hR.out.bel
                obtain ⟨v0, v1, v2, v3, v4, _⟩ := hR.out.box
                go_wp2
                obtain ⟨F, hF, ⟨r0', r1', r2', r3', r4', _⟩, hkk, hsz, hbel⟩ := HRT.out
                rw [← hF]
                clear hF
                have hFb := hbel w.heap.size w (by omega) (bnext B3.out hR.out.bel)
                have hrow : out = withLL i i2 t.l ⟨key, x⟩ := by rw [hO.out, outK_end hil hLb.out.2]
                exact bodyPost_ret (v := .tuple #[(⟨t.id, t.label, t.o, t.i, A, c, out⟩ : TA).v, .int .i64 0]) (by simp [results, Try.results26, go_sem, r0', r1', r2', r3', r4', TA.v]) rfl ⟨⟨t.id, t.label, t.o, t.i, A, c, out⟩, by rw [HE.out], rs_rowF hR.out (hkk _ _ (by have := K6d.out.blk.lt; omega)) hsz hFb (by rw [hrow]; exact hLb.out.1) (fun p hp => by rw [hrow] at hp; rcases with_mem hp with rfl | hp; exact HX.out; exact H0.out.vals p hp), .inr ⟨HE.out, by simp [TA.tv', hrow, HFI.out.1, HFI.out.2]⟩, hFb⟩

              · rw [show decide (i < t.l.length) = false by simp; omega]
                have RSW := Lib.hid hR.out
                have XI := Lib.hid (HX.out.next (bnext B3.out hR.out.bel))
                have hw0 : w0.heap.size < wr.heap.size := hR.out.lt
                obtain ⟨u0, u1, u2, u3, u4, _⟩ := hR.out.box
                obtain ⟨x0, x1, x2, x3, x4, _⟩ := Cell.next hR.out.bel K5d.out
                go_upto_region 19 with (at_builtin; refine append_anyP rfl (.tmp 98) (.tmp 102) rfl (w0.heap.size + 1) A out.length c _ rfl (RSW.out.next (below_new wr _)).own d (some ⟨wr.heap.size, 0, none⟩) 1 [⟨key, x⟩] 1 rfl rfl (prow_one wr d key x XI.out) (by simp) (by have := hol.out; simp; omega) (by have := RSW.out.lt; simp; omega) ?_; intro g1 cap1 w1 hown hgr hlt; have RN1 := Lib.hid ((RSW.out.next (below_new wr _)).push (p := ⟨key, x⟩) hgr hown); obtain ⟨y0, y1, y2, y3, y4, f0, f1, f2, f3, f4, _⟩ := (RSW.out.next (below_new wr _)).boxAfter hgr; clear hown hgr hlt)
                generalize World.setCell w1 _ _ = Y2 at RN1 ⊢
                have HR2 := Lib.hid (show out ++ [(⟨key, x⟩ : PA)] = withLL i i2 t.l ⟨key, x⟩ by have e := ASK.out.no rfl; have h1 := ASK.out.le; have e1 : i = t.l.length := (by omega); rw [hO.out, e, e1, outK_last rfl])
                have hl2 : out.length + 1 = (out ++ [(⟨key, x⟩ : PA)]).length := by simp
                rw [hl2]
                generalize out ++ [(⟨key, x⟩ : PA)] = out2 at RN1 HR2 hl2 ⊢
                clear y0 y1 y2 y3 y4 f0 f1 f2 f3 f4 u0 u1 u2 u3 u4 x0 x1 x2 x3 x4
                have HRT := Lib.hid (retT_box (K6d.out.next RN1.out.bel).blk (.int .i64 t.id) (.string t.label) (.int .i64 t.o) (.int .i64 t.i) (.slice (some ⟨g1, 0, none⟩) out2.length cap1))
                obtain ⟨y0, y1, y2, y3, y4, z0, z1, z2, z3, z4, _⟩ := K6d.out.next RN1.out.bel
                obtain ⟨v0, v1, v2, v3, v4, _⟩ := RN1.out.box
                go_wp2
                obtain ⟨F, hF, ⟨r0', r1', r2', r3', r4', _⟩, hkk, hsz, hbel⟩ := HRT.out
                rw [← hF]
                clear hF
                have hFb := hbel w.heap.size w (by omega) (bnext B3.out RN1.out.bel)
                have hrow : out2 = withLL i i2 t.l ⟨key, x⟩ := HR2.out
                exact bodyPost_ret (v := .tuple #[(⟨t.id, t.label, t.o, t.i, (some ⟨g1, 0, none⟩), cap1, out2⟩ : TA).v, .int .i64 0]) (by simp [results, Try.results26, go_sem, r0', r1', r2', r3', r4', TA.v]) rfl ⟨⟨t.id, t.label, t.o, t.i, (some ⟨g1, 0, none⟩), cap1, out2⟩, by rw [HE.out], rs_rowF RN1.out (hkk _ _ (by have := K6d.out.blk.lt; omega)) hsz hFb (by rw [hrow]; exact hLb.out.1) (fun p hp => by rw [hrow] at hp; rcases with_mem hp with rfl | hp; exact HX.out; exact H0.out.vals p hp), .inr ⟨HE.out, by simp [TA.tv', hrow, HFI.out.1, HFI.out.2]⟩, hFb⟩

      · have hlong : ¬ ((true : Bool) = false ∧ 30 ≤ t.l.length) := fun h => by cases h.1
        have HE := Lib.hid (show withE key x.t t.l = 0 by
          rw [HW.out, if_neg HNP.out, if_neg (fun hh => hlong ⟨by rw [← HHAS.out]; simp; exact hh.1, hh.2⟩)])
        have hLb : Hid ((withLL (fromOf key t.l) (toOf key t.l) t.l ⟨key, x⟩).length ≤ 1466015503658 ∧ toOf key t.l ≤ t.l.length) := Lib.hid (by
          have hA := ASK.out
          have h2 := hA.yes rfl
          have hle := hA.le
          rw [h2.2]; unfold withLL; simp; omega)
        obtain ⟨i, hfi⟩ : ∃ i, fromOf key t.l = i := ⟨_, rfl⟩
        obtain ⟨i2, hfi2⟩ : ∃ i2, toOf key t.l = i2 := ⟨_, rfl⟩
        rw [hfi, hfi2] at ASK hLb
        have HFI := Lib.hid (And.intro hfi hfi2)
        clear hlong AK HW HNP HHAS hfi hfi2
        go_upto_region 7 with fail
        have RS0 := Lib.hid (rs_start w0 t.id t.label t.o t.i)
        generalize World.alloc w0 _ = X at RS0 ⊢
        go_wp2_with fail
        go_loopw [11, 12] (fun dn j wr => ∃ (k : Nat) (A : Option Addr) (c : Nat) (out : List PA), k ≤ t.l.length ∧ j = .int .i64 k ∧ dn = .bool (decide (i < k)) ∧ Hid (out = outK i i2 t.l ⟨key, x⟩ k) ∧ Hid (RS w0 t.id t.label t.o t.i wr A c out)) (fun _ j _ => t.l.length - (intOf j).toNat)
        case atStart => exact ⟨0, none, 0, [], by omega, rfl, by simp, Lib.hid (outK_zero _ _ _ _).symm, RS0⟩
        case round =>
          obtain ⟨k, A, c, out, hk, rfl, rfl, hO, hR⟩ := hrel
          have hol : Hid (out.length ≤ k + 0) := Lib.hid (by have h := outK_len2 (p := (⟨key, x⟩ : PA)) (i := i) (i2 := i2) (l := t.l) (k := k) (by have := (ASK.out.yes rfl).2; omega) (by have := (ASK.out.yes rfl).2; omega); rw [← hO.out] at h; have := (ASK.out.yes rfl).2; omega)
          by_cases hlt : k < t.l.length
          · obtain ⟨b, off, p, eA, hb, hp, ⟨q0, q1, q2, q3, q4, q5⟩, rx⟩ := (H0.out.next (bnext B3.out hR.out.bel)).elem hlt
            obtain ⟨c0, c1, c2, c3, c4, _⟩ := K3d.out.next hR.out.bel
            rw [eA] at c4
            have HP := Lib.hid hp
            have RX := Lib.hid rx
            have k0 : (0 : Int) ≤ (k : Int) := by omega
            have ka : (k : Int) < (t.l.length : Int) := by omega
            clear hp rx eA
            go_upto_region 12 with fail
            generalize hY : World.alloc wr _ = Y
            obtain ⟨z6, hbY, hsY⟩ := box39 wr p Y hY
            have Z := Lib.hid z6
            have RSY := Lib.hid (hR.out.next hbY)
            have QI := Lib.hid (RX.out.next hbY)
            have XI := Lib.hid (HX.out.next (bnext B3.out RSY.out.bel))
            have K5y := Lib.hid (Cell.next RSY.out.bel K5d.out)
            have hwY : wr.heap.size < Y.heap.size := by omega
            have hw0 : w0.heap.size < wr.heap.size := hR.out.lt
            clear hY hsY hbY c0 c1 c2 c3 c4 q0 q1 q2 q3 q4 q5 z6
            obtain ⟨z0, z1, z2, z3, z4, z5⟩ := Z.out
            obtain ⟨u0, u1, u2, u3, u4, _⟩ := RSY.out.box
            rcases Nat.lt_trichotomy k i with hki | hki | hki
            · rw [show decide (i < k) = false by simp; omega]
              have HO := Lib.hid (show out ++ [p] = outK i i2 t.l ⟨key, x⟩ (k + 1) by rw [outK_lt hki HP.out, hO.out])
              have be : (p.key.toList == key.toList) = false := by have h := ASK.out.low k p hki HP.out; simpa [keyB] using h
              go_wp2_with (at_builtin; refine append_anyP rfl (.tmp 90) (.tmp 92) rfl (w0.heap.size + 1) A out.length c _ rfl (RSY.out.next (below_new Y _)).own d (some ⟨Y.heap.size, 0, none⟩) 1 [⟨p.key, p.x⟩] 1 rfl rfl (prow_one Y d p.key p.x QI.out) (by simp) (by have := hol.out; simp; omega) (by have := RSY.out.lt; simp; omega) ?_; intro g2 cap2 w2 hown hgr hlt; have RN2 := Lib.hid ((RSY.out.next (below_new Y _)).push (p := ⟨p.key, p.x⟩) hgr hown); obtain ⟨y0, y1, y2, y3, y4, f0, f1, f2, f3, f4, _⟩ := (RSY.out.next (below_new Y _)).boxAfter hgr; clear hown hgr hlt)
              go_roundw
              case rel => exact ⟨k + 1, _, _, _, by omega, by go_num, by simp; omega, HO, RN2⟩
              case measure => simp [intOf]; omega

            · subst hki
              rw [show decide (k < k) = false by simp]
              obtain ⟨x0, x1, x2, x3, x4, _⟩ := K5y.out
              have be : (p.key.toList == key.toList) = true := by have h := ASK.out.at_ p HP.out; simpa [keyB] using h
              have HO := Lib.hid (show out ++ [(⟨key, x⟩ : PA)] = outK k i2 t.l ⟨key, x⟩ (k + 1) by rw [(ASK.out.yes rfl).2, outK_has, hO.out, (ASK.out.yes rfl).2])
              go_wp2_with (at_builtin; refine append_anyP rfl (.tmp 81) (.tmp 85) rfl (w0.heap.size + 1) A out.length c _ rfl (RSY.out.next (below_new Y _)).own d (some ⟨Y.heap.size, 0, none⟩) 1 [⟨key, x⟩] 1 rfl rfl (prow_one Y d key x XI.out) (by simp) (by have := hol.out; simp; omega) (by have := RSY.out.lt; simp; omega) ?_; intro g1 cap1 w1 hown hgr hlt; have RN1 := Lib.hid ((RSY.out.next (below_new Y _)).push (p := ⟨key, x⟩) hgr hown); have Z1 := Lib.hid (Z.out.kept (b := w1) ((hgr.block wr.heap.size (by simp; omega) (fun e => by have := owns_lt hR.out.own wr.heap.size e.symm; omega)).trans ((below_new Y _).block wr.heap.size (by omega)))); obtain ⟨y0, y1, y2, y3, y4, f0, f1, f2, f3, f4, _⟩ := (RSY.out.next (below_new Y _)).boxAfter hgr; clear hown hgr hlt)
              go_roundw
              case rel => exact ⟨k + 1, _, _, _, by omega, by go_num, by simp, HO, RN1⟩
              case measure => simp [intOf]; omega
            · rw [show decide (i < k) = true by simp; omega]
              have HO := Lib.hid (show out ++ [p] = outK i i2 t.l ⟨key, x⟩ (k + 1) by rw [outK_gt hki (by have hA := ASK.out; first | (have := (hA.yes rfl).2; omega) | (have := hA.no rfl; omega)) HP.out, hO.out])
              go_wp2_with (at_builtin; refine append_anyP rfl (.tmp 90) (.tmp 92) rfl (w0.heap.size + 1) A out.length c _ rfl (RSY.out.next (below_new Y _)).own d (some ⟨Y.heap.size, 0, none⟩) 1 [⟨p.key, p.x⟩] 1 rfl rfl (prow_one Y d p.key p.x QI.out) (by simp) (by have := hol.out; simp; omega) (by have := RSY.out.lt; simp; omega) ?_; intro g2 cap2 w2 hown hgr hlt; have RN2 := Lib.hid ((RSY.out.next (below_new Y _)).push (p := ⟨p.key, p.x⟩) hgr hown); obtain ⟨y0, y1, y2, y3, y4, f0, f1, f2, f3, f4, _⟩ := (RSY.out.next (below_new Y _)).boxAfter hgr; clear hown hgr hlt)
              go_roundw
              case rel => exact ⟨k + 1, _, _, _, by omega, by go_num, by simp; omega, HO, RN2⟩
              case measure => simp [intOf]; omega

          · obtain rfl : k = t.l.length := by omega
            obtain ⟨c0, c1, c2, c3, c4, _⟩ := K3d.out.next hR.out.bel
            by_cases hil : i < t.l.length
            · rw [show decide (i < t.l.length) = true by simp; omega]
              have HRT := Lib.hid (retT_box (K6d.out.next hR.out.bel).blk (.int .i64 t.id) (.string t.label) (.int .i64 t.o) (.int .i64 t.i) (.slice A out.length c))
              obtain ⟨y0, y1, y2, y3, y4, z0, z1, z2, z3, z4, _⟩ := K6d.out.next hR.out.bel
              obtain ⟨v0, v1, v2, v3, v4, _⟩ := hR.out.box
              go_wp2
              obtain ⟨F, hF, ⟨r0', r1', r2', r3', r4', _⟩, hkk, hsz, hbel⟩ := HRT.out
              rw [← hF]
              clear hF
              have hFb := hbel w.heap.size w (by omega) (bnext B3.out hR.out.bel)
              have hrow : out = withLL i i2 t.l ⟨key, x⟩ := by rw [hO.out, outK_end hil hLb.out.2]
              exact bodyPost_ret (v := .tuple #[(⟨t.id, t.label, t.o, t.i, A, c, out⟩ : TA).v, .int .i64 0]) (by simp [results, Try.results26, go_sem, r0', r1', r2', r3', r4', TA.v]) rfl ⟨⟨t.id, t.label, t.o, t.i, A, c, out⟩, by rw [HE.out], rs_rowF hR.out (hkk _ _ (by have := K6d.out.blk.lt; omega)) hsz hFb (by rw [hrow]; exact hLb.out.1) (fun p hp => by rw [hrow] at hp; rcases with_mem hp with rfl | hp; exact HX.out; exact H0.out.vals p hp), .inr ⟨HE.out, by simp [TA.tv', hrow, HFI.out.1, HFI.out.2]⟩, hFb⟩

            · exact absurd (ASK.out.yes rfl).1 hil

end Go.Proofs.Ytciipggccjiaiaa
