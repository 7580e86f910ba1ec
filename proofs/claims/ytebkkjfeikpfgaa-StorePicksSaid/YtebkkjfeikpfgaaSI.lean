/- A store in memory; how one is made, and what its calls answer. -/
import Derived.Test.YtebkkjfeikpfgaaSH
import Derived.Test.YtebkkjfeikpfgaaBPl
import Derived.Deep.QuietTactic
import Derived.BigQuiet
namespace Go.Proofs.Ytebkkjfeikpfgaa
open Go.RowKit Go.Sort
set_option maxRecDepth 100000
attribute [local go_sem ↓] Go.wp_at_zero Go.wp_at_succ

theorem risG_head : ∀ (r : List TV) (x : TV), risG idLtV (x :: r) = true → ∀ t ∈ r, x.id < t.id
  | [], _, _, _, ht => by cases ht
  | y :: r, x, h, t, ht => by
    have h' : (idLtV x y && risG idLtV (y :: r)) = true := h
    rw [Bool.and_eq_true] at h'
    have h1 : x.id < y.id := by simpa [idLtV] using h'.1
    rcases List.mem_cons.1 ht with rfl | ht
    · exact h1
    · have := risG_head r y h'.2 t ht; omega
theorem risG_tail {x : TV} {r : List TV} (h : risG idLtV (x :: r) = true) : risG idLtV r = true := by
  match r, h with
  | [], _ => rfl
  | y :: r, h =>
    have h' : (idLtV x y && risG idLtV (y :: r)) = true := h
    rw [Bool.and_eq_true] at h'
    exact h'.2
theorem risG_at : ∀ (l : List TV), risG idLtV l = true → ∀ (i j : Nat) s t, i < j → l[i]? = some s → l[j]? = some t → s.id < t.id
  | [], _, _, _, _, _, _, h, _ => by simp at h
  | x :: r, h, 0, j + 1, s, t, _, hs, ht => by
    simp at hs ht
    subst hs
    exact risG_head r x h t (List.mem_of_getElem? ht)
  | x :: r, h, i + 1, j + 1, s, t, hij, hs, ht => risG_at r (risG_tail h) i j s t (by omega) (by simpa using hs) (by simpa using ht)
  | _ :: _, _, _, 0, _, _, hij, _, _ => by omega
theorem ris_of {ts : List TA} {m : Nat} (h : okTVs m (ts.map TA.tv') = true) : Ris ts := fun i j s t hij hs ht =>
  risG_at _ (okTVs_parts h).2.2 i j s.tv' t.tv' hij (by rw [List.getElem?_map, hs]; rfl) (by rw [List.getElem?_map, ht]; rfl)
theorem few_of {ts : List TV} (h : okTVs 2000 ts = true) : Few (spk ts) := by
  obtain ⟨h1, h2, _⟩ := okTVs_parts h
  have hs : ∀ t ∈ ts, t.label.size ≤ maxLen := fun t ht => by
    have := List.all_eq_true.1 h2 t ht
    unfold okTV nameB at this
    simp only [Bool.and_eq_true, decide_eq_true_eq] at this
    have := this.2.1.1.2
    unfold maxLen
    omega
  refine ⟨fun a b => Nat.le_trans (spk_len ts a b) (by omega), fun a b s hm => ?_⟩
  unfold spk at hm
  split at hm
  · obtain ⟨t, ht, rfl⟩ := List.mem_map.1 hm
    exact hs t (List.mem_filter.1 ht).1
  · split at hm
    · obtain ⟨t, ht, rfl⟩ := List.mem_map.1 hm
      exact hs t (List.mem_filter.1 ht).1
    · cases hm
/-- A store in memory, as it is read. -/
structure StoX (w : World) (s : Nat) (vs es : List TA) (AV : Option Addr) (cV : Nat) (AE : Option Addr) (cE : Nat) (m : Option Nat) : Prop where
  c0 : w.cell? ⟨s, 0, none⟩ = some (.slice AV vs.length cV)
  c1 : w.cell? ⟨s, 1, none⟩ = some (.slice AE es.length cE)
  c2 : w.cell? ⟨s, 2, none⟩ = some (.map m)
  v : TRow w 13 AV cV vs
  e : TRow w 13 AE cE es
  rd : MRd w m (spk (es.map TA.tv'))
structure Sto (w : World) (s : Nat) (vs es : List TA) : Prop where
  lt : s < w.heap.size
  x : ∃ AV cV AE cE m, StoX w s vs es AV cV AE cE m
  rv : Ris vs
  re : Ris es
  few : Few (spk (es.map TA.tv'))
theorem StoX.next {a b : World} {s : Nat} {vs es : List TA} {AV : Option Addr} {cV : Nat} {AE : Option Addr} {cE : Nat} {m : Option Nat} (h : StoX a s vs es AV cV AE cE m) (hs : s < a.heap.size) (hb : Below a.heap.size a b) : StoX b s vs es AV cV AE cE m :=
  ⟨cell_below hb h.c0 hs, cell_below hb h.c1 hs, cell_below hb h.c2 hs, h.v.next hb, h.e.next hb, h.rd.next hb⟩
theorem Sto.next {a b : World} {s : Nat} {vs es : List TA} (h : Sto a s vs es) (hb : Below a.heap.size a b) : Sto b s vs es :=
  ⟨Nat.lt_of_lt_of_le h.lt hb.size, by
    obtain ⟨AV, cV, AE, cE, m, hx⟩ := h.x
    exact ⟨AV, cV, AE, cE, m, hx.next h.lt hb⟩, h.rv, h.re, h.few⟩
theorem trow_none (w : World) : TRow w 13 none 0 [] := ⟨by simp, by simp, fun h => absurd h (by simp), fun t ht => by cases ht⟩
theorem sto_none (w : World) : Sto (w.alloc (.cells #[.slice none 0 0, .slice none 0 0, .map none] 70)) w.heap.size [] [] :=
  ⟨by simp, ⟨none, 0, none, 0, none, by rw [World.cell?_alloc_at _ _ _ _ rfl]; rfl, by rw [World.cell?_alloc_at _ _ _ _ rfl]; rfl, by rw [World.cell?_alloc_at _ _ _ _ rfl]; rfl, trow_none _, trow_none _, by rw [show (([] : List TA).map TA.tv') = [] from rfl, spk_nil]; exact mrd_nil _⟩,
    fun _ _ _ _ _ h => by simp at h, fun _ _ _ _ _ h => by simp at h, by rw [show (([] : List TA).map TA.tv') = [] from rfl, spk_nil]; exact ⟨fun _ _ => by simp, fun _ _ s hs => by cases hs⟩⟩
/-- A store, or none. -/
def Recv (w : World) (p : Option Addr) (vs es : List TA) : Prop := (p = none ∧ vs = [] ∧ es = []) ∨ ∃ s, p = some ⟨s, 0, none⟩ ∧ Sto w s vs es
theorem Recv.next {a b : World} {p : Option Addr} {vs es : List TA} (h : Recv a p vs es) (hb : Below a.heap.size a b) : Recv b p vs es := by
  rcases h with h | ⟨s, e, h⟩
  · exact .inl h
  · exact .inr ⟨s, e, h.next hb⟩
def OrPost (w : World) (vs es : List TA) (e : Ending) (w' : World) : Prop := ∃ s, e = .returned (.pointer (some ⟨s, 0, none⟩)) ∧ Sto w' s vs es ∧ Below w.heap.size w w'
set_option maxHeartbeats 800000 in
theorem orEmpty_any (w : World) (p : Option Addr) (vs es : List TA) (h : Recv w p vs es) : Calls Try.prog 36 #[.pointer p] w (OrPost w vs es) := by
  rcases h with ⟨rfl, rfl, rfl⟩ | ⟨s, rfl, hs⟩
  · have HS := Lib.hid (sto_none w)
    go_enter Try.func36, Try.ntmps36
    go_wp2
    go_ret
    exact ⟨_, rfl, HS.out, below_new _ _⟩
  · have HS := Lib.hid hs
    clear hs
    go_enter Try.func36, Try.ntmps36
    go_wp2
    go_ret
    exact ⟨_, rfl, HS.out, Below.refl _ _⟩
theorem seen_len {S : Int → Int → List SP} (h : Few S) (id way : Int) (ls : List ByteArray) : (seenS S id way ls).length ≤ 17592186044416 := by
  have := (h.base id way).1
  unfold seenS
  split
  · omega
  · exact Nat.le_trans (List.length_filter_le _ _) (by omega)
theorem IOwn_low {w : World} {a b n c : Nat} {A : Option Addr} {l : List Int} (h : IOwn w a A n c l) (hb : b ≤ a) : IOwn w b A n c l := by
  refine ⟨h.1, ?_⟩
  rcases h.2 with e | ⟨g, cap, cur, e, h1, h2⟩
  · exact .inl e
  · exact .inr ⟨g, cap, cur, e, Nat.le_trans hb h1, h2⟩
set_option maxHeartbeats 1600000 in
theorem around_any (w : World) (p : Option Addr) (vs es : List TA) (h : Recv w p vs es) (id way : Int) (hid : WfI id) (hway : WfI way) (B : Option Addr) (cb : Nat) (ls : List ByteArray) (hL : LRow w B cb ls) (hn : ls.length ≤ 1000000) :
    Calls Try.prog 16 #[.pointer p, .int .i64 id, .int .i64 way, .slice B ls.length cb] w (NumPost w ((seenS (spk (es.map TA.tv')) id way ls).map fun s => s.e)) := by
  have CO := Lib.hid (orEmpty_any w p vs es h)
  have HL := Lib.hid hL
  clear h hL
  go_enter Try.func16, Try.ntmps16
  go_wp2_with fail
  refine CO.out.mono ?_
  rintro e w1 ⟨s, rfl, hs, hb⟩
  obtain ⟨AV, cV, AE, cE, m, hx⟩ := hs.x
  have hlt := hs.lt
  have B1 := Lib.hid hb
  have CS := Lib.hid (seen_any w1 s 1 m _ hx.rd hs.few hlt hx.c2 id way hid hway B cb ls (HL.out.next hb) hn)
  have LEN := Lib.hid (seen_len hs.few id way ls)
  clear hx hs hb CO
  go_wp2_with fail
  refine CS.out.mono ?_
  rintro e w2 ⟨A, c, rfl, hr, hb⟩
  have CN := Lib.hid (numE_any w2 A c _ hr LEN.out)
  have B2 := Lib.hid (bnext B1.out hb)
  clear hr hb CS
  go_wp2_with fail
  refine CN.out.mono ?_
  rintro e w3 ⟨A2, c2, rfl, ho, hb⟩
  have B3 := Lib.hid (bnext B2.out hb)
  have O3 := Lib.hid ho
  have BS := Lib.hid (B2.out.size)
  clear ho hb CN
  go_wp2
  go_ret
  exact ⟨A2, c2, by first | rfl | (rw [List.length_map]; rfl), IOwn_low O3.out BS.out, B3.out⟩
set_option maxHeartbeats 1600000 in
theorem next_any (w : World) (p : Option Addr) (vs es : List TA) (h : Recv w p vs es) (id way : Int) (hid : WfI id) (hway : WfI way) (B : Option Addr) (cb : Nat) (ls : List ByteArray) (hL : LRow w B cb ls) (hn : ls.length ≤ 1000000) :
    Calls Try.prog 17 #[.pointer p, .int .i64 id, .int .i64 way, .slice B ls.length cb] w (NumPost w ((seenS (spk (es.map TA.tv')) id way ls).map fun s => s.o)) := by
  have CO := Lib.hid (orEmpty_any w p vs es h)
  have HL := Lib.hid hL
  clear h hL
  go_enter Try.func17, Try.ntmps17
  go_wp2_with fail
  refine CO.out.mono ?_
  rintro e w1 ⟨s, rfl, hs, hb⟩
  obtain ⟨AV, cV, AE, cE, m, hx⟩ := hs.x
  have hlt := hs.lt
  have B1 := Lib.hid hb
  have CS := Lib.hid (seen_any w1 s 1 m _ hx.rd hs.few hlt hx.c2 id way hid hway B cb ls (HL.out.next hb) hn)
  have LEN := Lib.hid (seen_len hs.few id way ls)
  clear hx hs hb CO
  go_wp2_with fail
  refine CS.out.mono ?_
  rintro e w2 ⟨A, c, rfl, hr, hb⟩
  have CN := Lib.hid (numO_any w2 A c _ hr LEN.out)
  have B2 := Lib.hid (bnext B1.out hb)
  clear hr hb CS
  go_wp2_with fail
  refine CN.out.mono ?_
  rintro e w3 ⟨A2, c2, rfl, ho, hb⟩
  have B3 := Lib.hid (bnext B2.out hb)
  have O3 := Lib.hid ho
  have BS := Lib.hid (B2.out.size)
  clear ho hb CN
  go_wp2
  go_ret
  exact ⟨A2, c2, by first | rfl | (rw [List.length_map]; rfl), IOwn_low O3.out BS.out, B3.out⟩
set_option maxHeartbeats 1600000 in
theorem vertices_any (w : World) (p : Option Addr) (vs es : List TA) (h : Recv w p vs es) (B : Option Addr) (cb : Nat) (ids : List Int) (hI : IRow w B cb ids) :
    Calls Try.prog 23 #[.pointer p, .slice B ids.length cb] w (NumPost w (pickL vs ids)) := by
  have CO := Lib.hid (orEmpty_any w p vs es h)
  have HI := Lib.hid hI
  clear h hI
  go_enter Try.func23, Try.ntmps23
  go_wp2_with fail
  refine CO.out.mono ?_
  rintro e w1 ⟨s, rfl, hs, hb⟩
  obtain ⟨AV, cV, AE, cE, m, hx⟩ := hs.x
  have hlt := hs.lt
  have B1 := Lib.hid hb
  have CS := Lib.hid (which_any w1 13 _ _ vs hx.v hs.rv s 0 hlt hx.c0 B cb ids (HI.out.next hb))
  clear hx hs hb CO
  go_wp2_with fail
  refine CS.out.mono ?_
  rintro e w2 ⟨A2, c2, rfl, ho, hb⟩
  have B3 := Lib.hid (bnext B1.out hb)
  have O3 := Lib.hid ho
  have BS := Lib.hid (B1.out.size)
  clear ho hb CS
  go_wp2
  go_ret
  exact ⟨A2, c2, rfl, IOwn_low O3.out BS.out, B3.out⟩
set_option maxHeartbeats 1600000 in
theorem edges_any (w : World) (p : Option Addr) (vs es : List TA) (h : Recv w p vs es) (B : Option Addr) (cb : Nat) (ids : List Int) (hI : IRow w B cb ids) :
    Calls Try.prog 25 #[.pointer p, .slice B ids.length cb] w (NumPost w (pickL es ids)) := by
  have CO := Lib.hid (orEmpty_any w p vs es h)
  have HI := Lib.hid hI
  clear h hI
  go_enter Try.func25, Try.ntmps25
  go_wp2_with fail
  refine CO.out.mono ?_
  rintro e w1 ⟨s, rfl, hs, hb⟩
  obtain ⟨AV, cV, AE, cE, m, hx⟩ := hs.x
  have hlt := hs.lt
  have B1 := Lib.hid hb
  have CS := Lib.hid (which_any w1 13 _ _ es hx.e hs.re s 1 hlt hx.c1 B cb ids (HI.out.next hb))
  clear hx hs hb CO
  go_wp2_with fail
  refine CS.out.mono ?_
  rintro e w2 ⟨A2, c2, rfl, ho, hb⟩
  have B3 := Lib.hid (bnext B1.out hb)
  have O3 := Lib.hid ho
  have BS := Lib.hid (B1.out.size)
  clear ho hb CS
  go_wp2
  go_ret
  exact ⟨A2, c2, rfl, IOwn_low O3.out BS.out, B3.out⟩
set_option maxHeartbeats 1600000 in
theorem vertex_any (w : World) (p : Option Addr) (vs es : List TA) (h : Recv w p vs es) (id : Int) :
    Calls Try.prog 19 #[.pointer p, .int .i64 id] w (AtPost w (atV vs id)) := by
  have CO := Lib.hid (fun (W : World) (hb : Below w.heap.size w W) => orEmpty_any W p vs es (h.next hb))
  clear h
  go_enter Try.func19, Try.ntmps19
  go_upto_region 1 with fail
  have k1 := CellT.new w (.int .i64 0) (.string ⟨#[]⟩) (.int .i64 0) (.int .i64 0) (.slice none 0 0)
  have HB : Hid (Below w.heap.size w (w.alloc (.cells #[.int .i64 0, .string ⟨#[]⟩, .int .i64 0, .int .i64 0, .slice none 0 0] 42))) := Lib.hid (below_new _ _)
  generalize World.alloc w _ = W at k1 HB ⊢
  have K2 := Lib.hid k1
  have hgW : w.heap.size < W.heap.size := k1.blk.lt
  clear k1
  go_wp2_with fail
  refine (CO.out W HB.out).mono ?_
  rintro e w1 ⟨s, rfl, hs, hb⟩
  obtain ⟨AV, cV, AE, cE, m, hx⟩ := hs.x
  have hlt := hs.lt
  have B1 := Lib.hid (bnext HB.out hb)
  have K2n := Lib.hid (K2.out.next hb)
  have CS := Lib.hid (find_any w1 13 _ _ vs hx.v hs.rv id s 0 hlt hx.c0)
  have hs1 := hb.size
  clear hx hs hb CO K2
  go_wp2_with fail
  refine CS.out.mono ?_
  rintro e w2 ⟨q, rfl, hq, hn⟩
  have HQ := Lib.hid hq
  have NW := Lib.hid hn
  have B2 := Lib.hid (bnext B1.out hn.bel)
  have K2m := Lib.hid (K2n.out.next hn.bel)
  have hs2 := hn.bel.size
  have HRB := Lib.hid (retT_box K2m.out.blk (.int .i64 q.id) (.string q.label) (.int .i64 q.o) (.int .i64 q.i) (.slice q.A q.l.length q.c))
  obtain ⟨y0, y1, y2, y3, y4, z0, z1, z2, z3, z4, _⟩ := K2m.out
  clear hq hn CS
  go_wp2
  obtain ⟨F, hF, ⟨r0', r1', r2', r3', r4', _⟩, hk, hsz, hbel⟩ := HRB.out
  rw [← hF]
  clear hF
  have hkF := hk w1.heap.size w2.heap.size (by omega)
  exact bodyPost_ret (v := .tuple #[tv q.id q.label q.o q.i q.A q.l.length q.c, .bool (atV vs id).2]) (by simp [results, Try.results19, go_sem, r0', r1', r2', r3', r4']) rfl ⟨q, rfl, HQ.out, NW.out.row.imp hkF (by omega) (by rw [hsz]; exact Nat.le_refl _), NW.out.mine.keep NW.out.row hkF, hbel _ _ (by omega) B2.out⟩
set_option maxHeartbeats 1600000 in
theorem edge_any (w : World) (p : Option Addr) (vs es : List TA) (h : Recv w p vs es) (id : Int) :
    Calls Try.prog 21 #[.pointer p, .int .i64 id] w (AtPost w (atV es id)) := by
  have CO := Lib.hid (fun (W : World) (hb : Below w.heap.size w W) => orEmpty_any W p vs es (h.next hb))
  clear h
  go_enter Try.func21, Try.ntmps21
  go_upto_region 1 with fail
  have k1 := CellT.new w (.int .i64 0) (.string ⟨#[]⟩) (.int .i64 0) (.int .i64 0) (.slice none 0 0)
  have HB : Hid (Below w.heap.size w (w.alloc (.cells #[.int .i64 0, .string ⟨#[]⟩, .int .i64 0, .int .i64 0, .slice none 0 0] 42))) := Lib.hid (below_new _ _)
  generalize World.alloc w _ = W at k1 HB ⊢
  have K2 := Lib.hid k1
  have hgW : w.heap.size < W.heap.size := k1.blk.lt
  clear k1
  go_wp2_with fail
  refine (CO.out W HB.out).mono ?_
  rintro e w1 ⟨s, rfl, hs, hb⟩
  obtain ⟨AV, cV, AE, cE, m, hx⟩ := hs.x
  have hlt := hs.lt
  have B1 := Lib.hid (bnext HB.out hb)
  have K2n := Lib.hid (K2.out.next hb)
  have CS := Lib.hid (find_any w1 13 _ _ es hx.e hs.re id s 1 hlt hx.c1)
  have hs1 := hb.size
  clear hx hs hb CO K2
  go_wp2_with fail
  refine CS.out.mono ?_
  rintro e w2 ⟨q, rfl, hq, hn⟩
  have HQ := Lib.hid hq
  have NW := Lib.hid hn
  have B2 := Lib.hid (bnext B1.out hn.bel)
  have K2m := Lib.hid (K2n.out.next hn.bel)
  have hs2 := hn.bel.size
  have HRB := Lib.hid (retT_box K2m.out.blk (.int .i64 q.id) (.string q.label) (.int .i64 q.o) (.int .i64 q.i) (.slice q.A q.l.length q.c))
  obtain ⟨y0, y1, y2, y3, y4, z0, z1, z2, z3, z4, _⟩ := K2m.out
  clear hq hn CS
  go_wp2
  obtain ⟨F, hF, ⟨r0', r1', r2', r3', r4', _⟩, hk, hsz, hbel⟩ := HRB.out
  rw [← hF]
  clear hF
  have hkF := hk w1.heap.size w2.heap.size (by omega)
  exact bodyPost_ret (v := .tuple #[tv q.id q.label q.o q.i q.A q.l.length q.c, .bool (atV es id).2]) (by simp [results, Try.results21, go_sem, r0', r1', r2', r3', r4']) rfl ⟨q, rfl, HQ.out, NW.out.row.imp hkF (by omega) (by rw [hsz]; exact Nat.le_refl _), NW.out.mine.keep NW.out.row hkF, hbel _ _ (by omega) B2.out⟩
set_option maxHeartbeats 800000 in
theorem tcount_any (w : World) (s off n c : Nat) (A : Option Addr) (hc : w.cell? ⟨s, off, none⟩ = some (.slice A n c)) : Calls Try.prog 41 #[.pointer (some ⟨s, off, none⟩)] w fun e w' => e = .returned (.int .i64 n) ∧ w' = w := by
  go_enter Try.func41, Try.ntmps41
  go_wp2
  go_ret
  exact ⟨rfl, rfl⟩
theorem tcount_below (w : World) (s off n c : Nat) (A : Option Addr) (hc : w.cell? ⟨s, off, none⟩ = some (.slice A n c)) : Calls Try.prog 41 #[.pointer (some ⟨s, off, none⟩)] w fun e w' => e = .returned (.int .i64 n) ∧ Below w.heap.size w w' :=
  (tcount_any w s off n c A hc).mono fun _ _ ⟨h, hw⟩ => ⟨h, hw ▸ Below.refl _ _⟩
set_option maxHeartbeats 1600000 in
theorem len_any (w : World) (p : Option Addr) (vs es : List TA) (h : Recv w p vs es) : Calls Try.prog 22 #[.pointer p] w fun e w' => e = .returned (.tuple #[.int .i64 vs.length, .int .i64 es.length]) ∧ Below w.heap.size w w' := by
  have CO := Lib.hid (orEmpty_any w p vs es h)
  clear h
  go_enter Try.func22, Try.ntmps22
  go_wp2_with fail
  refine CO.out.mono ?_
  rintro e w1 ⟨s, rfl, hs, hb⟩
  obtain ⟨AV, cV, AE, cE, m, hx⟩ := hs.x
  have B1 := Lib.hid hb
  have X := Lib.hid (fun (W : World) (hW : Below w1.heap.size w1 W) => hx.next hs.lt hW)
  clear hx hs hb CO
  go_upto_region 2 with fail
  have T0 := Lib.hid (fun (n : Nat) (os : Array Obj) => Calls.regrown_of (tcount_below (grow (redrawn w1 n) os) s 0 vs.length cV AV (X.out _ (below_regrown _ _ _)).c0))
  have T1 := Lib.hid (fun (n : Nat) (os : Array Obj) => Calls.regrown_of (tcount_below (grow (redrawn w1 n) os) s 1 es.length cE AE (X.out _ (below_regrown _ _ _)).c1))
  refine wp_region_quiet_below (by kernel_rfl) (by kernel_rfl) ?_
  repeat (first | go_big_quiet_step (first | (with_reducible exact T0.out _ _) | (with_reducible exact T1.out _ _)) | quiet_step (first | (with_reducible exact T0.out _ _) | (with_reducible exact T1.out _ _)))
  refine wpQuiet_nil ?_
  intro _ hw'
  obtain ⟨⟨dq, osq⟩, hw''⟩ := hw'
  subst hw''
  have hb1 := bnext B1.out (below_regrown w1 dq osq)
  generalize grow (redrawn w1 dq) osq = WL at hb1
  go_wp2
  go_ret2
  exact ⟨rfl, hb1⟩
end Go.Proofs.Ytebkkjfeikpfgaa
