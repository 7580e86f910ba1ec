/- Spokes in memory; one number of each, in order. -/
import Derived.Test.YtebkkjfeikpfgaaSA
import Derived.Test.YtebkkjfeikpfgaaBNW
namespace Go.Proofs.Ytebkkjfeikpfgaa
open Go.RowKit
set_option maxRecDepth 100000

/-- An edge, seen from one of its ends. -/
structure SP where
  e : Int
  l : ByteArray
  o : Int
abbrev SP.v (s : SP) : Value := .agg #[.int .i64 s.e, .string s.l, .int .i64 s.o]
def SP.cs (s : SP) : List Value := [.int .i64 s.e, .string s.l, .int .i64 s.o]
def flatS (l : List SP) : List Value := l.flatMap SP.cs
theorem flatS_len : ∀ l : List SP, (flatS l).length = l.length * 3
  | [] => rfl
  | p :: r => by
    have := flatS_len r
    unfold flatS at *
    rw [List.flatMap_cons, List.length_append, this, List.length_cons]; simp [SP.cs]; omega
theorem flatS_app (a b : List SP) : flatS (a ++ b) = flatS a ++ flatS b := List.flatMap_append
theorem flatS_at : ∀ (l : List SP) (j : Nat) (p : SP), l[j]? = some p → ∀ c, c < 3 → (flatS l)[j * 3 + c]? = p.cs[c]?
  | [], _, _, h => by simp at h
  | q :: l, 0, p, h => fun c hc => by
    simp at h
    subst h
    unfold flatS
    rw [List.flatMap_cons, List.getElem?_append_left (by simp [SP.cs]; omega)]
    simp
  | q :: l, j + 1, p, h => fun c hc => by
    have ih := flatS_at l j p (by simpa using h) c hc
    unfold flatS at *
    rw [List.flatMap_cons, List.getElem?_append_right (by simp [SP.cs]; omega), ← ih]
    congr 1
    simp [SP.cs]; omega
structure cells3 (w : World) (b o : Nat) (p : SP) : Prop where
  c0 : w.cell? ⟨b, o, none⟩ = some (.int .i64 p.e)
  c1 : w.cell? ⟨b, o + 1, none⟩ = some (.string p.l)
  c2 : w.cell? ⟨b, o + 2, none⟩ = some (.int .i64 p.o)
theorem cells3.next {a b : World} {g o : Nat} {p : SP} (h : cells3 a g o p) (hb : Below a.heap.size a b) (hg : g < a.heap.size) : cells3 b g o p :=
  ⟨cell_below hb h.c0 hg, cell_below hb h.c1 hg, cell_below hb h.c2 hg⟩
theorem box3 (w : World) (s : SP) : cells3 (w.alloc (.cells #[.int .i64 s.e, .string s.l, .int .i64 s.o] 74)) w.heap.size 0 s := by
  refine ⟨?_, ?_, ?_⟩ <;> (rw [World.cell?_alloc_at _ _ _ _ rfl]; rfl)
/-- A slice that reads as spokes. -/
structure SRow (w : World) (A : Option Addr) (c : Nat) (l : List SP) : Prop where
  le : l.length ≤ c
  cap : c ≤ maxLen
  nil : A = none → c = 0
  at_ : 0 < l.length → ∃ b off, A = some ⟨b, off, none⟩ ∧ b < w.heap.size ∧ ∀ (j : Nat) x, l[j]? = some x → cells3 w b (off + j * 3) x
theorem SRow.next {a b : World} {A : Option Addr} {c : Nat} {l : List SP} (h : SRow a A c l) (hb : Below a.heap.size a b) : SRow b A c l :=
  ⟨h.le, h.cap, h.nil, fun h0 => by
    obtain ⟨g, off, e, hg, hc⟩ := h.at_ h0
    exact ⟨g, off, e, Nat.lt_of_lt_of_le hg hb.size, fun j x hj => (hc j x hj).next hb hg⟩⟩
theorem SRow.elem {w : World} {A : Option Addr} {c : Nat} {l : List SP} (h : SRow w A c l) {k : Nat} (hk : k < l.length) : ∃ b off x, A = some ⟨b, off, none⟩ ∧ b < w.heap.size ∧ l[k]? = some x ∧ cells3 w b (off + k * 3) x := by
  obtain ⟨b, off, e, hb, hc⟩ := h.at_ (by omega)
  exact ⟨b, off, l[k], e, hb, List.getElem?_eq_getElem hk, hc k _ (List.getElem?_eq_getElem hk)⟩
theorem srow_nil (w : World) : SRow w none 0 [] := ⟨by simp, by unfold maxLen; omega, fun _ => rfl, fun h => absurd h (by simp)⟩
/-- Spokes in a row of one's own. -/
def SOwn (w : World) (base : Nat) (A : Option Addr) (n c : Nat) (l : List SP) : Prop := w.ownsRow base 74 3 (.slice A n c) n (flatS l)
theorem SOwn.len {w : World} {base n c : Nat} {A : Option Addr} {l : List SP} (h : SOwn w base A n c l) : l.length = n := by have := h.1; rw [flatS_len] at this; omega
theorem SOwn.keep {a b : World} {base n c : Nat} {A : Option Addr} {l : List SP} (h : SOwn a base A n c l) (hb : ∀ k, base ≤ k → k < a.heap.size → b.heap[k]? = a.heap[k]?) : SOwn b base A n c l := by
  refine ⟨h.1, ?_⟩
  rcases h.2 with e | ⟨g', cap, cur, e, h1, h2, h3⟩
  · exact .inl e
  · exact .inr ⟨g', cap, cur, e, h1, (hb g' h1 (Array.getElem?_eq_some_iff.1 h2).1).trans h2, h3⟩
theorem SOwn.next {a b : World} {base n c : Nat} {A : Option Addr} {l : List SP} (h : SOwn a base A n c l) (hb : Below a.heap.size a b) : SOwn b base A n c l := h.keep fun k _ hk => hb.block k hk
theorem SOwn.row {w : World} {base c : Nat} {A : Option Addr} {l : List SP} {n : Nat} (h : SOwn w base A n c l) : SRow w A c l := by
  have hl := h.len
  rcases h.2 with ⟨e, e0⟩ | ⟨g, cap, cur, e, hb, hg, hnc, hcm, hcs, ht⟩
  · injection e with e1 e2 e3
    obtain rfl : l = [] := List.eq_nil_of_length_eq_zero (by omega)
    subst e1 e3
    exact srow_nil _
  · injection e with e1 e2 e3
    subst e1 e3
    refine ⟨by omega, hcm, (fun e => by cases e), fun h0 => ⟨g, 0, rfl, (Array.getElem?_eq_some_iff.1 hg).1, fun j x hj => ?_⟩⟩
    have hc := fun (i : Nat) u (hu : (flatS l)[i]? = some u) => World.ownsRow.cells (g := g) h rfl i u hu
    have ha : ∀ i, (⟨g, 0, none⟩ : Addr).add i = ⟨g, 0 + i, none⟩ := fun i => add_none _ _ _
    simp only [ha] at hc
    have f := flatS_at l j x hj
    exact ⟨hc _ _ (f 0 (by omega)), by have := hc _ _ (f 1 (by omega)); rwa [← Nat.add_assoc] at this, by have := hc _ _ (f 2 (by omega)); rwa [← Nat.add_assoc] at this⟩
theorem sown_nil (w : World) (base : Nat) : SOwn w base none 0 0 [] := World.ownsRow_nil _ _ _ _
/-- What 'numbers' gives: a row of its owner's. -/
def NumPost (w : World) (r : List Int) (e : Ending) (w' : World) : Prop := ∃ A c, e = .returned (.slice A r.length c) ∧ IOwn w' w.heap.size A r.length c r ∧ Below w.heap.size w w'
theorem take_map {α β : Type} (f : α → β) (l : List α) (k : Nat) {x : α} (hx : l[k]? = some x) : (l.take (k + 1)).map f = (l.take k).map f ++ [f x] := by
  rw [List.take_add_one, hx]; simp
set_option maxHeartbeats 800000 in
theorem edge_of (w : World) (s : SP) : Calls Try.prog 38 #[s.v] w fun e w' => e = .returned (.int .i64 s.e) ∧ Below w.heap.size w w' := by
  go_enter Try.func38, Try.ntmps38
  go_wp2
  go_ret
  exact ⟨rfl, below_new _ _⟩
set_option maxHeartbeats 800000 in
theorem other_of (w : World) (s : SP) : Calls Try.prog 39 #[s.v] w fun e w' => e = .returned (.int .i64 s.o) ∧ Below w.heap.size w w' := by
  go_enter Try.func39, Try.ntmps39
  go_wp2
  go_ret
  exact ⟨rfl, below_new _ _⟩
set_option maxHeartbeats 800000 in
theorem id_of (w : World) (s : TA) : Calls Try.prog 56 #[s.v] w fun e w' => e = .returned (.int .i64 s.id) ∧ Below w.heap.size w w' := by
  go_enter Try.func56, Try.ntmps56
  go_wp2
  go_ret
  exact ⟨rfl, below_new _ _⟩
set_option maxHeartbeats 3200000 in
theorem numE_any (w : World)  (A : Option Addr) (c : Nat) (l : List SP) (h : SRow w A c l) (hl : l.length ≤ 17592186044416) : Calls Try.prog 35 #[.slice A l.length c, .func (.func 38) #[] #[]] w (NumPost w (l.map fun s => s.e)) := by
  have hbig : l.length ≤ 17592186044416 := hl
  have hmk := make0 l.length hbig
  have H := Lib.hid h
  clear h
  obtain ⟨n, hn⟩ : ∃ n, n = l.length := ⟨_, rfl⟩
  rw [← hn] at hmk hbig ⊢
  have HN := Lib.hid hn
  clear hn
  go_enter Try.func35, Try.ntmps35
  go_wp2
  have O0 := Lib.hid (own0 w n hbig)
  have B0 := Lib.hid (below_new w (.cells (zrowI n) 3))
  have S0 : w.heap.size + 1 ≤ (w.alloc (.cells (zrowI n) 3)).heap.size := by simp
  generalize World.alloc w _ = W at O0 B0 S0
  clear hmk
  go_loopw [5, 13] (fun al i wr => ∃ (k : Nat) (A' : Option Addr) (c' : Nat), k ≤ n ∧ i = .int .i64 k ∧ al = .slice A' k c' ∧ Hid (Below w.heap.size w wr) ∧ Hid (IOwn wr w.heap.size A' k c' ((l.take k).map fun s => s.e))) (fun _ i _ => n - (intOf i).toNat)
  case atStart => exact ⟨0, _, _, by omega, rfl, rfl, B0, O0⟩
  case round =>
    obtain ⟨k, A', c', hk, rfl, rfl, hbel, hO⟩ := hrel
    by_cases hlt : k < n
    · obtain ⟨b, off, s, rfl, hb, hs, q3⟩ := (H.out.next hbel.out).elem (k := k) (by have := HN.out; omega)
      obtain ⟨q0, q1, q2⟩ := q3
      have HS := Lib.hid hs
      have klt : (k : Int) < (n : Int) := by omega
      clear hs
      go_upto_region 5 with fail
      have bx := box3 wr s
      generalize hW : World.alloc wr _ = W1 at bx
      have BW : Hid (Below wr.heap.size wr W1) := Lib.hid (by rw [← hW]; exact below_new _ _)
      clear hW q0 q1 q2
      obtain ⟨r0, r1, r2⟩ := bx
      go_wp2_with fail
      refine (edge_of W1 s).mono ?_
      rintro e w1 ⟨rfl, hb1⟩
      have HB := Lib.hid (bnext BW.out hb1)
      have HOn := Lib.hid (hO.out.next HB.out)
      have hsz : Hid (w.heap.size ≤ w1.heap.size) := Lib.hid (Nat.le_trans hbel.out.size HB.out.size)
      have BB := Lib.hid (bnext hbel.out HB.out)
      have TM := Lib.hid (take_map (fun s : SP => s.e) l k HS.out)
      clear hb1 r0 r1 r2
      have hI := Lib.hid (fun (y : Int) => one_box w1 (.int .i64 y) 3)
      have HO2 := Lib.hid (fun (y : Int) => HOn.out.next (below_new w1 (.cells #[.int .i64 y] 3)))
      have B2 := Lib.hid (fun (y : Int) => bnext BB.out (below_new w1 (.cells #[.int .i64 y] 3)))
      have hkb : k + 1 ≤ 17592186044416 := by omega
      go_wp2_with (at_builtin; refine append_oneI rfl _ _ rfl w.heap.size (HO2.out _) rfl _ _ rfl (hI.out _) hkb (Nat.le_trans hsz.out (by simp)) ?_; intro A2 c2 w2 hown2 hg2)
      have BE := Lib.hid (grown_below (Nat.le_refl _) (B2.out (s.e)) hg2 (own_block (HO2.out (s.e))))
      have OE := Lib.hid hown2
      clear hown2 hg2
      rw [← TM.out] at OE
      go_roundw
      case rel => exact ⟨k + 1, A2, c2, by omega, by go_num, rfl, BE, OE⟩
      case measure => simp [intOf]; omega
    · obtain rfl : k = n := by omega
      go_wp2
      go_ret
      have e1 := HN.out
      have hO' := hO.out
      rw [List.take_of_length_le (by omega)] at hO'
      exact ⟨A', c', by rw [List.length_map, ← e1]; rfl, by rw [List.length_map, ← e1]; exact hO', hbel.out⟩
set_option maxHeartbeats 3200000 in
theorem numO_any (w : World)  (A : Option Addr) (c : Nat) (l : List SP) (h : SRow w A c l) (hl : l.length ≤ 17592186044416) : Calls Try.prog 35 #[.slice A l.length c, .func (.func 39) #[] #[]] w (NumPost w (l.map fun s => s.o)) := by
  have hbig : l.length ≤ 17592186044416 := hl
  have hmk := make0 l.length hbig
  have H := Lib.hid h
  clear h
  obtain ⟨n, hn⟩ : ∃ n, n = l.length := ⟨_, rfl⟩
  rw [← hn] at hmk hbig ⊢
  have HN := Lib.hid hn
  clear hn
  go_enter Try.func35, Try.ntmps35
  go_wp2
  have O0 := Lib.hid (own0 w n hbig)
  have B0 := Lib.hid (below_new w (.cells (zrowI n) 3))
  have S0 : w.heap.size + 1 ≤ (w.alloc (.cells (zrowI n) 3)).heap.size := by simp
  generalize World.alloc w _ = W at O0 B0 S0
  clear hmk
  go_loopw [5, 13] (fun al i wr => ∃ (k : Nat) (A' : Option Addr) (c' : Nat), k ≤ n ∧ i = .int .i64 k ∧ al = .slice A' k c' ∧ Hid (Below w.heap.size w wr) ∧ Hid (IOwn wr w.heap.size A' k c' ((l.take k).map fun s => s.o))) (fun _ i _ => n - (intOf i).toNat)
  case atStart => exact ⟨0, _, _, by omega, rfl, rfl, B0, O0⟩
  case round =>
    obtain ⟨k, A', c', hk, rfl, rfl, hbel, hO⟩ := hrel
    by_cases hlt : k < n
    · obtain ⟨b, off, s, rfl, hb, hs, q3⟩ := (H.out.next hbel.out).elem (k := k) (by have := HN.out; omega)
      obtain ⟨q0, q1, q2⟩ := q3
      have HS := Lib.hid hs
      have klt : (k : Int) < (n : Int) := by omega
      clear hs
      go_upto_region 5 with fail
      have bx := box3 wr s
      generalize hW : World.alloc wr _ = W1 at bx
      have BW : Hid (Below wr.heap.size wr W1) := Lib.hid (by rw [← hW]; exact below_new _ _)
      clear hW q0 q1 q2
      obtain ⟨r0, r1, r2⟩ := bx
      go_wp2_with fail
      refine (other_of W1 s).mono ?_
      rintro e w1 ⟨rfl, hb1⟩
      have HB := Lib.hid (bnext BW.out hb1)
      have HOn := Lib.hid (hO.out.next HB.out)
      have hsz : Hid (w.heap.size ≤ w1.heap.size) := Lib.hid (Nat.le_trans hbel.out.size HB.out.size)
      have BB := Lib.hid (bnext hbel.out HB.out)
      have TM := Lib.hid (take_map (fun s : SP => s.o) l k HS.out)
      clear hb1 r0 r1 r2
      have hI := Lib.hid (fun (y : Int) => one_box w1 (.int .i64 y) 3)
      have HO2 := Lib.hid (fun (y : Int) => HOn.out.next (below_new w1 (.cells #[.int .i64 y] 3)))
      have B2 := Lib.hid (fun (y : Int) => bnext BB.out (below_new w1 (.cells #[.int .i64 y] 3)))
      have hkb : k + 1 ≤ 17592186044416 := by omega
      go_wp2_with (at_builtin; refine append_oneI rfl _ _ rfl w.heap.size (HO2.out _) rfl _ _ rfl (hI.out _) hkb (Nat.le_trans hsz.out (by simp)) ?_; intro A2 c2 w2 hown2 hg2)
      have BE := Lib.hid (grown_below (Nat.le_refl _) (B2.out (s.o)) hg2 (own_block (HO2.out (s.o))))
      have OE := Lib.hid hown2
      clear hown2 hg2
      rw [← TM.out] at OE
      go_roundw
      case rel => exact ⟨k + 1, A2, c2, by omega, by go_num, rfl, BE, OE⟩
      case measure => simp [intOf]; omega
    · obtain rfl : k = n := by omega
      go_wp2
      go_ret
      have e1 := HN.out
      have hO' := hO.out
      rw [List.take_of_length_le (by omega)] at hO'
      exact ⟨A', c', by rw [List.length_map, ← e1]; rfl, by rw [List.length_map, ← e1]; exact hO', hbel.out⟩
set_option maxHeartbeats 3200000 in
theorem numT_any (w : World) (d : Nat) (A : Option Addr) (c : Nat) (l : List TA) (h : TRow w d A c l)  : Calls Try.prog 55 #[.slice A l.length c, .func (.func 56) #[] #[]] w (NumPost w (l.map fun s => s.id)) := by
  have hbig : l.length ≤ 17592186044416 := by have := h.big; omega
  have hmk := make0 l.length hbig
  have H := Lib.hid h
  clear h
  obtain ⟨n, hn⟩ : ∃ n, n = l.length := ⟨_, rfl⟩
  rw [← hn] at hmk hbig ⊢
  have HN := Lib.hid hn
  clear hn
  go_enter Try.func55, Try.ntmps55
  go_wp2
  have O0 := Lib.hid (own0 w n hbig)
  have B0 := Lib.hid (below_new w (.cells (zrowI n) 3))
  have S0 : w.heap.size + 1 ≤ (w.alloc (.cells (zrowI n) 3)).heap.size := by simp
  generalize World.alloc w _ = W at O0 B0 S0
  clear hmk
  go_loopw [5, 13] (fun al i wr => ∃ (k : Nat) (A' : Option Addr) (c' : Nat), k ≤ n ∧ i = .int .i64 k ∧ al = .slice A' k c' ∧ Hid (Below w.heap.size w wr) ∧ Hid (IOwn wr w.heap.size A' k c' ((l.take k).map fun s => s.id))) (fun _ i _ => n - (intOf i).toNat)
  case atStart => exact ⟨0, _, _, by omega, rfl, rfl, B0, O0⟩
  case round =>
    obtain ⟨k, A', c', hk, rfl, rfl, hbel, hO⟩ := hrel
    by_cases hlt : k < n
    · obtain ⟨b, off, s, rfl, hb, hs, q3, -⟩ := (H.out.next hbel.out).elem (k := k) (by have := HN.out; omega)
      obtain ⟨q0, q1, q2, q4, q5⟩ := q3
      have HS := Lib.hid hs
      have klt : (k : Int) < (n : Int) := by omega
      clear hs
      go_upto_region 5 with fail
      have bx := CellT.new wr (.int .i64 s.id) (.string s.label) (.int .i64 s.o) (.int .i64 s.i) (.slice s.A s.l.length s.c)
      generalize hW : World.alloc wr _ = W1 at bx
      have BW : Hid (Below wr.heap.size wr W1) := Lib.hid (by rw [← hW]; exact below_new _ _)
      clear hW q0 q1 q2 q4 q5
      obtain ⟨r0, r1, r2, r3, r4, -⟩ := bx
      go_wp2_with fail
      refine (id_of W1 s).mono ?_
      rintro e w1 ⟨rfl, hb1⟩
      have HB := Lib.hid (bnext BW.out hb1)
      have HOn := Lib.hid (hO.out.next HB.out)
      have hsz : Hid (w.heap.size ≤ w1.heap.size) := Lib.hid (Nat.le_trans hbel.out.size HB.out.size)
      have BB := Lib.hid (bnext hbel.out HB.out)
      have TM := Lib.hid (take_map (fun s : TA => s.id) l k HS.out)
      clear hb1 r0 r1 r2 r3 r4
      have hI := Lib.hid (fun (y : Int) => one_box w1 (.int .i64 y) 3)
      have HO2 := Lib.hid (fun (y : Int) => HOn.out.next (below_new w1 (.cells #[.int .i64 y] 3)))
      have B2 := Lib.hid (fun (y : Int) => bnext BB.out (below_new w1 (.cells #[.int .i64 y] 3)))
      have hkb : k + 1 ≤ 17592186044416 := by omega
      go_wp2_with (at_builtin; refine append_oneI rfl _ _ rfl w.heap.size (HO2.out _) rfl _ _ rfl (hI.out _) hkb (Nat.le_trans hsz.out (by simp)) ?_; intro A2 c2 w2 hown2 hg2)
      have BE := Lib.hid (grown_below (Nat.le_refl _) (B2.out (s.id)) hg2 (own_block (HO2.out (s.id))))
      have OE := Lib.hid hown2
      clear hown2 hg2
      rw [← TM.out] at OE
      go_roundw
      case rel => exact ⟨k + 1, A2, c2, by omega, by go_num, rfl, BE, OE⟩
      case measure => simp [intOf]; omega
    · obtain rfl : k = n := by omega
      go_wp2
      go_ret
      have e1 := HN.out
      have hO' := hO.out
      rw [List.take_of_length_le (by omega)] at hO'
      exact ⟨A', c', by rw [List.length_map, ← e1]; rfl, by rw [List.length_map, ← e1]; exact hO', hbel.out⟩
end Go.Proofs.Ytebkkjfeikpfgaa
