/- Contract of graph.With, all its answers. -/
import Derived.Test.YtciipggccjiaiaaNY
namespace Go.Proofs.Ytciipggccjiaiaa
open Go.RowKit Go.Sort
set_option maxRecDepth 100000

abbrev zeroTv : Value := tv 0 ⟨#[]⟩ 0 0 none 0 0
set_option maxHeartbeats 3200000 in
theorem with_noPlain (w : World) (d : Nat) (id : Int) (label : ByteArray) (o n : Int) (A : Option Addr) (k c : Nat) (key : ByteArray) (x : At) (hx : x.In w d) (hk : nameB key = true) (hp : plainB x.t = false) : Calls Try.prog 25 #[tv id label o n A k c, .string key, x.v] w fun e w' => e = .returned (.tuple #[zeroTv, .int .i64 2]) ∧ Below w.heap.size w w' := by
  have HN := Lib.hid hk
  have HPL := Lib.hid hp
  have HX := Lib.hid hx
  clear hk hp hx
  go_enter Try.func25, Try.ntmps25
  go_upto_region 1 with fail
  generalize hW : World.alloc (World.alloc (World.alloc _ _) _) _ = W
  obtain ⟨k3, k5, k6, hb, hs⟩ := boxesW _ _ _ _ _ _ _ _ _ _ _ _ _ _ _ _ _ hW
  have K6 := Lib.hid k6
  have HB := Lib.hid hb
  clear hW k3 k6 hb hs
  obtain ⟨d0, d1, d2, d3, d4, _⟩ := k5
  go_wp2_with fail
  refine (name_any key W).mono ?_
  rintro e w1 ⟨rfl, rfl⟩
  rw [HN.out]
  go_wp2_with fail
  refine (plain_any W d x (HX.out.next HB.out)).mono ?_
  rintro e w1 ⟨rfl, hb1⟩
  rw [HPL.out]
  have B1 := Lib.hid (bnext HB.out hb1)
  have K6n := Lib.hid (K6.out.next hb1)
  have HRT := Lib.hid (retT_box K6n.out.blk (.int .i64 0) (.string ⟨#[]⟩) (.int .i64 0) (.int .i64 0) (.slice none 0 0))
  obtain ⟨y0, y1, y2, y3, y4, z0, z1, z2, z3, z4, _⟩ := K6n.out
  clear hb1 d0 d1 d2 d3 d4
  go_wp2
  obtain ⟨F, hF, ⟨r0', r1', r2', r3', r4', _⟩, hkk, hsz, hbel⟩ := HRT.out
  rw [← hF]
  clear hF
  exact bodyPost_ret (v := .tuple #[zeroTv, .int .i64 2]) (by simp [results, Try.results25, go_sem, r0', r1', r2', r3', r4']) rfl ⟨rfl, hbel _ _ (by omega) B1.out⟩
set_option maxHeartbeats 3200000 in
theorem with_long (w : World) (d : Nat) (id : Int) (label : ByteArray) (o n : Int) (A : Option Addr) (c : Nat) (l : List PA) (h : PRow w 0 d A c l) (key : ByteArray) (x : At) (hx : x.In w d) (hk : nameB key = true) (hp : plainB x.t = true) (hi : idxG (keyB key) l 0 = -1) (hl : 30 ≤ l.length) : Calls Try.prog 25 #[tv id label o n A l.length c, .string key, x.v] w fun e w' => e = .returned (.tuple #[zeroTv, .int .i64 3]) ∧ Below w.heap.size w w' := by
  have HN := Lib.hid hk
  have HPL := Lib.hid hp
  have HX := Lib.hid hx
  have HI := Lib.hid (fun (W : World) (hb : Below w.heap.size w W) => place_ins W d A c l (h.next hb) key hi)
  have hl30 : (30 : Int) ≤ (l.length : Int) := by omega
  have hbig := h.big
  generalize insAt key l = j at HI
  clear hk hp hx h hi hl
  go_enter Try.func25, Try.ntmps25
  go_upto_region 1 with fail
  generalize hW : World.alloc (World.alloc (World.alloc _ _) _) _ = W
  obtain ⟨k3, k5, k6, hb, hs⟩ := boxesW _ _ _ _ _ _ _ _ _ _ _ _ _ _ _ _ _ hW
  have K3 := Lib.hid k3
  have K6 := Lib.hid k6
  have HB := Lib.hid hb
  clear hW k3 k6 hb hs
  obtain ⟨d0, d1, d2, d3, d4, _⟩ := k5
  go_wp2_with fail
  refine (name_any key W).mono ?_
  rintro e w1 ⟨rfl, rfl⟩
  rw [HN.out]
  go_wp2_with fail
  refine (plain_any W d x (HX.out.next HB.out)).mono ?_
  rintro e w1 ⟨rfl, hb1⟩
  rw [HPL.out]
  have B1 := Lib.hid (bnext HB.out hb1)
  have K6n := Lib.hid (K6.out.next hb1)
  have K3n := Lib.hid (K3.out.next hb1)
  clear hb1 d0 d1 d2 d3 d4 K3 K6
  obtain ⟨c0, c1, c2, c3, c4, _⟩ := K3n.out
  go_wp2_with fail
  refine (HI.out w1 B1.out).mono ?_
  rintro e w2 ⟨rfl, hb2⟩
  have B2 := Lib.hid (bnext B1.out hb2)
  have K6m := Lib.hid (K6n.out.next hb2)
  have K3m := Lib.hid (K3n.out.next hb2)
  have HRT := Lib.hid (retT_box K6m.out.blk (.int .i64 0) (.string ⟨#[]⟩) (.int .i64 0) (.int .i64 0) (.slice none 0 0))
  clear hb2 c0 c1 c2 c3 c4 K3n K6n
  obtain ⟨c0, c1, c2, c3, c4, _⟩ := K3m.out
  obtain ⟨y0, y1, y2, y3, y4, z0, z1, z2, z3, z4, _⟩ := K6m.out
  go_wp2
  obtain ⟨F, hF, ⟨r0', r1', r2', r3', r4', _⟩, hkk, hsz, hbel⟩ := HRT.out
  rw [← hF]
  clear hF
  exact bodyPost_ret (v := .tuple #[zeroTv, .int .i64 3]) (by simp [results, Try.results25, go_sem, r0', r1', r2', r3', r4']) rfl ⟨rfl, hbel _ _ (by omega) B2.out⟩
/-- Where the property of a key is, or is to be: from, and up to. -/
def fromOf (key : ByteArray) (l : List PA) : Nat := if idxG (keyB key) l 0 < 0 then insAt key l else (idxG (keyB key) l 0).toNat
def toOf (key : ByteArray) (l : List PA) : Nat := if idxG (keyB key) l 0 < 0 then insAt key l else (idxG (keyB key) l 0).toNat + 1
/-- What With comes to. -/
def withE (key : ByteArray) (v : V) (l : List PA) : Int := if nameB key = false ∨ plainB v = false then 2 else if idxG (keyB key) l 0 < 0 ∧ 30 ≤ l.length then 3 else 0
def GWithPost (w : World) (t : TA) (key : ByteArray) (x : At) (e : Ending) (w' : World) : Prop :=
  ∃ q : TA, e = .returned (.tuple #[q.v, .int .i64 (withE key x.t t.l)]) ∧ NewT w w' q ∧ ((withE key x.t t.l ≠ 0 ∧ q.tv' = zeroTV) ∨ (withE key x.t t.l = 0 ∧ q.tv' = ⟨t.id, t.label, t.o, t.i, (withLL (fromOf key t.l) (toOf key t.l) t.l ⟨key, x⟩).map PA.ckv⟩))
theorem zero_new {w w' : World} (h : Below w.heap.size w w') : NewT w w' ⟨0, ⟨#[]⟩, 0, 0, none, 0, []⟩ := ⟨prow_nil _ _ _, fun h => absurd h (by simp), h⟩
theorem gwith_any (w : World) (d : Nat) (t : TA) (h : PRow w 0 d t.A t.c t.l) (key : ByteArray) (x : At) (hx : x.In w d) : Calls Try.prog 25 #[t.v, .string key, x.v] w (GWithPost w t key x) := by
  cases hn : nameB key
  · refine (with_noName w t.id t.label t.o t.i t.A t.l.length t.c key x hn).mono ?_
    rintro e w' ⟨rfl, hb⟩
    have he : withE key x.t t.l = 2 := by unfold withE; rw [if_pos (.inl hn)]
    exact ⟨_, by rw [he]; rfl, zero_new hb, .inl ⟨by rw [he]; omega, rfl⟩⟩
  · cases hp : plainB x.t
    · refine (with_noPlain w d t.id t.label t.o t.i t.A t.l.length t.c key x hx hn hp).mono ?_
      rintro e w' ⟨rfl, hb⟩
      have he : withE key x.t t.l = 2 := by unfold withE; rw [if_pos (.inr hp)]
      exact ⟨_, by rw [he]; rfl, zero_new hb, .inl ⟨by rw [he]; omega, rfl⟩⟩
    · have h0 : ¬ (nameB key = false ∨ plainB x.t = false) := by rw [hn, hp]; simp
      have hbig := h.big
      rcases idxG_at (keyB key) t.l 0 with ⟨e1, f1⟩ | ⟨i, y, e1, hy, f1, hpy⟩
      · by_cases hl : 30 ≤ t.l.length
        · refine (with_long w d t.id t.label t.o t.i t.A t.c t.l h key x hx hn hp e1 hl).mono ?_
          rintro e w' ⟨rfl, hb⟩
          have he : withE key x.t t.l = 3 := by unfold withE; rw [if_neg h0, if_pos ⟨by omega, hl⟩]
          exact ⟨_, by rw [he]; rfl, zero_new hb, .inl ⟨by rw [he]; omega, rfl⟩⟩
        · have hf : fromOf key t.l = insAt key t.l := by unfold fromOf; rw [if_pos (by omega)]
          have ht : toOf key t.l = insAt key t.l := by unfold toOf; rw [if_pos (by omega)]
          have hle := insAt_le key t.l
          refine (with_gen w d t.id t.label t.o t.i t.A t.c t.l h key x hx hn hp (insAt key t.l) (insAt key t.l) (fun W hb => place_ins W d t.A t.c t.l (h.next hb) key e1) hle hle (.inr (by omega)) (by unfold withLL; simp; omega)).mono ?_
          rintro e w' ⟨A, c, r, rfl, hr, hm, hmp, hb⟩
          have he : withE key x.t t.l = 0 := by unfold withE; rw [if_neg h0, if_neg (fun h => hl h.2)]
          exact ⟨⟨t.id, t.label, t.o, t.i, A, c, r⟩, by rw [he], ⟨hr, hmp, hb⟩, .inr ⟨he, by rw [hf, ht]; simp [TA.tv', hm]⟩⟩
      · have hil := (List.getElem?_eq_some_iff.1 hy).1
        have hi0 : idxG (keyB key) t.l 0 = (i : Nat) := by rw [e1]; omega
        have hf : fromOf key t.l = i := by unfold fromOf; rw [hi0, if_neg (by omega)]; omega
        have ht : toOf key t.l = i + 1 := by unfold toOf; rw [hi0, if_neg (by omega)]; omega
        refine (with_gen w d t.id t.label t.o t.i t.A t.c t.l h key x hx hn hp i (i + 1) (fun W hb => (place_found W d t.A t.c t.l (h.next hb) key i hi0 hil).mono (fun e w' h => ⟨by rw [h.1]; rfl, h.2⟩)) (by omega) (by omega) (.inl (by omega)) (by unfold withLL; simp; omega)).mono ?_
        rintro e w' ⟨A, c, r, rfl, hr, hm, hmp, hb⟩
        have he : withE key x.t t.l = 0 := by unfold withE; rw [if_neg h0, if_neg (fun h => by have := h.1; omega)]
        exact ⟨⟨t.id, t.label, t.o, t.i, A, c, r⟩, by rw [he], ⟨hr, hmp, hb⟩, .inr ⟨he, by rw [hf, ht]; simp [TA.tv', hm]⟩⟩
end Go.Proofs.Ytciipggccjiaiaa
