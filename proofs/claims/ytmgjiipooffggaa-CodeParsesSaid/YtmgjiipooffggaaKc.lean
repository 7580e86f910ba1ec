/- How many values there are, of any. -/
import Derived.Test.YtmgjiipooffggaaKZ
namespace Go.Proofs.Ytmgjiipooffggaa
set_option maxRecDepth 100000
open Go.RowKit

/-- What Count answers of any value: never so much that it is lost. -/
def AllPost (w : World) (most : Int) (e : Ending) (w' : World) : Prop := ∃ c : Int, e = .returned (.int .i64 c) ∧ 1 ≤ c ∧ c ≤ most * 7036874417770 ∧ Below w.heap.size w w'
def AllOk (d : Nat) : Prop := ∀ (w : World) (x : At) (most : Int), 1 ≤ most → most ≤ 300 → x.In w d →
  Calls Try.prog 39 #[x.v, .int .i64 most] w (AllPost w most)

set_option maxHeartbeats 3200000 in
theorem all_succ (d' : Nat) (ih : AllOk d') : AllOk (d' + 1) := by
  intro w x most hm0 hm1 hx
  have HSZ : x.t.s.size ≤ 140737488355328 := hx.1.s1
  have RL := Lib.hid hx.2.1
  have RM := Lib.hid hx.2.2
  have hbl := hx.2.1.big
  have hbm := hx.2.2.big
  have IH := Lib.hid ih
  clear hx ih
  unfold At.v
  go_enter Try.func39, Try.ntmps39
  go_wp2
  have k1 := Box.new w x.t x.A x.c x.A' x.c'
  generalize hW : World.alloc w _ = W
  have K1 : Hid (Box W w.heap.size x.t x.A x.c x.A' x.c') := Lib.hid (by rw [← hW]; exact k1)
  have HB : Hid (Below w.heap.size w W) := Lib.hid (by rw [← hW]; exact below_new _ _)
  have hz : w.heap.size < W.heap.size := by rw [← hW]; simp
  clear hW k1
  go_loopw [5, 6] (fun u i wr => ∃ (k : Nat) (y : Int), k ≤ x.t.l.length ∧ i = .int .i64 k ∧ u = .int .i64 y ∧ 1 ≤ y ∧ y ≤ (most - 1) * 7036874417770 + 1 ∧ Hid (Below W.heap.size W wr)) (fun _ i _ => x.t.l.length - (intOf i).toNat)
  case atStart => exact ⟨0, 1, by omega, rfl, rfl, by omega, by omega, Lib.hid (Below.refl _ _)⟩
  case round =>
    obtain ⟨k, y, hk, rfl, rfl, hy0, hy1, hbel⟩ := hrel
    obtain ⟨c0, c1, c2, c3, c4⟩ := K1.out.below hbel.out hz
    by_cases hlt : k < x.t.l.length
    · by_cases hm : y < most
      · obtain ⟨b, off, z, A1, e1, A2, e2, hA, _, hb, hzz, q, rz⟩ := (RL.out.next (bnext HB.out hbel.out)).elem hlt
        rw [hA] at c3
        obtain ⟨q0, q1, q2, q3, q4⟩ := q
        have RZ := Lib.hid rz
        clear rz hA
        have i1 : IntKind.i64.wrap (most - y) = most - y := IntWalk.i64_in _ (by omega)
        have i1' : wrap64 (most - y) = most - y := by unfold wrap64; omega
        have k0 : (0 : Int) ≤ (k : Int) := by omega
        have k2 : (k : Int) < (x.t.l.length : Int) := by omega
        go_wp2_with fail
        refine (IH.out _ ⟨z, A1, e1, A2, e2⟩ (most - y) (by omega) (by omega) RZ.out).mono ?_
        rintro e w2 ⟨c, rfl, hc0, hc1, hbc⟩
        have BB := Lib.hid (bnext hbel.out hbc)
        clear hbc i1 i1' c0 c1 c2 c3 c4 q0 q1 q2 q3 q4
        have i2 : IntKind.i64.wrap (y + c) = y + c := IntWalk.i64_in _ (by omega)
        have i2' : wrap64 (y + c) = y + c := by unfold wrap64; omega
        go_wp2
        go_roundw
        case rel => exact ⟨k + 1, y + c, by omega, by go_num, rfl, by omega, by omega, BB⟩
        case measure => simp [intOf]; omega
      · skip
        have hm' : most ≤ y := by omega
        go_wp2
        clear c0 c1 c2 c3 c4
        go_loopw [5, 7] (fun u i wx => ∃ (k2 : Nat) (y2 : Int), k2 ≤ x.t.m.length ∧ i = .int .i64 k2 ∧ u = .int .i64 y2 ∧ 1 ≤ y2 ∧ y2 ≤ (most - 1) * 7036874417770 + 1 ∧ Hid (Below W.heap.size W wx)) (fun _ i _ => x.t.m.length - (intOf i).toNat)
        case atStart => exact ⟨0, y, by omega, rfl, rfl, hy0, hy1, hbel⟩
        case round =>
          clear hy0 hy1
          obtain ⟨k2, y2, hk2, rfl, rfl, hz0, hz1, hbel2⟩ := hrel
          obtain ⟨c0, c1, c2, c3, c4⟩ := K1.out.below hbel2.out hz
          by_cases hlt2 : k2 < x.t.m.length
          · by_cases hm2 : y2 < most
            · obtain ⟨b, off, z, A1, e1, A2, e2, hA, _, hb, hzz, q, rz⟩ := (RM.out.next (bnext HB.out hbel2.out)).elem hlt2
              rw [hA] at c4
              obtain ⟨q0, q1, q2, q3, q4⟩ := q
              have RZ := Lib.hid rz
              clear rz hA
              have i1 : IntKind.i64.wrap (most - y2) = most - y2 := IntWalk.i64_in _ (by omega)
              have i1' : wrap64 (most - y2) = most - y2 := by unfold wrap64; omega
              have k0 : (0 : Int) ≤ (k2 : Int) := by omega
              have k3 : (k2 : Int) < (x.t.m.length : Int) := by omega
              go_wp2_with fail
              refine (IH.out _ ⟨z, A1, e1, A2, e2⟩ (most - y2) (by omega) (by omega) RZ.out).mono ?_
              rintro e w2 ⟨c, rfl, hc0, hc1, hbc⟩
              have BB := Lib.hid (bnext hbel2.out hbc)
              clear hbc i1 i1' c0 c1 c2 c3 c4 q0 q1 q2 q3 q4
              have i2 : IntKind.i64.wrap (y2 + c) = y2 + c := IntWalk.i64_in _ (by omega)
              have i2' : wrap64 (y2 + c) = y2 + c := by unfold wrap64; omega
              go_wp2
              go_roundw
              case rel => exact ⟨k2 + 1, y2 + c, by omega, by go_num, rfl, by omega, by omega, BB⟩
              case measure => simp [intOf]; omega
            · have hm2' : most ≤ y2 := by omega
              go_wp2
              go_ret
              exact ⟨y2 + (x.t.s.size : Int) / 20, rfl, by omega, by omega, bnext HB.out hbel2.out⟩
          · go_wp2
            go_ret
            exact ⟨y2 + (x.t.s.size : Int) / 20, rfl, by omega, by omega, bnext HB.out hbel2.out⟩
    · skip
      go_wp2
      clear c0 c1 c2 c3 c4
      go_loopw [5, 7] (fun u i wx => ∃ (k2 : Nat) (y2 : Int), k2 ≤ x.t.m.length ∧ i = .int .i64 k2 ∧ u = .int .i64 y2 ∧ 1 ≤ y2 ∧ y2 ≤ (most - 1) * 7036874417770 + 1 ∧ Hid (Below W.heap.size W wx)) (fun _ i _ => x.t.m.length - (intOf i).toNat)
      case atStart => exact ⟨0, y, by omega, rfl, rfl, hy0, hy1, hbel⟩
      case round =>
        clear hy0 hy1
        obtain ⟨k2, y2, hk2, rfl, rfl, hz0, hz1, hbel2⟩ := hrel
        obtain ⟨c0, c1, c2, c3, c4⟩ := K1.out.below hbel2.out hz
        by_cases hlt2 : k2 < x.t.m.length
        · by_cases hm2 : y2 < most
          · obtain ⟨b, off, z, A1, e1, A2, e2, hA, _, hb, hzz, q, rz⟩ := (RM.out.next (bnext HB.out hbel2.out)).elem hlt2
            rw [hA] at c4
            obtain ⟨q0, q1, q2, q3, q4⟩ := q
            have RZ := Lib.hid rz
            clear rz hA
            have i1 : IntKind.i64.wrap (most - y2) = most - y2 := IntWalk.i64_in _ (by omega)
            have i1' : wrap64 (most - y2) = most - y2 := by unfold wrap64; omega
            have k0 : (0 : Int) ≤ (k2 : Int) := by omega
            have k3 : (k2 : Int) < (x.t.m.length : Int) := by omega
            go_wp2_with fail
            refine (IH.out _ ⟨z, A1, e1, A2, e2⟩ (most - y2) (by omega) (by omega) RZ.out).mono ?_
            rintro e w2 ⟨c, rfl, hc0, hc1, hbc⟩
            have BB := Lib.hid (bnext hbel2.out hbc)
            clear hbc i1 i1' c0 c1 c2 c3 c4 q0 q1 q2 q3 q4
            have i2 : IntKind.i64.wrap (y2 + c) = y2 + c := IntWalk.i64_in _ (by omega)
            have i2' : wrap64 (y2 + c) = y2 + c := by unfold wrap64; omega
            go_wp2
            go_roundw
            case rel => exact ⟨k2 + 1, y2 + c, by omega, by go_num, rfl, by omega, by omega, BB⟩
            case measure => simp [intOf]; omega
          · have hm2' : most ≤ y2 := by omega
            go_wp2
            go_ret
            exact ⟨y2 + (x.t.s.size : Int) / 20, rfl, by omega, by omega, bnext HB.out hbel2.out⟩
        · go_wp2
          go_ret
          exact ⟨y2 + (x.t.s.size : Int) / 20, rfl, by omega, by omega, bnext HB.out hbel2.out⟩

theorem all_any : ∀ d, AllOk d
  | 0 => fun _ _ _ _ _ h => h.elim
  | d + 1 => all_succ d (all_any d)
set_option maxHeartbeats 1600000 in
theorem many_all (w : World) (d : Nat) (A : Option Addr) (c : Nat) (l : List V) (h : Rw w 0 w.heap.size d A c l) :
    Calls Try.prog 24 #[.slice A l.length c, .int .i64 300] w fun e w' => ∃ n : Int, e = .returned (.int .i64 n) ∧ (n < 300 → ∀ z ∈ l, okV 12 z = true → (cntV 12 z : Int) ≤ n) ∧ Below w.heap.size w w' := by
  have H := Lib.hid h
  have hbl := h.big
  clear h
  go_enter Try.func24, Try.ntmps24
  go_wp2
  go_loopw [5, 6] (fun u i wr => ∃ (k : Nat) (y : Int), k ≤ l.length ∧ i = .int .i64 k ∧ u = .int .i64 y ∧ 0 ≤ y ∧ y ≤ 9223372036854775000 ∧ Hid (y < 300 → ∀ z ∈ l.take k, okV 12 z = true → (cntV 12 z : Int) ≤ y) ∧ Hid (Below w.heap.size w wr)) (fun _ i _ => l.length - (intOf i).toNat)
  case atStart => exact ⟨0, 0, by omega, rfl, rfl, by omega, by omega, Lib.hid (fun _ z hz => by simp at hz), Lib.hid (Below.refl _ _)⟩
  case round =>
    obtain ⟨k, y, hk, rfl, rfl, hx0, hx1, hyc, hbel⟩ := hrel
    by_cases hlt : k < l.length
    · by_cases hm : y < 300
      · obtain ⟨b, off, z, A1, e1, A2, e2, rfl, _, hb, hzz, q, rz⟩ := (H.out.next hbel.out).elem hlt
        obtain ⟨q0, q1, q2, q3, q4⟩ := q
        have RZ := Lib.hid rz
        have TN := Lib.hid (take_next l k hzz)
        clear rz hzz
        have i1 : IntKind.i64.wrap (300 - y) = 300 - y := IntWalk.i64_in _ (by omega)
        have k0 : (0 : Int) ≤ (k : Int) := by omega
        have k2 : (k : Int) < (l.length : Int) := by omega
        have CA : Hid (Calls Try.prog 39 #[(⟨z, A1, e1, A2, e2⟩ : At).v, .int .i64 (300 - y)] wr fun e w' => ∃ c : Int, e = .returned (.int .i64 c) ∧ 1 ≤ c ∧ c ≤ 300 * 7036874417770 ∧ (c < 300 - y → okV 12 z = true → (cntV 12 z : Int) = c) ∧ Below wr.heap.size wr w') := by
          by_cases oz : okV 12 z = true
          · refine Lib.hid ((cnt_any 12 _ d ⟨z, A1, e1, A2, e2⟩ (300 - y) (by omega) (by omega) (by omega) RZ.out oz).mono ?_)
            rintro e w2 ⟨c, he, hc0, hc1, hcc, hbc⟩
            exact ⟨c, he, hc0, by push_cast at hc1; omega, fun h1 _ => (hcc h1).symm, hbc⟩
          · refine Lib.hid ((all_any d _ ⟨z, A1, e1, A2, e2⟩ (300 - y) (by omega) (by omega) RZ.out).mono ?_)
            rintro e w2 ⟨c, he, hc0, hc1, hbc⟩
            exact ⟨c, he, hc0, by omega, fun _ h => absurd h oz, hbc⟩
        go_wp2_with fail
        refine CA.out.mono ?_
        rintro e w2 ⟨c, rfl, hc0, hc1, hcc, hbc⟩
        have BB := Lib.hid (bnext hbel.out hbc)
        have HCC := Lib.hid hcc
        clear hbc hcc i1 q0 q1 q2 q3 q4 CA
        have i2 : IntKind.i64.wrap (y + c) = y + c := IntWalk.i64_in _ (by omega)
        go_wp2
        go_roundw
        case rel => exact ⟨k + 1, y + c, by omega, by go_num, rfl, by omega, by omega, Lib.hid (fun hlt' u hu ou => by
          rw [TN.out, List.mem_append] at hu
          rcases hu with hu | hu
          · have := hyc.out hm u hu ou; omega
          · have hu' : u = z := by simpa using hu
            subst hu'
            have := HCC.out (by omega) ou; omega), BB⟩
        case measure => simp [intOf]; omega
      · have hm' : 300 ≤ y := by omega
        go_wp2
        go_ret
        exact ⟨y, rfl, (fun h => by omega), hbel.out⟩
    · have HE := Lib.hid (show y < 300 → ∀ z ∈ l, okV 12 z = true → (cntV 12 z : Int) ≤ y from fun h => by have := hyc.out h; rw [List.take_of_length_le (by omega)] at this; exact this)
      go_wp2
      go_ret
      exact ⟨y, rfl, HE.out, hbel.out⟩
/-- Is it more than is looked at? If not, no text of it is long. -/
theorem lots_all (w : World) (d : Nat) (A : Option Addr) (c : Nat) (l : List V) (h : Rw w 0 w.heap.size d A c l) : Calls Try.prog 10 #[.slice A l.length c] w fun e w' => ∃ b : Bool, e = .returned (.bool b) ∧ Below w.heap.size w w' ∧ (b = false → ∀ z ∈ l, okV 12 z = true → cntV 12 z ≤ 300) := by
  have MC := Lib.hid (many_all w d A c l h)
  clear h
  go_enter Try.func10, Try.ntmps10
  go_wp2_with fail
  refine MC.out.mono ?_
  rintro e w1 ⟨n, rfl, hn, hb⟩
  have HB := Lib.hid hb
  have HN := Lib.hid hn
  clear hb hn
  go_wp2
  go_ret
  refine ⟨_, rfl, HB.out, fun h z hz ho => ?_⟩
  have h' : n < 300 := by
    have : decide (300 ≤ n) = false := h
    simpa using this
  have := HN.out h' z hz ho
  omega
theorem lots_pair (w : World) (d : Nat) (x y : At) (hx : x.In w d) (hy : y.In w d) : Calls Try.prog 10 #[.slice (some ⟨w.heap.size, 0, none⟩) 2 2] (w.alloc (.cells #[.int .i64 x.t.k, .int .i64 x.t.n, .string x.t.s, .slice x.A x.t.l.length x.c, .slice x.A' x.t.m.length x.c', .int .i64 y.t.k, .int .i64 y.t.n, .string y.t.s, .slice y.A y.t.l.length y.c, .slice y.A' y.t.m.length y.c'] 24)) fun e w' => ∃ b : Bool, e = .returned (.bool b) ∧ Below w.heap.size w w' ∧ (b = false → (okV 12 x.t = true → (txt 12 x.t).length ≤ 30000) ∧ (okV 12 y.t = true → (txt 12 y.t).length ≤ 30000)) := by
  have := lots_all (w.alloc (.cells (flatA [x, y]).toArray 24)) d _ 2 _ (row_lay w d [x, y] (by intro q hq; have : q = x ∨ q = y := (by simpa using hq); rcases this with rfl | rfl; exact hx; exact hy) (by simp))
  rw [List.length_map] at this
  refine Calls.mono this ?_
  rintro e w' ⟨b, he, hb, hc⟩
  refine ⟨b, he, bnext (below_new _ _) hb, fun h1 => ⟨fun h2 => ?_, fun h2 => ?_⟩⟩
  · have h3 := hc h1 x.t (by simp) h2
    have h4 := txt_len 12 x.t h2 (ints_of_rd _ _ _ _ _ _ _ hx)
    omega
  · have h3 := hc h1 y.t (by simp) h2
    have h4 := txt_len 12 y.t h2 (ints_of_rd _ _ _ _ _ _ _ hy)
    omega
end Go.Proofs.Ytmgjiipooffggaa
