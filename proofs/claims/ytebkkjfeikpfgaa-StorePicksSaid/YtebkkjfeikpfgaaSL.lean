/- The document's Around; Pick; what is looked at. -/
import Derived.Test.YtebkkjfeikpfgaaSK
namespace Go.Proofs.Ytebkkjfeikpfgaa
open Go.RowKit Go.Sort
set_option maxRecDepth 100000
attribute [local go_sem ↓] Go.wp_at_zero Go.wp_at_succ

def outP (id : Int) (ls : List ByteArray) (t : TA) : Bool := t.o == id && fitA ls t.label
def inP (id : Int) (ls : List ByteArray) (t : TA) : Bool := t.i == id && fitA ls t.label
/-- The document's edges around a vertex, and the vertices across. -/
def refE (es : List TA) (id way : Int) (ls : List ByteArray) : List Int := (if (way == 1 || way == 3) = true then (es.filter (outP id ls)).map (fun t => t.id) else []) ++ (if (way == 2 || way == 3) = true then (es.filter (inP id ls)).map (fun t => t.id) else [])
def refV (es : List TA) (id way : Int) (ls : List ByteArray) : List Int := (if (way == 1 || way == 3) = true then (es.filter (outP id ls)).map (fun t => t.i) else []) ++ (if (way == 2 || way == 3) = true then (es.filter (inP id ls)).map (fun t => t.o) else [])
def RArPost (w : World) (l1 l2 : List Int) (e : Ending) (w' : World) : Prop := ∃ A1 c1 A2 c2, e = .returned (.tuple #[.slice A1 l1.length c1, .slice A2 l2.length c2]) ∧ TwoI w' w.heap.size A1 l1.length c1 l1 A2 l2.length c2 l2 ∧ Below w.heap.size w w'
def ArCut (W : World) (m0 : Nat) (l1 l2 : List Int) (s10 s11 : Value) (w : World) : Prop := ∃ A1 n1 c1 A2 n2 c2, s10 = .slice A1 n1 c1 ∧ s11 = .slice A2 n2 c2 ∧ n1 ≤ m0 ∧ n2 ≤ m0 ∧ Hid (TwoI w W.heap.size A1 n1 c1 l1 A2 n2 c2 l2) ∧ Hid (Below W.heap.size W w)
theorem pre_next {es : List TA} {p : TA → Bool} {f : TA → Int} {k : Nat} {t : TA} (l : List Int) (ht : es[k]? = some t) (hp : p t = true) : l ++ ((es.take (k + 1)).filter p).map f = l ++ ((es.take k).filter p).map f ++ [f t] := by
  rw [filter_next p es k ht, hp]; simp
theorem pre_same {es : List TA} {p : TA → Bool} {f : TA → Int} {k : Nat} {t : TA} (l : List Int) (ht : es[k]? = some t) (hp : p t = false) : l ++ ((es.take (k + 1)).filter p).map f = l ++ ((es.take k).filter p).map f := by
  rw [filter_next p es k ht, hp]; simp
theorem iown_low {w : World} {a b n c : Nat} {A : Option Addr} {l : List Int} (h : IOwn w a A n c l) (hb : b ≤ a) : IOwn w b A n c l := by
  refine ⟨h.1, ?_⟩
  rcases h.2 with e | ⟨g, cap, cur, e, h1, h2⟩
  · exact .inl e
  · exact .inr ⟨g, cap, cur, e, Nat.le_trans hb h1, h2⟩
theorem TwoI.low {w : World} {a b n1 c1 n2 c2 : Nat} {A1 A2 : Option Addr} {l1 l2 : List Int} (h : TwoI w a A1 n1 c1 l1 A2 n2 c2 l2) (hb : b ≤ a) : TwoI w b A1 n1 c1 l1 A2 n2 c2 l2 := ⟨iown_low h.a hb, iown_low h.b hb, h.ne⟩
theorem TRow.cells {w : World} {d b off c : Nat} {l : List TA} (h : TRow w d (some ⟨b, off, none⟩) c l) {k : Nat} {t : TA} (ht : l[k]? = some t) : b < w.heap.size ∧ w.cell? ⟨b, off + k * 5, none⟩ = some (.int .i64 t.id) ∧ w.cell? ⟨b, off + k * 5 + 1, none⟩ = some (.string t.label) ∧ w.cell? ⟨b, off + k * 5 + 2, none⟩ = some (.int .i64 t.o) ∧ w.cell? ⟨b, off + k * 5 + 3, none⟩ = some (.int .i64 t.i) ∧ w.cell? ⟨b, off + k * 5 + 4, none⟩ = some (.slice t.A t.l.length t.c) := by
  have hk := (List.getElem?_eq_some_iff.1 ht).1
  obtain ⟨b', off', e, hb, hc⟩ := h.at_ (by omega)
  injection e with e
  injection e with e1 e2
  subst e1 e2
  obtain ⟨q0, q1, q2, q3, q4⟩ := hc k t ht
  exact ⟨hb, q0, q1, q2, q3, q4⟩
set_option maxHeartbeats 32000000 in
theorem refAround_any (w : World) (d : Nat) (AV : Option Addr) (nV cV : Nat) (AE : Option Addr) (cE : Nat) (es : List TA) (he : TRow w d AE cE es) (id way : Int) (B : Option Addr) (cb : Nat) (ls : List ByteArray) (hL : LRow w B cb ls) :
    Calls Try.prog 15 #[.agg #[.slice AV nV cV, .slice AE es.length cE], .int .i64 id, .int .i64 way, .slice B ls.length cb] w (RArPost w (refE es id way ls) (refV es id way ls)) := by
  have hbig : es.length ≤ 2199023255488 := he.big
  have HE := Lib.hid he
  have HLL := Lib.hid hL
  clear he hL
  obtain ⟨n, hn⟩ : ∃ n, n = es.length := ⟨_, rfl⟩
  rw [← hn] at hbig ⊢
  have HN := Lib.hid hn
  clear hn
  go_enter Try.func15, Try.ntmps15
  go_upto_block 0 with fail
  generalize hW : World.alloc w _ = W
  obtain ⟨z0, z1, hbW, hsW⟩ := box24 w _ _ W hW
  clear hW
  have BW := Lib.hid hbW
  have hgW : w.heap.size < W.heap.size := by omega
  have H := Lib.hid (fun (Y : World) (hY : Below W.heap.size W Y) => (HE.out.next BW.out).next hY)
  have HL := Lib.hid (fun (Y : World) (hY : Below W.heap.size W Y) => (HLL.out.next BW.out).next hY)
  have KB := Lib.hid (fun (Y : World) (hY : Below W.heap.size W Y) => (show K24 W w.heap.size _ _ from ⟨z0, z1, hgW⟩).next hY)
  clear hbW hsW HE HLL z0 z1
  generalize w.heap.size = g0 at KB hgW ⊢
  go_cut [10, 11] (fun s10 s11 wx => ArCut W n (if (way == 1 || way == 3) = true then (es.filter (outP id ls)).map (fun t => t.id) else []) (if (way == 1 || way == 3) = true then (es.filter (outP id ls)).map (fun t => t.i) else []) s10 s11 wx)
  case first =>
    have TW := Lib.hid (twoI_nil W W.heap.size)
    have BQ : Hid (Below W.heap.size W W) := Lib.hid (Below.refl _ _)
    cases hb1 : (way == 1) <;> cases hb3 : (way == 3)
    · have LE1 : Hid ((if (way == 1 || way == 3) = true then ((es.filter (outP id ls)).map (fun t => t.id)) else []) = []) := Lib.hid (by rw [hb1, hb3]; rfl)
      have LE2 : Hid ((if (way == 1 || way == 3) = true then ((es.filter (outP id ls)).map (fun t => t.i)) else []) = []) := Lib.hid (by rw [hb1, hb3]; rfl)
      go_wp2_with fail
      go_loopw [10, 11, 12] (fun a b i wr => a = .slice none 0 0 ∧ b = .slice none 0 0 ∧ i = .int .i64 0 ∧ Hid (TwoI wr W.heap.size none 0 0 ([] : List Int) none 0 0 ([] : List Int)) ∧ Hid (Below W.heap.size W wr)) (fun _ _ _ _ => 0)
      case atStart => exact ⟨rfl, rfl, rfl, TW, BQ⟩
      case round =>
        obtain ⟨rfl, rfl, rfl, hT, hbel⟩ := hrel
        have KW := Lib.hid (KB.out wr hbel.out)
        obtain ⟨z0, z1, -⟩ := KW.out
        by_cases h0 : 0 < n
        · go_wp2_with fail
          go_meet
          exact ⟨none, 0, 0, none, 0, 0, rfl, rfl, by omega, by omega, Lib.hid (by rw [LE1.out, LE2.out]; simpa using hT.out), hbel⟩
        · obtain rfl : n = 0 := by omega
          go_wp2_with fail
          go_meet
          exact ⟨none, 0, 0, none, 0, 0, rfl, rfl, by omega, by omega, Lib.hid (by rw [LE1.out, LE2.out]; simpa using hT.out), hbel⟩
    all_goals
      have LE1 : Hid ((if (way == 1 || way == 3) = true then ((es.filter (outP id ls)).map (fun t => t.id)) else []) = ((es.filter (outP id ls)).map (fun t => t.id))) := Lib.hid (by rw [hb1, hb3]; rfl)
      have LE2 : Hid ((if (way == 1 || way == 3) = true then ((es.filter (outP id ls)).map (fun t => t.i)) else []) = ((es.filter (outP id ls)).map (fun t => t.i))) := Lib.hid (by rw [hb1, hb3]; rfl)
      go_wp2_with fail
      go_loopw [10, 11, 12] (fun a b i wr => ∃ (k m : Nat) (B1 : Option Addr) (d1 : Nat) (m2 : Nat) (B2 : Option Addr) (d2 : Nat), k ≤ n ∧ i = .int .i64 k ∧ a = .slice B1 m d1 ∧ b = .slice B2 m2 d2 ∧ m ≤ 0 + k ∧ m2 ≤ 0 + k ∧ Hid (TwoI wr W.heap.size B1 m d1 (([] : List Int) ++ ((es.take k).filter (outP id ls)).map (fun t => t.id)) B2 m2 d2 (([] : List Int) ++ ((es.take k).filter (outP id ls)).map (fun t => t.i))) ∧ Hid (Below W.heap.size W wr)) (fun _ _ i _ => n - (intOf i).toNat)
      case atStart => exact ⟨0, 0, none, 0, 0, none, 0, by omega, rfl, rfl, rfl, by omega, by omega, Lib.hid (by simpa using TW.out), BQ⟩
      case round =>
        obtain ⟨k, m, B1, d1, m2, B2, d2, hk, rfl, rfl, rfl, hm1, hm2, hT, hbel⟩ := hrel
        have KW := Lib.hid (KB.out wr hbel.out)
        obtain ⟨z0, z1, -⟩ := KW.out
        by_cases hlt : k < n
        · obtain ⟨b, off, t, rfl, hb, ht, q5, -⟩ := (H.out wr hbel.out).elem (k := k) (by have := HN.out; omega)
          obtain ⟨q0, q1, q2, q3, q4⟩ := q5
          have HT := Lib.hid ht
          have klt : (k : Int) < (n : Int) := by omega
          have CF := Lib.hid (fun (Y : World) (hY : Below W.heap.size W Y) => fits34_any Y t.label B cb ls (HL.out Y hY))
          clear ht
          cases ho : (t.o == id)
          · have PF : Hid (outP id ls t = false) := Lib.hid (by unfold outP; rw [ho]; rfl)
            have TS : Hid (TwoI wr W.heap.size B1 m d1 (([] : List Int) ++ ((es.take (k + 1)).filter (outP id ls)).map (fun t => t.id)) B2 m2 d2 (([] : List Int) ++ ((es.take (k + 1)).filter (outP id ls)).map (fun t => t.i))) := Lib.hid (by rw [pre_same _ HT.out PF.out, pre_same _ HT.out PF.out]; exact hT.out)
            go_wp2
            go_roundw
            case rel => exact ⟨k + 1, m, B1, d1, m2, B2, d2, by omega, by go_num, rfl, rfl, by omega, by omega, TS, hbel⟩
            case measure => simp [intOf]; omega
          · go_wp2_with fail
            refine (CF.out wr hbel.out).mono ?_
            rintro e wx ⟨rfl, rfl⟩
            cases hf : fitA ls t.label
            · have PF : Hid (outP id ls t = false) := Lib.hid (by unfold outP; rw [ho, hf]; rfl)
              have TS : Hid (TwoI wx W.heap.size B1 m d1 (([] : List Int) ++ ((es.take (k + 1)).filter (outP id ls)).map (fun t => t.id)) B2 m2 d2 (([] : List Int) ++ ((es.take (k + 1)).filter (outP id ls)).map (fun t => t.i))) := Lib.hid (by rw [pre_same _ HT.out PF.out, pre_same _ HT.out PF.out]; exact hT.out)
              go_wp2
              go_roundw
              case rel => exact ⟨k + 1, m, B1, d1, m2, B2, d2, by omega, by go_num, rfl, rfl, by omega, by omega, TS, hbel⟩
              case measure => simp [intOf]; omega
            · have PF : Hid (outP id ls t = true) := Lib.hid (by unfold outP; rw [ho, hf]; rfl)
              have N1 := Lib.hid (pre_next (f := fun t : TA => t.id) (([] : List Int)) HT.out PF.out)
              have N2 := Lib.hid (pre_next (f := fun t : TA => t.i) (([] : List Int)) HT.out PF.out)
              clear hf ho
              obtain ⟨ww, hww⟩ : ∃ ww, ww = wx := ⟨_, rfl⟩
              rw [← hww] at hT hbel q0 q1 q2 q3 q4 z0 z1 hb KW ⊢
              clear hww
              have T1 := Lib.hid (hT.out.next (below_new ww (.cells #[.int .i64 t.id] 3)))
              have I1 := Lib.hid (one_box ww (.int .i64 t.id) 3)
              have BB1 := Lib.hid (bnext hbel.out (below_new ww (.cells #[.int .i64 t.id] 3)))
              have hm1b : m + 1 ≤ 17592186044416 := by omega
              have hm2b : m2 + 1 ≤ 17592186044416 := by omega
              go_upto_region 8 with (at_builtin; refine append_oneL rfl _ _ rfl W.heap.size T1.out.a rfl _ _ rfl I1.out hm1b BB1.out.size ?_; intro A3 c3 w3 hown2 hg2 hl2; have T2 := Lib.hid (T1.out.push1 hown2 hg2 hl2); have BG := Lib.hid (grown_below (Nat.le_refl _) BB1.out hg2 (own_block T1.out.a)); clear hown2 hg2 hl2)
              have KW3 := Lib.hid (KB.out w3 BG.out)
              have EL := Lib.hid ((H.out w3 BG.out).cells HT.out)
              clear q0 q1 q2 q3 q4 z0 z1
              obtain ⟨z0, z1, -⟩ := KW3.out
              obtain ⟨hb3, q0, q1, q2, q3, q4⟩ := EL.out
              have T3 := Lib.hid (T2.out.next (below_new w3 (.cells #[.int .i64 t.i] 3)))
              have I3 := Lib.hid (one_box w3 (.int .i64 t.i) 3)
              have BB3 := Lib.hid (bnext BG.out (below_new w3 (.cells #[.int .i64 t.i] 3)))
              go_wp2_with (at_builtin; refine append_oneL rfl _ _ rfl W.heap.size T3.out.b rfl _ _ rfl I3.out hm2b BB3.out.size ?_; intro A5 c5 w5 hown2 hg2 hl2; have T5 := Lib.hid (T3.out.push2 hown2 hg2 hl2); have BG5 := Lib.hid (grown_below (Nat.le_refl _) BB3.out hg2 (own_block T3.out.b)); clear hown2 hg2 hl2)
              rw [← N1.out, ← N2.out] at T5
              go_roundw
              case rel => exact ⟨k + 1, m + 1, A3, c3, m2 + 1, A5, c5, by omega, by go_num, rfl, rfl, by omega, by omega, T5, BG5⟩
              case measure => simp [intOf]; omega
        · obtain rfl : k = n := by omega
          have hT' := hT.out
          rw [List.take_of_length_le (by have := HN.out; omega)] at hT'
          have TE := Lib.hid hT'
          clear hT'
          go_wp2_with fail
          go_meet
          exact ⟨B1, m, d1, B2, m2, d2, rfl, rfl, by omega, by omega, Lib.hid (by rw [LE1.out, LE2.out]; simpa using TE.out), hbel⟩
  case rest =>
    obtain ⟨A1, n1, c1, A2, n2, c2, rfl, rfl, hn1, hn2, TW, BQ⟩ := hcut
    generalize hL1 : (if (way == 1 || way == 3) = true then (es.filter (outP id ls)).map (fun t => t.id) else []) = L1 at TW
    generalize hL2 : (if (way == 1 || way == 3) = true then (es.filter (outP id ls)).map (fun t => t.i) else []) = L2 at TW
    have HL1 := Lib.hid hL1
    have HL2 := Lib.hid hL2
    clear hL1 hL2
    go_upto_block 2 with fail
    go_cut [10, 11] (fun s10 s11 wx => ArCut W (n + n) (L1 ++ if (way == 2 || way == 3) = true then (es.filter (inP id ls)).map (fun t => t.id) else []) (L2 ++ if (way == 2 || way == 3) = true then (es.filter (inP id ls)).map (fun t => t.o) else []) s10 s11 wx)
    case first =>
      cases hb1 : (way == 2) <;> cases hb3 : (way == 3)
      · have LE1 : Hid ((if (way == 2 || way == 3) = true then ((es.filter (inP id ls)).map (fun t => t.id)) else []) = []) := Lib.hid (by rw [hb1, hb3]; rfl)
        have LE2 : Hid ((if (way == 2 || way == 3) = true then ((es.filter (inP id ls)).map (fun t => t.o)) else []) = []) := Lib.hid (by rw [hb1, hb3]; rfl)
        go_wp2_with fail
        go_loopw [10, 11, 13] (fun a b i wr => a = .slice A1 n1 c1 ∧ b = .slice A2 n2 c2 ∧ i = .int .i64 0 ∧ Hid (TwoI wr W.heap.size A1 n1 c1 L1 A2 n2 c2 L2) ∧ Hid (Below W.heap.size W wr)) (fun _ _ _ _ => 0)
        case atStart => exact ⟨rfl, rfl, rfl, TW, BQ⟩
        case round =>
          obtain ⟨rfl, rfl, rfl, hT, hbel⟩ := hrel
          have KW := Lib.hid (KB.out wr hbel.out)
          obtain ⟨z0, z1, -⟩ := KW.out
          by_cases h0 : 0 < n
          · go_wp2_with fail
            go_meet
            exact ⟨A1, n1, c1, A2, n2, c2, rfl, rfl, by omega, by omega, Lib.hid (by rw [LE1.out, LE2.out]; simpa using hT.out), hbel⟩
          · obtain rfl : n = 0 := by omega
            go_wp2_with fail
            go_meet
            exact ⟨A1, n1, c1, A2, n2, c2, rfl, rfl, by omega, by omega, Lib.hid (by rw [LE1.out, LE2.out]; simpa using hT.out), hbel⟩
      all_goals
        have LE1 : Hid ((if (way == 2 || way == 3) = true then ((es.filter (inP id ls)).map (fun t => t.id)) else []) = ((es.filter (inP id ls)).map (fun t => t.id))) := Lib.hid (by rw [hb1, hb3]; rfl)
        have LE2 : Hid ((if (way == 2 || way == 3) = true then ((es.filter (inP id ls)).map (fun t => t.o)) else []) = ((es.filter (inP id ls)).map (fun t => t.o))) := Lib.hid (by rw [hb1, hb3]; rfl)
        go_wp2_with fail
        go_loopw [10, 11, 13] (fun a b i wr => ∃ (k m : Nat) (B1 : Option Addr) (d1 : Nat) (m2 : Nat) (B2 : Option Addr) (d2 : Nat), k ≤ n ∧ i = .int .i64 k ∧ a = .slice B1 m d1 ∧ b = .slice B2 m2 d2 ∧ m ≤ n + k ∧ m2 ≤ n + k ∧ Hid (TwoI wr W.heap.size B1 m d1 (L1 ++ ((es.take k).filter (inP id ls)).map (fun t => t.id)) B2 m2 d2 (L2 ++ ((es.take k).filter (inP id ls)).map (fun t => t.o))) ∧ Hid (Below W.heap.size W wr)) (fun _ _ i _ => n - (intOf i).toNat)
        case atStart => exact ⟨0, n1, A1, c1, n2, A2, c2, by omega, rfl, rfl, rfl, by omega, by omega, Lib.hid (by simpa using TW.out), BQ⟩
        case round =>
          obtain ⟨k, m, B1, d1, m2, B2, d2, hk, rfl, rfl, rfl, hm1, hm2, hT, hbel⟩ := hrel
          have KW := Lib.hid (KB.out wr hbel.out)
          obtain ⟨z0, z1, -⟩ := KW.out
          by_cases hlt : k < n
          · obtain ⟨b, off, t, rfl, hb, ht, q5, -⟩ := (H.out wr hbel.out).elem (k := k) (by have := HN.out; omega)
            obtain ⟨q0, q1, q2, q3, q4⟩ := q5
            have HT := Lib.hid ht
            have klt : (k : Int) < (n : Int) := by omega
            have CF := Lib.hid (fun (Y : World) (hY : Below W.heap.size W Y) => fits34_any Y t.label B cb ls (HL.out Y hY))
            clear ht
            cases ho : (t.i == id)
            · have PF : Hid (inP id ls t = false) := Lib.hid (by unfold inP; rw [ho]; rfl)
              have TS : Hid (TwoI wr W.heap.size B1 m d1 (L1 ++ ((es.take (k + 1)).filter (inP id ls)).map (fun t => t.id)) B2 m2 d2 (L2 ++ ((es.take (k + 1)).filter (inP id ls)).map (fun t => t.o))) := Lib.hid (by rw [pre_same _ HT.out PF.out, pre_same _ HT.out PF.out]; exact hT.out)
              go_wp2
              go_roundw
              case rel => exact ⟨k + 1, m, B1, d1, m2, B2, d2, by omega, by go_num, rfl, rfl, by omega, by omega, TS, hbel⟩
              case measure => simp [intOf]; omega
            · go_wp2_with fail
              refine (CF.out wr hbel.out).mono ?_
              rintro e wx ⟨rfl, rfl⟩
              cases hf : fitA ls t.label
              · have PF : Hid (inP id ls t = false) := Lib.hid (by unfold inP; rw [ho, hf]; rfl)
                have TS : Hid (TwoI wx W.heap.size B1 m d1 (L1 ++ ((es.take (k + 1)).filter (inP id ls)).map (fun t => t.id)) B2 m2 d2 (L2 ++ ((es.take (k + 1)).filter (inP id ls)).map (fun t => t.o))) := Lib.hid (by rw [pre_same _ HT.out PF.out, pre_same _ HT.out PF.out]; exact hT.out)
                go_wp2
                go_roundw
                case rel => exact ⟨k + 1, m, B1, d1, m2, B2, d2, by omega, by go_num, rfl, rfl, by omega, by omega, TS, hbel⟩
                case measure => simp [intOf]; omega
              · have PF : Hid (inP id ls t = true) := Lib.hid (by unfold inP; rw [ho, hf]; rfl)
                have N1 := Lib.hid (pre_next (f := fun t : TA => t.id) (L1) HT.out PF.out)
                have N2 := Lib.hid (pre_next (f := fun t : TA => t.o) (L2) HT.out PF.out)
                clear hf ho
                obtain ⟨ww, hww⟩ : ∃ ww, ww = wx := ⟨_, rfl⟩
                rw [← hww] at hT hbel q0 q1 q2 q3 q4 z0 z1 hb KW ⊢
                clear hww
                have T1 := Lib.hid (hT.out.next (below_new ww (.cells #[.int .i64 t.id] 3)))
                have I1 := Lib.hid (one_box ww (.int .i64 t.id) 3)
                have BB1 := Lib.hid (bnext hbel.out (below_new ww (.cells #[.int .i64 t.id] 3)))
                have hm1b : m + 1 ≤ 17592186044416 := by omega
                have hm2b : m2 + 1 ≤ 17592186044416 := by omega
                go_upto_region 14 with (at_builtin; refine append_oneL rfl _ _ rfl W.heap.size T1.out.a rfl _ _ rfl I1.out hm1b BB1.out.size ?_; intro A3 c3 w3 hown2 hg2 hl2; have T2 := Lib.hid (T1.out.push1 hown2 hg2 hl2); have BG := Lib.hid (grown_below (Nat.le_refl _) BB1.out hg2 (own_block T1.out.a)); clear hown2 hg2 hl2)
                have KW3 := Lib.hid (KB.out w3 BG.out)
                have EL := Lib.hid ((H.out w3 BG.out).cells HT.out)
                clear q0 q1 q2 q3 q4 z0 z1
                obtain ⟨z0, z1, -⟩ := KW3.out
                obtain ⟨hb3, q0, q1, q2, q3, q4⟩ := EL.out
                have T3 := Lib.hid (T2.out.next (below_new w3 (.cells #[.int .i64 t.o] 3)))
                have I3 := Lib.hid (one_box w3 (.int .i64 t.o) 3)
                have BB3 := Lib.hid (bnext BG.out (below_new w3 (.cells #[.int .i64 t.o] 3)))
                go_wp2_with (at_builtin; refine append_oneL rfl _ _ rfl W.heap.size T3.out.b rfl _ _ rfl I3.out hm2b BB3.out.size ?_; intro A5 c5 w5 hown2 hg2 hl2; have T5 := Lib.hid (T3.out.push2 hown2 hg2 hl2); have BG5 := Lib.hid (grown_below (Nat.le_refl _) BB3.out hg2 (own_block T3.out.b)); clear hown2 hg2 hl2)
                rw [← N1.out, ← N2.out] at T5
                go_roundw
                case rel => exact ⟨k + 1, m + 1, A3, c3, m2 + 1, A5, c5, by omega, by go_num, rfl, rfl, by omega, by omega, T5, BG5⟩
                case measure => simp [intOf]; omega
          · obtain rfl : k = n := by omega
            have hT' := hT.out
            rw [List.take_of_length_le (by have := HN.out; omega)] at hT'
            have TE := Lib.hid hT'
            clear hT'
            go_wp2_with fail
            go_meet
            exact ⟨B1, m, d1, B2, m2, d2, rfl, rfl, by omega, by omega, Lib.hid (by rw [LE1.out, LE2.out]; simpa using TE.out), hbel⟩
    case rest =>
      obtain ⟨A3, n3, c3, A4, n4, c4, rfl, rfl, hn3, hn4, TE, BE⟩ := hcut
      have E1 : Hid (refE es id way ls = L1 ++ if (way == 2 || way == 3) = true then (es.filter (inP id ls)).map (fun t => t.id) else []) := Lib.hid (by unfold refE; rw [HL1.out])
      have E2 : Hid (refV es id way ls = L2 ++ if (way == 2 || way == 3) = true then (es.filter (inP id ls)).map (fun t => t.o) else []) := Lib.hid (by unfold refV; rw [HL2.out])
      have TF := Lib.hid (TE.out.low BW.out.size)
      rw [← E1.out, ← E2.out] at TF
      have l1 := Lib.hid TF.out.a.len
      have l2 := Lib.hid TF.out.b.len
      clear TE E1 E2
      go_wp2
      go_ret2
      exact ⟨A3, c3, A4, c4, by rw [l1.out, l2.out]; rfl, by rw [l1.out, l2.out]; exact TF.out, bnext BW.out BE.out⟩
end Go.Proofs.Ytebkkjfeikpfgaa
