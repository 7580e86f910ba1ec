/- Contracts of the document's SameThings and Same. -/
import Derived.Test.YtciipggccjiaiaaNT
namespace Go.Proofs.Ytciipggccjiaiaa
open Go.RowKit Go.Sort
set_option maxRecDepth 100000

def samTs : List TV → List TV → Bool
  | [], [] => true
  | p :: r, q :: s => samT p q && samTs r s
  | _, _ => false
theorem samTs_len : ∀ a b : List TV, a.length ≠ b.length → samTs a b = false
  | [], [], h => absurd rfl h
  | [], _ :: _, _ => rfl
  | _ :: _, [], _ => rfl
  | p :: r, q :: s, h => by
    have := samTs_len r s (by simpa using h)
    simp [samTs, this]
theorem samTs_at : ∀ (a b : List TV) (k : Nat) (p q : TV), a[k]? = some p → b[k]? = some q → samTs (a.drop k) (b.drop k) = (samT p q && samTs (a.drop (k + 1)) (b.drop (k + 1))) := fun a b k p q h1 h2 => by
  obtain ⟨g1, e1⟩ := List.getElem?_eq_some_iff.1 h1
  obtain ⟨g2, e2⟩ := List.getElem?_eq_some_iff.1 h2
  rw [List.drop_eq_getElem_cons g1, List.drop_eq_getElem_cons g2, e1, e2]; rfl
set_option maxHeartbeats 8000000 in
theorem sameThings_any (w : World) (d : Nat) (A : Option Addr) (c : Nat) (xs : List TA) (B : Option Addr) (c' : Nat) (ys : List TA) (ha : TRow w d A c xs) (hb : TRow w d B c' ys) : Calls Try.prog 36 #[.slice A xs.length c, .slice B ys.length c'] w fun e w' => e = .returned (.bool (samTs (xs.map TA.tv') (ys.map TA.tv'))) ∧ Below w.heap.size w w' := by
  have HA := Lib.hid ha
  have HB := Lib.hid hb
  have hba := ha.big
  have hbb := hb.big
  clear ha hb
  by_cases g5 : xs.length = ys.length
  · have b5 : ((xs.length : Int) != (ys.length : Int)) = false := by simp [g5]
    have G5 := Lib.hid g5
    clear g5
    go_enter Try.func36, Try.ntmps36
    go_wp2_with fail
    clear b5
    go_loopw [5] (fun i wr => ∃ k : Nat, k ≤ xs.length ∧ i = .int .i64 k ∧ Hid (Below w.heap.size w wr) ∧ Hid (samTs ((xs.map TA.tv').drop k) ((ys.map TA.tv').drop k) = samTs (xs.map TA.tv') (ys.map TA.tv'))) (fun i _ => xs.length - (intOf i).toNat)
    case atStart => exact ⟨0, by omega, rfl, Lib.hid (Below.refl _ _), Lib.hid (by simp)⟩
    case round =>
      obtain ⟨k, hk, rfl, hbel, hr⟩ := hrel
      by_cases hlt : k < xs.length
      · have hlb : k < ys.length := by have := G5.out; omega
        obtain ⟨ba, oa, p, rfl, hb1, hp, ⟨q0, q1, q2, q3, q4⟩, rx⟩ := (HA.out.next hbel.out).elem hlt
        obtain ⟨bb, ob, q, rfl, hb2, hq, ⟨s0, s1, s2, s3, s4⟩, ry⟩ := (HB.out.next hbel.out).elem hlb
        have HS := Lib.hid (samTs_at (xs.map TA.tv') (ys.map TA.tv') k p.tv' q.tv' (by rw [List.getElem?_map, hp]; rfl) (by rw [List.getElem?_map, hq]; rfl))
        have CN := Lib.hid (fun (Y : World) (hY : Below wr.heap.size wr Y) => sameThing_any Y d p q (rx.next hY) (ry.next hY))
        have k0 : (0 : Int) ≤ (k : Int) := by omega
        have ka : (k : Int) < (xs.length : Int) := by omega
        have kb : (k : Int) < (ys.length : Int) := by omega
        clear hp hq rx ry
        generalize samT p.tv' q.tv' = sb at HS CN
        go_upto_region 6 with fail
        go_cut [26] (fun v wx => v = .bool (!sb) ∧ Hid (Below wr.heap.size wr wx))
        case first =>
          go_region_with (go_at_call 22; (with_reducible refine (CN.out _ ?_).mono ?_); (focus exact (Below.refl _ _).drew); rintro e w2 ⟨rfl, hb0⟩; have hb2' : Below wr.heap.size wr w2 := (Below.refl _ _).drew.trans hb0; have B2 := Lib.hid hb2'; clear hb0 hb2')
          all_goals
            go_wp2_with fail
            go_meet
            exact ⟨rfl, B2⟩
        case rest =>
          obtain ⟨rfl, B2⟩ := hcut
          have BN := Lib.hid (bnext hbel.out B2.out)
          clear q0 q1 q2 q3 q4 s0 s1 s2 s3 s4 CN B2
          cases sb
          · have HV : Hid (samTs (xs.map TA.tv') (ys.map TA.tv') = false) := Lib.hid (by rw [← hr.out, HS.out]; rfl)
            go_wp2
            go_ret
            exact ⟨by rw [HV.out]; rfl, BN.out⟩
          · have HN := Lib.hid (show samTs ((xs.map TA.tv').drop (k + 1)) ((ys.map TA.tv').drop (k + 1)) = samTs (xs.map TA.tv') (ys.map TA.tv') by rw [← hr.out, HS.out]; rfl)
            go_wp2
            go_roundw
            case rel => exact ⟨k + 1, by omega, by go_num, BN, HN⟩
            case measure => simp [intOf]; omega
      · have HV : Hid (samTs (xs.map TA.tv') (ys.map TA.tv') = true) := Lib.hid (by
          rw [← hr.out, List.drop_eq_nil_of_le (by simp; omega), List.drop_eq_nil_of_le (by have := G5.out; simp; omega)]; rfl)
        go_wp2
        go_ret
        exact ⟨by rw [HV.out]; rfl, hbel.out⟩
  · have b5 : ((xs.length : Int) != (ys.length : Int)) = true := by simp; omega
    have HV : Hid (samTs (xs.map TA.tv') (ys.map TA.tv') = false) := Lib.hid (samTs_len _ _ (by simpa using g5))
    clear g5
    go_enter Try.func36, Try.ntmps36
    go_wp2
    go_ret
    exact ⟨by rw [HV.out]; rfl, Below.refl _ _⟩
/-- Graphs as they are. -/
def samG (a b : GA) : Bool := samTs (a.vs.map TA.tv') (b.vs.map TA.tv') && samTs (a.es.map TA.tv') (b.es.map TA.tv')
theorem GA.In.next {g : GA} {a b : World} {d : Nat} (h : g.In a d) (hb : Below a.heap.size a b) : g.In b d := ⟨h.v.next hb, h.e.next hb, h.fv, h.fe⟩
theorem boxes24 (w : World) (v0 v1 u0 u1 : Value) (W : World) (hW : (w.alloc (.cells #[v0, v1] 24)).alloc (.cells #[u0, u1] 24) = W) :
    W.cell? ⟨w.heap.size, 0, none⟩ = some v0 ∧ W.cell? ⟨w.heap.size, 1, none⟩ = some v1 ∧ W.cell? ⟨w.heap.size + 1, 0, none⟩ = some u0 ∧ W.cell? ⟨w.heap.size + 1, 1, none⟩ = some u1 ∧ Below w.heap.size w W ∧ W.heap.size = w.heap.size + 2 := by
  subst hW
  obtain ⟨a0, a1, hb1, hs1⟩ := box24 w v0 v1 _ rfl
  obtain ⟨b0, b1, hb2, hs2⟩ := box24 (w.alloc (.cells #[v0, v1] 24)) u0 u1 _ rfl
  rw [size_alloc] at b0 b1
  exact ⟨cell_below (below_new _ _) a0 (by simp), cell_below (below_new _ _) a1 (by simp), b0, b1, below_new2 _ _ _, by simp⟩
set_option maxHeartbeats 3200000 in
theorem same_any (w : World) (d : Nat) (a b : GA) (ha : a.In w d) (hb : b.In w d) : Calls Try.prog 14 #[a.v, b.v] w fun e w' => e = .returned (.bool (samG a b)) ∧ Below w.heap.size w w' := by
  have HA := Lib.hid ha
  have HB := Lib.hid hb
  have HT : Hid (samG a b = (samTs (a.vs.map TA.tv') (b.vs.map TA.tv') && samTs (a.es.map TA.tv') (b.es.map TA.tv'))) := Lib.hid rfl
  clear ha hb
  go_enter Try.func14, Try.ntmps14
  go_upto_region 1 with fail
  generalize hW : World.alloc (World.alloc _ _) _ = W
  obtain ⟨y0, y1, z0, z1, hbW, hsW⟩ := boxes24 _ _ _ _ _ _ hW
  have HBW := Lib.hid hbW
  have h0 : w.heap.size < W.heap.size := by omega
  have h1 : w.heap.size + 1 < W.heap.size := by omega
  clear hW hbW hsW
  have C1 := Lib.hid (sameThings_any W d a.AV a.cV a.vs b.AV b.cV b.vs (HA.out.v.next HBW.out) (HB.out.v.next HBW.out))
  have C2 := Lib.hid (fun (Y : World) (hY : Below W.heap.size W Y) => sameThings_any Y d a.AE a.cE a.es b.AE b.cE b.es ((HA.out.e.next HBW.out).next hY) ((HB.out.e.next HBW.out).next hY))
  generalize samTs (a.vs.map TA.tv') (b.vs.map TA.tv') = s1 at HT C1
  generalize samTs (a.es.map TA.tv') (b.es.map TA.tv') = s2 at HT C2
  go_wp2_with fail
  refine C1.out.mono ?_
  rintro e w1 ⟨rfl, hb1⟩
  have B1 := Lib.hid hb1
  have x1 := cell_below hb1 y1 h0
  have v1 := cell_below hb1 z1 h1
  clear hb1 y0 y1 z0 z1
  cases s1
  · go_wp2
    go_ret
    exact ⟨by rw [HT.out]; rfl, bnext HBW.out B1.out⟩
  · go_wp2_with fail
    refine (C2.out w1 B1.out).mono ?_
    rintro e w2 ⟨rfl, hb2⟩
    have B2 := Lib.hid (bnext HBW.out (bnext B1.out hb2))
    clear hb2 x1 v1
    go_wp2
    go_ret
    exact ⟨by rw [HT.out]; rfl, B2.out⟩
end Go.Proofs.Ytciipggccjiaiaa
