/- Carried over from an earlier seat. -/
import Derived.Test.YtebkkjfeikpfgaaBNR
import Derived.Test.YtebkkjfeikpfgaaBVRs
import Derived.BigQuiet
namespace Go.Proofs.Ytebkkjfeikpfgaa
set_option maxRecDepth 100000
open Go.RowKit Go.Sort
set_option maxRecDepth 100000

theorem refSame_grown {w : World} {d d' : Nat} {x y : At} (hx : x.In w d) (hy : y.In w d') (n : Nat) (os : Array Obj) : Calls Try.prog 43 #[x.v, y.v] (grow (redrawn w n) os) fun e w'' => e = .returned (.bool (cmpV 12 x.t y.t == 0)) ∧ ∃ p : Regrown, w'' = grow (redrawn w p.d) p.os :=
  refSame_regrown hx hy n os
def samP (p q : ByteArray × V) : Bool := p.1.toList == q.1.toList && cmpV 12 p.2 q.2 == 0
def samL : List (ByteArray × V) → List (ByteArray × V) → Bool
  | [], [] => true
  | p :: r, q :: s => samP p q && samL r s
  | _, _ => false
/-- The same things? -/
def samT (a b : TV) : Bool := a.id == b.id && a.label.toList == b.label.toList && a.o == b.o && a.i == b.i && samL a.l b.l
theorem samL_len : ∀ a b : List (ByteArray × V), a.length ≠ b.length → samL a b = false
  | [], [], h => absurd rfl h
  | [], _ :: _, _ => rfl
  | _ :: _, [], _ => rfl
  | p :: r, q :: s, h => by
    have := samL_len r s (by simpa using h)
    simp [samL, this]
theorem samL_at : ∀ (a b : List (ByteArray × V)) (k : Nat) (p q : ByteArray × V), a[k]? = some p → b[k]? = some q → samL (a.drop k) (b.drop k) = (samP p q && samL (a.drop (k + 1)) (b.drop (k + 1))) := fun a b k p q h1 h2 => by
  obtain ⟨g1, e1⟩ := List.getElem?_eq_some_iff.1 h1
  obtain ⟨g2, e2⟩ := List.getElem?_eq_some_iff.1 h2
  rw [List.drop_eq_getElem_cons g1, List.drop_eq_getElem_cons g2, e1, e2]; rfl
set_option maxHeartbeats 8000000 in
theorem sameThing_any (w : World) (d : Nat) (a b : TA) (ha : PRow w 0 d a.A a.c a.l) (hb : PRow w 0 d b.A b.c b.l) : Calls Try.prog 26 #[a.v, b.v] w fun e w' => e = .returned (.bool (samT a.tv' b.tv')) ∧ Below w.heap.size w w' := by
  have HA := Lib.hid ha
  have HB := Lib.hid hb
  have hba := ha.big
  have hbb := hb.big
  have HT : Hid (samT a.tv' b.tv' = (a.id == b.id && a.label.toList == b.label.toList && a.o == b.o && a.i == b.i && samL (a.l.map PA.kv) (b.l.map PA.kv))) := Lib.hid rfl
  clear ha hb
  go_enter Try.func26, Try.ntmps26
  go_upto_region 1 with fail
  generalize hW : World.alloc (World.alloc _ _) _ = W
  obtain ⟨k1, k2, hbW, hsW⟩ := boxesT2 _ _ _ _ _ _ _ _ _ _ _ _ hW
  have K1 := Lib.hid k1
  have K2 := Lib.hid k2
  have HBW := Lib.hid hbW
  obtain ⟨c0, c1, c2, c3, c4, _⟩ := k1
  obtain ⟨e0, e1, e2, e3, e4, _⟩ := k2
  clear hW hbW hsW
  by_cases g1 : a.id = b.id
  · have b1 : (a.id != b.id) = false := by simp [g1]
    have g1' : (a.id == b.id) = true := by simp [g1]
    by_cases g2 : a.label.toList = b.label.toList
    · have b2 : (a.label.toList == b.label.toList) = true := by simp [g2]
      have g2' : (a.label.toList == b.label.toList) = true := by simp [g2]
      by_cases g3 : a.o = b.o
      · have b3 : (a.o != b.o) = false := by simp [g3]
        have g3' : (a.o == b.o) = true := by simp [g3]
        by_cases g4 : a.i = b.i
        · have b4 : (a.i != b.i) = false := by simp [g4]
          have g4' : (a.i == b.i) = true := by simp [g4]
          by_cases g5 : a.l.length = b.l.length
          · have b5 : ((a.l.length : Int) != (b.l.length : Int)) = false := by simp [g5]
            have HL : Hid (samT a.tv' b.tv' = samL (a.l.map PA.kv) (b.l.map PA.kv)) := Lib.hid (by rw [HT.out, g1', g2', g3', g4']; rfl)
            have G5 := Lib.hid g5
            clear g1 g1' g2 g2' g3 g3' g4 g4' g5 HT
            go_wp2_with fail
            clear b1 b2 b3 b4 b5 c0 c1 c2 c3 c4 e0 e1 e2 e3 e4
            go_loopw [5] (fun i wr => ∃ k : Nat, k ≤ a.l.length ∧ i = .int .i64 k ∧ Hid (Below W.heap.size W wr) ∧ Hid (samL ((a.l.map PA.kv).drop k) ((b.l.map PA.kv).drop k) = samL (a.l.map PA.kv) (b.l.map PA.kv))) (fun i _ => a.l.length - (intOf i).toNat)
            case atStart => exact ⟨0, by omega, rfl, Lib.hid (Below.refl _ _), Lib.hid (by simp)⟩
            case round =>
              obtain ⟨k, hk, rfl, hbel, hr⟩ := hrel
              obtain ⟨c0, c1, c2, c3, c4, _⟩ := K1.out.next hbel.out
              obtain ⟨e0, e1, e2, e3, e4, _⟩ := K2.out.next hbel.out
              by_cases hlt : k < a.l.length
              · have hlb : k < b.l.length := by have := G5.out; omega
                obtain ⟨ba, oa, p, eA, hb1, hp, ⟨q0, q1, q2, q3, q4, q5⟩, rx⟩ := (HA.out.next (bnext HBW.out hbel.out)).elem hlt
                obtain ⟨bb, ob, q, eB, hb2, hq, ⟨s0, s1, s2, s3, s4, s5⟩, ry⟩ := (HB.out.next (bnext HBW.out hbel.out)).elem hlb
                rw [eA] at c4
                rw [eB] at e4
                have HS := Lib.hid (samL_at (a.l.map PA.kv) (b.l.map PA.kv) k p.kv q.kv (by rw [List.getElem?_map, hp]; rfl) (by rw [List.getElem?_map, hq]; rfl))
                have k0 : (0 : Int) ≤ (k : Int) := by omega
                have ka : (k : Int) < (a.l.length : Int) := by omega
                have kb : (k : Int) < (b.l.length : Int) := by omega
                clear eA eB hp hq
                by_cases hkey : p.key.toList = q.key.toList
                · have bk : (p.key.toList == q.key.toList) = true := by simp [hkey]
                  have HK := Lib.hid hkey
                  clear hkey
                  go_upto_region 6 with fail
                  have cQ := Lib.hid (refSame_grown rx ry)
                  generalize hrb : (cmpV 12 p.x.t q.x.t == 0) = rb at cQ
                  have HR := Lib.hid hrb
                  clear hrb rx ry
                  replace q0 := cell_regrown q0
                  replace q1 := cell_regrown q1
                  replace q2 := cell_regrown q2
                  replace q3 := cell_regrown q3
                  replace q4 := cell_regrown q4
                  replace q5 := cell_regrown q5
                  replace s0 := cell_regrown s0
                  replace s1 := cell_regrown s1
                  replace s2 := cell_regrown s2
                  replace s3 := cell_regrown s3
                  replace s4 := cell_regrown s4
                  replace s5 := cell_regrown s5
                  replace c0 := cell_regrown c0
                  replace c1 := cell_regrown c1
                  replace c2 := cell_regrown c2
                  replace c3 := cell_regrown c3
                  replace c4 := cell_regrown c4
                  replace e0 := cell_regrown e0
                  replace e1 := cell_regrown e1
                  replace e2 := cell_regrown e2
                  replace e3 := cell_regrown e3
                  replace e4 := cell_regrown e4
                  refine wp_region_quiet_below (by kernel_rfl) (by kernel_rfl) ?_
                  repeat (first | go_big_quiet_step (exact cQ.out _ _) | quiet_step (exact cQ.out _ _))
                  refine wpQuiet_nil ?_
                  intro _ hw'
                  obtain ⟨⟨dq, osq⟩, hw''⟩ := hw'
                  subst hw''
                  have HNX := Lib.hid (below_regrown wr dq osq)
                  generalize grow (redrawn wr dq) osq = wq at HNX
                  have BN := Lib.hid (bnext hbel.out HNX.out)
                  clear q0 q1 q2 q3 q4 q5 s0 s1 s2 s3 s4 s5 c0 c1 c2 c3 c4 e0 e1 e2 e3 e4 cQ
                  cases rb
                  · have HV : Hid (samT a.tv' b.tv' = false) := Lib.hid (by rw [HL.out, ← hr.out, HS.out]; simp only [samP, PA.kv, HR.out]; simp)
                    go_wp2
                    go_ret
                    exact ⟨by rw [HV.out]; rfl, bnext HBW.out BN.out⟩
                  · have HN := Lib.hid (show samL ((a.l.map PA.kv).drop (k + 1)) ((b.l.map PA.kv).drop (k + 1)) = samL (a.l.map PA.kv) (b.l.map PA.kv) by rw [← hr.out, HS.out]; simp only [samP, PA.kv, HR.out]; simp [HK.out])
                    go_wp2
                    go_roundw
                    case rel => exact ⟨k + 1, by omega, by go_num, BN, HN⟩
                    case measure => simp [intOf]; omega
                · have bk : (p.key.toList == q.key.toList) = false := by simp [hkey]
                  have HV : Hid (samT a.tv' b.tv' = false) := Lib.hid (by rw [HL.out, ← hr.out, HS.out]; simp [samP, PA.kv, hkey])
                  clear hkey rx ry
                  go_upto_region 6 with fail
                  replace q0 := cell_regrown q0
                  replace q1 := cell_regrown q1
                  replace q2 := cell_regrown q2
                  replace q3 := cell_regrown q3
                  replace q4 := cell_regrown q4
                  replace q5 := cell_regrown q5
                  replace s0 := cell_regrown s0
                  replace s1 := cell_regrown s1
                  replace s2 := cell_regrown s2
                  replace s3 := cell_regrown s3
                  replace s4 := cell_regrown s4
                  replace s5 := cell_regrown s5
                  replace c0 := cell_regrown c0
                  replace c1 := cell_regrown c1
                  replace c2 := cell_regrown c2
                  replace c3 := cell_regrown c3
                  replace c4 := cell_regrown c4
                  replace e0 := cell_regrown e0
                  replace e1 := cell_regrown e1
                  replace e2 := cell_regrown e2
                  replace e3 := cell_regrown e3
                  replace e4 := cell_regrown e4
                  refine wp_region_quiet_below (by kernel_rfl) (by kernel_rfl) ?_
                  repeat (first | go_big_quiet_step (fail) | quiet_step (fail))
                  refine wpQuiet_nil ?_
                  intro _ hw'
                  obtain ⟨⟨dq, osq⟩, hw''⟩ := hw'
                  subst hw''
                  have HNX := Lib.hid (below_regrown wr dq osq)
                  generalize grow (redrawn wr dq) osq = wq at HNX
                  have BN := Lib.hid (bnext hbel.out HNX.out)
                  clear q0 q1 q2 q3 q4 q5 s0 s1 s2 s3 s4 s5 c0 c1 c2 c3 c4 e0 e1 e2 e3 e4
                  go_wp2
                  go_ret
                  exact ⟨by rw [HV.out]; rfl, bnext HBW.out BN.out⟩
              · have hend : Hid (samT a.tv' b.tv' = true) := Lib.hid (by
                  rw [HL.out, ← hr.out, List.drop_eq_nil_of_le (by simp; omega), List.drop_eq_nil_of_le (by have := G5.out; simp; omega)]; rfl)
                go_wp2
                go_ret
                exact ⟨by rw [hend.out]; rfl, bnext HBW.out hbel.out⟩
          · have b5 : ((a.l.length : Int) != (b.l.length : Int)) = true := by simp; omega
            have HV : Hid (samT a.tv' b.tv' = false) := Lib.hid (by rw [HT.out, samL_len _ _ (by simpa using g5)]; simp)
            clear g1 g1' g2 g2' g3 g3' g4 g4' g5 HT
            go_wp2
            go_ret
            exact ⟨by rw [HV.out]; rfl, HBW.out⟩
        · have b4 : (a.i != b.i) = true := by simp [g4]
          have HV : Hid (samT a.tv' b.tv' = false) := Lib.hid (by rw [HT.out]; simp [g4])
          clear g1 g1' g2 g2' g3 g3' g4 HT
          go_wp2
          go_ret
          exact ⟨by rw [HV.out]; rfl, HBW.out⟩
      · have b3 : (a.o != b.o) = true := by simp [g3]
        have HV : Hid (samT a.tv' b.tv' = false) := Lib.hid (by rw [HT.out]; simp [g3])
        clear g1 g1' g2 g2' g3 HT
        go_wp2
        go_ret
        exact ⟨by rw [HV.out]; rfl, HBW.out⟩
    · have b2 : (a.label.toList == b.label.toList) = false := by simp [g2]
      have HV : Hid (samT a.tv' b.tv' = false) := Lib.hid (by rw [HT.out]; simp [g2])
      clear g1 g1' g2 HT
      go_wp2
      go_ret
      exact ⟨by rw [HV.out]; rfl, HBW.out⟩
  · have b1 : (a.id != b.id) = true := by simp [g1]
    have HV : Hid (samT a.tv' b.tv' = false) := Lib.hid (by rw [HT.out]; simp [g1])
    clear g1 HT
    go_wp2
    go_ret
    exact ⟨by rw [HV.out]; rfl, HBW.out⟩
end Go.Proofs.Ytebkkjfeikpfgaa
namespace Go.Proofs.Ytebkkjfeikpfgaa
set_option maxRecDepth 100000
open Go.RowKit Go.Sort
set_option maxRecDepth 100000

theorem GA.In.next {g : GA} {a b : World} {d : Nat} (h : g.In a d) (hb : Below a.heap.size a b) : g.In b d := ⟨h.v.next hb, h.e.next hb, h.fv, h.fe⟩
theorem boxes24 (w : World) (v0 v1 u0 u1 : Value) (W : World) (hW : (w.alloc (.cells #[v0, v1] 24)).alloc (.cells #[u0, u1] 24) = W) :
    W.cell? ⟨w.heap.size, 0, none⟩ = some v0 ∧ W.cell? ⟨w.heap.size, 1, none⟩ = some v1 ∧ W.cell? ⟨w.heap.size + 1, 0, none⟩ = some u0 ∧ W.cell? ⟨w.heap.size + 1, 1, none⟩ = some u1 ∧ Below w.heap.size w W ∧ W.heap.size = w.heap.size + 2 := by
  subst hW
  obtain ⟨a0, a1, hb1, hs1⟩ := box24 w v0 v1 _ rfl
  obtain ⟨b0, b1, hb2, hs2⟩ := box24 (w.alloc (.cells #[v0, v1] 24)) u0 u1 _ rfl
  rw [size_alloc] at b0 b1
  exact ⟨cell_below (below_new _ _) a0 (by simp), cell_below (below_new _ _) a1 (by simp), b0, b1, below_new2 _ _ _, by simp⟩
end Go.Proofs.Ytebkkjfeikpfgaa

