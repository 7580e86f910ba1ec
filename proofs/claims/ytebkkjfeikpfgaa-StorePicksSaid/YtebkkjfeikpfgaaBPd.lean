/- Carried over from an earlier seat. -/
import Derived.Test.YtebkkjfeikpfgaaBPa
import Derived.Test.YtebkkjfeikpfgaaBXB
namespace Go.Proofs.Ytebkkjfeikpfgaa
set_option maxRecDepth 100000
open Go.RowKit Go.Sort
set_option maxRecDepth 100000

set_option maxHeartbeats 1600000 in
theorem refName_big (s : ByteArray) (w : World) (hs : s.size ≤ 140737488355328) : Calls Try.prog 49 #[.string s] w fun e w' => e = .returned (.bool (nameB s)) ∧ w = w' := by
  go_enter Try.func49, Try.ntmps49
  go_wp2
  go_loopw [3] (fun i wr => ∃ k : Nat, k ≤ s.size ∧ i = .int .i64 k ∧ wr = w ∧ Hid (nmAll s k = true)) (fun i _ => s.size - (intOf i).toNat)
  case atStart => exact ⟨0, by omega, rfl, rfl, Lib.hid rfl⟩
  case round =>
    obtain ⟨k, hk, rfl, rfl, hA⟩ := hrel
    by_cases hT : k < s.size
    · have HY := Lib.hid (fun h => nmAll_next (k := k) hA.out h)
      have HN := Lib.hid (fun h => name_not (k := k) hT h)
      rw [byt_at hT] at HY HN
      generalize hcc : (s[k]'hT).toNat = c at HY HN
      have hlt : c < 256 := by rw [← hcc]; exact (s[k]'hT).toNat_lt
      have k0 : (0 : Int) ≤ (k : Int) := by omega
      have k1 : (k : Int) < (s.size : Int) := by omega
      rcases (by omega : c < 48 ∨ (48 ≤ c ∧ c ≤ 57 ∧ k = 0) ∨ (48 ≤ c ∧ c ≤ 57 ∧ 0 < k) ∨ (58 ≤ c ∧ c ≤ 64) ∨ (65 ≤ c ∧ c ≤ 90) ∨ (91 ≤ c ∧ c ≤ 94) ∨ c = 95 ∨ c = 96 ∨ (97 ≤ c ∧ c ≤ 122) ∨ 122 < c) with h | h | h | h | h | h | h | h | h | h
      · have a97 : ¬ ((97 : Int) ≤ (c : Int)) := by omega
        have a65 : ¬ ((65 : Int) ≤ (c : Int)) := by omega
        have a48 : ((c : Int) < 48) := by omega
        have b122 : ((c : Int) ≤ 122) := by omega
        have b90 : ((c : Int) ≤ 90) := by omega
        have b57 : ¬ ((57 : Int) < (c : Int)) := by omega
        have e95 : ((c : Int) == 95) = false := by simp; omega
        have hv : nmC k c = false := by unfold nmC letB; simp; omega
        have HV := Lib.hid (HN.out hv)
        clear h hv HY HN
        subst hcc
        by_cases hk0 : k = 0
        · have z0 : ((k : Int) == 0) = true := by simp; omega
          clear hk0
          go_wp2
          go_ret
          exact ⟨by rw [HV.out]; rfl, rfl⟩
        · have z0 : ((k : Int) == 0) = false := by simp; omega
          clear hk0
          go_wp2
          go_ret
          exact ⟨by rw [HV.out]; rfl, rfl⟩
      · have a97 : ¬ ((97 : Int) ≤ (c : Int)) := by omega
        have a65 : ¬ ((65 : Int) ≤ (c : Int)) := by omega
        have a48 : ¬ ((c : Int) < 48) := by omega
        have b122 : ((c : Int) ≤ 122) := by omega
        have b90 : ((c : Int) ≤ 90) := by omega
        have b57 : ¬ ((57 : Int) < (c : Int)) := by omega
        have e95 : ((c : Int) == 95) = false := by simp; omega
        have z0 : ((k : Int) == 0) = true := by simp; omega
        have hv : nmC k c = false := by unfold nmC letB; simp; omega
        have HV := Lib.hid (HN.out hv)
        clear h hv HY HN
        subst hcc
        go_wp2
        go_ret
        exact ⟨by rw [HV.out]; rfl, rfl⟩
      · have a97 : ¬ ((97 : Int) ≤ (c : Int)) := by omega
        have a65 : ¬ ((65 : Int) ≤ (c : Int)) := by omega
        have a48 : ¬ ((c : Int) < 48) := by omega
        have b122 : ((c : Int) ≤ 122) := by omega
        have b90 : ((c : Int) ≤ 90) := by omega
        have b57 : ¬ ((57 : Int) < (c : Int)) := by omega
        have e95 : ((c : Int) == 95) = false := by simp; omega
        have z0 : ((k : Int) == 0) = false := by simp; omega
        have hv : nmC k c = true := by unfold nmC letB; simp; omega
        have HV := Lib.hid (HY.out hv)
        clear h hv HY HN
        subst hcc
        go_wp2
        go_roundw
        case rel => exact ⟨k + 1, by omega, by go_num, trivial, HV⟩
        case measure => simp [intOf]; omega
      · have a97 : ¬ ((97 : Int) ≤ (c : Int)) := by omega
        have a65 : ¬ ((65 : Int) ≤ (c : Int)) := by omega
        have a48 : ¬ ((c : Int) < 48) := by omega
        have b122 : ((c : Int) ≤ 122) := by omega
        have b90 : ((c : Int) ≤ 90) := by omega
        have b57 : ((57 : Int) < (c : Int)) := by omega
        have e95 : ((c : Int) == 95) = false := by simp; omega
        have hv : nmC k c = false := by unfold nmC letB; simp; omega
        have HV := Lib.hid (HN.out hv)
        clear h hv HY HN
        subst hcc
        by_cases hk0 : k = 0
        · have z0 : ((k : Int) == 0) = true := by simp; omega
          clear hk0
          go_wp2
          go_ret
          exact ⟨by rw [HV.out]; rfl, rfl⟩
        · have z0 : ((k : Int) == 0) = false := by simp; omega
          clear hk0
          go_wp2
          go_ret
          exact ⟨by rw [HV.out]; rfl, rfl⟩
      · have a97 : ¬ ((97 : Int) ≤ (c : Int)) := by omega
        have a65 : ((65 : Int) ≤ (c : Int)) := by omega
        have a48 : ¬ ((c : Int) < 48) := by omega
        have b122 : ((c : Int) ≤ 122) := by omega
        have b90 : ((c : Int) ≤ 90) := by omega
        have b57 : ((57 : Int) < (c : Int)) := by omega
        have e95 : ((c : Int) == 95) = false := by simp; omega
        have hv : nmC k c = true := by unfold nmC letB; simp; omega
        have HV := Lib.hid (HY.out hv)
        clear h hv HY HN
        subst hcc
        go_wp2
        go_roundw
        case rel => exact ⟨k + 1, by omega, by go_num, trivial, HV⟩
        case measure => simp [intOf]; omega
      · have a97 : ¬ ((97 : Int) ≤ (c : Int)) := by omega
        have a65 : ((65 : Int) ≤ (c : Int)) := by omega
        have a48 : ¬ ((c : Int) < 48) := by omega
        have b122 : ((c : Int) ≤ 122) := by omega
        have b90 : ¬ ((c : Int) ≤ 90) := by omega
        have b57 : ((57 : Int) < (c : Int)) := by omega
        have e95 : ((c : Int) == 95) = false := by simp; omega
        have hv : nmC k c = false := by unfold nmC letB; simp; omega
        have HV := Lib.hid (HN.out hv)
        clear h hv HY HN
        subst hcc
        by_cases hk0 : k = 0
        · have z0 : ((k : Int) == 0) = true := by simp; omega
          clear hk0
          go_wp2
          go_ret
          exact ⟨by rw [HV.out]; rfl, rfl⟩
        · have z0 : ((k : Int) == 0) = false := by simp; omega
          clear hk0
          go_wp2
          go_ret
          exact ⟨by rw [HV.out]; rfl, rfl⟩
      · have a97 : ¬ ((97 : Int) ≤ (c : Int)) := by omega
        have a65 : ((65 : Int) ≤ (c : Int)) := by omega
        have a48 : ¬ ((c : Int) < 48) := by omega
        have b122 : ((c : Int) ≤ 122) := by omega
        have b90 : ¬ ((c : Int) ≤ 90) := by omega
        have b57 : ((57 : Int) < (c : Int)) := by omega
        have e95 : ((c : Int) == 95) = true := by simp; omega
        have hv : nmC k c = true := by unfold nmC letB; simp; omega
        have HV := Lib.hid (HY.out hv)
        clear h hv HY HN
        subst hcc
        go_wp2
        go_roundw
        case rel => exact ⟨k + 1, by omega, by go_num, trivial, HV⟩
        case measure => simp [intOf]; omega
      · have a97 : ¬ ((97 : Int) ≤ (c : Int)) := by omega
        have a65 : ((65 : Int) ≤ (c : Int)) := by omega
        have a48 : ¬ ((c : Int) < 48) := by omega
        have b122 : ((c : Int) ≤ 122) := by omega
        have b90 : ¬ ((c : Int) ≤ 90) := by omega
        have b57 : ((57 : Int) < (c : Int)) := by omega
        have e95 : ((c : Int) == 95) = false := by simp; omega
        have hv : nmC k c = false := by unfold nmC letB; simp; omega
        have HV := Lib.hid (HN.out hv)
        clear h hv HY HN
        subst hcc
        by_cases hk0 : k = 0
        · have z0 : ((k : Int) == 0) = true := by simp; omega
          clear hk0
          go_wp2
          go_ret
          exact ⟨by rw [HV.out]; rfl, rfl⟩
        · have z0 : ((k : Int) == 0) = false := by simp; omega
          clear hk0
          go_wp2
          go_ret
          exact ⟨by rw [HV.out]; rfl, rfl⟩
      · have a97 : ((97 : Int) ≤ (c : Int)) := by omega
        have a65 : ((65 : Int) ≤ (c : Int)) := by omega
        have a48 : ¬ ((c : Int) < 48) := by omega
        have b122 : ((c : Int) ≤ 122) := by omega
        have b90 : ¬ ((c : Int) ≤ 90) := by omega
        have b57 : ((57 : Int) < (c : Int)) := by omega
        have e95 : ((c : Int) == 95) = false := by simp; omega
        have hv : nmC k c = true := by unfold nmC letB; simp; omega
        have HV := Lib.hid (HY.out hv)
        clear h hv HY HN
        subst hcc
        go_wp2
        go_roundw
        case rel => exact ⟨k + 1, by omega, by go_num, trivial, HV⟩
        case measure => simp [intOf]; omega
      · have a97 : ((97 : Int) ≤ (c : Int)) := by omega
        have a65 : ((65 : Int) ≤ (c : Int)) := by omega
        have a48 : ¬ ((c : Int) < 48) := by omega
        have b122 : ¬ ((c : Int) ≤ 122) := by omega
        have b90 : ¬ ((c : Int) ≤ 90) := by omega
        have b57 : ((57 : Int) < (c : Int)) := by omega
        have e95 : ((c : Int) == 95) = false := by simp; omega
        have hv : nmC k c = false := by unfold nmC letB; simp; omega
        have HV := Lib.hid (HN.out hv)
        clear h hv HY HN
        subst hcc
        by_cases hk0 : k = 0
        · have z0 : ((k : Int) == 0) = true := by simp; omega
          clear hk0
          go_wp2
          go_ret
          exact ⟨by rw [HV.out]; rfl, rfl⟩
        · have z0 : ((k : Int) == 0) = false := by simp; omega
          clear hk0
          go_wp2
          go_ret
          exact ⟨by rw [HV.out]; rfl, rfl⟩
    · obtain rfl : k = s.size := by omega
      by_cases h1 : 1 ≤ s.size
      · by_cases h2 : s.size ≤ 40
        · have HV : Hid (nameB s = true) := Lib.hid (by unfold nameB; rw [hA.out]; simp; omega)
          have g1 : (1 : Int) ≤ (s.size : Int) := by omega
          have g2 : (s.size : Int) ≤ 40 := by omega
          clear h1 h2
          go_wp2
          go_ret
          exact ⟨by rw [HV.out]; rfl, rfl⟩
        · have HV : Hid (nameB s = false) := Lib.hid (by unfold nameB; simp; omega)
          have g1 : (1 : Int) ≤ (s.size : Int) := by omega
          have g2 : ¬ (s.size : Int) ≤ 40 := by omega
          clear h1 h2
          go_wp2
          go_ret
          exact ⟨by rw [HV.out]; rfl, rfl⟩
      · have HV : Hid (nameB s = false) := Lib.hid (by unfold nameB; simp; omega)
        have g1 : ¬ (1 : Int) ≤ (s.size : Int) := by omega
        clear h1
        go_wp2
        go_ret
        exact ⟨by rw [HV.out]; rfl, rfl⟩

/-- All of a kind, each ahead of the next one, from one on. -/
def chkG {α : Type} (ok : α → Bool) (lt : α → α → Bool) (l : List α) (k : Nat) : Bool := (l.drop k).all ok && risG lt (l.drop (k - 1))
theorem chkG_zero {α : Type} (ok : α → Bool) (lt : α → α → Bool) (l : List α) {x : α} (hx : l[0]? = some x) : chkG ok lt l 0 = (ok x && chkG ok lt l 1) := by
  obtain ⟨h1, e1⟩ := List.getElem?_eq_some_iff.1 hx
  unfold chkG
  rw [List.drop_eq_getElem_cons h1, e1, List.all_cons, Bool.and_assoc]
theorem chkG_succ {α : Type} (ok : α → Bool) (lt : α → α → Bool) (l : List α) (k : Nat) {s x : α} (hs : l[k]? = some s) (hx : l[k + 1]? = some x) : chkG ok lt l (k + 1) = (ok x && (lt s x && chkG ok lt l (k + 2))) := by
  obtain ⟨h1, e1⟩ := List.getElem?_eq_some_iff.1 hx
  unfold chkG
  show ((l.drop (k + 1)).all ok && risG lt (l.drop k)) = (ok x && (lt s x && ((l.drop (k + 2)).all ok && risG lt (l.drop (k + 1)))))
  rw [risG_next lt l k hs hx]
  have e : l.drop (k + 1) = x :: l.drop (k + 2) := by rw [List.drop_eq_getElem_cons h1, e1]
  generalize hr : risG lt (l.drop (k + 1)) = r
  rw [e, List.all_cons]
  cases ok x <;> cases lt s x <;> simp
theorem chkG_end {α : Type} (ok : α → Bool) (lt : α → α → Bool) (l : List α) (k : Nat) (h : l.length ≤ k) : chkG ok lt l k = true := by
  unfold chkG
  rw [List.drop_eq_nil_of_le h, risG_out lt l (k - 1) (by omega)]; rfl
theorem chkG_bad {α : Type} (ok : α → Bool) (lt : α → α → Bool) (l : List α) (k : Nat) {x : α} (hx : l[k]? = some x) (h : ok x = false) : chkG ok lt l k = false := by
  obtain ⟨h1, e1⟩ := List.getElem?_eq_some_iff.1 hx
  unfold chkG
  rw [List.drop_eq_getElem_cons h1, e1, List.all_cons, h]; rfl
/-- Texts that a machine can hold. -/
def Sm (t : TA) : Prop := t.label.size ≤ 140737488355328 ∧ ∀ p ∈ t.l, p.key.size ≤ 140737488355328
theorem below_of_same {w w' : World} (h : w = w') : Below w.heap.size w w' := by subst h; exact Below.refl _ _
theorem name_rg (s : ByteArray) (hs : s.size ≤ 140737488355328) (w : World) (d : Nat) (os : Array Obj) : Calls Try.prog 49 #[.string s] (grow (redrawn w d) os) fun x w'' => x = .returned (.bool (nameB s)) ∧ ∃ p : Regrown, w'' = grow (redrawn w p.d) p.os :=
  Calls.regrown_of ((refName_big s _ hs).mono fun _ _ h => ⟨h.1, below_of_same h.2⟩)
theorem plain_rg {w : World} {d : Nat} {x : At} (hx : x.In w d) (n : Nat) (os : Array Obj) : Calls Try.prog 50 #[x.v] (grow (redrawn w n) os) fun e w'' => e = .returned (.bool (plainB x.t)) ∧ ∃ p : Regrown, w'' = grow (redrawn w p.d) p.os :=
  Calls.regrown_of (refPlain_any _ d x (hx.next (below_regrown w n os)))
set_option maxHeartbeats 800000 in
theorem refHas_any (w : World) (d : Nat) (A : Option Addr) (c : Nat) (ts : List TA) (h : TRow w d A c ts) (id : Int) : Calls Try.prog 27 #[.slice A ts.length c, .int .i64 id] w fun e w' => e = .returned (.bool (ts.any (idB id))) ∧ Below w.heap.size w w' := by
  have H := Lib.hid h
  have b1 := h.big
  clear h
  go_enter Try.func27, Try.ntmps27
  go_wp2
  go_loopw [5] (fun i wr => ∃ k : Nat, k ≤ ts.length ∧ i = .int .i64 k ∧ wr = w ∧ Hid ((ts.drop k).any (idB id) = ts.any (idB id))) (fun i _ => ts.length - (intOf i).toNat)
  case atStart => exact ⟨0, by omega, rfl, rfl, Lib.hid (by simp)⟩
  case round =>
    obtain ⟨k, hk, rfl, rfl, hr⟩ := hrel
    by_cases hlt : k < ts.length
    · obtain ⟨b, off, t, rfl, hb, ht, ⟨q0, q1, q2, q3, q4⟩, _⟩ := H.out.elem hlt
      have HS : Hid ((ts.drop k).any (idB id) = (idB id t || (ts.drop (k + 1)).any (idB id))) := Lib.hid (by
        obtain ⟨h1, e1⟩ := List.getElem?_eq_some_iff.1 ht
        rw [List.drop_eq_getElem_cons h1, e1, List.any_cons])
      have k0 : (0 : Int) ≤ (k : Int) := by omega
      have k1 : (k : Int) < (ts.length : Int) := by omega
      clear ht
      by_cases e : t.id = id
      · have g1 : (t.id == id) = true := by simp [e]
        have HV := Lib.hid (show idB id t = true from g1)
        clear e
        go_wp2
        go_ret
        exact ⟨by rw [← hr.out, HS.out, HV.out]; rfl, Below.refl _ _⟩
      · have g1 : (t.id == id) = false := by simp [e]
        have HV := Lib.hid (show idB id t = false from g1)
        clear e
        go_wp2
        go_roundw
        case rel => exact ⟨k + 1, by omega, by go_num, trivial, Lib.hid (by rw [← hr.out, HS.out, HV.out]; rfl)⟩
        case measure => simp [intOf]; omega
    · have OUT : Hid ((ts.drop k).any (idB id) = false) := Lib.hid (by rw [List.drop_eq_nil_of_le (by omega)]; rfl)
      go_wp2
      go_ret
      exact ⟨by rw [← hr.out, OUT.out]; rfl, Below.refl _ _⟩
theorem made34' {w W : World} {v0 v1 v2 v3 v4 : Value} (hW : w.alloc (.cells #[v0, v1, v2, v3, v4] 42) = W) : CellT W w.heap.size v0 v1 v2 v3 v4 ∧ Below w.heap.size w W ∧ W.heap.size = w.heap.size + 1 := by
  subst hW
  exact ⟨CellT.new _ _ _ _ _ _, below_new _ _, by simp⟩
set_option maxHeartbeats 8000000 in
theorem refThings_any (w : World) (d : Nat) (A : Option Addr) (c : Nat) (ts : List TA) (h : TRow w d A c ts) (hsm : ∀ t ∈ ts, Sm t) (most : Nat) (_hm : most ≤ 100000) : Calls Try.prog 33 #[.slice A ts.length c, .int .i64 (most : Int)] w fun e w' => e = .returned (.bool (okThs most ts)) ∧ Below w.heap.size w w' := by
  have H := Lib.hid h
  have HSM := Lib.hid hsm
  have b1 := h.big
  have HT : Hid (okThs most ts = (decide (ts.length ≤ most) && chkG okTh idLt ts 0)) := Lib.hid rfl
  clear h hsm
  go_enter Try.func33, Try.ntmps33
  go_wp2
  go_loopw [5] (fun i wr => ∃ (k : Nat) (z : Int), k ≤ ts.length ∧ Hid (z = (k : Int)) ∧ i = .int .i64 z ∧ Hid (Below w.heap.size w wr) ∧ Hid (chkG okTh idLt ts k = chkG okTh idLt ts 0)) (fun i _ => ts.length - (intOf i).toNat)
  case atStart => exact ⟨0, 0, by omega, Lib.hid rfl, rfl, Lib.hid (Below.refl _ _), Lib.hid rfl⟩
  case round =>
    obtain ⟨k, z, hk, hz, rfl, hbel, hr⟩ := hrel
    by_cases hlt : k < ts.length
    · obtain ⟨b, off, t, hA, hb, ht, q, rx⟩ := (H.out.next hbel.out).elem hlt
      subst hA
      have SX := Lib.hid (HSM.out t (List.mem_of_getElem? ht))
      have HBAD := Lib.hid (fun h => chkG_bad okTh idLt ts k ht h)
      rcases k with _ | j
      · obtain rfl : z = 0 := hz.out
        obtain ⟨q0, q1, q2, q3, q4⟩ := q
        simp only [Nat.zero_mul, Nat.add_zero] at q0 q1 q2 q3 q4
        have HSUC := Lib.hid (chkG_zero okTh idLt ts ht)
        have k1 : (0 : Int) < (ts.length : Int) := by omega
        clear hz ht
        go_upto_region 5 with fail
        generalize hA : World.alloc wr _ = W
        obtain ⟨kc, hbW, _⟩ := made34' hA
        have K1 := Lib.hid kc
        have RX := Lib.hid (rx.next hbW)
        have HB := Lib.hid (bnext hbel.out hbW)
        have CN := Lib.hid (name_rg t.label SX.out.1 W)
        obtain ⟨c0, c1, c2, c3, c4, _⟩ := kc
        clear hA hbW rx q0 q1 q2 q3 q4
        by_cases hid0 : t.id < 0
        · have HO : Hid (okTh t = false) := Lib.hid (by unfold okTh; rw [decide_eq_false (by omega)]; rfl)
          replace c0 := cell_regrown c0
          replace c1 := cell_regrown c1
          replace c2 := cell_regrown c2
          replace c3 := cell_regrown c3
          replace c4 := cell_regrown c4
          refine wp_region_quiet_below (by kernel_rfl) (by kernel_rfl) ?_
          repeat (first | go_big_quiet_step (exact CN.out _ _) | quiet_step (exact CN.out _ _))
          refine wpQuiet_nil ?_
          intro _ hw'
          obtain ⟨⟨dq, osq⟩, hw''⟩ := hw'
          subst hw''
          have BQ := Lib.hid (below_regrown W dq osq)
          generalize grow (redrawn W dq) osq = wq at BQ
          clear c0 c1 c2 c3 c4 CN hid0
          have HV : Hid (okThs most ts = false) := Lib.hid (by rw [HT.out, HBAD.out HO.out]; simp)
          go_wp2
          go_ret
          exact ⟨by rw [HV.out]; rfl, bnext HB.out BQ.out⟩
        have HI : Hid (decide (0 ≤ t.id) = true) := Lib.hid (decide_eq_true (by omega))
        cases hn : nameB t.label
        · have HO : Hid (okTh t = false) := Lib.hid (by unfold okTh; rw [hn]; simp)
          rw [hn] at CN
          replace c0 := cell_regrown c0
          replace c1 := cell_regrown c1
          replace c2 := cell_regrown c2
          replace c3 := cell_regrown c3
          replace c4 := cell_regrown c4
          refine wp_region_quiet_below (by kernel_rfl) (by kernel_rfl) ?_
          repeat (first | go_big_quiet_step (exact CN.out _ _) | quiet_step (exact CN.out _ _))
          refine wpQuiet_nil ?_
          intro _ hw'
          obtain ⟨⟨dq, osq⟩, hw''⟩ := hw'
          subst hw''
          have BQ := Lib.hid (below_regrown W dq osq)
          generalize grow (redrawn W dq) osq = wq at BQ
          clear c0 c1 c2 c3 c4 CN hn
          have HV : Hid (okThs most ts = false) := Lib.hid (by rw [HT.out, HBAD.out HO.out]; simp)
          go_wp2
          go_ret
          exact ⟨by rw [HV.out]; rfl, bnext HB.out BQ.out⟩
        have HN := Lib.hid hn
        rw [hn] at CN
        clear hn
        by_cases h30 : (30 : Int) < (t.l.length : Int)
        · have HO : Hid (okTh t = false) := Lib.hid (by unfold okTh okPs; rw [show decide (t.l.length ≤ 30) = false from decide_eq_false (by omega)]; simp)
          replace c0 := cell_regrown c0
          replace c1 := cell_regrown c1
          replace c2 := cell_regrown c2
          replace c3 := cell_regrown c3
          replace c4 := cell_regrown c4
          refine wp_region_quiet_below (by kernel_rfl) (by kernel_rfl) ?_
          repeat (first | go_big_quiet_step (exact CN.out _ _) | quiet_step (exact CN.out _ _))
          refine wpQuiet_nil ?_
          intro _ hw'
          obtain ⟨⟨dq, osq⟩, hw''⟩ := hw'
          subst hw''
          have BQ := Lib.hid (below_regrown W dq osq)
          generalize grow (redrawn W dq) osq = wq at BQ
          clear c0 c1 c2 c3 c4 CN h30
          have HV : Hid (okThs most ts = false) := Lib.hid (by rw [HT.out, HBAD.out HO.out]; simp)
          go_wp2
          go_ret
          exact ⟨by rw [HV.out]; rfl, bnext HB.out BQ.out⟩
        have HO : Hid (okTh t = chkG okPr keyLt t.l 0) := Lib.hid (by unfold okTh okPs chkG; rw [HI.out, HN.out, show decide (t.l.length ≤ 30) = true from decide_eq_true (by omega)]; rfl)
        have HNX : Hid (chkG okTh idLt ts 0 = (okTh t && chkG okTh idLt ts (0 + 1))) := HSUC
        clear HSUC
        replace c0 := cell_regrown c0
        replace c1 := cell_regrown c1
        replace c2 := cell_regrown c2
        replace c3 := cell_regrown c3
        replace c4 := cell_regrown c4
        refine wp_region_quiet_below (by kernel_rfl) (by kernel_rfl) ?_
        repeat (first | go_big_quiet_step (exact CN.out _ _) | quiet_step (exact CN.out _ _))
        refine wpQuiet_nil ?_
        intro _ hw'
        obtain ⟨⟨dq, osq⟩, hw''⟩ := hw'
        subst hw''
        have BQ := Lib.hid (below_regrown W dq osq)
        generalize grow (redrawn W dq) osq = wq at BQ
        clear c0 c1 c2 c3 c4 CN HI HN h30
        have KQ := Lib.hid (K1.out.next BQ.out)
        have B2 := Lib.hid (bnext HB.out BQ.out)
        have BW := BQ
        have hpb := RX.out.big
        clear K1 BQ HB
        go_wp2
        skip
        go_loopw [7] (fun y wi => ∃ (m : Nat) (u : Int), m ≤ t.l.length ∧ Hid (u = (m : Int)) ∧ y = .int .i64 u ∧ Hid (Below wq.heap.size wq wi) ∧ Hid (chkG okPr keyLt t.l m = chkG okPr keyLt t.l 0)) (fun y _ => t.l.length - (intOf y).toNat)
        case atStart => exact ⟨0, 0, by omega, Lib.hid rfl, rfl, Lib.hid (Below.refl _ _), Lib.hid rfl⟩
        case round =>
          obtain ⟨m, u, hm, hu, rfl, hbi, hp⟩ := hrel
          obtain ⟨c0, c1, c2, c3, c4, _⟩ := KQ.out.next hbi.out
          by_cases hlm : m < t.l.length
          · obtain ⟨bp, op, p, eA, hbp, hpp, q, rx⟩ := (RX.out.next (bnext BW.out hbi.out)).elem hlm
            have SP := Lib.hid (SX.out.2 p (List.mem_of_getElem? hpp))
            rw [eA] at c4
            obtain ⟨q0, q1, q2, q3, q4, q5⟩ := q
            have CN := Lib.hid (name_rg p.key SP.out wr)
            have CP := Lib.hid (fun n os => plain_rg rx n os)
            have HPB := Lib.hid (fun h => chkG_bad okPr keyLt t.l m hpp h)
            have HOK : Hid (okPr p = (nameB p.key && plainB p.x.t)) := Lib.hid rfl
            rcases m with _ | n
            · have HSC := Lib.hid (chkG_zero okPr keyLt t.l hpp)
              simp only [Nat.zero_mul, Nat.add_zero] at q0 q1 q2 q3 q4 q5
              obtain rfl : u = 0 := hu.out
              clear rx hpp hu
              have k1 : (0 : Int) < (t.l.length : Int) := by omega
              go_upto_region 10 with fail
              cases hn : nameB p.key
              · have HW : Hid (okPr p = false) := Lib.hid (by rw [HOK.out, hn]; rfl)
                rw [hn] at CN
                clear hn
                replace c0 := cell_regrown c0
                replace c1 := cell_regrown c1
                replace c2 := cell_regrown c2
                replace c3 := cell_regrown c3
                replace c4 := cell_regrown c4
                replace q0 := cell_regrown q0
                replace q1 := cell_regrown q1
                replace q2 := cell_regrown q2
                replace q3 := cell_regrown q3
                replace q4 := cell_regrown q4
                replace q5 := cell_regrown q5
                refine wp_region_quiet_below (by kernel_rfl) (by kernel_rfl) ?_
                repeat (first | go_big_quiet_step (first | exact CN.out _ _ | exact CP.out _ _) | quiet_step (first | exact CN.out _ _ | exact CP.out _ _))
                refine wpQuiet_nil ?_
                intro _ hw'
                obtain ⟨⟨dq, osq⟩, hw''⟩ := hw'
                subst hw''
                have BQ := Lib.hid (below_regrown wr dq osq)
                generalize grow (redrawn wr dq) osq = wq at BQ
                clear c0 c1 c2 c3 c4 q0 q1 q2 q3 q4 q5 CN CP
                have HV : Hid (okThs most ts = false) := Lib.hid (by rw [HT.out, HNX.out, HO.out, HPB.out HW.out]; simp)
                go_wp2
                go_ret
                exact ⟨by rw [HV.out]; rfl, bnext B2.out (bnext hbi.out BQ.out)⟩
              have HN := Lib.hid hn
              rw [hn] at CN
              clear hn
              cases hv : plainB p.x.t
              · have HW : Hid (okPr p = false) := Lib.hid (by rw [HOK.out, hv]; simp)
                rw [hv] at CP
                clear hv
                replace c0 := cell_regrown c0
                replace c1 := cell_regrown c1
                replace c2 := cell_regrown c2
                replace c3 := cell_regrown c3
                replace c4 := cell_regrown c4
                replace q0 := cell_regrown q0
                replace q1 := cell_regrown q1
                replace q2 := cell_regrown q2
                replace q3 := cell_regrown q3
                replace q4 := cell_regrown q4
                replace q5 := cell_regrown q5
                refine wp_region_quiet_below (by kernel_rfl) (by kernel_rfl) ?_
                repeat (first | go_big_quiet_step (first | exact CN.out _ _ | exact CP.out _ _) | quiet_step (first | exact CN.out _ _ | exact CP.out _ _))
                refine wpQuiet_nil ?_
                intro _ hw'
                obtain ⟨⟨dq, osq⟩, hw''⟩ := hw'
                subst hw''
                have BQ := Lib.hid (below_regrown wr dq osq)
                generalize grow (redrawn wr dq) osq = wq at BQ
                clear c0 c1 c2 c3 c4 q0 q1 q2 q3 q4 q5 CN CP
                have HV : Hid (okThs most ts = false) := Lib.hid (by rw [HT.out, HNX.out, HO.out, HPB.out HW.out]; simp)
                go_wp2
                go_ret
                exact ⟨by rw [HV.out]; rfl, bnext B2.out (bnext hbi.out BQ.out)⟩
              have HW : Hid (okPr p = true) := Lib.hid (by rw [HOK.out, HN.out, hv]; rfl)
              rw [hv] at CP
              clear hv
              replace c0 := cell_regrown c0
              replace c1 := cell_regrown c1
              replace c2 := cell_regrown c2
              replace c3 := cell_regrown c3
              replace c4 := cell_regrown c4
              replace q0 := cell_regrown q0
              replace q1 := cell_regrown q1
              replace q2 := cell_regrown q2
              replace q3 := cell_regrown q3
              replace q4 := cell_regrown q4
              replace q5 := cell_regrown q5
              refine wp_region_quiet_below (by kernel_rfl) (by kernel_rfl) ?_
              repeat (first | go_big_quiet_step (first | exact CN.out _ _ | exact CP.out _ _) | quiet_step (first | exact CN.out _ _ | exact CP.out _ _))
              refine wpQuiet_nil ?_
              intro _ hw'
              obtain ⟨⟨dq, osq⟩, hw''⟩ := hw'
              subst hw''
              have BQ := Lib.hid (below_regrown wr dq osq)
              generalize grow (redrawn wr dq) osq = wq at BQ
              clear c0 c1 c2 c3 c4 q0 q1 q2 q3 q4 q5 CN CP
              go_wp2
              go_roundw
              case rel => exact ⟨1, 1, by omega, Lib.hid rfl, rfl, Lib.hid (bnext hbi.out BQ.out), Lib.hid (by rw [HSC.out, HW.out]; rfl)⟩
              case measure => simp [intOf]; omega
            · obtain ⟨bq, oq, pq, eA', hbq, hpq, qq, _⟩ := (RX.out.next (bnext BW.out hbi.out)).elem (k := n) (by omega)
              rw [eA] at eA'
              injection eA' with eA'
              injection eA' with e1 e2
              subst e1; subst e2
              have HSC := Lib.hid (chkG_succ okPr keyLt t.l n hpq hpp)
              obtain ⟨s0, s1, s2, s3, s4, s5⟩ := qq
              obtain rfl : u = (n : Int) + 1 := by have := hu.out; omega
              clear rx hpp hu hpq
              have i0 : (0 : Int) ≤ (n : Int) := by omega
              have i1 : (n : Int) + 1 < (t.l.length : Int) := by omega
              have i2 : (n : Int) < (t.l.length : Int) := by omega
              have i3 : IntKind.i64.wrap (n : Int) = (n : Int) := IntWalk.i64_in _ (by have := RX.out.big; omega)
              have i4 : ((n : Int) + 1).toNat = n + 1 := by omega
              go_upto_region 10 with fail
              cases hn : nameB p.key
              · have HW : Hid (okPr p = false) := Lib.hid (by rw [HOK.out, hn]; rfl)
                rw [hn] at CN
                clear hn
                replace c0 := cell_regrown c0
                replace c1 := cell_regrown c1
                replace c2 := cell_regrown c2
                replace c3 := cell_regrown c3
                replace c4 := cell_regrown c4
                replace q0 := cell_regrown q0
                replace q1 := cell_regrown q1
                replace q2 := cell_regrown q2
                replace q3 := cell_regrown q3
                replace q4 := cell_regrown q4
                replace q5 := cell_regrown q5
                replace s0 := cell_regrown s0
                replace s1 := cell_regrown s1
                replace s2 := cell_regrown s2
                replace s3 := cell_regrown s3
                replace s4 := cell_regrown s4
                replace s5 := cell_regrown s5
                refine wp_region_quiet_below (by kernel_rfl) (by kernel_rfl) ?_
                repeat (first | go_big_quiet_step (first | exact CN.out _ _ | exact CP.out _ _) | quiet_step (first | exact CN.out _ _ | exact CP.out _ _))
                refine wpQuiet_nil ?_
                intro _ hw'
                obtain ⟨⟨dq, osq⟩, hw''⟩ := hw'
                subst hw''
                have BQ := Lib.hid (below_regrown wr dq osq)
                generalize grow (redrawn wr dq) osq = wq at BQ
                clear c0 c1 c2 c3 c4 q0 q1 q2 q3 q4 q5 s0 s1 s2 s3 s4 s5 CN CP
                have HV : Hid (okThs most ts = false) := Lib.hid (by rw [HT.out, HNX.out, HO.out, ← hp.out, HPB.out HW.out]; simp)
                go_wp2
                go_ret
                exact ⟨by rw [HV.out]; rfl, bnext B2.out (bnext hbi.out BQ.out)⟩
              have HN := Lib.hid hn
              rw [hn] at CN
              clear hn
              cases hv : plainB p.x.t
              · have HW : Hid (okPr p = false) := Lib.hid (by rw [HOK.out, hv]; simp)
                rw [hv] at CP
                clear hv
                replace c0 := cell_regrown c0
                replace c1 := cell_regrown c1
                replace c2 := cell_regrown c2
                replace c3 := cell_regrown c3
                replace c4 := cell_regrown c4
                replace q0 := cell_regrown q0
                replace q1 := cell_regrown q1
                replace q2 := cell_regrown q2
                replace q3 := cell_regrown q3
                replace q4 := cell_regrown q4
                replace q5 := cell_regrown q5
                replace s0 := cell_regrown s0
                replace s1 := cell_regrown s1
                replace s2 := cell_regrown s2
                replace s3 := cell_regrown s3
                replace s4 := cell_regrown s4
                replace s5 := cell_regrown s5
                refine wp_region_quiet_below (by kernel_rfl) (by kernel_rfl) ?_
                repeat (first | go_big_quiet_step (first | exact CN.out _ _ | exact CP.out _ _) | quiet_step (first | exact CN.out _ _ | exact CP.out _ _))
                refine wpQuiet_nil ?_
                intro _ hw'
                obtain ⟨⟨dq, osq⟩, hw''⟩ := hw'
                subst hw''
                have BQ := Lib.hid (below_regrown wr dq osq)
                generalize grow (redrawn wr dq) osq = wq at BQ
                clear c0 c1 c2 c3 c4 q0 q1 q2 q3 q4 q5 s0 s1 s2 s3 s4 s5 CN CP
                have HV : Hid (okThs most ts = false) := Lib.hid (by rw [HT.out, HNX.out, HO.out, ← hp.out, HPB.out HW.out]; simp)
                go_wp2
                go_ret
                exact ⟨by rw [HV.out]; rfl, bnext B2.out (bnext hbi.out BQ.out)⟩
              have HW : Hid (okPr p = true) := Lib.hid (by rw [HOK.out, HN.out, hv]; rfl)
              rw [hv] at CP
              clear hv
              cases hlt1 : Op.bytesLess pq.key.toList p.key.toList
              · have HL : Hid (keyLt pq p = false) := Lib.hid hlt1
                replace c0 := cell_regrown c0
                replace c1 := cell_regrown c1
                replace c2 := cell_regrown c2
                replace c3 := cell_regrown c3
                replace c4 := cell_regrown c4
                replace q0 := cell_regrown q0
                replace q1 := cell_regrown q1
                replace q2 := cell_regrown q2
                replace q3 := cell_regrown q3
                replace q4 := cell_regrown q4
                replace q5 := cell_regrown q5
                replace s0 := cell_regrown s0
                replace s1 := cell_regrown s1
                replace s2 := cell_regrown s2
                replace s3 := cell_regrown s3
                replace s4 := cell_regrown s4
                replace s5 := cell_regrown s5
                refine wp_region_quiet_below (by kernel_rfl) (by kernel_rfl) ?_
                repeat (first | go_big_quiet_step (first | exact CN.out _ _ | exact CP.out _ _) | quiet_step (first | exact CN.out _ _ | exact CP.out _ _))
                refine wpQuiet_nil ?_
                intro _ hw'
                obtain ⟨⟨dq, osq⟩, hw''⟩ := hw'
                subst hw''
                have BQ := Lib.hid (below_regrown wr dq osq)
                generalize grow (redrawn wr dq) osq = wq at BQ
                clear c0 c1 c2 c3 c4 q0 q1 q2 q3 q4 q5 s0 s1 s2 s3 s4 s5 CN CP hlt1
                have HV : Hid (okThs most ts = false) := Lib.hid (by rw [HT.out, HNX.out, HO.out, ← hp.out, HSC.out, HL.out]; simp)
                go_wp2
                go_ret
                exact ⟨by rw [HV.out]; rfl, bnext B2.out (bnext hbi.out BQ.out)⟩
              have HL : Hid (keyLt pq p = true) := Lib.hid hlt1
              replace c0 := cell_regrown c0
              replace c1 := cell_regrown c1
              replace c2 := cell_regrown c2
              replace c3 := cell_regrown c3
              replace c4 := cell_regrown c4
              replace q0 := cell_regrown q0
              replace q1 := cell_regrown q1
              replace q2 := cell_regrown q2
              replace q3 := cell_regrown q3
              replace q4 := cell_regrown q4
              replace q5 := cell_regrown q5
              replace s0 := cell_regrown s0
              replace s1 := cell_regrown s1
              replace s2 := cell_regrown s2
              replace s3 := cell_regrown s3
              replace s4 := cell_regrown s4
              replace s5 := cell_regrown s5
              refine wp_region_quiet_below (by kernel_rfl) (by kernel_rfl) ?_
              repeat (first | go_big_quiet_step (first | exact CN.out _ _ | exact CP.out _ _) | quiet_step (first | exact CN.out _ _ | exact CP.out _ _))
              refine wpQuiet_nil ?_
              intro _ hw'
              obtain ⟨⟨dq, osq⟩, hw''⟩ := hw'
              subst hw''
              have BQ := Lib.hid (below_regrown wr dq osq)
              generalize grow (redrawn wr dq) osq = wq at BQ
              clear c0 c1 c2 c3 c4 q0 q1 q2 q3 q4 q5 s0 s1 s2 s3 s4 s5 CN CP hlt1
              go_wp2
              go_roundw
              case rel => exact ⟨n + 1 + 1, (n : Int) + 1 + 1, by omega, Lib.hid (by omega), rfl, Lib.hid (bnext hbi.out BQ.out), Lib.hid (by rw [← hp.out, HSC.out, HW.out, HL.out]; rfl)⟩
              case measure => simp [intOf]; omega
          · have HE := Lib.hid (chkG_end okPr keyLt t.l m (by omega))
            have hge : ¬ u < (t.l.length : Int) := by have := hu.out; omega
            go_wp2
            go_roundw
            case rel => exact ⟨1, 1, by omega, Lib.hid (by omega), rfl, Lib.hid (bnext B2.out hbi.out), Lib.hid (by rw [HNX.out, HO.out, ← hp.out, HE.out]; rfl)⟩
            case measure => simp [intOf]; omega
      · obtain rfl : z = (j : Int) + 1 := by have := hz.out; omega
        obtain ⟨b', off', s, hA', hb', hs, qs, _⟩ := (H.out.next hbel.out).elem (k := j) (by omega)
        injection hA' with hA'
        injection hA' with e1 e2
        subst e1; subst e2
        have HSUC := Lib.hid (chkG_succ okTh idLt ts j hs ht)
        have QS := Lib.hid qs
        obtain ⟨q0, q1, q2, q3, q4⟩ := q
        have i0 : (0 : Int) ≤ (j : Int) := by omega
        have i1 : (j : Int) + 1 < (ts.length : Int) := by omega
        have i2 : (j : Int) < (ts.length : Int) := by omega
        have i3 : IntKind.i64.wrap (j : Int) = (j : Int) := IntWalk.i64_in _ (by omega)
        have i4 : ((j : Int) + 1).toNat = j + 1 := by omega
        clear hz ht hs qs
        go_upto_region 5 with fail
        generalize hA : World.alloc wr _ = W
        obtain ⟨kc, hbW, _⟩ := made34' hA
        have K1 := Lib.hid kc
        have RX := Lib.hid (rx.next hbW)
        have HB := Lib.hid (bnext hbel.out hbW)
        have CN := Lib.hid (name_rg t.label SX.out.1 W)
        obtain ⟨r0, r1, r2, r3, r4⟩ := QS.out.next hbW hb
        obtain ⟨c0, c1, c2, c3, c4, _⟩ := kc
        clear hA hbW rx q0 q1 q2 q3 q4 QS
        by_cases hid0 : t.id < 0
        · have HO : Hid (okTh t = false) := Lib.hid (by unfold okTh; rw [decide_eq_false (by omega)]; rfl)
          replace c0 := cell_regrown c0
          replace c1 := cell_regrown c1
          replace c2 := cell_regrown c2
          replace c3 := cell_regrown c3
          replace c4 := cell_regrown c4
          replace r0 := cell_regrown r0
          replace r1 := cell_regrown r1
          replace r2 := cell_regrown r2
          replace r3 := cell_regrown r3
          replace r4 := cell_regrown r4
          refine wp_region_quiet_below (by kernel_rfl) (by kernel_rfl) ?_
          repeat (first | go_big_quiet_step (exact CN.out _ _) | quiet_step (exact CN.out _ _))
          refine wpQuiet_nil ?_
          intro _ hw'
          obtain ⟨⟨dq, osq⟩, hw''⟩ := hw'
          subst hw''
          have BQ := Lib.hid (below_regrown W dq osq)
          generalize grow (redrawn W dq) osq = wq at BQ
          clear c0 c1 c2 c3 c4 r0 r1 r2 r3 r4 CN hid0
          have HV : Hid (okThs most ts = false) := Lib.hid (by rw [HT.out, ← hr.out, HBAD.out HO.out]; simp)
          go_wp2
          go_ret
          exact ⟨by rw [HV.out]; rfl, bnext HB.out BQ.out⟩
        have HI : Hid (decide (0 ≤ t.id) = true) := Lib.hid (decide_eq_true (by omega))
        cases hn : nameB t.label
        · have HO : Hid (okTh t = false) := Lib.hid (by unfold okTh; rw [hn]; simp)
          rw [hn] at CN
          replace c0 := cell_regrown c0
          replace c1 := cell_regrown c1
          replace c2 := cell_regrown c2
          replace c3 := cell_regrown c3
          replace c4 := cell_regrown c4
          replace r0 := cell_regrown r0
          replace r1 := cell_regrown r1
          replace r2 := cell_regrown r2
          replace r3 := cell_regrown r3
          replace r4 := cell_regrown r4
          refine wp_region_quiet_below (by kernel_rfl) (by kernel_rfl) ?_
          repeat (first | go_big_quiet_step (exact CN.out _ _) | quiet_step (exact CN.out _ _))
          refine wpQuiet_nil ?_
          intro _ hw'
          obtain ⟨⟨dq, osq⟩, hw''⟩ := hw'
          subst hw''
          have BQ := Lib.hid (below_regrown W dq osq)
          generalize grow (redrawn W dq) osq = wq at BQ
          clear c0 c1 c2 c3 c4 r0 r1 r2 r3 r4 CN hn
          have HV : Hid (okThs most ts = false) := Lib.hid (by rw [HT.out, ← hr.out, HBAD.out HO.out]; simp)
          go_wp2
          go_ret
          exact ⟨by rw [HV.out]; rfl, bnext HB.out BQ.out⟩
        have HN := Lib.hid hn
        rw [hn] at CN
        clear hn
        by_cases h30 : (30 : Int) < (t.l.length : Int)
        · have HO : Hid (okTh t = false) := Lib.hid (by unfold okTh okPs; rw [show decide (t.l.length ≤ 30) = false from decide_eq_false (by omega)]; simp)
          replace c0 := cell_regrown c0
          replace c1 := cell_regrown c1
          replace c2 := cell_regrown c2
          replace c3 := cell_regrown c3
          replace c4 := cell_regrown c4
          replace r0 := cell_regrown r0
          replace r1 := cell_regrown r1
          replace r2 := cell_regrown r2
          replace r3 := cell_regrown r3
          replace r4 := cell_regrown r4
          refine wp_region_quiet_below (by kernel_rfl) (by kernel_rfl) ?_
          repeat (first | go_big_quiet_step (exact CN.out _ _) | quiet_step (exact CN.out _ _))
          refine wpQuiet_nil ?_
          intro _ hw'
          obtain ⟨⟨dq, osq⟩, hw''⟩ := hw'
          subst hw''
          have BQ := Lib.hid (below_regrown W dq osq)
          generalize grow (redrawn W dq) osq = wq at BQ
          clear c0 c1 c2 c3 c4 r0 r1 r2 r3 r4 CN h30
          have HV : Hid (okThs most ts = false) := Lib.hid (by rw [HT.out, ← hr.out, HBAD.out HO.out]; simp)
          go_wp2
          go_ret
          exact ⟨by rw [HV.out]; rfl, bnext HB.out BQ.out⟩
        have HO : Hid (okTh t = chkG okPr keyLt t.l 0) := Lib.hid (by unfold okTh okPs chkG; rw [HI.out, HN.out, show decide (t.l.length ≤ 30) = true from decide_eq_true (by omega)]; rfl)
        by_cases hlt0 : s.id < t.id
        rotate_left
        · have HL : Hid (idLt s t = false) := Lib.hid (by unfold idLt; exact decide_eq_false hlt0)
          have hle : t.id ≤ s.id := by omega
          replace c0 := cell_regrown c0
          replace c1 := cell_regrown c1
          replace c2 := cell_regrown c2
          replace c3 := cell_regrown c3
          replace c4 := cell_regrown c4
          replace r0 := cell_regrown r0
          replace r1 := cell_regrown r1
          replace r2 := cell_regrown r2
          replace r3 := cell_regrown r3
          replace r4 := cell_regrown r4
          refine wp_region_quiet_below (by kernel_rfl) (by kernel_rfl) ?_
          repeat (first | go_big_quiet_step (exact CN.out _ _) | quiet_step (exact CN.out _ _))
          refine wpQuiet_nil ?_
          intro _ hw'
          obtain ⟨⟨dq, osq⟩, hw''⟩ := hw'
          subst hw''
          have BQ := Lib.hid (below_regrown W dq osq)
          generalize grow (redrawn W dq) osq = wq at BQ
          clear c0 c1 c2 c3 c4 r0 r1 r2 r3 r4 CN HI HN h30
          have HV : Hid (okThs most ts = false) := Lib.hid (by rw [HT.out, ← hr.out, HSUC.out, HL.out]; simp)
          go_wp2
          go_ret
          exact ⟨by rw [HV.out]; rfl, bnext HB.out BQ.out⟩
        have HL : Hid (idLt s t = true) := Lib.hid (by unfold idLt; exact decide_eq_true hlt0)
        have hle : ¬ t.id ≤ s.id := by omega
        have HNX : Hid (chkG okTh idLt ts (j + 1) = (okTh t && chkG okTh idLt ts (j + 1 + 1))) := Lib.hid (by rw [HSUC.out, HL.out]; rfl)
        clear HL HSUC
        replace c0 := cell_regrown c0
        replace c1 := cell_regrown c1
        replace c2 := cell_regrown c2
        replace c3 := cell_regrown c3
        replace c4 := cell_regrown c4
        replace r0 := cell_regrown r0
        replace r1 := cell_regrown r1
        replace r2 := cell_regrown r2
        replace r3 := cell_regrown r3
        replace r4 := cell_regrown r4
        refine wp_region_quiet_below (by kernel_rfl) (by kernel_rfl) ?_
        repeat (first | go_big_quiet_step (exact CN.out _ _) | quiet_step (exact CN.out _ _))
        refine wpQuiet_nil ?_
        intro _ hw'
        obtain ⟨⟨dq, osq⟩, hw''⟩ := hw'
        subst hw''
        have BQ := Lib.hid (below_regrown W dq osq)
        generalize grow (redrawn W dq) osq = wq at BQ
        clear c0 c1 c2 c3 c4 r0 r1 r2 r3 r4 CN HI HN h30
        have KQ := Lib.hid (K1.out.next BQ.out)
        have B2 := Lib.hid (bnext HB.out BQ.out)
        have BW := BQ
        have hpb := RX.out.big
        clear K1 BQ HB
        go_wp2
        clear hlt0 hle
        go_loopw [7] (fun y wi => ∃ (m : Nat) (u : Int), m ≤ t.l.length ∧ Hid (u = (m : Int)) ∧ y = .int .i64 u ∧ Hid (Below wq.heap.size wq wi) ∧ Hid (chkG okPr keyLt t.l m = chkG okPr keyLt t.l 0)) (fun y _ => t.l.length - (intOf y).toNat)
        case atStart => exact ⟨0, 0, by omega, Lib.hid rfl, rfl, Lib.hid (Below.refl _ _), Lib.hid rfl⟩
        case round =>
          obtain ⟨m, u, hm, hu, rfl, hbi, hp⟩ := hrel
          obtain ⟨c0, c1, c2, c3, c4, _⟩ := KQ.out.next hbi.out
          by_cases hlm : m < t.l.length
          · obtain ⟨bp, op, p, eA, hbp, hpp, q, rx⟩ := (RX.out.next (bnext BW.out hbi.out)).elem hlm
            have SP := Lib.hid (SX.out.2 p (List.mem_of_getElem? hpp))
            rw [eA] at c4
            obtain ⟨q0, q1, q2, q3, q4, q5⟩ := q
            have CN := Lib.hid (name_rg p.key SP.out wr)
            have CP := Lib.hid (fun n os => plain_rg rx n os)
            have HPB := Lib.hid (fun h => chkG_bad okPr keyLt t.l m hpp h)
            have HOK : Hid (okPr p = (nameB p.key && plainB p.x.t)) := Lib.hid rfl
            rcases m with _ | n
            · have HSC := Lib.hid (chkG_zero okPr keyLt t.l hpp)
              simp only [Nat.zero_mul, Nat.add_zero] at q0 q1 q2 q3 q4 q5
              obtain rfl : u = 0 := hu.out
              clear rx hpp hu
              have k1 : (0 : Int) < (t.l.length : Int) := by omega
              go_upto_region 10 with fail
              cases hn : nameB p.key
              · have HW : Hid (okPr p = false) := Lib.hid (by rw [HOK.out, hn]; rfl)
                rw [hn] at CN
                clear hn
                replace c0 := cell_regrown c0
                replace c1 := cell_regrown c1
                replace c2 := cell_regrown c2
                replace c3 := cell_regrown c3
                replace c4 := cell_regrown c4
                replace q0 := cell_regrown q0
                replace q1 := cell_regrown q1
                replace q2 := cell_regrown q2
                replace q3 := cell_regrown q3
                replace q4 := cell_regrown q4
                replace q5 := cell_regrown q5
                refine wp_region_quiet_below (by kernel_rfl) (by kernel_rfl) ?_
                repeat (first | go_big_quiet_step (first | exact CN.out _ _ | exact CP.out _ _) | quiet_step (first | exact CN.out _ _ | exact CP.out _ _))
                refine wpQuiet_nil ?_
                intro _ hw'
                obtain ⟨⟨dq, osq⟩, hw''⟩ := hw'
                subst hw''
                have BQ := Lib.hid (below_regrown wr dq osq)
                generalize grow (redrawn wr dq) osq = wq at BQ
                clear c0 c1 c2 c3 c4 q0 q1 q2 q3 q4 q5 CN CP
                have HV : Hid (okThs most ts = false) := Lib.hid (by rw [HT.out, ← hr.out, HNX.out, HO.out, HPB.out HW.out]; simp)
                go_wp2
                go_ret
                exact ⟨by rw [HV.out]; rfl, bnext B2.out (bnext hbi.out BQ.out)⟩
              have HN := Lib.hid hn
              rw [hn] at CN
              clear hn
              cases hv : plainB p.x.t
              · have HW : Hid (okPr p = false) := Lib.hid (by rw [HOK.out, hv]; simp)
                rw [hv] at CP
                clear hv
                replace c0 := cell_regrown c0
                replace c1 := cell_regrown c1
                replace c2 := cell_regrown c2
                replace c3 := cell_regrown c3
                replace c4 := cell_regrown c4
                replace q0 := cell_regrown q0
                replace q1 := cell_regrown q1
                replace q2 := cell_regrown q2
                replace q3 := cell_regrown q3
                replace q4 := cell_regrown q4
                replace q5 := cell_regrown q5
                refine wp_region_quiet_below (by kernel_rfl) (by kernel_rfl) ?_
                repeat (first | go_big_quiet_step (first | exact CN.out _ _ | exact CP.out _ _) | quiet_step (first | exact CN.out _ _ | exact CP.out _ _))
                refine wpQuiet_nil ?_
                intro _ hw'
                obtain ⟨⟨dq, osq⟩, hw''⟩ := hw'
                subst hw''
                have BQ := Lib.hid (below_regrown wr dq osq)
                generalize grow (redrawn wr dq) osq = wq at BQ
                clear c0 c1 c2 c3 c4 q0 q1 q2 q3 q4 q5 CN CP
                have HV : Hid (okThs most ts = false) := Lib.hid (by rw [HT.out, ← hr.out, HNX.out, HO.out, HPB.out HW.out]; simp)
                go_wp2
                go_ret
                exact ⟨by rw [HV.out]; rfl, bnext B2.out (bnext hbi.out BQ.out)⟩
              have HW : Hid (okPr p = true) := Lib.hid (by rw [HOK.out, HN.out, hv]; rfl)
              rw [hv] at CP
              clear hv
              replace c0 := cell_regrown c0
              replace c1 := cell_regrown c1
              replace c2 := cell_regrown c2
              replace c3 := cell_regrown c3
              replace c4 := cell_regrown c4
              replace q0 := cell_regrown q0
              replace q1 := cell_regrown q1
              replace q2 := cell_regrown q2
              replace q3 := cell_regrown q3
              replace q4 := cell_regrown q4
              replace q5 := cell_regrown q5
              refine wp_region_quiet_below (by kernel_rfl) (by kernel_rfl) ?_
              repeat (first | go_big_quiet_step (first | exact CN.out _ _ | exact CP.out _ _) | quiet_step (first | exact CN.out _ _ | exact CP.out _ _))
              refine wpQuiet_nil ?_
              intro _ hw'
              obtain ⟨⟨dq, osq⟩, hw''⟩ := hw'
              subst hw''
              have BQ := Lib.hid (below_regrown wr dq osq)
              generalize grow (redrawn wr dq) osq = wq at BQ
              clear c0 c1 c2 c3 c4 q0 q1 q2 q3 q4 q5 CN CP
              go_wp2
              go_roundw
              case rel => exact ⟨1, 1, by omega, Lib.hid rfl, rfl, Lib.hid (bnext hbi.out BQ.out), Lib.hid (by rw [HSC.out, HW.out]; rfl)⟩
              case measure => simp [intOf]; omega
            · obtain ⟨bq, oq, pq, eA', hbq, hpq, qq, _⟩ := (RX.out.next (bnext BW.out hbi.out)).elem (k := n) (by omega)
              rw [eA] at eA'
              injection eA' with eA'
              injection eA' with e1 e2
              subst e1; subst e2
              have HSC := Lib.hid (chkG_succ okPr keyLt t.l n hpq hpp)
              obtain ⟨s0, s1, s2, s3, s4, s5⟩ := qq
              obtain rfl : u = (n : Int) + 1 := by have := hu.out; omega
              clear rx hpp hu hpq
              have i0 : (0 : Int) ≤ (n : Int) := by omega
              have i1 : (n : Int) + 1 < (t.l.length : Int) := by omega
              have i2 : (n : Int) < (t.l.length : Int) := by omega
              have i3 : IntKind.i64.wrap (n : Int) = (n : Int) := IntWalk.i64_in _ (by have := RX.out.big; omega)
              have i4 : ((n : Int) + 1).toNat = n + 1 := by omega
              go_upto_region 10 with fail
              cases hn : nameB p.key
              · have HW : Hid (okPr p = false) := Lib.hid (by rw [HOK.out, hn]; rfl)
                rw [hn] at CN
                clear hn
                replace c0 := cell_regrown c0
                replace c1 := cell_regrown c1
                replace c2 := cell_regrown c2
                replace c3 := cell_regrown c3
                replace c4 := cell_regrown c4
                replace q0 := cell_regrown q0
                replace q1 := cell_regrown q1
                replace q2 := cell_regrown q2
                replace q3 := cell_regrown q3
                replace q4 := cell_regrown q4
                replace q5 := cell_regrown q5
                replace s0 := cell_regrown s0
                replace s1 := cell_regrown s1
                replace s2 := cell_regrown s2
                replace s3 := cell_regrown s3
                replace s4 := cell_regrown s4
                replace s5 := cell_regrown s5
                refine wp_region_quiet_below (by kernel_rfl) (by kernel_rfl) ?_
                repeat (first | go_big_quiet_step (first | exact CN.out _ _ | exact CP.out _ _) | quiet_step (first | exact CN.out _ _ | exact CP.out _ _))
                refine wpQuiet_nil ?_
                intro _ hw'
                obtain ⟨⟨dq, osq⟩, hw''⟩ := hw'
                subst hw''
                have BQ := Lib.hid (below_regrown wr dq osq)
                generalize grow (redrawn wr dq) osq = wq at BQ
                clear c0 c1 c2 c3 c4 q0 q1 q2 q3 q4 q5 s0 s1 s2 s3 s4 s5 CN CP
                have HV : Hid (okThs most ts = false) := Lib.hid (by rw [HT.out, ← hr.out, HNX.out, HO.out, ← hp.out, HPB.out HW.out]; simp)
                go_wp2
                go_ret
                exact ⟨by rw [HV.out]; rfl, bnext B2.out (bnext hbi.out BQ.out)⟩
              have HN := Lib.hid hn
              rw [hn] at CN
              clear hn
              cases hv : plainB p.x.t
              · have HW : Hid (okPr p = false) := Lib.hid (by rw [HOK.out, hv]; simp)
                rw [hv] at CP
                clear hv
                replace c0 := cell_regrown c0
                replace c1 := cell_regrown c1
                replace c2 := cell_regrown c2
                replace c3 := cell_regrown c3
                replace c4 := cell_regrown c4
                replace q0 := cell_regrown q0
                replace q1 := cell_regrown q1
                replace q2 := cell_regrown q2
                replace q3 := cell_regrown q3
                replace q4 := cell_regrown q4
                replace q5 := cell_regrown q5
                replace s0 := cell_regrown s0
                replace s1 := cell_regrown s1
                replace s2 := cell_regrown s2
                replace s3 := cell_regrown s3
                replace s4 := cell_regrown s4
                replace s5 := cell_regrown s5
                refine wp_region_quiet_below (by kernel_rfl) (by kernel_rfl) ?_
                repeat (first | go_big_quiet_step (first | exact CN.out _ _ | exact CP.out _ _) | quiet_step (first | exact CN.out _ _ | exact CP.out _ _))
                refine wpQuiet_nil ?_
                intro _ hw'
                obtain ⟨⟨dq, osq⟩, hw''⟩ := hw'
                subst hw''
                have BQ := Lib.hid (below_regrown wr dq osq)
                generalize grow (redrawn wr dq) osq = wq at BQ
                clear c0 c1 c2 c3 c4 q0 q1 q2 q3 q4 q5 s0 s1 s2 s3 s4 s5 CN CP
                have HV : Hid (okThs most ts = false) := Lib.hid (by rw [HT.out, ← hr.out, HNX.out, HO.out, ← hp.out, HPB.out HW.out]; simp)
                go_wp2
                go_ret
                exact ⟨by rw [HV.out]; rfl, bnext B2.out (bnext hbi.out BQ.out)⟩
              have HW : Hid (okPr p = true) := Lib.hid (by rw [HOK.out, HN.out, hv]; rfl)
              rw [hv] at CP
              clear hv
              cases hlt1 : Op.bytesLess pq.key.toList p.key.toList
              · have HL : Hid (keyLt pq p = false) := Lib.hid hlt1
                replace c0 := cell_regrown c0
                replace c1 := cell_regrown c1
                replace c2 := cell_regrown c2
                replace c3 := cell_regrown c3
                replace c4 := cell_regrown c4
                replace q0 := cell_regrown q0
                replace q1 := cell_regrown q1
                replace q2 := cell_regrown q2
                replace q3 := cell_regrown q3
                replace q4 := cell_regrown q4
                replace q5 := cell_regrown q5
                replace s0 := cell_regrown s0
                replace s1 := cell_regrown s1
                replace s2 := cell_regrown s2
                replace s3 := cell_regrown s3
                replace s4 := cell_regrown s4
                replace s5 := cell_regrown s5
                refine wp_region_quiet_below (by kernel_rfl) (by kernel_rfl) ?_
                repeat (first | go_big_quiet_step (first | exact CN.out _ _ | exact CP.out _ _) | quiet_step (first | exact CN.out _ _ | exact CP.out _ _))
                refine wpQuiet_nil ?_
                intro _ hw'
                obtain ⟨⟨dq, osq⟩, hw''⟩ := hw'
                subst hw''
                have BQ := Lib.hid (below_regrown wr dq osq)
                generalize grow (redrawn wr dq) osq = wq at BQ
                clear c0 c1 c2 c3 c4 q0 q1 q2 q3 q4 q5 s0 s1 s2 s3 s4 s5 CN CP hlt1
                have HV : Hid (okThs most ts = false) := Lib.hid (by rw [HT.out, ← hr.out, HNX.out, HO.out, ← hp.out, HSC.out, HL.out]; simp)
                go_wp2
                go_ret
                exact ⟨by rw [HV.out]; rfl, bnext B2.out (bnext hbi.out BQ.out)⟩
              have HL : Hid (keyLt pq p = true) := Lib.hid hlt1
              replace c0 := cell_regrown c0
              replace c1 := cell_regrown c1
              replace c2 := cell_regrown c2
              replace c3 := cell_regrown c3
              replace c4 := cell_regrown c4
              replace q0 := cell_regrown q0
              replace q1 := cell_regrown q1
              replace q2 := cell_regrown q2
              replace q3 := cell_regrown q3
              replace q4 := cell_regrown q4
              replace q5 := cell_regrown q5
              replace s0 := cell_regrown s0
              replace s1 := cell_regrown s1
              replace s2 := cell_regrown s2
              replace s3 := cell_regrown s3
              replace s4 := cell_regrown s4
              replace s5 := cell_regrown s5
              refine wp_region_quiet_below (by kernel_rfl) (by kernel_rfl) ?_
              repeat (first | go_big_quiet_step (first | exact CN.out _ _ | exact CP.out _ _) | quiet_step (first | exact CN.out _ _ | exact CP.out _ _))
              refine wpQuiet_nil ?_
              intro _ hw'
              obtain ⟨⟨dq, osq⟩, hw''⟩ := hw'
              subst hw''
              have BQ := Lib.hid (below_regrown wr dq osq)
              generalize grow (redrawn wr dq) osq = wq at BQ
              clear c0 c1 c2 c3 c4 q0 q1 q2 q3 q4 q5 s0 s1 s2 s3 s4 s5 CN CP hlt1
              go_wp2
              go_roundw
              case rel => exact ⟨n + 1 + 1, (n : Int) + 1 + 1, by omega, Lib.hid (by omega), rfl, Lib.hid (bnext hbi.out BQ.out), Lib.hid (by rw [← hp.out, HSC.out, HW.out, HL.out]; rfl)⟩
              case measure => simp [intOf]; omega
          · have HE := Lib.hid (chkG_end okPr keyLt t.l m (by omega))
            have hge : ¬ u < (t.l.length : Int) := by have := hu.out; omega
            go_wp2
            go_roundw
            case rel => exact ⟨j + 1 + 1, (j : Int) + 1 + 1, by omega, Lib.hid (by omega), rfl, Lib.hid (bnext B2.out hbi.out), Lib.hid (by rw [← hr.out, HNX.out, HO.out, ← hp.out, HE.out]; rfl)⟩
            case measure => simp [intOf]; omega
    · have HE := Lib.hid (chkG_end okTh idLt ts k (by omega))
      have hge : ¬ z < (ts.length : Int) := by have := hz.out; omega
      by_cases hmo : (ts.length : Int) ≤ (most : Int)
      · have HD : Hid (decide (ts.length ≤ most) = true) := Lib.hid (decide_eq_true (by omega))
        go_wp2
        go_ret
        exact ⟨by rw [HT.out, HD.out, ← hr.out, HE.out]; rfl, hbel.out⟩
      · have HD : Hid (decide (ts.length ≤ most) = false) := Lib.hid (decide_eq_false (by omega))
        go_wp2
        go_ret
        exact ⟨by rw [HT.out, HD.out]; rfl, hbel.out⟩
end Go.Proofs.Ytebkkjfeikpfgaa

