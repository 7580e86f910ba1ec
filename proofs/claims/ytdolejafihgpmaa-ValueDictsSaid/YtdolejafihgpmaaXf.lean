/- Contract of slices.stableCmpFunc over a row of pairs of any length up to 100000: blocks put in order, and merged, twice as long each time. -/
import Derived.Test.YtdolejafihgpmaaXe
namespace Go.Proofs.Ytdolejafihgpmaa
open Go.RowKit Go.Sort

theorem geq_of_feq {l l' : List Pr} (h : FEq l l') : GEq cmpP l l' := fun z => h z.x
theorem feq_of_geq {l l' : List Pr} (h : GEq cmpP l l') : FEq l l' := fun z => h { (default : Pr) with x := z }
structure InsOk (a b : Nat) (d d' : Array Pr) : Prop where
  sz : d'.size = d.size
  out : ∀ x, x < a ∨ b ≤ x → d'[x]! = d[x]!
  srt : SrtOn cmpP d' a b
  geq : GEq cmpP d.toList d'.toList
theorem ins_ok (d : Array Pr) (a b : Nat) (hab : a ≤ b) (hb : b ≤ d.size) : InsOk a b d (Sort.insertionSort (ltOf cmpP) d a b) := by
  obtain ⟨⟨hs, hout, _⟩, hsort⟩ := insertionSort_holds (lt := ltOf cmpP) swo_cmpP d a b hab hb
  have hf := feq_outer a b (b - (a + 1)) (a + 1) (Nat.le_refl _) d hb
  exact ⟨hs, hout, fun i j h1 h2 h3 => ord_cmpP.not_lt (of_decide_eq_false (hsort i j h1 h2 h3)), geq_of_feq hf⟩
theorem insertion_at (w : World) (g B d n cap : Nat) (ps : Array Pr) (h : Held w w g B d n ps) (hB : B ≤ g) (hg : g < w.heap.size) (a b : Nat) (x y : Int) (hx : x = (a : Int)) (hy : y = (b : Int)) (hab : a ≤ b) (hb : b ≤ n) (hn : n ≤ 100000) :
    Calls Try.prog 64 #[.slice (some ⟨g, 0, none⟩) n cap, .int .i64 x, .int .i64 y, .func (.func 60) #[] #[]] w fun e w' => e = .returned (.tuple #[]) ∧ ∃ ps', Held w w' g B d n ps' ∧ InsOk a b ps ps' := by
  subst hx hy
  exact (insertion_any w g B d n cap ps h hB hg a b hab hb hn).mono fun e w' ⟨he, hh⟩ => ⟨he, _, hh, ins_ok ps a b hab (by rw [h.sz]; exact hb)⟩

/-- Blocks of so many, each in order. -/
def InBlk (d : Array Pr) (bs n : Nat) : Prop := ∀ q, SrtOn cmpP d (q * bs) (min (q * bs + bs) n)
/-- The first q blocks of 20 are in order. -/
structure Fst (ps d : Array Pr) (n q A : Nat) : Prop where
  hA : A = q * 20
  geq : GEq cmpP ps.toList d.toList
  done : ∀ k, k < q → SrtOn cmpP d (k * 20) (k * 20 + 20)
theorem Fst.start (ps : Array Pr) (n : Nat) : Fst ps ps n 0 0 := ⟨rfl, GEq.refl _ _, fun k hk => absurd hk (Nat.not_lt_zero k)⟩
theorem Fst.step {ps d d' : Array Pr} {n q A : Nat} (h : Fst ps d n q A) (k : InsOk A (A + 20) d d') : Fst ps d' n (q + 1) (A + 20) := by
  have hA := h.hA
  refine ⟨by omega, h.geq.trans k.geq, fun r hr i j i1 i2 i3 => ?_⟩
  by_cases e : r = q
  · subst e; exact k.srt i j (by omega) i2 (by omega)
  · rw [k.out i (by omega), k.out j (by omega)]; exact h.done r (by omega) i j i1 i2 i3
theorem Fst.fin {ps d d' : Array Pr} {n q A : Nat} (h : Fst ps d n q A) (hn : n < A + 20) (k : InsOk A n d d') : InBlk d' 20 n := fun r i j i1 i2 i3 => by
  have hA := h.hA
  by_cases e : r < q
  · rw [k.out i (by omega), k.out j (by omega)]; exact h.done r e i j i1 i2 (by omega)
  · exact k.srt i j (by omega) i2 (by omega)

/-- One pass: q blocks of twice the length are in order, the others, of the length itself, still. -/
structure Pass (d : Array Pr) (bs n q A : Nat) : Prop where
  hA : A = q * (2 * bs)
  done : ∀ k, k < q → SrtOn cmpP d (k * (2 * bs)) (k * (2 * bs) + 2 * bs)
  rest : ∀ k, A ≤ k * bs → SrtOn cmpP d (k * bs) (min (k * bs + bs) n)
theorem Pass.start {d : Array Pr} {bs n : Nat} (h : InBlk d bs n) : Pass d bs n 0 0 := ⟨by simp, fun k hk => absurd hk (Nat.not_lt_zero k), fun k _ => h k⟩
theorem Pass.left {d : Array Pr} {bs n q A : Nat} (h : Pass d bs n q A) : SrtOn cmpP d A (min (A + bs) n) := by
  have e : 2 * q * bs = A := by rw [h.hA, Nat.mul_comm 2 q, Nat.mul_assoc]
  have := h.rest (2 * q) (by omega)
  rwa [e] at this
theorem Pass.right {d : Array Pr} {bs n q A : Nat} (h : Pass d bs n q A) : SrtOn cmpP d (A + bs) (min (A + bs + bs) n) := by
  have e : (2 * q + 1) * bs = A + bs := by rw [Nat.add_mul, h.hA, Nat.mul_comm 2 q, Nat.mul_assoc, Nat.one_mul]
  have := h.rest (2 * q + 1) (by omega)
  rwa [e] at this
theorem below_mul {k q x : Nat} (h : k < q) : k * x + x ≤ q * x := by
  have := Nat.mul_le_mul_right x (show k + 1 ≤ q from h)
  rwa [Nat.add_mul, Nat.one_mul] at this
theorem Pass.step {d d' : Array Pr} {bs n q A : Nat} (h : Pass d bs n q A) (m : Mgd cmpP A (A + 2 * bs) d d') : Pass d' bs n (q + 1) (A + 2 * bs) := by
  refine ⟨by rw [Nat.add_mul, ← h.hA, Nat.one_mul], fun k hk i j i1 i2 i3 => ?_, fun k hk i j i1 i2 i3 => ?_⟩
  · by_cases e : k = q
    · subst e; rw [← h.hA] at i1 i3; exact m.srt i j i1 i2 i3
    · have hb := below_mul (x := 2 * bs) (show k < q by omega)
      rw [← h.hA] at hb
      rw [m.out i (by omega), m.out j (by omega)]; exact h.done k (by omega) i j i1 i2 i3
  · rw [m.out i (by omega), m.out j (by omega)]; exact h.rest k (by omega) i j i1 i2 i3
theorem Pass.fin {d d' : Array Pr} {bs n q A : Nat} (h : Pass d bs n q A) (hA : A ≤ n) (_hb : n < A + 2 * bs) (ho : ∀ x, x < A → d'[x]! = d[x]!) (hs : SrtOn cmpP d' A n) : InBlk d' (bs * 2) n := fun k i j i1 i2 i3 => by
  rw [Nat.mul_comm bs 2] at i1 i3
  by_cases e : k < q
  · have hb := below_mul (x := 2 * bs) e
    rw [← h.hA] at hb
    rw [ho i (by omega), ho j (by omega)]; exact h.done k e i j i1 i2 (by omega)
  · have hb := Nat.mul_le_mul_right (2 * bs) (show q ≤ k by omega)
    rw [← h.hA] at hb
    exact hs i j (by omega) i2 (by omega)
theorem blk_whole {d : Array Pr} {bs n : Nat} (h : InBlk d bs n) (hs : d.size = n) (hb : n ≤ bs) : Srt d.toList := by
  unfold Srt
  rw [List.pairwise_iff_getElem]
  intro i j hi hj hij
  have := h 0 i j (by omega) hij (by simp at hj; omega)
  simp at hi hj
  rw [getElem!_pos d i hi, getElem!_pos d j hj] at this
  simpa using this

set_option maxHeartbeats 4000000 in
set_option maxRecDepth 100000 in
theorem stable_any (n : Nat) (hn : n ≤ 100000) : StableOk n := by
  intro w g B d cap ps h hB hg
  have SZ := Lib.hid h.sz
  have H := Lib.hid h
  have MG := Lib.hid (symMerge_ok n hn n)
  clear h
  go_enter Try.func63, Try.ntmps63
  go_wp2_with fail
  go_loopw [7, 8] (fun va vb wr => ∃ (q A : Nat) (dk : Array Pr), va = .int .i64 A ∧ vb = .int .i64 ((A : Int) + 20) ∧ A ≤ n ∧ Hid (Held w wr g B d n dk) ∧ Hid (Fst ps dk n q A)) (fun va _ _ => n - (intOf va).toNat)
  case atStart => exact ⟨0, 0, ps, rfl, by go_num, by omega, H, Lib.hid (Fst.start _ _)⟩
  case round =>
    obtain ⟨q, A, dk, rfl, rfl, hAn, hH, hF⟩ := hrel
    by_cases hlt : A + 20 ≤ n
    · have hltz : (A : Int) + 20 ≤ (n : Int) := by omega
      go_wp2_with fail
      refine (insertion_at _ g B d n cap dk (hH.out.re hB hg) hB (hH.out.gz hg) A (A + 20) _ _ rfl (by omega) (by omega) hlt hn).mono ?_
      rintro e w1 ⟨rfl, d1, hh, hi⟩
      have H1 := Lib.hid (hH.out.on hB hg hh)
      have F1 := Lib.hid (hF.out.step hi)
      clear hh hi
      go_wp2
      go_roundw
      case rel => exact ⟨q + 1, A + 20, d1, by go_num, by go_num, hlt, H1, F1⟩
      case measure => simp [intOf]; omega
    · have hltz : ¬ (A : Int) + 20 ≤ (n : Int) := by omega
      go_wp2_with fail
      refine (insertion_at _ g B d n cap dk (hH.out.re hB hg) hB (hH.out.gz hg) A n _ _ rfl rfl hAn (Nat.le_refl _) hn).mono ?_
      rintro e w1 ⟨rfl, d1, hh, hi⟩
      have H1 := Lib.hid (hH.out.on hB hg hh)
      have G1 := Lib.hid (hF.out.geq.trans hi.geq)
      have B1 := Lib.hid (hF.out.fin (by omega) hi)
      clear hh hi
      go_wp2_with fail
      go_loopw [6] (fun vb wx => ∃ (bs : Nat) (dj : Array Pr), vb = .int .i64 bs ∧ 20 ≤ bs ∧ bs ≤ 2 * n + 20 ∧ Hid (Held w wx g B d n dj) ∧ Hid (GEq cmpP ps.toList dj.toList) ∧ Hid (InBlk dj bs n)) (fun vb _ => n - (intOf vb).toNat)
      case atStart => exact ⟨20, d1, rfl, by omega, by omega, H1, G1, B1⟩
      case round =>
        obtain ⟨bs, dj, rfl, hb0, hb1, hJ, hG, hK⟩ := hrel
        by_cases hbn : bs < n
        · have hbz : (bs : Int) < (n : Int) := by omega
          go_wp2_with fail
          go_loopw [7, 8] (fun va vb wy => ∃ (q A : Nat) (dk : Array Pr), va = .int .i64 A ∧ vb = .int .i64 ((A : Int) + 2 * (bs : Int)) ∧ A ≤ n ∧ Hid (Held w wy g B d n dk) ∧ Hid (GEq cmpP ps.toList dk.toList) ∧ Hid (Pass dk bs n q A)) (fun va _ _ => n - (intOf va).toNat)
          case atStart => exact ⟨0, 0, dj, rfl, by go_num, by omega, hJ, hG, Lib.hid (Pass.start hK.out)⟩
          case round =>
            obtain ⟨q, A, dk, rfl, rfl, hAn, hL, hM, hP⟩ := hrel
            by_cases hlt : A + 2 * bs ≤ n
            · have hltz : (A : Int) + 2 * (bs : Int) ≤ (n : Int) := by omega
              go_wp2_with fail
              refine (MG.out _ g B d cap dk A (A + bs) (A + 2 * bs) _ _ _ rfl (by omega) (by omega) (by omega) (hL.out.re hB hg) hB (hL.out.gz hg) (by omega) (by omega) hlt (by have := hP.out.left; rwa [Nat.min_eq_left (by omega)] at this) (by have := hP.out.right; rwa [Nat.min_eq_left (by omega), show A + bs + bs = A + 2 * bs by omega] at this)).mono ?_
              rintro e w2 ⟨rfl, d2, hh, hr⟩
              have H2 := Lib.hid (hL.out.on hB hg hh)
              have G2 := Lib.hid (hM.out.trans hr.geq)
              have P2 := Lib.hid (hP.out.step hr)
              clear hh hr
              go_wp2
              go_roundw
              case rel => exact ⟨q + 1, A + 2 * bs, d2, by go_num, by go_num, hlt, H2, G2, P2⟩
              case measure => simp [intOf]; omega
            · have hltz : ¬ (A : Int) + 2 * (bs : Int) ≤ (n : Int) := by omega
              by_cases hm : A + bs < n
              · have hmz : (A : Int) + (bs : Int) < (n : Int) := by omega
                go_wp2_with fail
                refine (MG.out _ g B d cap dk A (A + bs) n _ _ _ rfl (by omega) rfl (by omega) (hL.out.re hB hg) hB (hL.out.gz hg) (by omega) (by omega) (Nat.le_refl _) (by have := hP.out.left; rwa [Nat.min_eq_left (by omega)] at this) (by have := hP.out.right; rwa [Nat.min_eq_right (by omega)] at this)).mono ?_
                rintro e w2 ⟨rfl, d2, hh, hr⟩
                have H2 := Lib.hid (hL.out.on hB hg hh)
                have G2 := Lib.hid (hM.out.trans hr.geq)
                have B2 := Lib.hid (hP.out.fin hAn (by omega) (fun x hx => hr.out x (.inl hx)) hr.srt)
                clear hh hr
                go_wp2
                go_roundw
                case rel => exact ⟨bs * 2, d2, by go_num, by omega, by omega, H2, G2, B2⟩
                case measure => simp [intOf]; omega
              · have hmz : ¬ (A : Int) + (bs : Int) < (n : Int) := by omega
                have B2 := Lib.hid (hP.out.fin hAn (by omega) (fun x hx => rfl) (by have := hP.out.left; rwa [Nat.min_eq_right (by omega)] at this))
                go_wp2
                go_roundw
                case rel => exact ⟨bs * 2, dk, by go_num, by omega, by omega, hL, hM, B2⟩
                case measure => simp [intOf]; omega
        · have hbz : ¬ (bs : Int) < (n : Int) := by omega
          go_wp2
          go_end0
          exact ⟨rfl, dj, hJ.out, blk_whole hK.out hJ.out.sz (by omega), feq_of_geq hG.out⟩
end Go.Proofs.Ytdolejafihgpmaa
