/- LexerSteps: its plain side, and what its loop keeps. -/
import Derived.Test.YthjbmlgjlndihaaND
import Derived.Test.YthjbmlgjlndihaaNE
import Derived.IntWalk
namespace Go.Proofs.Ythjbmlgjlndihaa
set_option maxRecDepth 100000
open Go.RowKit Go.Shelf Go.Sort

theorem its_cut : ∀ (k : Nat) (m : Bs) (o : Nat), m.length ≤ k → ∀ (xs : List IT) (x : IT), its m o = xs ++ [x] → x.ok = false → (∀ y ∈ xs, y.ok = true) → ∃ d : Nat, x.t.p = ((o + d : Nat) : Int) ∧ d ≤ m.length ∧ its (m.take d) o = xs
  | k, [], o, _, xs, x, he, _, _ => by rw [its_nil] at he; simp at he
  | 0, c :: m, o, h, _, _, _, _, _ => by simp at h
  | k + 1, c :: m, o, h, xs, x, he, hx, hok => by
    rw [List.length_cons] at h
    cases hb : blankB c
    · cases hf : firstP (c :: m) with
      | none =>
        rw [its_none c m o hb hf] at he
        cases xs with
        | nil =>
          rw [List.nil_append] at he
          injection he with e1
          exact ⟨0, by rw [← e1]; rfl, by simp, rfl⟩
        | cons z xs =>
          rw [List.cons_append] at he
          injection he with _ e2
          simp at e2
      | some y =>
        obtain ⟨t, n⟩ := y
        have hl := first_len (c :: m) (by simp) t n hf
        rw [its_some c m o hb t n hf] at he
        cases xs with
        | nil =>
          rw [List.nil_append] at he
          injection he with e1 e2
          rw [← e1] at hx; cases hx
        | cons z xs =>
          rw [List.cons_append] at he
          injection he with e1 e2
          obtain ⟨d, h1, h2, h3⟩ := its_cut k ((c :: m).drop n) (o + n) (by rw [List.length_drop, List.length_cons]; omega) xs x e2 hx (fun y hy => hok y (by simp [hy]))
          rw [List.length_drop] at h2
          refine ⟨n + d, by rw [h1]; congr 1; omega, by omega, ?_⟩
          have hf2 := first_less (c :: m) (n + d) n t (by simp) hf (by omega)
          have hcons : ∃ r, (c :: m).take (n + d) = c :: r := by
            obtain ⟨q, hq⟩ : ∃ q, n + d = q + 1 := ⟨n + d - 1, by omega⟩
            rw [hq]; exact ⟨_, rfl⟩
          obtain ⟨r, hr⟩ := hcons
          have hdr : ((c :: m).take (n + d)).drop n = ((c :: m).drop n).take d := by rw [List.drop_take]; congr 1; omega
          rw [hr] at hf2 hdr ⊢
          rw [its_some c r o hb t n hf2, hdr, h3, e1]
    · rw [its_blank c m o hb] at he
      obtain ⟨d, h1, h2, h3⟩ := its_cut k m (o + 1) (by omega) xs x he hx hok
      exact ⟨d + 1, by rw [h1]; congr 1; omega, by rw [List.length_cons]; omega, by rw [List.take_succ_cons, its_blank c _ o hb]; exact h3⟩
theorem tw_whole {xs : List IT} (h : ∀ y ∈ xs, y.ok = true) : xs.takeWhile (·.ok) = xs := by
  have := tw_ok xs [] h
  rw [List.append_nil] at this
  rw [this]; simp
theorem toks_yes {q : Bs} (h : ∀ y ∈ its q 0, y.ok = true) : toksL q = (its q 0).map (·.t) := by
  unfold toksL; rw [items_its, tw_whole h]
theorem toks_no {q : Bs} {xs : List IT} {x : IT} (he : its q 0 = xs ++ [x]) (h : ∀ y ∈ xs, y.ok = true) (hx : x.ok = false) : toksL q = xs.map (·.t) := by
  unfold toksL; rw [items_its, he, tw_ok xs [x] h]; simp [hx]
/-- What the law calls all: the tokens up to the first that is none. -/
theorem steps_all (q : Bs) (hl : q.length ≤ 20000) : allL q = (toksL q, 0, 0) ∨ ∃ P : Nat, P ≤ q.length ∧ allL q = ([], (P : Int), 30) ∧ allL (q.take P) = (toksL q, 0, 0) := by
  rcases its_last q.length q 0 (Nat.le_refl _) with h | ⟨xs, x, he, hxs, hx⟩
  · exact .inl (by rw [toks_yes h]; exact all_ok hl h)
  · obtain ⟨d, h1, h2, h3⟩ := its_cut q.length q 0 (Nat.le_refl _) xs x he hx hxs
    refine .inr ⟨d, h2, ?_, ?_⟩
    · rw [all_bad hl he hxs hx, h1, Nat.zero_add]
    · rw [toks_no he hxs hx, all_ok (by rw [List.length_take]; omega) (by rw [h3]; exact hxs), h3]
theorem toks_len (q : Bs) : (toksL q).length ≤ q.length + 1 := by
  unfold toksL
  rw [List.length_map]
  exact Nat.le_trans (List.Sublist.length_le (List.takeWhile_sublist _)) (items_len q)

theorem run_frontT (A : Option Addr) (n c p : Nat) (hp : p ≤ c) (W : World) : (Instr.sliceAt 24 (.slice A n c) none (some (.int .i64 (p : Int))) none).run Try.prog W = .ok (.slice (if c = 0 then A else A.map (·.add 0)) p c) W := by
  have h1 : (p : Int) ≤ (c : Int) := by omega
  simp [Instr.sliceAt, go_sem, Try.underlying24, hp]
theorem TRow.take {w : World} {A : Option Addr} {c : Nat} {l : List TK} (h : TRow w A c l) (p : Nat) : TRow w A c (l.take p) :=
  ⟨by rw [List.length_take]; have := h.le; omega, h.cap, h.nil, fun h0 => by
    rw [List.length_take] at h0
    obtain ⟨b, off, e, hb, hc⟩ := h.at_ (by omega)
    refine ⟨b, off, e, hb, fun j x hj => hc j x ?_⟩
    rw [List.getElem?_take] at hj
    split at hj
    · exact hj
    · cases hj⟩
theorem TRow.front {w : World} {A : Option Addr} {c : Nat} {l : List TK} (h : TRow w A c l) (n p : Nat) (hp : p ≤ l.length) :
    ∃ X, (∀ W, (Instr.sliceAt 24 (.slice A n c) none (some (.int .i64 (p : Int))) none).run Try.prog W = .ok (.slice X p c) W) ∧ TRow w X c (l.take p) := by
  have hle := h.le
  refine ⟨_, run_frontT A n c p (by omega), ?_⟩
  have ht := h.take p
  split
  · exact ht
  · cases A with
    | none => exact ht
    | some a =>
      refine ⟨ht.le, ht.cap, (fun e => by cases e), fun h0 => ?_⟩
      obtain ⟨b, off, e, hb, hc⟩ := ht.at_ h0
      injection e with e
      subst e
      exact ⟨b, off, by simp [add_none], hb, hc⟩

/-- What holds between two rounds of the law's inner loop. -/
structure SI (w : World) (g9 g10 g11 k r : Nat) (D0 : Option Nat) (pre : List TK) (W : World) : Prop where
  l : ∃ A c, Boxed W g11 24 (.slice A pre.length c) ∧ TOwn W w.heap.size A pre.length c pre
  b9 : Boxed W g9 3 (.int .i64 (k : Nat))
  b10 : Boxed W g10 3 (.int .i64 (r : Nat))
  bel : Below w.heap.size w W
  mrk : ∀ d, D0 = some d → W.heap[d]? = some (.deferred (some []))
  few : r = 0 → pre.length ≤ k
structure SX (w : World) (g9 g10 g11 k r : Nat) (D0 : Option Nat) (pre : List TK) (W : World) : Prop where
  x : ∃ a x, pre = a ++ [x] ∧ a.length = k ∧ r = 0 ∧ SI w g9 g10 g11 k r D0 a W
theorem SI.own {w : World} {g9 g10 g11 k r B : Nat} {D0 : Option Nat} (hB : w.heap.size ≤ B) (hD : ∀ d, D0 = some d → d < B) : OwnFrom B (SI w g9 g10 g11 k r D0) := fun pre X Y row hs hg hr => by
  have hr' : ∀ r, row = some r → ∃ o : Obj, X.heap[r]? = some o ∧ o.isCells = false := fun r e => (hr r e).2
  obtain ⟨A, c, h1, h2⟩ := hs.l
  refine ⟨⟨A, c, boxed_cells h1 hg hr', town_cells h2 hg hr'⟩, boxed_cells hs.b9 hg hr', boxed_cells hs.b10 hg hr', hs.bel.grown hg hs.bel.size (fun k e => Nat.le_trans hB (hr k e).1), fun d e => ?_, hs.few⟩
  have := hs.mrk d e
  exact (hg.block d (Array.getElem?_eq_some_iff.1 this).1 (fun e' => by have h1 := (hr d e'.symm).1; have h2 := hD d e; omega)).trans this
theorem SX.own {w : World} {g9 g10 g11 k r B : Nat} {D0 : Option Nat} (hB : w.heap.size ≤ B) (hD : ∀ d, D0 = some d → d < B) : OwnFrom B (SX w g9 g10 g11 k r D0) := fun pre X Y row hs hg hr => by
  obtain ⟨a, x, h1, h2, h3, h4⟩ := hs.x
  exact ⟨⟨a, x, h1, h2, h3, SI.own hB hD a X Y row h4 hg hr⟩⟩
theorem keepF_append {W w1 : World} {base : Nat} {v : Value} {k : Nat} {xs : List Value} {tmp : Obj} (hrow : W.ownsRow base 32 4 v k xs) (hg : (W.alloc tmp).grownBy w1 v.ownBlock) : KeepF W w1 := fun i cs m hi => by
  have h1 := KeepF.alloc W tmp i cs m hi
  refine (hg.block i (Array.getElem?_eq_some_iff.1 h1).1 (fun e => ?_)).trans h1
  rcases hrow.2 with ⟨rfl, _⟩ | ⟨g, cap, cur, rfl, _, hgb, _⟩
  · simp [Value.ownBlock] at e
  · obtain rfl : i = g := by simpa [Value.ownBlock] using e
    rw [hi] at hgb
    simp at hgb
theorem KeepF.setCell {W : World} {g : Nat} {t : TypeId} {u : Value} (h : Boxed W g t u) (ht : t ≠ 49) (v : Value) : KeepF W (W.setCell ⟨g, 0, none⟩ v) := fun i cs m hi => by
  refine (Below.heap_setCell _ _ _ _ (fun e => ?_)).trans hi
  simp at e
  subst e
  rw [show W.heap[i]? = _ from h] at hi
  simp at hi
  exact ht hi.2.1
theorem si_next {w W w1 : World} {g9 g10 g11 k r c' c2 : Nat} {D0 : Option Nat} {pre : List TK} {x : TK} {A' A2 : Option Addr} {tmp : Obj} (hi : SI w g9 g10 g11 k r D0 pre W)
    (hrow : W.ownsRow w.heap.size 32 4 (.slice A' pre.length c') pre.length (flatT pre)) (hgrow : (W.alloc tmp).grownBy w1 (Value.ownBlock (.slice A' pre.length c')))
    (h1 : g9 ≠ g11) (h2 : g10 ≠ g11) (hk : r = 0 → pre.length < k)
    (hv2 : Boxed (w1.setCell ⟨g11, 0, none⟩ (.slice A2 (pre.length + 1) c2)) g11 24 (.slice A2 (pre.length + 1) c2))
    (hr2 : (w1.setCell ⟨g11, 0, none⟩ (.slice A2 (pre.length + 1) c2)).ownsRow w.heap.size 32 4 (.slice A2 (pre.length + 1) c2) (pre.length + 1) (flatT pre ++ flatT [x]))
    (hk2 : KeepsOthers W (w1.setCell ⟨g11, 0, none⟩ (.slice A2 (pre.length + 1) c2)))
    (hb2 : Below w.heap.size W (w1.setCell ⟨g11, 0, none⟩ (.slice A2 (pre.length + 1) c2))) :
    SI w g9 g10 g11 k r D0 (pre ++ [x]) (w1.setCell ⟨g11, 0, none⟩ (.slice A2 (pre.length + 1) c2)) := by
  refine ⟨⟨A2, c2, ?_, ?_⟩, ?_, ?_, hi.bel.trans hb2, fun d e => hk2.same d _ (hi.mrk d e) rfl, fun h => by rw [List.length_append, List.length_singleton]; have := hk h; omega⟩
  · rw [List.length_append]; exact hv2
  · unfold TOwn
    rw [List.length_append, flatT_app]
    exact hr2
  · exact Boxed.other ((hi.b9.alloc _).kept hgrow (hi.b9.not_row (by decide) hrow)) h1 _
  · exact Boxed.other ((hi.b10.alloc _).kept hgrow (hi.b10.not_row (by decide) hrow)) h2 _
theorem uint_rem2 (z : Int) (m : Nat) (hm : m ≤ 4001) : ∃ j : Nat, j ≤ m + 1 ∧ wrap64 ((IntKind.u64.wrap z).tmod ((m : Int) + 2)) = (j : Int) := by
  have h0 : 0 ≤ IntKind.u64.wrap z := by rw [IntKind.wrap_u64]; omega
  rw [Int.tmod_eq_emod_of_nonneg h0]
  have h1 := Int.emod_nonneg (IntKind.u64.wrap z) (show ((m : Int) + 2) ≠ 0 by omega)
  have h2 := Int.emod_lt_of_pos (IntKind.u64.wrap z) (show 0 < (m : Int) + 2 by omega)
  generalize IntKind.u64.wrap z % ((m : Int) + 2) = y at h1 h2
  rw [IntWalk.wrap64_in y (by omega)]
  exact ⟨y.toNat, by omega, by omega⟩
end Go.Proofs.Ythjbmlgjlndihaa
