/- Carried over from an earlier seat. -/
import Derived.Test.YtllkimdlmnjoiaaGreatDoorChecked
import Derived.RangeFuncNested
import Derived.RangeFuncBound
import Derived.RangeFuncCalls
import Derived.RangeFuncLeaves
import Derived.Shelf.Abstract
import Derived.Shelf.RegionOpen
import Derived.WalkKit
import Derived.OwnWalkIn
import Derived.TacticsInMore
import Derived.LoopNIn
import Derived.LoopIn
import Derived.Test.YtllkimdlmnjoiaaGreatDoorELE
import Derived.Maps.AppendAt
namespace Go.Proofs.YtllkimdlmnjoiaaGreatDoor.E8
set_option maxRecDepth 100000
open Go.RowKit

/-- What an iterator hands to rounds: where each round ends as it says, the iterator returns, all of L having come, or a part of it. -/
def Hands {α : Type} (n : Nat) (P : Program) (gf : Nat) (args : Nat → Array Value) (encs : α → Array Value) (L : List α) : Prop :=
  ∀ (l : Nat) (J Jx : List α → World → Prop) (W : World),
    (∀ pre A B, J pre A → Below A.heap.size A B → J pre B) →
    (∀ pre x W1, pre ++ [x] <+: L → J pre W1 → YieldAt Fence.wide (n - 1) P l (encs x) W1 fun e W' => (e = .returned (.bool true) ∧ J (pre ++ [x]) W') ∨ (e = .returned (.bool false) ∧ Jx (pre ++ [x]) W')) →
    J [] W →
    CallsIn Fence.wide n P gf (args l) W fun e W' => (∃ v, e = .returned v) ∧ (J L W' ∨ (∃ pre, pre <+: L ∧ Jx pre W'))

/-- How a round's body is left. -/
def Leaves (B : Nat) (I Ix : World → Prop) (W : World) : Exit → Act → World → Prop
  | .normal, _, W' => KeepsFrom B W W' ∧ I W'
  | .ret, _, W' => KeepsFrom B W W' ∧ Ix W'
  | _, _, _ => False

theorem grown_none {A B : World} (h : Below A.heap.size A B) : A.grownBy B none := ⟨h.os, h.tape, h.output, h.size, fun k hk _ => h.block k hk⟩
theorem OwnFrom.below {β : Type} {B : Nat} {I : β → World → Prop} (h : OwnFrom B I) {s : β} {X Y : World} (hs : I s X) (hb : Below X.heap.size X Y) : I s Y :=
  h s X Y none hs (grown_none hb) (fun _ e => by cases e)

theorem range_recv {α : Type} {n : Nat} {P : Program} {g : Operand} {ps : Array Tmp} {assign body : Code} {Q : Exit → Act → World → Prop} {a : Act} {w : World}
    {gf : Nat} {rv : Value} {encs : α → Array Value} {L : List α}
    (hg : a.eval g = .func (.func gf) #[rv] #[]) (eg : ∀ args w, (callFunc gf args).run P w = .ok (.enter gf args) w) (hps : ∀ x, (encs x).size = ps.size)
    (hC : Hands (n - 1) P gf (fun l => #[rv, .func (.yield l) #[] #[]]) encs L)
    (I Ix : List α → World → Prop) (hI : OwnFrom w.heap.size I) (hIx : OwnFrom w.heap.size Ix) (h0 : I [] w)
    (Ax : α → Act → World → Prop) (hAx : ∀ x a', OwnFrom w.heap.size (fun (_ : Unit) W => Ax x a' W))
    (hassign : ∀ (l : Nat) (pre : List α) (x : α) (W : World) (K : Act → World → Prop), I pre W → (∀ a' W', KeepsFrom w.heap.size W W' → I pre W' → Ax x a' W' → K a' W') →
      assign.wpIn (Fence.wide.inRound l) (n - 1 - 1) P (Exit.then K (fun _ _ _ => False)) { tmps := (ps.zip (encs x)).foldl (fun t (p, v) => t.setIfInBounds p v) a.tmps, defers := [] } W)
    (hbody : ∀ (l : Nat) (pre : List α) (x : α) (a' : Act) (W : World), w.heap.size ≤ l → pre ++ [x] <+: L → I pre W → Ax x a' W →
      body.wpIn (Fence.wide.inRound l) (n - 1 - 1) P (Leaves w.heap.size (I (pre ++ [x])) (Ix (pre ++ [x])) W) a' W)
    (hdone : ∀ (D : Nat) (W : World), w.heap.size ≤ D → I L W → W.heap[D]? = some (.deferred (some [])) → Q .normal { a with defers := { target := .collected D, args := #[] } :: a.defers } W)
    (hstop : ∀ (D : Nat) (pre : List α) (W : World), w.heap.size ≤ D → pre <+: L → Ix pre W → W.heap[D]? = some (.deferred (some [])) → Code.ret.wpIn Fence.wide n P Q { a with defers := { target := .collected D, args := #[] } :: a.defers } W) :
    (Code.rangeFunc g ps assign body).wpIn Fence.wide n P Q a w := by
  refine wpIn_rangeFunc fun fn hfn => ?_
  -- the loop's record, by its state and the jump that waits
  let rec0 : LoopState → Option Code → Loop := fun st pe => { state := st, pending := pe, fn, tmps := a.tmps, params := ps, assign, body, defers := w.heap.size }
  generalize hrec : rec0 = rec
  have rS : ∀ st pe, (rec st pe).state = st := fun st pe => by rw [← hrec]
  have rP : ∀ st pe, (rec st pe).pending = pe := fun st pe => by rw [← hrec]
  have rW : ∀ st pe st' pe', { rec st pe with state := st', pending := pe' } = rec st' pe' := fun st pe st' pe' => by rw [← hrec]
  have rB : ∀ st pe st', { rec st pe with state := st' } = rec st' pe := fun st pe st' => by rw [← hrec]
  generalize hW1 : (w.alloc (.deferred (some []))).alloc (.loop (rec .ready none)) = W1
  have z1 : W1.heap.size = w.heap.size + 1 + 1 := by rw [← hW1]; simp
  have dL : W1.heap[w.heap.size + 1]? = some (.loop (rec .ready none)) := by
    rw [← hW1]; have := World.alloc_heap_new (w.alloc (.deferred (some []))) (.loop (rec .ready none)); rwa [World.size_alloc] at this
  have dD : W1.heap[w.heap.size]? = some (.deferred (some [])) := by
    rw [← hW1]; exact (Below.heap_alloc _ _ _ (by simp)).trans (World.alloc_heap_new w _)
  have dI : I [] W1 := by rw [← hW1]; exact hI.alloc _ (hI.alloc _ h0)
  refine ⟨w.heap.size + 1, [{ target := .collected w.heap.size, args := #[] }], W1, { target := .fn (.func gf) #[], args := #[rv, .func (.yield (w.heap.size + 1)) #[] #[]] }, W1, gf,
    #[rv, .func (.yield (w.heap.size + 1)) #[] #[]], W1, ?_, ?_, (fun _ _ => trivial), ?_, (fun h => by simp [Fence.wide] at h), ?_⟩
  · rw [← hW1, ← hrec]; exact run_enterLoop_outer _ _ _ _ _
  · simp only [resolve, hg]
    simp [go_sem]
  · simp [invoke, go_sem, eg]
  -- what holds between two rounds, and where one has said no
  refine (hC (w.heap.size + 1)
    (fun pre W => I pre W ∧ W.heap[w.heap.size + 1]? = some (.loop (rec .ready none)) ∧ W.heap[w.heap.size]? = some (.deferred (some [])))
    (fun pre W => Ix pre W ∧ W.heap[w.heap.size + 1]? = some (.loop (rec .done (some .ret))) ∧ W.heap[w.heap.size]? = some (.deferred (some [])))
    W1 ?stable ?round ⟨dI, dL, dD⟩).mono ?behind
  case stable =>
    rintro pre A B ⟨hi, hl, hd⟩ hb
    exact ⟨OwnFrom.below hI hi hb, (hb.block _ (Array.getElem?_eq_some_iff.1 hl).1).trans hl, (hb.block _ (Array.getElem?_eq_some_iff.1 hd).1).trans hd⟩
  case round =>
    rintro pre x W hin ⟨hi, hl, hd⟩
    have hy := run_yield (P := P) (args := encs x) hl (by rw [← hrec]; exact hps x)
    rw [← hrec] at hy
    refine ⟨fn, _, assign, body, hy, roundIn_of_wpIn hfn (hassign _ pre x W _ hi ?_)⟩
    intro a' Wa ka ia xa
    have la := ka.same _ _ (Nat.le_succ _) hl rfl
    have da := ka.same _ _ (Nat.le_refl _) hd rfl
    have lt := (Array.getElem?_eq_some_iff.1 la).1
    refine ⟨_, run_beginRound la (rS _ _), ?_⟩
    rw [rB]
    have lb : (Wa.putObj (w.heap.size + 1) (.loop (rec .busy none))).heap[w.heap.size + 1]? = some (.loop (rec .busy none)) := World.putObj_heap_same lt
    have db : (Wa.putObj (w.heap.size + 1) (.loop (rec .busy none))).heap[w.heap.size]? = some (.deferred (some [])) := (World.putObj_heap_other (by omega)).trans da
    have ib := hI.putObj (.loop (rec .busy none)) ia (Nat.le_succ _) la rfl
    have xb := (hAx x a').putObj (s := ()) (.loop (rec .busy none)) xa (Nat.le_succ _) la rfl
    generalize Wa.putObj (w.heap.size + 1) (.loop (rec .busy none)) = Wb at lb db ib xb ⊢
    refine wpIn_mono (hbody _ pre x a' Wb (Nat.le_succ _) hin ib xb) ?_
    rintro e a3 W3 hp
    match e, hp with
    | .normal, ⟨k3, i3⟩ =>
      have l3 := k3.same _ _ (Nat.le_succ _) lb rfl
      have d3 := k3.same _ _ (Nat.le_refl _) db rfl
      have hr := run_endRound (P := P) none l3
      rw [rW] at hr
      exact ⟨_, _, hr, .inl ⟨rfl, hI.putObj _ i3 (Nat.le_succ _) l3 rfl, World.putObj_heap_same (Array.getElem?_eq_some_iff.1 l3).1, (World.putObj_heap_other (by omega)).trans d3⟩⟩
    | .ret, ⟨k3, i3⟩ =>
      have l3 := k3.same _ _ (Nat.le_succ _) lb rfl
      have d3 := k3.same _ _ (Nat.le_refl _) db rfl
      have hr := run_endRound (P := P) (some .ret) l3
      rw [rW] at hr
      exact ⟨_, _, hr, .inr ⟨rfl, hIx.putObj _ i3 (Nat.le_succ _) l3 rfl, World.putObj_heap_same (Array.getElem?_eq_some_iff.1 l3).1, (World.putObj_heap_other (by omega)).trans d3⟩⟩
  case behind =>
    rintro e W2 ⟨⟨v, rfl⟩, (⟨hi, hl, hd⟩ | ⟨pre, hSp, hi, hl, hd⟩)⟩
    · have := run_endLoop (P := P) hl (by rw [rS]; simp)
      rw [rP] at this
      exact ⟨none, _, this, hdone _ _ (Nat.le_refl _) (hI.putObj _ hi (Nat.le_succ _) hl rfl) ((World.putObj_heap_other (by omega)).trans hd)⟩
    · have := run_endLoop (P := P) hl (by rw [rS]; simp)
      rw [rP] at this
      exact ⟨some .ret, _, this, hstop _ pre _ (Nat.le_refl _) hSp (hIx.putObj _ hi (Nat.le_succ _) hl rfl) ((World.putObj_heap_other (by omega)).trans hd)⟩

end Go.Proofs.YtllkimdlmnjoiaaGreatDoor.E8

/- Carried over from an earlier seat. -/
namespace Go.Proofs.YtllkimdlmnjoiaaGreatDoor.E8
set_option maxRecDepth 100000
set_option maxRecDepth 100000
open Go.RowKit Go.Shelf
attribute [local go_sem] Oper.semAt_some

/-- What the iterator hands on: a token; or the place where none is. -/
structure IT where
  t : TK
  ok : Bool
abbrev TK.at_ (t : TK) (q : Int) : TK := ⟨t.k, q, t.s, t.n⟩
def encI (x : IT) : Array Value := #[x.t.v, .bool x.ok]
/-- The tokens from a place on that is no blank's. -/
def lexA : Nat → Bs → Nat → List IT
  | 0, _, _ => []
  | f + 1, l, q => if q < l.length then
      match firstP (l.drop q) with
      | none => [⟨TK.zero.at_ q, false⟩]
      | some r => ⟨r.1.at_ q, true⟩ :: lexA f l (runN blankB l (q + r.2))
    else []
def itemsL (l : Bs) : List IT := lexA (l.length + 1) l (runN blankB l 0)

theorem textP_len : ∀ (k : Nat) (l acc : Bs) (i : Nat) (b : Bs) (n : Nat), l.length ≤ k → textP l acc i = some (b, n) → i + 1 ≤ n ∧ n ≤ i + l.length
  | 0, l, acc, i, b, n, hk, h => by
    obtain rfl : l = [] := List.eq_nil_of_length_eq_zero (by omega)
    rw [textP_nil] at h; cases h
  | k + 1, [], acc, i, b, n, hk, h => by rw [textP_nil] at h; cases h
  | k + 1, c :: r, acc, i, b, n, hk, h => by
    rw [textP_cons] at h
    rw [List.length_cons] at hk ⊢
    split at h
    · cases h
    · split at h
      · injection h with h; injection h with h1 h2; omega
      · split at h
        · match r, h with
          | [], h => cases h
          | d :: r', h =>
            simp only at h
            split at h
            · split at h
              · cases h
              · rw [List.length_cons] at hk ⊢
                have := textP_len k r' _ _ _ _ (by omega) h
                omega
            · cases h
        · split at h
          · cases h
          · have := textP_len k r _ _ _ _ (by omega) h
            omega
theorem first_len (l : Bs) (h0 : 0 < l.length) (t : TK) (n : Nat) (h : firstP l = some (t, n)) : 1 ≤ n ∧ n ≤ l.length := by
  have h1 := runN_le wordB l 1 (by omega)
  have h2 := runN_ge wordB l 1
  unfold firstP at h
  split at h
  · injection h with h; injection h with h3 h4; omega
  · split at h
    · unfold numP at h
      split at h
      · injection h with h; injection h with h3 h4; rw [List.length_take] at h4; omega
      · cases h
    · split at h
      · unfold textO at h
        cases hr : textP (l.drop 1) [] 1 with
        | none => rw [hr] at h; cases h
        | some r =>
          obtain ⟨b, m⟩ := r
          rw [hr] at h
          injection h with h; injection h with h3 h4
          have := textP_len _ _ _ _ _ _ (Nat.le_refl _) hr
          rw [List.length_drop] at this
          simp at h4
          omega
      · split at h
        · injection h with h; injection h with h3 h4; omega
        · cases h

theorem lexA_end (f : Nat) (l : Bs) (q : Nat) (h : ¬ q < l.length) : lexA f l q = [] := by
  cases f with
  | zero => rfl
  | succ f => rw [lexA, if_neg h]
theorem lexA_none (f : Nat) (l : Bs) (q : Nat) (hf : 0 < f) (h : q < l.length) (hn : firstP (l.drop q) = none) : lexA f l q = [⟨TK.zero.at_ q, false⟩] := by
  obtain ⟨f, rfl⟩ : ∃ g, f = g + 1 := ⟨f - 1, by omega⟩
  rw [lexA, if_pos h, hn]
theorem lexA_some (f : Nat) (l : Bs) (q : Nat) (h : q < l.length) (t : TK) (n : Nat) (hn : firstP (l.drop q) = some (t, n)) : lexA (f + 1) l q = ⟨t.at_ q, true⟩ :: lexA f l (runN blankB l (q + n)) := by
  rw [lexA, if_pos h, hn]

theorem lexA_len : ∀ (f : Nat) (l : Bs) (q : Nat), (lexA f l q).length ≤ f
  | 0, _, _ => by simp [lexA]
  | f + 1, l, q => by
    rw [lexA]
    split
    · split
      · simp
      · have := lexA_len f l
        rw [List.length_cons]
        exact Nat.succ_le_succ (this _)
    · simp
theorem items_len (l : Bs) : (itemsL l).length ≤ l.length + 1 := lexA_len _ _ _
theorem tail_bs (s : ByteArray) (q : Nat) : s.extract q s.size = bs (s.toList.drop q) := by rw [bs_cut, ← toList_size, List.take_length]

set_option maxHeartbeats 4000000 in
theorem each_hands (s : ByteArray) (hs : s.size ≤ 20000) (n : Nat) (hn : 3 ≤ n) :
    Hands n Tryz.prog 40 (fun l => #[.string s, .func (.yield l) #[] #[]]) encI (itemsL s.toList) := by
  intro l J Jx W hst hY h0
  have hn1 : 1 ≤ n := by omega
  have SL := toList_size s
  have HI : Hid (itemsL s.toList = lexA (s.size + 1) s.toList (runN blankB s.toList 0)) := Lib.hid (by unfold itemsL; rw [SL])
  generalize itemsL s.toList = xs at HI hY ⊢
  have hq0 := runN_le blankB s.toList 0 (by omega)
  rw [SL] at hq0
  refine callsIn_of_wp Tryz.func40 rfl trivial ?_ rfl
  simp only [Tryz.ntmps40, List.size_toArray, List.length_cons, List.length_nil, Nat.reduceAdd, Nat.reduceSub, Array.replicate_succ, Array.replicate_zero, List.push_toArray, List.append_toArray, List.nil_append, List.cons_append]
  have cP : Hid (∀ w, Calls Tryz.prog 62 #[.string s, .int .i64 0] w fun e w' => e = .returned (.int .i64 (runN blankB s.toList 0 : Nat)) ∧ w = w') := Lib.hid (fun w => past_any s 0 hs (by omega) w)
  generalize hz : runN blankB s.toList 0 = z at HI hq0 cP
  have HZ := Lib.hid hz
  clear hz SL
  gi_wp2_with fail
  refine ⟨trivial, (callsIn_wide.2 (cP.out _)).mono ?_⟩
  rintro e w' ⟨rfl, rfl⟩
  gi_wp2_with fail
  gi_loopw [4] (fun v wr => ∃ (pre : List IT) (p f : Nat), v = .int .i64 p ∧ p ≤ s.size ∧ s.size < f + p ∧ Hid (xs = pre ++ lexA f s.toList p) ∧ Hid (J pre wr))
    (fun v _ => s.size - (intOf v).toNat)
  case atStart => exact ⟨[], z, s.size + 1, rfl, hq0, by omega, HI, Lib.hid h0⟩
  case round =>
    obtain ⟨pre, p, f, rfl, hp, hf, hx, hJ⟩ := hrel
    by_cases hlt : p < s.size
    · have hdl : 0 < (s.toList.drop p).length := by rw [List.length_drop, toList_size]; omega
      have hfl := fun t m => first_len (s.toList.drop p) hdl t m
      rw [List.length_drop, toList_size] at hfl
      have hxn := lexA_none f s.toList p (by omega) (by rw [toList_size]; omega)
      have hxs := lexA_some (f - 1) s.toList p (by rw [toList_size]; omega)
      rw [show f - 1 + 1 = f from by omega] at hxs
      have cF : Hid (∀ W, Calls Tryz.prog 63 #[.string (s.extract p s.size)] W (FirstPost W (firstP (s.toList.drop p)))) := Lib.hid (fun W => by
        have e := tail_bs s p
        have hz : (s.extract p s.size).size = s.size - p := by rw [e, bs_size, List.length_drop, toList_size]
        have := first_any (s.extract p s.size) (by omega) (by omega) W
        rwa [show (s.extract p s.size).toList = s.toList.drop p from by rw [e, bs_toList]] at this)
      unfold FirstPost at cF
      generalize firstP (s.toList.drop p) = G at cF hfl hxn hxs
      cases G with
      | none =>
        have HX : Hid (xs = pre ++ [⟨TK.zero.at_ p, false⟩]) := Lib.hid (by rw [hx.out, hxn rfl])
        have cZ : Hid (∀ W, Calls Tryz.prog 63 #[.string (s.extract p s.size)] W fun e w' => e = .returned (.tuple #[.agg #[.int .i64 0, .int .i64 0, .string ⟨#[]⟩, .int .i64 0], .int .i64 0, .bool false]) ∧ Below W.heap.size W w') := cF
        clear cF hfl hxn hxs hx
        gi_wp2_with fail
        refine ⟨trivial, (callsIn_wide.2 (cZ.out _)).mono ?_⟩
        rintro e w1 ⟨rfl, hb⟩
        have hB2 : Below wr.heap.size wr (w1.alloc (.cells #[.int .i64 0, .int .i64 p, .string ⟨#[]⟩, .int .i64 0] 42)) :=
          hb.alloc hb.size _
        obtain ⟨fn, tmps, assign, body, hy0, hR⟩ := hY pre ⟨TK.zero.at_ p, false⟩ _ (by rw [HX.out]; exact List.prefix_refl _) (hst _ _ _ hJ.out hB2)
        have hy : (Instr.yield l #[.agg #[.int .i64 0, .int .i64 p, .string ⟨#[]⟩, .int .i64 0], .bool false]).run Tryz.prog (w1.alloc (.cells #[.int .i64 0, .int .i64 p, .string ⟨#[]⟩, .int .i64 0] 42)) = _ := hy0
        have HRR := Lib.hid hR
        clear hy0 hB2 hb hR
        gi_wp2_with fail
        refine HRR.out.mono ?_
        rintro e W3 (⟨rfl, hJ3⟩ | ⟨rfl, hJx3⟩)
        · have HJ := Lib.hid hJ3
          clear hJ3 hy
          gi_wp2_with fail
          refine bodyPost_ret (results_none rfl _ _ _) rfl ?_
          exact ⟨⟨_, rfl⟩, .inl (by rw [HX.out]; exact HJ.out)⟩
        · have HJ := Lib.hid hJx3
          clear hJx3 hy
          gi_wp2_with fail
          refine bodyPost_ret (results_none rfl _ _ _) rfl ?_
          exact ⟨⟨_, rfl⟩, .inr ⟨_, by rw [HX.out]; exact List.prefix_refl _, HJ.out⟩⟩
      | some r =>
        obtain ⟨T, M⟩ := r
        obtain ⟨hM1, hM2⟩ := hfl T M rfl
        have HX : Hid (xs = pre ++ (⟨T.at_ p, true⟩ :: lexA (f - 1) s.toList (runN blankB s.toList (p + M)))) := Lib.hid (by rw [hx.out, hxs T M rfl])
        have cZ : Hid (∀ W, Calls Tryz.prog 63 #[.string (s.extract p s.size)] W fun e w' => e = .returned (.tuple #[.agg #[.int .i64 T.k, .int .i64 T.p, .string (bs T.s), .int .i64 T.n], .int .i64 (M : Int), .bool true]) ∧ Below W.heap.size W w') := cF
        have hq1 := runN_le blankB s.toList (p + M) (by rw [toList_size]; omega)
        rw [toList_size] at hq1
        have hq2 := runN_ge blankB s.toList (p + M)
        have cP : Hid (∀ w, Calls Tryz.prog 62 #[.string s, .int .i64 ((p : Int) + (M : Int))] w fun e w' => e = .returned (.int .i64 (runN blankB s.toList (p + M) : Nat)) ∧ w = w') := Lib.hid (fun w => past_any s (p + M) hs (by omega) w)
        generalize runN blankB s.toList (p + M) = z' at HX hq1 hq2 cP
        have i1 : (0 : Int) ≤ (M : Int) := by omega
        have i2 : (p : Int) + (M : Int) ≤ (s.size : Int) := by omega
        have i3 : (s.size : Int) ≤ 20000 := by omega
        clear cF hfl hxn hxs hx
        gi_wp2_with fail
        refine ⟨trivial, (callsIn_wide.2 (cZ.out _)).mono ?_⟩
        rintro e w1 ⟨rfl, hb⟩
        have hB2 : Below wr.heap.size wr (w1.alloc (.cells #[.int .i64 T.k, .int .i64 p, .string (bs T.s), .int .i64 T.n] 42)) :=
          hb.alloc hb.size _
        obtain ⟨fn, tmps, assign, body, hy0, hR⟩ := hY pre ⟨T.at_ p, true⟩ _ ⟨lexA (f - 1) s.toList z', by rw [HX.out]; simp⟩ (hst _ _ _ hJ.out hB2)
        have hy : (Instr.yield l #[.agg #[.int .i64 T.k, .int .i64 p, .string (bs T.s), .int .i64 T.n], .bool true]).run Tryz.prog (w1.alloc (.cells #[.int .i64 T.k, .int .i64 p, .string (bs T.s), .int .i64 T.n] 42)) = _ := hy0
        have HRR := Lib.hid hR
        clear hy0 hB2 hb hR
        gi_wp2_with fail
        refine HRR.out.mono ?_
        rintro e W3 (⟨rfl, hJ3⟩ | ⟨rfl, hJx3⟩)
        · have HJ := Lib.hid hJ3
          clear hJ3 hy
          gi_wp2_with fail
          refine ⟨trivial, (callsIn_wide.2 (cP.out _)).mono ?_⟩
          rintro e w' ⟨rfl, rfl⟩
          gi_wp2_with fail
          go_roundw
          case rel => exact ⟨pre ++ [⟨T.at_ p, true⟩], z', f - 1, rfl, by omega, by omega, Lib.hid (by rw [HX.out]; simp), HJ⟩
          case measure => simp [intOf]; omega
        · have HJ := Lib.hid hJx3
          clear hJx3 hy
          gi_wp2_with fail
          refine bodyPost_ret (results_none rfl _ _ _) rfl ?_
          exact ⟨⟨_, rfl⟩, .inr ⟨_, ⟨lexA (f - 1) s.toList z', by rw [HX.out]; simp⟩, HJ.out⟩⟩
    · have HX : Hid (xs = pre) := Lib.hid (by rw [hx.out, lexA_end _ _ _ (by rw [toList_size]; omega), List.append_nil])
      gi_wp2
      go_end0
      exact ⟨⟨_, rfl⟩, .inl (by rw [HX.out]; exact hJ.out)⟩
end Go.Proofs.YtllkimdlmnjoiaaGreatDoor.E8

/- Carried over from an earlier seat. -/
namespace Go.Proofs.YtllkimdlmnjoiaaGreatDoor.E8
set_option maxRecDepth 100000
set_option maxRecDepth 100000
open Go.RowKit Go.Shelf Go.Sort
attribute [local go_sem] Oper.semAt_some

/-- A slice that reads as bytes. -/
structure BRow (w : World) (A : Option Addr) (c : Nat) (l : Bs) : Prop where
  le : l.length ≤ c
  cap : c ≤ maxLen
  nil : A = none → c = 0
  at_ : 0 < l.length → ∃ b off, A = some ⟨b, off, none⟩ ∧ b < w.heap.size ∧ ∀ (j : Nat) x, l[j]? = some x → w.cell? ⟨b, off + j, none⟩ = some (u8v x)
theorem BRow.next {a b : World} {A : Option Addr} {c : Nat} {l : Bs} (h : BRow a A c l) (hb : Below a.heap.size a b) : BRow b A c l :=
  ⟨h.le, h.cap, h.nil, fun h0 => by
    obtain ⟨g, off, e, hg, hc⟩ := h.at_ h0
    exact ⟨g, off, e, Nat.lt_of_lt_of_le hg hb.size, fun j x hj => cell_below hb (hc j x hj) hg⟩⟩
theorem BRow.conv {w : World} {A : Option Addr} {c : Nat} {l : Bs} (h : BRow w A c l) (t : Nat) (hu : Tryz.prog.underlying t = some .string) : (convert 31 t (.slice A l.length c)).run Tryz.prog w = .ok (.string (bs l)) w := by
  cases A with
  | none =>
    have h0 := h.nil rfl
    have h1 := h.le
    obtain rfl : l = [] := List.eq_nil_of_length_eq_zero (by omega)
    exact run_convert_bytes_nil w 31 5 Tryz.underlying31 Tryz.underlying5 0 c t hu
  | some a =>
    refine run_convert_bytes_back w 31 t 5 a c l Tryz.underlying31 Tryz.underlying5 hu (fun j hj => ?_)
    obtain ⟨b, off, e, hb, hc⟩ := h.at_ (by omega)
    injection e with e
    subst e
    rw [add_none]
    exact hc j _ (List.getElem?_eq_getElem hj)

/-- What All tells: tokens, a place, an error. -/
def allL (l : Bs) : List TK × Int × Int :=
  if 20000 < l.length then ([], 0, 3)
  else match (itemsL l).find? (fun x => !x.ok) with
    | none => ((itemsL l).map (·.t), 0, 0)
    | some x => ([], x.t.p, 30)
theorem all_yes {l : Bs} (h : ¬ 20000 < l.length) (hx : ∀ x ∈ itemsL l, x.ok = true) : allL l = ((itemsL l).map (·.t), 0, 0) := by
  unfold allL
  rw [if_neg h, List.find?_eq_none.2 (fun x hm => by simp [hx x hm])]
theorem all_no {l : Bs} (h : ¬ 20000 < l.length) (a b : List IT) (x : IT) (he : itemsL l = a ++ x :: b) (ha : ∀ y ∈ a, y.ok = true) (hx : x.ok = false) : allL l = ([], x.t.p, 30) := by
  unfold allL
  rw [if_neg h, he, List.find?_append, List.find?_eq_none.2 (fun y hm => by simp [ha y hm])]
  simp [hx]
def AllPost (w : World) (l : Bs) (e : Ending) (w' : World) : Prop :=
  ∃ A c, e = .returned (.tuple #[.slice A (allL l).1.length c, .int .i64 (allL l).2.1, .int .i64 (allL l).2.2]) ∧ TOwn w' w.heap.size A (allL l).1.length c (allL l).1 ∧ Below w.heap.size w w'

theorem info32 : (Tryz.prog.info? 42).map (fun i => (i.zero, i.size, i.bytes)) = some (some (.agg #[.int .i64 0, .int .i64 0, .string ⟨#[]⟩, .int .i64 0]), 4, 40) := by kernel_rfl
theorem flatT_one (t : TK) : flatT [t] = [.int .i64 t.k, .int .i64 t.p, .string (bs t.s), .int .i64 t.n] := rfl
theorem cell_tok_new (w : World) (t : TK) : ∀ j u, (flatT [t])[j]? = some u → (w.alloc (.cells #[.int .i64 t.k, .int .i64 t.p, .string (bs t.s), .int .i64 t.n] 42)).cell? ((⟨w.heap.size, 0, none⟩ : Addr).add j) = some u := by
  intro j u hj
  have hc := (Tok.new w t).cells
  rw [flatT_one] at hj
  rw [add_none]
  match j, hj with
  | 0, hj => injection hj with hj; subst hj; exact hc.c0
  | 1, hj => injection hj with hj; subst hj; exact hc.c1
  | 2, hj => injection hj with hj; subst hj; exact hc.c2
  | 3, hj => injection hj with hj; subst hj; exact hc.c3

/-- What holds between two rounds of All's loop. -/
structure LI (w : World) (g1 g2 g3 : Nat) (pre : List IT) (W : World) : Prop where
  ok : ∀ x ∈ pre, x.ok = true
  l : ∃ A c, Boxed W g3 37 (.slice A pre.length c) ∧ TOwn W w.heap.size A pre.length c (pre.map (·.t))
  r0 : Boxed W w.heap.size 37 (.slice none 0 0)
  r1 : Boxed W g1 3 (.int .i64 0)
  r2 : Boxed W g2 25 (.int .i64 0)
  bel : Below w.heap.size w W
/-- Where a round has returned. -/
structure LX (w : World) (g1 g2 : Nat) (pre : List IT) (W : World) : Prop where
  no : ∃ a x, pre = a ++ [x] ∧ (∀ y ∈ a, y.ok = true) ∧ x.ok = false ∧ Boxed W g1 3 (.int .i64 x.t.p)
  r0 : Boxed W w.heap.size 37 (.slice none 0 0)
  r2 : Boxed W g2 25 (.int .i64 30)
  bel : Below w.heap.size w W
theorem boxed_cells {X Y : World} {row : Option Nat} {g : Nat} {t : TypeId} {v : Value} (h : Boxed X g t v) (hg : X.grownBy Y row) (hr : ∀ r, row = some r → ∃ o : Obj, X.heap[r]? = some o ∧ o.isCells = false) : Boxed Y g t v :=
  h.kept hg (fun e' => by obtain ⟨o, ho, hc⟩ := hr g e'.symm; rw [show X.heap[g]? = _ from h] at ho; cases ho; cases hc)
theorem town_cells {X Y : World} {row : Option Nat} {base n c : Nat} {A : Option Addr} {l : List TK} (h : TOwn X base A n c l) (hg : X.grownBy Y row) (hr : ∀ r, row = some r → ∃ o : Obj, X.heap[r]? = some o ∧ o.isCells = false) : TOwn Y base A n c l := by
  refine ⟨h.1, ?_⟩
  rcases h.2 with e | ⟨g', cap, cur, e, h1, h2, h3⟩
  · exact .inl e
  · exact .inr ⟨g', cap, cur, e, h1, (hg.block g' (Array.getElem?_eq_some_iff.1 h2).1 (fun e' => by obtain ⟨o, ho, hc⟩ := hr g' e'.symm; rw [h2] at ho; cases ho; cases hc)).trans h2, h3⟩
theorem tok_cells {X Y : World} {row : Option Nat} {g : Nat} {t : TK} (h : Tok X g t) (hg : X.grownBy Y row) (hr : ∀ r, row = some r → ∃ o : Obj, X.heap[r]? = some o ∧ o.isCells = false) : Tok Y g t :=
  h.kept (hg.block g h.lt (fun e' => by obtain ⟨o, ho, hc⟩ := hr g e'.symm; rw [show X.heap[g]? = _ from h] at ho; cases ho; cases hc))
theorem LI.own {w : World} {g1 g2 g3 B : Nat} (hB : w.heap.size ≤ B) : OwnFrom B (LI w g1 g2 g3) := fun pre X Y row hs hg hr => by
  have hr' : ∀ r, row = some r → ∃ o : Obj, X.heap[r]? = some o ∧ o.isCells = false := fun r e => (hr r e).2
  obtain ⟨A, c, h1, h2⟩ := hs.l
  exact ⟨hs.ok, ⟨A, c, boxed_cells h1 hg hr', town_cells h2 hg hr'⟩, boxed_cells hs.r0 hg hr', boxed_cells hs.r1 hg hr', boxed_cells hs.r2 hg hr', hs.bel.grown hg hs.bel.size (fun k e => Nat.le_trans hB (hr k e).1)⟩
theorem LX.own {w : World} {g1 g2 B : Nat} (hB : w.heap.size ≤ B) : OwnFrom B (LX w g1 g2) := fun pre X Y row hs hg hr => by
  have hr' : ∀ r, row = some r → ∃ o : Obj, X.heap[r]? = some o ∧ o.isCells = false := fun r e => (hr r e).2
  obtain ⟨a, x, h1, h2, h3, h4⟩ := hs.no
  exact ⟨⟨a, x, h1, h2, h3, boxed_cells h4 hg hr'⟩, boxed_cells hs.r0 hg hr', boxed_cells hs.r2 hg hr', hs.bel.grown hg hs.bel.size (fun k e => Nat.le_trans hB (hr k e).1)⟩

/-- What a row of one's own keeps through a store elsewhere. -/
theorem TOwn.set {w : World} {base n c : Nat} {A : Option Addr} {l : List TK} (h : TOwn w base A n c l) {g : Nat} {t : TypeId} {u : Value} (hb : Boxed w g t u) (ht : t ≠ 42) (v : Value) : TOwn (w.setCell ⟨g, 0, none⟩ v) base A n c l := by
  refine ⟨h.1, ?_⟩
  rcases h.2 with e | ⟨g', cap, cur, e, h1, h2, h3⟩
  · exact .inl e
  · refine .inr ⟨g', cap, cur, e, h1, ?_, h3⟩
    rw [Below.heap_setCell _ _ _ _ (fun e' => ?_)]
    · exact h2
    · simp at e'
      subst e'
      rw [show w.heap[g']? = _ from hb] at h2
      simp at h2
      exact ht h2.2

theorem flatT_cell (t : TK) : ∀ u ∈ flatT [t], u.oneCell' = true := by
  intro u hu
  rw [flatT_one] at hu
  simp at hu
  rcases hu with rfl | rfl | rfl | rfl <;> rfl
theorem Boxed.drew {W : World} {g : Nat} {t : TypeId} {v : Value} (h : Boxed W g t v) : Boxed W.drew g t v := h
theorem lx_end {w W : World} {g1 g2 g3 : Nat} {pre : List IT} {x : IT} (hi : LI w g1 g2 g3 pre W) (h1 : w.heap.size < g1) (h2 : w.heap.size < g2) (h3 : g1 < g2) (hx : x.ok = false) (B : Nat) :
    KeepsFrom B W ((((W.setCell ⟨w.heap.size, 0, none⟩ (.slice none 0 0)).setCell ⟨g1, 0, none⟩ (.int .i64 x.t.p)).setCell ⟨g2, 0, none⟩ (.int .i64 30)).drew) ∧
    LX w g1 g2 (pre ++ [x]) ((((W.setCell ⟨w.heap.size, 0, none⟩ (.slice none 0 0)).setCell ⟨g1, 0, none⟩ (.int .i64 x.t.p)).setCell ⟨g2, 0, none⟩ (.int .i64 30)).drew) := by
  refine ⟨((((KeepsOthers.setCell _ _ _).trans (KeepsOthers.setCell _ _ _)).trans (KeepsOthers.setCell _ _ _)).trans (KeepsOthers.drew _)).from _, ⟨pre, x, rfl, hi.ok, hx, ?_⟩, ?_, ?_, ?_⟩
  · exact Boxed.drew (Boxed.other ((Boxed.other hi.r1 (by omega) _).set _) (by omega) _)
  · exact Boxed.drew (Boxed.other (Boxed.other (hi.r0.set _) (by omega) _) (by omega) _)
  · exact Boxed.drew ((Boxed.other (Boxed.other hi.r2 (by omega) _) (by omega) _).set _)
  · exact (((hi.bel.setCell (p := ⟨w.heap.size, 0, none⟩) (Nat.le_refl _) _).setCell (p := ⟨g1, 0, none⟩) (Nat.le_of_lt h1) _).setCell (p := ⟨g2, 0, none⟩) (Nat.le_of_lt h2) _).drew

theorem li_next {w W w1 : World} {g1 g2 g3 c' c2 : Nat} {pre : List IT} {x : IT} {A' A2 : Option Addr} {tmp : Obj} (hi : LI w g1 g2 g3 pre W)
    (hrow : W.ownsRow w.heap.size 42 4 (.slice A' pre.length c') pre.length (flatT (pre.map (·.t)))) (hgrow : (W.alloc tmp).grownBy w1 (Value.ownBlock (.slice A' pre.length c')))
    (_h1 : w.heap.size < g1) (h2 : w.heap.size < g2) (h3 : g1 < g3) (_h4 : g1 < g2) (hx : x.ok = true)
    (hv2 : Boxed (w1.setCell ⟨g3, 0, none⟩ (.slice A2 (pre.length + 1) c2)) g3 37 (.slice A2 (pre.length + 1) c2))
    (hr2 : (w1.setCell ⟨g3, 0, none⟩ (.slice A2 (pre.length + 1) c2)).ownsRow w.heap.size 42 4 (.slice A2 (pre.length + 1) c2) (pre.length + 1) (flatT (pre.map (·.t)) ++ flatT [x.t]))
    (hb2 : Below w.heap.size W (w1.setCell ⟨g3, 0, none⟩ (.slice A2 (pre.length + 1) c2))) (h5 : g2 < g3 := by omega) :
    LI w g1 g2 g3 (pre ++ [x]) (w1.setCell ⟨g3, 0, none⟩ (.slice A2 (pre.length + 1) c2)) := by
  refine ⟨?_, ⟨A2, c2, ?_, ?_⟩, ?_, ?_, ?_, hi.bel.trans hb2⟩
  · intro y hy
    rcases List.mem_append.1 hy with h | h
    · exact hi.ok y h
    · simp at h; rw [h]; exact hx
  · rw [List.length_append]; exact hv2
  · unfold TOwn
    rw [List.length_append, List.map_append, flatT_app]
    exact hr2
  · exact Boxed.other ((hi.r0.alloc _).kept hgrow (hi.r0.not_row (by decide) hrow)) (by omega) _
  · exact Boxed.other ((hi.r1.alloc _).kept hgrow (hi.r1.not_row (by decide) hrow)) (by omega) _
  · exact Boxed.other ((hi.r2.alloc _).kept hgrow (hi.r2.not_row (by decide) hrow)) (by omega) _

set_option maxHeartbeats 4000000 in
theorem all_short (w : World) (A : Option Addr) (c : Nat) (l : Bs) (h : BRow w A c l) (hl : l.length ≤ 20000) :
    Calls Tryz.prog 23 #[.slice A l.length c] w (AllPost w l) := by
  refine (callsIn_wide (n := 9)).1 ?_
  refine callsIn_of_wp_marks Tryz.func23 rfl trivial ?_ rfl
  simp only [Tryz.ntmps23, List.size_toArray, List.length_cons, List.length_nil, Nat.reduceAdd, Nat.reduceSub, Array.replicate_succ, Array.replicate_zero, List.push_toArray, List.append_toArray, List.nil_append, List.cons_append]
  have HB := Lib.hid h
  have hn : (l.length : Int) ≤ 20000 := by omega
  clear h
  have hcv := fun W (hb : Below w.heap.size w W) => (HB.out.next hb).conv 95 Tryz.underlying95
  have HH := Lib.hid (each_hands (bs l) (by rw [bs_size]; omega) 8 (by omega))
  rw [bs_toList] at HH
  have LN := items_len l
  have LB : (itemsL l).length ≤ 20001 := by omega
  clear LN
  have AY := Lib.hid (all_yes (l := l) (by omega))
  have AN := Lib.hid (all_no (l := l) (by omega))
  unfold AllPost
  generalize itemsL l = L at HH AY AN LB
  generalize allL l = R at AY AN ⊢
  have hd : decide ((20000 : Int) < (l.length : Int)) = false := by simp; omega
  generalize l.length = n at hcv hn hd ⊢
  have hW : Below w.heap.size w ((((w.alloc (.cells #[.slice none 0 0] 37)).alloc (.cells #[.int .i64 0] 3)).alloc (.cells #[.int .i64 0] 25)).alloc (.cells #[.slice none 0 0] 37)) :=
    ((((Below.refl _ _).alloc (Nat.le_refl _) _).alloc (by simp) _).alloc (by simp; omega) _).alloc (by simp; omega) _
  have hcv1 := hcv _ hW
  clear hcv
  gi_wp2_with fail
  clear hcv1
  have b0 : Boxed ((((w.alloc (.cells #[.slice none 0 0] 37)).alloc (.cells #[.int .i64 0] 3)).alloc (.cells #[.int .i64 0] 25)).alloc (.cells #[.slice none 0 0] 37)) w.heap.size 37 (.slice none 0 0) := (((Boxed.new w 37 (.slice none 0 0)).alloc _).alloc _).alloc _
  have b1 : Boxed ((((w.alloc (.cells #[.slice none 0 0] 37)).alloc (.cells #[.int .i64 0] 3)).alloc (.cells #[.int .i64 0] 25)).alloc (.cells #[.slice none 0 0] 37)) (w.heap.size + 1) 3 (.int .i64 0) := by
    have := (((Boxed.new (w.alloc (.cells #[.slice none 0 0] 37)) 3 (.int .i64 0)).alloc (.cells #[.int .i64 0] 25)).alloc (.cells #[.slice none 0 0] 37))
    simpa using this
  have b2 : Boxed ((((w.alloc (.cells #[.slice none 0 0] 37)).alloc (.cells #[.int .i64 0] 3)).alloc (.cells #[.int .i64 0] 25)).alloc (.cells #[.slice none 0 0] 37)) (w.heap.size + 1 + 1) 25 (.int .i64 0) := by
    have := ((Boxed.new ((w.alloc (.cells #[.slice none 0 0] 37)).alloc (.cells #[.int .i64 0] 3)) 25 (.int .i64 0)).alloc (.cells #[.slice none 0 0] 37))
    simpa using this
  have b3 : Boxed ((((w.alloc (.cells #[.slice none 0 0] 37)).alloc (.cells #[.int .i64 0] 3)).alloc (.cells #[.int .i64 0] 25)).alloc (.cells #[.slice none 0 0] 37)) (w.heap.size + 1 + 1 + 1) 37 (.slice none 0 0) := by
    have := (Boxed.new (((w.alloc (.cells #[.slice none 0 0] 37)).alloc (.cells #[.int .i64 0] 3)).alloc (.cells #[.int .i64 0] 25)) 37 (.slice none 0 0))
    simpa using this
  have hz : ((((w.alloc (.cells #[.slice none 0 0] 37)).alloc (.cells #[.int .i64 0] 3)).alloc (.cells #[.int .i64 0] 25)).alloc (.cells #[.slice none 0 0] 37)).heap.size = w.heap.size + 1 + 1 + 1 + 1 := by simp
  generalize World.alloc _ _ = W0 at b0 b1 b2 b3 hW hz ⊢
  generalize hg1 : w.heap.size + 1 = g1 at b1 b2 b3 hz ⊢
  generalize hg2 : g1 + 1 = g2 at b2 b3 hz ⊢
  generalize hg3 : g2 + 1 = g3 at b3 hz ⊢
  have q1 : w.heap.size < g1 := by omega
  have q2 : g1 < g2 := by omega
  have q3 : g2 < g3 := by omega
  have q4 : g3 < W0.heap.size := by omega
  clear hg1 hg2 hg3 hz
  have I0 : LI w g1 g2 g3 [] W0 := ⟨by simp, ⟨none, 0, b3, town_nil _ _⟩, b0, b1, b2, hW⟩
  clear b0 b1 b2 b3 hW
  refine range_recv (L := L) (encs := encI) (gf := 40) (rv := .string (bs l)) rfl (enters_of Tryz.func40 (by kernel_rfl) rfl) (fun _ => rfl) HH.out
    (LI w g1 g2 g3) (LX w g1 g2) (LI.own (by omega)) (LX.own (by omega)) I0
    (fun x a' W => ∃ Bx, g3 < Bx ∧ Tok W Bx x.t ∧ a' = { tmps := #[.slice A n c, undef, .pointer (some ⟨w.heap.size, 0, none⟩), .pointer (some ⟨g1, 0, none⟩), .pointer (some ⟨g2, 0, none⟩), .pointer (some ⟨g3, 0, none⟩), .pointer (some ⟨Bx, 0, none⟩), .bool x.ok, .slice A n c, .int .i64 n, .bool false, .slice A n c, .string (bs l), .func (.func 40) #[.string (bs l)] #[], x.t.v, .bool x.ok, undef, undef, undef, undef, undef, undef, undef, undef, undef], defers := [] })
    ?hAx ?assign ?body ?done ?stop
  case hAx =>
    rintro x a' u X Y row ⟨Bx, h1, h2, h3⟩ hg hr
    exact ⟨Bx, h1, tok_cells h2 hg (fun r e => (hr r e).2), h3⟩
  case assign =>
    rintro l0 pre x W K hi hK
    have hlt := (Array.getElem?_eq_some_iff.1 (show W.heap[g3]? = _ from hi.l.choose_spec.choose_spec.1)).1
    rw [show encI x = #[x.t.v, .bool x.ok] from rfl]
    gi_wp2_with fail
    have hb := below_new W (.cells #[.int .i64 x.t.k, .int .i64 x.t.p, .string (bs x.t.s), .int .i64 x.t.n] 42)
    exact hK _ _ ((KeepsOthers.alloc _ _).from _) (OwnFrom.below (LI.own (Nat.le_refl _)) hi hb) ⟨W.heap.size, hlt, Tok.new W x.t, rfl⟩
  case body =>
    rintro l0 pre x a' W hl0 hin hi ⟨Bx, hBx, hT, rfl⟩
    obtain ⟨i0, hi0, hz0, hz1, hz2⟩ := info_parts info32
    obtain ⟨A', c', hbx, hown⟩ := hi.l
    obtain ⟨t0, t1, t2, t3⟩ := hT.cells
    have hlen : pre.length ≤ 20000 := by
      obtain ⟨y, hy⟩ := hin
      have := congrArg List.length hy
      simp at this; omega
    have d0 := hi.r0.cell
    have d1 := hi.r1.cell
    have d2 := hi.r2.cell
    have e0 := hi.r0.frozen
    have e1 := hi.r1.frozen
    have e2 := hi.r2.frozen
    have mixed : Tryz.prog.follows .mixedOrders = true := by kernel_rfl
    cases hok : x.ok
    · have HO := Lib.hid hok
      clear hok
      simp only [Nat.zero_add] at t0 t1 t2 t3
      have n1 : w.heap.size ≠ g1 := by omega
      have n2 : w.heap.size ≠ g2 := by omega
      have n3 : g1 ≠ g2 := by omega
      have n4 : Bx ≠ w.heap.size := by omega
      have n5 : Bx ≠ g1 := by omega
      have n6 : Bx ≠ g2 := by omega
      gi_wp2_with fail
      gi_region_with_o (fail)
      all_goals gi_wp2_with fail
      all_goals exact lx_end hi q1 (Nat.lt_trans q1 q2) q2 HO.out W0.heap.size
    · have hrow : W.ownsRow w.heap.size 42 4 (.slice A' pre.length c') pre.length (flatT (pre.map (·.t))) := hown
      have HO := Lib.hid hok
      clear hok
      simp only [Nat.zero_add] at t0 t1 t2 t3
      have hcx := hbx.cell
      have hfx := hbx.frozen
      have n7 : g3 ≠ Bx := by omega
      gi_wp2_with (gi_at_builtin; refine wpListIn_append_own _ rfl _ _ 37 rfl w.heap.size 42 i0 (.agg #[.int .i64 0, .int .i64 0, .string ⟨#[]⟩, .int .i64 0]) 4 40 Tryz.underlying37 hi0 hz0 hz1 hz2 rfl (by decide) _ _ _ rfl (hrow.alloc _) ⟨W.heap.size, 0, none⟩ 1 1 (flatT [x.t]) rfl rfl (cell_tok_new _ _) (flatT_cell x.t) (by unfold maxLen; omega) (by omega) (by have := hi.bel.size; simp; omega) ?_; intro v' w1 hown' hgrow _; obtain ⟨g', cap', rfl⟩ := ownsRow_succ hown'; obtain ⟨hv1, hv2, hr2, hk2, hb2⟩ := hbx.appended (by decide) hrow hi.bel.size (by omega) hown' hgrow; have hc1 := hv1.cell; have hf1 := hv1.frozen)
      exact ⟨hk2.from _, li_next hi hrow hgrow q1 (Nat.lt_trans q1 q2) (Nat.lt_trans q2 q3) q2 HO.out hv2 hr2 hb2⟩
  case done =>
    intro D W hD hi hK
    obtain ⟨A', c', hbx, hown⟩ := hi.l
    have hcx := hbx.cell
    have d0 := hi.r0.cell
    have d1 := hi.r1.cell
    have d2 := hi.r2.cell
    have e0 := hi.r0.frozen
    have e1 := hi.r1.frozen
    have e2 := hi.r2.frozen
    have n1 : w.heap.size ≠ g1 := by omega
    have n2 : w.heap.size ≠ g2 := by omega
    have n3 : g1 ≠ g2 := by omega
    gi_wp2_with fail
    have hR := AY.out (fun x hx => hi.ok x hx)
    have k1 : KeepsOthers W (((W.setCell ⟨w.heap.size, 0, none⟩ (.slice A' L.length c')).setCell ⟨g1, 0, none⟩ (.int .i64 0)).setCell ⟨g2, 0, none⟩ (.int .i64 0)) :=
      ((KeepsOthers.setCell _ _ _).trans (KeepsOthers.setCell _ _ _)).trans (KeepsOthers.setCell _ _ _)
    have hK' := k1.same D _ hK rfl
    have r0 := Boxed.other (Boxed.other (hi.r0.set (.slice A' L.length c')) (by omega : w.heap.size ≠ g1) (.int .i64 0)) (by omega : w.heap.size ≠ g2) (.int .i64 0)
    have r1 := Boxed.other ((Boxed.other hi.r1 (by omega : g1 ≠ w.heap.size) (.slice A' L.length c')).set (.int .i64 0)) (by omega : g1 ≠ g2) (.int .i64 0)
    have r2 := (Boxed.other (Boxed.other hi.r2 (by omega : g2 ≠ w.heap.size) (.slice A' L.length c')) (by omega : g2 ≠ g1) (.int .i64 0)).set (.int .i64 0)
    have hO := ((hown.set hi.r0 (by decide) (.slice A' L.length c')).set (Boxed.other hi.r1 (by omega : g1 ≠ w.heap.size) (.slice A' L.length c')) (by decide) (.int .i64 0)).set (Boxed.other (Boxed.other hi.r2 (by omega : g2 ≠ w.heap.size) (.slice A' L.length c')) (by omega : g2 ≠ g1) (.int .i64 0)) (by decide) (.int .i64 0)
    have hB := ((hi.bel.setCell (p := ⟨w.heap.size, 0, none⟩) (Nat.le_refl _) (.slice A' L.length c')).setCell (p := ⟨g1, 0, none⟩) (by simp; omega) (.int .i64 0)).setCell (p := ⟨g2, 0, none⟩) (by simp; omega) (.int .i64 0)
    generalize World.setCell _ _ _ = WF at hK' r0 r1 r2 hO hB ⊢
    refine ⟨by simp, .inl ⟨_, _, rfl, run_takeDeferred hK', ?_⟩⟩
    have hpt := grownBy_putObj' WF D (.deferred none)
    have hnr : ∀ r, some D = some r → ∃ o : Obj, WF.heap[r]? = some o ∧ o.isCells = false := fun r e => by cases e; exact ⟨_, hK', rfl⟩
    have c0 := (boxed_cells r0 hpt hnr).cell
    have c1 := (boxed_cells r1 hpt hnr).cell
    have c2 := (boxed_cells r2 hpt hnr).cell
    refine ⟨.tuple #[.slice A' L.length c', .int .i64 0, .int .i64 0], by simp [results, Tryz.results23, go_sem, c0, c1, c2], ?_⟩
    rw [hR]
    refine ⟨A', c', by simp, ?_, hB.trans (belowK_b (w := W0) (by omega) WF D _ _ hD hK' rfl rfl)⟩
    simpa using town_cells hO hpt hnr
  case stop =>
    intro D pre W hD hpre hx hK
    obtain ⟨a, x, rfl, h2, h3, h4⟩ := hx.no
    obtain ⟨rest, hrest⟩ := hpre
    have hR := AN.out a rest x (by rw [← hrest]; simp) h2 h3
    gi_wp2_with fail
    refine ⟨by simp, .inl ⟨_, _, rfl, run_takeDeferred hK, ?_⟩⟩
    have hpt := grownBy_putObj' W D (.deferred none)
    have hnr : ∀ r, some D = some r → ∃ o : Obj, W.heap[r]? = some o ∧ o.isCells = false := fun r e => by cases e; exact ⟨_, hK, rfl⟩
    have c0 := (boxed_cells hx.r0 hpt hnr).cell
    have c1 := (boxed_cells h4 hpt hnr).cell
    have c2 := (boxed_cells hx.r2 hpt hnr).cell
    refine ⟨.tuple #[.slice none 0 0, .int .i64 x.t.p, .int .i64 30], by simp [results, Tryz.results23, go_sem, c0, c1, c2], ?_⟩
    rw [hR]
    exact ⟨none, 0, rfl, town_nil _ _, hx.bel.trans (belowK_b (w := W0) (by omega) W D _ _ hD hK rfl rfl)⟩
end Go.Proofs.YtllkimdlmnjoiaaGreatDoor.E8

