/- An iterator that goes through another one; a range over a function value that holds a box: the law of the walk, for rounds that go on or leave. -/
import Derived.Test.YthjbmlgjlndihaaLG
namespace Go.Proofs.Ythjbmlgjlndihaa
set_option maxRecDepth 100000
open Go.RowKit Go.Shelf Go.Sort
attribute [local go_sem] Oper.semAt_some

theorem round_any {l0 m m' : Nat} {P : Program} {l : Nat} {f : FuncId} {tmps : Array Value} {assign body : Code} {w : World} {R : Ending → World → Prop}
    (h : RoundIn Fence.wide m P l f tmps assign body w R) : RoundIn (Fence.wide.inRound l0) m' P l f tmps assign body w R := ⟨h.1, fun c cs _ => h.2 c cs (room_wide _)⟩

/-- Function values in their boxes stay. -/
def KeepF (W W' : World) : Prop := ∀ (k : Nat) (cs : Array Value) (m : Nat × Nat), W.heap[k]? = some (.cells cs 49 m) → W'.heap[k]? = some (.cells cs 49 m)
theorem KeepF.refl (W : World) : KeepF W W := fun _ _ _ h => h
theorem KeepF.trans {A B C : World} (h : KeepF A B) (k : KeepF B C) : KeepF A C := fun i cs m hi => k i cs m (h i cs m hi)
theorem KeepF.alloc (W : World) (o : Obj) : KeepF W (W.alloc o) := fun _ _ _ hi => (Below.heap_alloc _ _ _ (Array.getElem?_eq_some_iff.1 hi).1).trans hi
theorem KeepF.putObj {W : World} {l : Nat} {o : Obj} (o' : Obj) (hl : W.heap[l]? = some o) (ho : o.isCells = false) : KeepF W (W.putObj l o') := fun _ _ _ hi => by
  refine (World.putObj_heap_other (fun e => ?_)).trans hi
  subst e
  rw [hl] at hi; cases hi; cases ho
theorem KeepF.below {W W' : World} (h : Below W.heap.size W W') : KeepF W W' := fun i _ _ hi => (h.block i (Array.getElem?_eq_some_iff.1 hi).1).trans hi
structure KeepK (B : Nat) (W W' : World) : Prop where
  from_ : KeepsFrom B W W'
  fns : KeepF W W'
theorem KeepK.refl (B : Nat) (W : World) : KeepK B W W := ⟨KeepsFrom.refl _ _, KeepF.refl _⟩
theorem KeepK.trans {B : Nat} {X Y Z : World} (h : KeepK B X Y) (k : KeepK B Y Z) : KeepK B X Z := ⟨h.from_.trans k.from_, h.fns.trans k.fns⟩
theorem keeps_mono {B B' : Nat} {X Y : World} (h : KeepsFrom B X Y) (hB : B ≤ B') : KeepsFrom B' X Y := ⟨h.size, fun k o hk => h.same k o (Nat.le_trans hB hk)⟩
theorem keeps_put {B l : Nat} (W : World) (o' : Obj) (hl : l < B) : KeepsFrom B W (W.putObj l o') := ⟨by simp, fun k o hk hi _ => (World.putObj_heap_other (by omega)).trans hi⟩

/-- What an iterator hands to rounds that keep what is not theirs. -/
def HandsK {α : Type} (n : Nat) (P : Program) (gf : Nat) (args : Nat → Array Value) (encs : α → Array Value) (L : List α) (Ok : World → Prop) : Prop :=
  ∀ (l : Nat) (J Jx : List α → World → Prop) (W : World), Ok W → OwnFrom W.heap.size J → OwnFrom W.heap.size Jx →
    (∀ pre x W1, pre ++ [x] <+: L → J pre W1 → YieldAt Fence.wide (n - 1) P l (encs x) W1 fun e W' => KeepK W.heap.size W1 W' ∧ ((e = .returned (.bool true) ∧ J (pre ++ [x]) W') ∨ (e = .returned (.bool false) ∧ Jx (pre ++ [x]) W'))) →
    J [] W →
    CallsIn Fence.wide n P gf (args l) W fun e W' => (∃ v, e = .returned v) ∧ (J L W' ∨ (∃ pre, pre <+: L ∧ Jx pre W'))

/-- How a round's body is left: to its end, or by one way out. -/
def LeavesK (c0 : Nat) (B : Nat) (I Ix : World → Prop) (W : World) : Exit → Act → World → Prop
  | .normal, _, W' => KeepK B W W' ∧ I W'
  | .exit c, _, W' => c = c0 ∧ KeepK B W W' ∧ Ix W'
  | _, _, _ => False

theorem range_own {α : Type} {n : Nat} {P : Program} {g : Operand} {ps : Array Tmp} {assign body : Code} {Q : Exit → Act → World → Prop} {a : Act} {w : World}
    {gf : Nat} {lb : Array Value} {encs : α → Array Value} {L : List α} {Ok : World → Prop} (c0 : Nat)
    (hg : a.eval g = .func (.func gf) #[] lb) (eg : ∀ args w, (callFunc gf args).run P w = .ok (.enter gf args) w) (hps : ∀ x, (encs x).size = ps.size)
    (hC : HandsK (n - 1) P gf (fun l => #[.func (.yield l) #[] #[]] ++ lb) encs L Ok) (hOk : ∀ W', Below w.heap.size w W' → Ok W')
    (I Ix : List α → World → Prop) (hI : OwnFrom w.heap.size I) (hIx : OwnFrom w.heap.size Ix) (h0 : I [] w)
    (Ax : α → Act → World → Prop) (hAx : ∀ x a', OwnFrom w.heap.size (fun (_ : Unit) W => Ax x a' W))
    (hassign : ∀ (l : Nat) (pre : List α) (x : α) (W : World) (K : Act → World → Prop), I pre W → (∀ a' W', KeepK w.heap.size W W' → I pre W' → Ax x a' W' → K a' W') →
      assign.wpIn (Fence.wide.inRound l) (n - 1 - 1) P (Exit.then K (fun _ _ _ => False)) { tmps := (ps.zip (encs x)).foldl (fun t (p, v) => t.setIfInBounds p v) a.tmps, defers := [] } W)
    (hbody : ∀ (l : Nat) (pre : List α) (x : α) (a' : Act) (W : World), w.heap.size ≤ l → pre ++ [x] <+: L → I pre W → Ax x a' W →
      body.wpIn (Fence.wide.inRound l) (n - 1 - 1) P (LeavesK c0 w.heap.size (I (pre ++ [x])) (Ix (pre ++ [x])) W) a' W)
    (hdone : ∀ (D : Nat) (W : World), w.heap.size ≤ D → I L W → W.heap[D]? = some (.deferred (some [])) → Q .normal { a with defers := { target := .collected D, args := #[] } :: a.defers } W)
    (hstop : ∀ (D : Nat) (pre : List α) (W : World), w.heap.size ≤ D → pre <+: L → Ix pre W → W.heap[D]? = some (.deferred (some [])) → (Code.exit c0).wpIn Fence.wide n P Q { a with defers := { target := .collected D, args := #[] } :: a.defers } W) :
    (Code.rangeFunc g ps assign body).wpIn Fence.wide n P Q a w := by
  refine wpIn_rangeFunc fun fn hfn => ?_
  let rec0 : LoopState → Option Code → Loop := fun st pe => { state := st, pending := pe, fn, tmps := a.tmps, params := ps, assign, body, defers := w.heap.size }
  generalize hrec : rec0 = rec
  have rS : ∀ st pe, (rec st pe).state = st := fun st pe => by rw [← hrec]
  have rP : ∀ st pe, (rec st pe).pending = pe := fun st pe => by rw [← hrec]
  have rW : ∀ st pe st' pe', { rec st pe with state := st', pending := pe' } = rec st' pe' := fun st pe st' pe' => by rw [← hrec]
  have rB : ∀ st pe st', { rec st pe with state := st' } = rec st' pe := fun st pe st' => by rw [← hrec]
  generalize hW1 : (w.alloc (.deferred (some []))).alloc (.loop (rec .ready none)) = W1
  have z1 : W1.heap.size = w.heap.size + 1 + 1 := by rw [← hW1]; simp
  have dL : W1.heap[w.heap.size + 1]? = some (.loop (rec .ready none)) := by
    rw [← hW1]; have := World.alloc_heap_new (w.alloc (.deferred (some []))) (.loop (rec .ready none)); rwa [World.size_alloc] at this
  have dD : W1.heap[w.heap.size]? = some (.deferred (some [])) := by
    rw [← hW1]; exact (Below.heap_alloc _ _ _ (by simp)).trans (World.alloc_heap_new w _)
  have dI : I [] W1 := by rw [← hW1]; exact hI.alloc _ (hI.alloc _ h0)
  have dOk : Ok W1 := hOk _ (by rw [← hW1]; exact ((Below.refl _ w).alloc (Nat.le_refl _) _).alloc (by simp) _)
  refine ⟨w.heap.size + 1, [{ target := .collected w.heap.size, args := #[] }], W1, { target := .fn (.func gf) lb, args := #[.func (.yield (w.heap.size + 1)) #[] #[]] }, W1, gf,
    #[.func (.yield (w.heap.size + 1)) #[] #[]] ++ lb, W1, ?_, ?_, (fun _ _ => trivial), ?_, (fun h => by simp [Fence.wide] at h), ?_⟩
  · rw [← hW1, ← hrec]; exact run_enterLoop_outer _ _ _ _ _
  · simp only [resolve, hg]
    simp [go_sem]
  · simp [invoke, go_sem, eg]
  have up : ∀ {r : Option Nat} {A : World}, (∀ k, r = some k → W1.heap.size ≤ k ∧ ∃ o : Obj, A.heap[k]? = some o ∧ o.isCells = false) → ∀ k, r = some k → w.heap.size ≤ k ∧ ∃ o : Obj, A.heap[k]? = some o ∧ o.isCells = false :=
    fun h k e => ⟨by have := (h k e).1; omega, (h k e).2⟩
  have stay : ∀ {r : Option Nat} {A B : World} {k : Nat} {o : Obj}, A.grownBy B r → (∀ k, r = some k → W1.heap.size ≤ k ∧ ∃ o : Obj, A.heap[k]? = some o ∧ o.isCells = false) → k < W1.heap.size → A.heap[k]? = some o → B.heap[k]? = some o :=
    fun hg h hk ho => (hg.block _ (Array.getElem?_eq_some_iff.1 ho).1 (fun e => by have := (h _ e.symm).1; omega)).trans ho
  refine (hC (w.heap.size + 1)
    (fun pre W => I pre W ∧ W.heap[w.heap.size + 1]? = some (.loop (rec .ready none)) ∧ W.heap[w.heap.size]? = some (.deferred (some [])))
    (fun pre W => Ix pre W ∧ W.heap[w.heap.size + 1]? = some (.loop (rec .done (some (.exit c0)))) ∧ W.heap[w.heap.size]? = some (.deferred (some [])))
    W1 dOk ?own1 ?own2 ?round ⟨dI, dL, dD⟩).mono ?behind
  case own1 =>
    rintro pre A B row ⟨hi, hl, hd⟩ hg' hr
    exact ⟨hI pre A B row hi hg' (up hr), stay hg' hr (by omega) hl, stay hg' hr (by omega) hd⟩
  case own2 =>
    rintro pre A B row ⟨hi, hl, hd⟩ hg' hr
    exact ⟨hIx pre A B row hi hg' (up hr), stay hg' hr (by omega) hl, stay hg' hr (by omega) hd⟩
  case round =>
    rintro pre x W hin ⟨hi, hl, hd⟩
    have hy := run_yield (P := P) (args := encs x) hl (by rw [← hrec]; exact hps x)
    rw [← hrec] at hy
    refine ⟨fn, _, assign, body, hy, roundIn_of_wpIn hfn (hassign _ pre x W _ hi ?_)⟩
    intro a' Wa ka ia xa
    have la := ka.from_.same _ _ (Nat.le_succ _) hl rfl
    have da := ka.from_.same _ _ (Nat.le_refl _) hd rfl
    have lt := (Array.getElem?_eq_some_iff.1 la).1
    refine ⟨_, run_beginRound la (rS _ _), ?_⟩
    rw [rB]
    have lb' : (Wa.putObj (w.heap.size + 1) (.loop (rec .busy none))).heap[w.heap.size + 1]? = some (.loop (rec .busy none)) := World.putObj_heap_same lt
    have db : (Wa.putObj (w.heap.size + 1) (.loop (rec .busy none))).heap[w.heap.size]? = some (.deferred (some [])) := (World.putObj_heap_other (by omega)).trans da
    have ib := hI.putObj (.loop (rec .busy none)) ia (Nat.le_succ _) la rfl
    have xb := (hAx x a').putObj (s := ()) (.loop (rec .busy none)) xa (Nat.le_succ _) la rfl
    have kb : KeepK W1.heap.size W (Wa.putObj (w.heap.size + 1) (.loop (rec .busy none))) := ⟨(keeps_mono ka.from_ (by omega)).trans (keeps_put _ _ (by omega)), ka.fns.trans (KeepF.putObj _ la rfl)⟩
    generalize Wa.putObj (w.heap.size + 1) (.loop (rec .busy none)) = Wb at lb' db ib xb kb ⊢
    refine wpIn_mono (hbody _ pre x a' Wb (Nat.le_succ _) hin ib xb) ?_
    rintro e a3 W3 hp
    match e, hp with
    | .normal, ⟨k3, i3⟩ =>
      have l3 := k3.from_.same _ _ (Nat.le_succ _) lb' rfl
      have d3 := k3.from_.same _ _ (Nat.le_refl _) db rfl
      have hr := run_endRound (P := P) none l3
      rw [rW] at hr
      refine ⟨_, _, hr, ?_, .inl ⟨rfl, hI.putObj _ i3 (Nat.le_succ _) l3 rfl, World.putObj_heap_same (Array.getElem?_eq_some_iff.1 l3).1, (World.putObj_heap_other (by omega)).trans d3⟩⟩
      exact kb.trans ⟨(keeps_mono k3.from_ (by omega)).trans (keeps_put _ _ (by omega)), k3.fns.trans (KeepF.putObj _ l3 rfl)⟩
    | .exit c, ⟨hc, k3, i3⟩ =>
      subst hc
      have l3 := k3.from_.same _ _ (Nat.le_succ _) lb' rfl
      have d3 := k3.from_.same _ _ (Nat.le_refl _) db rfl
      have hr := run_endRound (P := P) (some (.exit c)) l3
      rw [rW] at hr
      refine ⟨_, _, hr, ?_, .inr ⟨rfl, hIx.putObj _ i3 (Nat.le_succ _) l3 rfl, World.putObj_heap_same (Array.getElem?_eq_some_iff.1 l3).1, (World.putObj_heap_other (by omega)).trans d3⟩⟩
      exact kb.trans ⟨(keeps_mono k3.from_ (by omega)).trans (keeps_put _ _ (by omega)), k3.fns.trans (KeepF.putObj _ l3 rfl)⟩
  case behind =>
    rintro e W2 ⟨⟨v, rfl⟩, (⟨hi, hl, hd⟩ | ⟨pre, hSp, hi, hl, hd⟩)⟩
    · have := run_endLoop (P := P) hl (by rw [rS]; simp)
      rw [rP] at this
      exact ⟨none, _, this, hdone _ _ (Nat.le_refl _) (hI.putObj _ hi (Nat.le_succ _) hl rfl) ((World.putObj_heap_other (by omega)).trans hd)⟩
    · have := run_endLoop (P := P) hl (by rw [rS]; simp)
      rw [rP] at this
      exact ⟨some (.exit c0), _, this, hstop _ pre _ (Nat.le_refl _) hSp (hIx.putObj _ hi (Nat.le_succ _) hl rfl) ((World.putObj_heap_other (by omega)).trans hd)⟩

def encT (t : TK) : Array Value := #[t.v]
def toksL (l : Bs) : List TK := ((itemsL l).takeWhile (·.ok)).map (·.t)
/-- What holds between two rounds of the inner iterator. -/
structure MI (By l : Nat) (J : List TK → World → Prop) (pre : List IT) (W : World) : Prop where
  ok : ∀ y ∈ pre, y.ok = true
  j : J (pre.map (·.t)) W
  y : Boxed W By 49 (.func (.yield l) #[] #[])
/-- Where it has returned. -/
structure MX (J Jx : List TK → World → Prop) (pre : List IT) (W : World) : Prop where
  x : ∃ a b, pre = a ++ [b] ∧ (∀ y ∈ a, y.ok = true) ∧ ((b.ok = false ∧ J (a.map (·.t)) W) ∨ (b.ok = true ∧ Jx (pre.map (·.t)) W))
theorem own_up {β : Type} {B B' : Nat} {J : β → World → Prop} (h : OwnFrom B J) (hB : B ≤ B') : OwnFrom B' J := fun s X Y row hs hg hr => h s X Y row hs hg (fun k e => ⟨Nat.le_trans hB (hr k e).1, (hr k e).2⟩)
theorem MI.own {By l B B' : Nat} {J : List TK → World → Prop} (hJ : OwnFrom B J) (hB : B ≤ B') : OwnFrom B' (MI By l J) := fun _ X Y row hs hg hr =>
  ⟨hs.ok, own_up hJ hB _ X Y row hs.j hg hr, boxed_cells hs.y hg (fun r e => (hr r e).2)⟩
theorem MX.own {B B' : Nat} {J Jx : List TK → World → Prop} (hJ : OwnFrom B J) (hJx : OwnFrom B Jx) (hB : B ≤ B') : OwnFrom B' (MX J Jx) := fun pre X Y row hs hg hr => by
  obtain ⟨a, b, h1, h2, h3⟩ := hs.x
  exact ⟨⟨a, b, h1, h2, h3.elim (fun h => .inl ⟨h.1, own_up hJ hB _ X Y row h.2 hg hr⟩) (fun h => .inr ⟨h.1, own_up hJx hB _ X Y row h.2 hg hr⟩)⟩⟩
theorem tw_ok : ∀ (a b : List IT), (∀ y ∈ a, y.ok = true) → (a ++ b).takeWhile (·.ok) = a ++ b.takeWhile (·.ok)
  | [], b, _ => rfl
  | c :: a, b, h => by
    rw [List.cons_append, List.takeWhile_cons, if_pos (h c (by simp)), tw_ok a b (fun y hy => h y (by simp [hy])), List.cons_append]

set_option maxHeartbeats 4000000 in
theorem tokens_hands (s : ByteArray) (hs : s.size ≤ 20000) (Bo n : Nat) (hn : 6 ≤ n) :
    HandsK n Try.prog 19 (fun l => #[.func (.yield l) #[] #[]] ++ #[.pointer (some ⟨Bo, 0, none⟩)]) encT (toksL s.toList) (fun W => Boxed W Bo 48 (.string s)) := by
  intro l J Jx W hok hJ hJx hY h0
  have HH := Lib.hid (each_hands s hs (n - 1) (by omega))
  have HT : Hid (toksL s.toList = ((itemsL s.toList).takeWhile (·.ok)).map (·.t)) := Lib.hid rfl
  generalize toksL s.toList = T at HT hY ⊢
  generalize itemsL s.toList = L at HH HT
  refine callsIn_of_wp_marks Try.func19 rfl trivial ?_ rfl
  simp only [Try.ntmps19, List.size_toArray, List.length_cons, List.length_nil, Nat.reduceAdd, Nat.reduceSub, Array.replicate_succ, Array.replicate_zero, List.push_toArray, List.append_toArray, List.nil_append, List.cons_append]
  have hcB := hok.cell
  have hltB := hok.lt
  have w1c : (W.alloc (.cells #[.func (.yield l) #[] #[]] 49)).cell? ⟨Bo, 0, none⟩ = some (.string s) := (hok.alloc _).cell
  gi_wp2_with fail
  have y0 := Boxed.new W 49 (.func (.yield l) #[] #[])
  have j0 : J [] (W.alloc (.cells #[.func (.yield l) #[] #[]] 49)) := hJ.alloc _ h0
  have hz : (W.alloc (.cells #[.func (.yield l) #[] #[]] 49)).heap.size = W.heap.size + 1 := by simp
  clear w1c hcB hok h0 hltB
  generalize World.alloc _ _ = W0 at y0 j0 hz ⊢
  generalize hBy : W.heap.size = By at y0 hz hJ hJx hY ⊢
  clear hBy
  refine range_recv (L := L) (encs := encI) (gf := 20) (rv := .string s) rfl (enters_of Try.func20 (by kernel_rfl) rfl) (fun _ => rfl) HH.out
    (MI By l J) (MX J Jx) (MI.own hJ (by omega)) (MX.own hJ hJx (by omega)) ⟨by simp, j0, y0⟩
    (fun x a' W => ∃ Bt, Tok W Bt x.t ∧ a' = { tmps := #[.func (.yield l) #[] #[], .pointer (some ⟨Bo, 0, none⟩), .pointer (some ⟨By, 0, none⟩), .pointer (some ⟨Bt, 0, none⟩), .bool x.ok, .string s, .func (.func 20) #[.string s] #[], x.t.v, .bool x.ok, undef, undef, undef, undef, undef, undef, undef, undef], defers := [] })
    ?hAx ?assign ?body ?done ?stop
  case hAx =>
    rintro x a' u X Y row ⟨Bt, h2, h3⟩ hg hr
    exact ⟨Bt, tok_cells h2 hg (fun r e => (hr r e).2), h3⟩
  case assign =>
    rintro l0 pre x W K hi hK
    rw [show encI x = #[x.t.v, .bool x.ok] from rfl]
    gi_wp2_with fail
    have hb := below_new W (.cells #[.int .i64 x.t.k, .int .i64 x.t.p, .string (bs x.t.s), .int .i64 x.t.n] 32)
    exact hK _ _ ((KeepsOthers.alloc _ _).from _) (OwnFrom.below (MI.own hJ (Nat.le_refl _)) hi hb) ⟨W.heap.size, Tok.new W x.t, rfl⟩
  case body =>
    rintro l0 pre x a' W hl0 hin hi ⟨Bt, hT, rfl⟩
    obtain ⟨t0, t1, t2, t3⟩ := hT.cells
    simp only [Nat.zero_add] at t0 t1 t2 t3
    have dy := hi.y.cell
    cases hok : x.ok
    · have HO := Lib.hid hok
      clear hok
      gi_wp2_with fail
      refine ⟨fun _ h => (by cases h), ?_⟩
      gi_wp2_with fail
      exact ⟨KeepsFrom.refl _ _, ⟨⟨pre, x, rfl, hi.ok, .inl ⟨HO.out, hi.j⟩⟩⟩⟩
    · have HO := Lib.hid hok
      have hpre : pre.map (·.t) ++ [x.t] <+: T := by
        obtain ⟨r, hr⟩ := hin
        rw [HT.out, ← hr, tw_ok (pre ++ [x]) r (fun y hy => by
          rcases List.mem_append.1 hy with h | h
          · exact hi.ok y h
          · simp at h; rw [h]; exact hok), List.map_append, List.map_append]
        exact ⟨_, rfl⟩
      obtain ⟨fn, tmps, assign, body, hy0, hR⟩ := hY (pre.map (·.t)) x.t W hpre hi.j
      have hy : (Instr.yield l #[.agg #[.int .i64 x.t.k, .int .i64 x.t.p, .string (bs x.t.s), .int .i64 x.t.n]]).run Try.prog W = _ := hy0
      have HRR := Lib.hid (round_any (l0 := l0) (m' := n - 1 - 1 - 1) hR)
      clear hok hy0 hR hpre
      gi_wp2_with fail
      refine ⟨fun _ => by omega, HRR.out.mono ?_⟩
      rintro e W3 ⟨hkk, (⟨rfl, hJ3⟩ | ⟨rfl, hJx3⟩)⟩
      · clear hy
        gi_wp2_with fail
        exact ⟨keeps_mono hkk.from_ (by omega), ⟨fun y hy => (List.mem_append.1 hy).elim (hi.ok y) (fun h => by simp at h; rw [h]; exact HO.out), by rw [List.map_append]; exact hJ3, hkk.fns _ _ _ hi.y⟩⟩
      · clear hy
        gi_wp2_with fail
        exact ⟨keeps_mono hkk.from_ (by omega), ⟨⟨pre, x, rfl, hi.ok, .inr ⟨HO.out, by rw [List.map_append]; exact hJx3⟩⟩⟩⟩
  case done =>
    intro D W1 hD hi hK
    gi_wp2_with fail
    refine ⟨by simp, .inl ⟨_, _, rfl, run_takeDeferred hK, ?_⟩⟩
    refine ⟨.tuple #[], by simp [results, Try.results19, go_sem], ⟨_, rfl⟩, .inl ?_⟩
    have he : T = L.map (·.t) := by
      rw [HT.out]
      have := tw_ok L [] hi.ok
      rw [List.append_nil] at this
      rw [this]; simp
    rw [he]
    exact hJ.putObj _ hi.j (by omega) hK rfl
  case stop =>
    intro D pre W1 hD hpre hx hK
    gi_wp2_with fail
    refine ⟨by simp, .inl ⟨_, _, rfl, run_takeDeferred hK, ?_⟩⟩
    refine ⟨.tuple #[], by simp [results, Try.results19, go_sem], ⟨_, rfl⟩, ?_⟩
    obtain ⟨a, b, rfl, h2, h3⟩ := hx.x
    obtain ⟨r, hr⟩ := hpre
    rcases h3 with ⟨hb, h3⟩ | ⟨hb, h3⟩
    · refine .inl ?_
      have he : T = a.map (·.t) := by
        rw [HT.out, ← hr, List.append_assoc, tw_ok a _ h2]
        simp [hb]
      rw [he]
      exact hJ.putObj _ h3 (by omega) hK rfl
    · refine .inr ⟨_, ?_, hJx.putObj _ h3 (by omega) hK rfl⟩
      rw [HT.out, ← hr, tw_ok (a ++ [b]) r (fun y hy => (List.mem_append.1 hy).elim (h2 y) (fun h => by simp at h; rw [h]; exact hb))]
      exact ⟨(r.takeWhile (·.ok)).map (·.t), by rw [← List.map_append]⟩
end Go.Proofs.Ythjbmlgjlndihaa
