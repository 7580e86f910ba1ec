/- The map of sides: its keys, what lies under each, an element taken and stored again, and what stays. -/
import Derived.Test.YtebkkjfeikpfgaaSB
import Derived.Maps.OwnSet
import Derived.WideKeyEntry
import Derived.DeepKeys4
namespace Go.Proofs.Ytebkkjfeikpfgaa
open Go.RowKit Go.MapKept Go.ChangeMaps
open Go.Maps (Keyed)
open Go.WideMaps (KeyLaw)
open Go.WideElems (Fit rd rg pl)
set_option maxRecDepth 100000

abbrev WfI (n : Int) : Prop := (Lit.int .i64 n).wf = true
/-- An element reads as itself. -/
def exR (v : Value) : Option (DataW Value × List MemPlace) := some (.held v, [])
theorem exR_inv {v : Value} {d : DataW Value} {ps : List MemPlace} (h : exR v = some (d, ps)) : d = .held v ∧ ps = [] := by
  unfold exR at h; injection h with h; injection h with h1 h2; exact ⟨h1.symm, h2.symm⟩
abbrev sideV (v way : Int) : Value := .agg #[.int .i64 v, .int .i64 way]
def kl (v way : Int) : Lit := .string (keyBytes [.int .i64 v, .int .i64 way])
theorem laidOutS : laidOutB Try.prog = true := by kernel_rfl
theorem tsize : Try.prog.types.size = 156 + 1 := by kernel_rfl
theorem row94 : (94 : TypeId) < Try.prog.types.size := of_decide_eq_true (by kernel_rfl)
theorem wide94 : (match Try.prog.underlying 94 with | some (.array _ _) | some (.struct _) => true | _ => false) = true := by rw [Try.underlying94]
theorem law94 : KeyLaw Try.prog 94 := deep_law_laid laidOutS (m := 2) (by omega) row94 (by kernel_rfl) wide94
theorem keyed94 : Keyed Try.prog 94 := Keyed.of_law law94
theorem cells94 : Try.prog.cellsOf 94 = 2 := by kernel_rfl
theorem cells3t : Try.prog.cellsOf 3 = 1 := by kernel_rfl
theorem ktype94 : Try.prog.keyType 94 = true := by kernel_rfl
theorem keyOf_side {v way : Int} (hv : WfI v) (hw : WfI way) : keyOf Try.prog 94 (sideV v way) = some (kl v way) := by
  unfold keyOf
  simp only [Try.underlying94]
  rw [if_pos (by simp [ktype94, Value.formed, Try.underlying94, cells94]), tsize]
  unfold Program.keyLits
  simp only [Try.underlying94, Value.cells]
  rw [if_pos ⟨by rw [cells94]; rfl, by simp⟩]
  simp only [cells3t, List.mapM_cons, List.mapM_nil]
  simp [Program.keyLits, Try.underlying3, hv, hw, kl]
theorem kl_inj {v way v' way' : Int} (hv : WfI v) (hw : WfI way) (hv' : WfI v') (hw' : WfI way') (h : kl v way = kl v' way') : v = v' ∧ way = way' := by
  have h1 := keyOf_side hv hw
  rw [h] at h1
  have := keyed94.inj h1 (keyOf_side hv' hw')
  injection this with this
  simp at this
  exact this

/-- What was taken out of a map, at a key, may be stored back. -/
def EBack (t : TypeId) (b n : Nat) (D : DataW Value) (l : Lit) (st : Nat) (w1 : World) : Prop :=
  ∀ (w2 : World) (val : Value), w2.heap[b]? = w1.heap[b]? → ∃ w3, (Instr.entryStore t (.map (some b)) (.int .i64 st) val).run Try.prog w2 = .ok () w3 ∧ w3.ownsMap Try.prog 94 exR b (n + 1) (D.put l (.held val)) ∧ w2.mapTurned w3 b
theorem entry_run {w : World} {t e : TypeId} {b n : Nat} {D : DataW Value} (h : w.ownsMap Try.prog 94 exR b n D) (ht : Try.prog.underlying t = some (.map 94 e)) {z : Value} (hz : ∀ u : World, (zeroValue e).run Try.prog u = .ok z u) (hn : n < maxLen) {key : Value} {l : Lit} (hkey : keyOf Try.prog 94 key = some l) :
    ∃ (v0 : Value) (st : Nat) (w1 : World), (Instr.mapEntry t (.map (some b)) key).run Try.prog w = .ok (.tuple #[v0, .int .i64 st]) w1 ∧ D.atKey l (.held z) = .held v0 ∧ w.mapTurned w1 b ∧ EBack t b n D l st w1 := by
  obtain ⟨es, clock, hb, F, hs, rfl⟩ := h
  obtain ⟨v0, st, es1, clock1, hrun, hor, hback⟩ := WideElems.entry_then_store law94 ht hz hb F hkey
  refine ⟨v0, st, _, hrun, ?_, ⟨es, clock, es1, clock1, hb, rfl⟩, fun w2 val hw2 => ?_⟩
  · rcases hor with ⟨e0, hm, hk, rfl⟩ | ⟨hno, rfl⟩
    · exact WideElems.atKey_some law94 F hkey hm hk (z := (.held e0.val, [])) rfl _
    · exact WideElems.atKey_none law94 F hkey hno _
  · rw [heap_setBlock_same hb] at hw2
    obtain ⟨es', clock', r1, r2⟩ := hback w2 val hw2
    obtain ⟨es2, clock2, hrun2, F2, hput, _⟩ := Maps.fit_store (R' := exR) keyed94 ht hb F (Nat.lt_of_le_of_lt hs hn) (fun _ _ _ _ hz => hz) hkey (rfl : exR val = some (.held val, []))
    rw [r2] at hrun2
    injection hrun2 with _ hw
    have e1 := heap_setBlock_same hb (.map es' clock')
    rw [hw, heap_setBlock_same hb] at e1
    injection e1 with e1
    injection e1 with e1 e2
    subst e1 e2
    refine ⟨_, r1, ⟨es2, clock2, heap_setBlock_same hw2 _, F2, ?_, by rw [DataW.put_eq, hput]⟩, ⟨es1, clock1, es2, clock2, hw2, rfl⟩⟩
    have e1 : es2.size = ((es2.toList.map (rg Try.prog 94 exR)).foldr DataW.insert []).length := by rw [length_sorted]; simp
    rw [e1, hput]
    unfold putKey
    rw [length_insert]
    have e2 := List.length_filter_le (notKey l) ((es.toList.map (rg Try.prog 94 exR)).foldr DataW.insert [])
    rw [length_sorted] at e2
    simp at e2
    omega
section
variable {w : World} {ops : Array Oper} {rest : List Oper} {o : Oper} {a : Act} {Q : Exit → Act → World → Prop}
theorem wpList_entry (hg : o.guard = none) (t : TypeId) (m x : Operand) (hop : o.op = Op.mapEntry t m x) {e : TypeId} {b n : Nat} {D : DataW Value} (h : w.ownsMap Try.prog 94 exR b n D) (hm : a.eval m = .map (some b)) (ht : Try.prog.underlying t = some (.map 94 e)) {z : Value} (hz : ∀ u : World, (zeroValue e).run Try.prog u = .ok z u) (hn : n < maxLen) {key : Value} {l : Lit} (hx : a.eval x = key) (hkey : keyOf Try.prog 94 key = some l)
    (hK : ∀ v0 st w1, D.atKey l (.held z) = .held v0 → w.mapTurned w1 b → EBack t b n D l st w1 → wpList Try.prog ops Q rest (a.put o.dst (.tuple #[v0, .int .i64 st])) w1) : wpList Try.prog ops Q (o :: rest) a w := by
  refine wpList_plain hg fun K' hK' => ?_
  obtain ⟨v0, st, w1, hrun, hat, ht1, hb1⟩ := entry_run h ht hz hn hkey
  unfold Oper.wp
  simp [execOp, hop, hm, hx, hrun, Result.andThen]
  exact hK' _ _ (hK v0 st w1 hat ht1 hb1)
theorem wpList_back (hg : o.guard = none) (t : TypeId) (m s x : Operand) (hop : o.op = Op.entryStore t m s x) {b n : Nat} {D : DataW Value} {l : Lit} {st : Nat} {w1 : World} (h : EBack t b n D l st w1) (hm : a.eval m = .map (some b)) (hs : a.eval s = .int .i64 st) {val : Value} (hx : a.eval x = val) (hb : w.heap[b]? = w1.heap[b]?)
    (hK : ∀ w3, w3.ownsMap Try.prog 94 exR b (n + 1) (D.put l (.held val)) → w.mapTurned w3 b → wpList Try.prog ops Q rest (a.put o.dst undef) w3) : wpList Try.prog ops Q (o :: rest) a w := by
  refine wpList_plain hg fun K' hK' => ?_
  obtain ⟨w3, hrun, h1, h2⟩ := h w val hb
  unfold Oper.wp
  simp [execOp, hop, hm, hs, hx, hrun, Result.andThen]
  exact hK' _ _ (hK w3 h1 h2)
theorem wpList_look (hg : o.guard = none) (t : TypeId) (m x : Operand) (hop : o.op = Op.lookup t m x false) {mv key v : Value} (hm : a.eval m = mv) (hx : a.eval x = key) (hrun : (Instr.lookup t mv key false).run Try.prog w = .ok v w)
    (hK : wpList Try.prog ops Q rest (a.put o.dst v) w) : wpList Try.prog ops Q (o :: rest) a w := by
  refine wpList_plain hg fun K' hK' => ?_
  unfold Oper.wp
  simp [execOp, hop, hm, hx, hrun, Result.andThen]
  exact hK' _ _ hK
end
theorem zero75 (w : World) : (zeroValue 75).run Try.prog w = .ok (.slice none 0 0) w := by kernel_rfl

def updS {α : Type} (S : Int → Int → α) (v way : Int) (x : α) : Int → Int → α := fun a b => if a = v ∧ b = way then x else S a b
theorem updS_at {α : Type} (S : Int → Int → α) (v way : Int) (x : α) : updS S v way x v way = x := by simp [updS]
theorem updS_off {α : Type} (S : Int → Int → α) {v way a b : Int} (x : α) (h : ¬ (a = v ∧ b = way)) : updS S v way x a b = S a b := by simp [updS, h]
/-- The map of sides in memory: under each key a slice of one's own, no two in one row. -/
structure Aro (w : World) (base mb n : Nat) (D : DataW Value) (val : Int → Int → Value) (S : Int → Int → List SP) : Prop where
  map : w.ownsMap Try.prog 94 exR mb n D
  low : mb < base
  at_ : ∀ v way, WfI v → WfI way → D.atKey (kl v way) (.held (.slice none 0 0)) = .held (val v way)
  row : ∀ v way, ∃ A c, val v way = .slice A (S v way).length c ∧ SOwn w base A (S v way).length c (S v way)
  apart : ∀ v way v' way' g, (val v way).ownBlock = some g → (val v' way').ownBlock = some g → v = v' ∧ way = way'
theorem Aro.new (w : World) : Aro (w.alloc (.map #[] 0)) (w.heap.size + 1) w.heap.size 0 (.map []) (fun _ _ => .slice none 0 0) (fun _ _ => []) :=
  ⟨World.ownsMap_made w _ _ _, Nat.lt_succ_self _, fun _ _ _ _ => rfl, fun _ _ => ⟨none, 0, rfl, sown_nil _ _⟩, fun _ _ _ _ g h => by cases h⟩
theorem Aro.isMap {w : World} {base mb n : Nat} {D : DataW Value} {val : Int → Int → Value} {S : Int → Int → List SP} (h : Aro w base mb n D val S) : Maps.IsMap D := h.map.isMap
theorem Aro.keep {a b : World} {base mb n : Nat} {D : DataW Value} {val : Int → Int → Value} {S : Int → Int → List SP} (h : Aro a base mb n D val S) (hb : ∀ k, mb ≤ k → k < a.heap.size → b.heap[k]? = a.heap[k]?) : Aro b base mb n D val S :=
  ⟨by
    obtain ⟨es, clock, h1, r⟩ := h.map
    exact ⟨es, clock, (hb mb (Nat.le_refl _) h.map.lt).trans h1, r⟩, h.low, h.at_, fun v way => by
    obtain ⟨A, c, e, ho⟩ := h.row v way
    exact ⟨A, c, e, ho.keep (fun k h1 h2 => hb k (by have := h.low; omega) h2)⟩, h.apart⟩
theorem Aro.next {a b : World} {base mb n : Nat} {D : DataW Value} {val : Int → Int → Value} {S : Int → Int → List SP} (h : Aro a base mb n D val S) (hb : Below a.heap.size a b) : Aro b base mb n D val S :=
  ⟨by
    obtain ⟨es, clock, h1, r⟩ := h.map
    exact ⟨es, clock, (hb.block mb h.map.lt).trans h1, r⟩, h.low, h.at_, fun v way => by
    obtain ⟨A, c, e, ho⟩ := h.row v way
    exact ⟨A, c, e, ho.next hb⟩, h.apart⟩
theorem Aro.lt {w : World} {base mb n : Nat} {D : DataW Value} {val : Int → Int → Value} {S : Int → Int → List SP} (h : Aro w base mb n D val S) {a b : Int} {g : Nat} (hg : (val a b).ownBlock = some g) : g < w.heap.size := by
  obtain ⟨A, c, e, ho⟩ := h.row a b
  rw [e] at hg
  exact (World.ownsRow.lt ho g hg).2
theorem turned_block {w w' : World} {b : Nat} (h : w.mapTurned w' b) {k : Nat} (hk : k ≠ b) : w'.heap[k]? = w.heap[k]? := by
  obtain ⟨es, clock, es', clock', hb, rfl⟩ := h
  exact heap_setBlock_other hb _ hk
theorem turned_size {w w' : World} {b : Nat} (h : w.mapTurned w' b) : w'.heap.size = w.heap.size := by
  obtain ⟨es, clock, es', clock', hb, rfl⟩ := h
  simp [setBlock]
theorem turned_below {B : Nat} {w a b : World} {mb : Nat} (h : Below B w a) (ht : a.mapTurned b mb) (hmb : B ≤ mb) (_hB : B ≤ w.heap.size) : Below B w b :=
  ⟨ht.grown.os.trans h.os, ht.grown.tape.trans h.tape, ht.grown.output.trans h.output, Nat.le_trans h.size ht.grown.size, fun k hk => (turned_block ht (by omega)).trans (h.block k hk)⟩
/-- One more spoke on one side. -/
theorem Aro.push {w w3 w4 : World} {base mb n : Nat} {D : DataW Value} {val : Int → Int → Value} {S : Int → Int → List SP} (h : Aro w base mb n D val S) {v way : Int} (hv : WfI v) (hway : WfI way) {A' : Option Addr} {c' : Nat} {s : SP}
    (hsame : ∀ k, k < w.heap.size → k ≠ mb → some k ≠ (val v way).ownBlock → w3.heap[k]? = w.heap[k]?)
    (hown : SOwn w3 base A' ((S v way).length + 1) c' (S v way ++ [s])) (hloc : (Value.slice A' ((S v way).length + 1) c').ownBlock = (val v way).ownBlock ∨ ∃ g, (Value.slice A' ((S v way).length + 1) c').ownBlock = some g ∧ w.heap.size ≤ g)
    (hmap : w4.ownsMap Try.prog 94 exR mb (n + 1) (D.put (kl v way) (.held (.slice A' ((S v way).length + 1) c')))) (ht : w3.mapTurned w4 mb) :
    Aro w4 base mb (n + 1) (D.put (kl v way) (.held (.slice A' ((S v way).length + 1) c'))) (updS val v way (.slice A' ((S v way).length + 1) c')) (updS S v way (S v way ++ [s])) := by
  have hlow := h.low
  have hlt : ∀ a b g, (val a b).ownBlock = some g → base ≤ g ∧ g < w.heap.size := fun a b g hg => by
    obtain ⟨A, c, e, ho⟩ := h.row a b
    rw [e] at hg
    exact World.ownsRow.lt ho g hg
  refine ⟨hmap, hlow, fun a b ha hb => ?_, fun a b => ?_, fun a b a' b' g h1 h2 => ?_⟩
  · by_cases e : a = v ∧ b = way
    · obtain ⟨rfl, rfl⟩ := e
      rw [updS_at]
      exact Maps.atKey_put_same h.isMap (keyed94.key (keyOf_side hv hway)) _ _
    · rw [updS_off _ _ e, Maps.atKey_put_other (fun e' => e (kl_inj ha hb hv hway e'))]
      exact h.at_ a b ha hb
  · by_cases e : a = v ∧ b = way
    · obtain ⟨rfl, rfl⟩ := e
      rw [updS_at, updS_at]
      refine ⟨A', c', by simp, ?_⟩
      have := hown.keep (b := w4) (fun k hk _ => turned_block ht (by omega))
      rw [show (S a b ++ [s]).length = (S a b).length + 1 by simp]
      exact this
    · rw [updS_off _ _ e, updS_off _ _ e]
      obtain ⟨A, c, e1, ho⟩ := h.row a b
      refine ⟨A, c, e1, ?_⟩
      rcases ho.2 with q | ⟨g', cap, cur, q, q1, q2, q3⟩
      · exact ⟨ho.1, .inl q⟩
      · have hg' := (Array.getElem?_eq_some_iff.1 q2).1
        refine ⟨ho.1, .inr ⟨g', cap, cur, q, q1, ?_, q3⟩⟩
        rw [turned_block ht (by omega), hsame g' hg' (by omega) (fun e2 => e (h.apart a b v way g' (by rw [e1, q]; rfl) e2.symm)), q2]
  · by_cases e : a = v ∧ b = way <;> by_cases e' : a' = v ∧ b' = way
    · exact ⟨e.1.trans e'.1.symm, e.2.trans e'.2.symm⟩
    · obtain ⟨rfl, rfl⟩ := e
      rw [updS_at] at h1
      rw [updS_off _ _ e'] at h2
      rcases hloc with hl | ⟨g2, hl, hg2⟩
      · exact h.apart a b a' b' g (hl.symm.trans h1) h2
      · rw [h1] at hl
        injection hl with hl
        have := hlt _ _ _ h2
        omega
    · obtain ⟨rfl, rfl⟩ := e'
      rw [updS_at] at h2
      rw [updS_off _ _ e] at h1
      rcases hloc with hl | ⟨g2, hl, hg2⟩
      · exact h.apart a b a' b' g h1 (hl.symm.trans h2)
      · rw [h2] at hl
        injection hl with hl
        have := hlt _ _ _ h1
        omega
    · rw [updS_off _ _ e] at h1
      rw [updS_off _ _ e'] at h2
      exact h.apart a b a' b' g h1 h2
end Go.Proofs.Ytebkkjfeikpfgaa
