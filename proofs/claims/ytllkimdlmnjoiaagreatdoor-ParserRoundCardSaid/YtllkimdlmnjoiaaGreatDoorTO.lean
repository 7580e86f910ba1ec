/- Carried over from an earlier seat. -/
import Derived.Test.YtllkimdlmnjoiaaGreatDoorTie
import Derived.Test.YtllkimdlmnjoiaaGreatDoorPA
import Derived.Test.YtllkimdlmnjoiaaGreatDoorVOp
import Derived.Test.YtllkimdlmnjoiaaGreatDoorTD
import Derived.Test.YtllkimdlmnjoiaaGreatDoorTA
import Derived.ProofKit
import Derived.LaidMore
import Derived.OpenShut
import Derived.Stop.Joined
namespace Go.Proofs.YtllkimdlmnjoiaaGreatDoor
set_option maxRecDepth 100000
set_option maxRecDepth 100000
set_option maxRecDepth 100000
set_option maxRecDepth 100000
open Go.RowKit Go.ChangeShapes Go.WideShapes Go.ChangeAt Go.Deep

section
variable {H : Type} {enc : TypeId × Value → H} {W : World} {base : Nat} {spare : Nat → Bool} {held : Bool}
theorem bytes25 : Tryz.prog.bytesOf 80 = 56 := by kernel_rfl
theorem cells25 : Tryz.prog.cellsOf 80 = 3 := by kernel_rfl
def ThreeCells (t : P) (A : Option Addr) (c : Nat) (A' : Option Addr) (c' : Nat) : List Value := [.int .i64 t.k, .slice A t.v.length c, .slice A' t.p.length c']
def OpensP (W : World) (base : Nat) (spare : Nat → Bool) (held : Bool) (enc : TypeId × Value → H) (n : Nat) : Prop :=
  ∀ (cs : List Value) (x : DataW H × List MemPlace), DataW.trod enc Tryz.prog W base spare held n 80 cs = some x → Sized x.1 80 → ∃ t A c A' c', cs = ThreeCells t A c A' c' ∧ Pd W 0 W.heap.size n t A c A' c'

theorem rowP_opens {n : Nat} (ih : OpensP W base spare held enc n) {v : Value} {x : DataW H × List MemPlace} (h : DataW.trod enc Tryz.prog W base spare held (n + 1) 78 [v] = some x) (hs : Sized x.1 78) :
    ∃ A c l, v = .slice A (List.length (α := P) l) c ∧ Pw W 0 W.heap.size n A c l := by
  rcases DataW.trod_slice Tryz.underlying78 h with ⟨hv, _⟩ | ⟨a, len, cap, elems, rest, n', hn, hv, hx, hb, hl, hm, hlen, hel, _, _⟩
  · injection hv with hv
    exact ⟨none, 0, [], hv, pw_nil _ _ _ _⟩
  · obtain rfl : n' = n := by omega
    injection hv with hv
    subst hx
    have hw : ∀ m ∈ (DataW.slice (elems.map (·.1)) (rest.map (·.1)) : DataW H).weights Tryz.prog 78, m ≤ 140737488351232 := hs
    simp only [DataW.weights, Tryz.underlying78, List.mem_cons, List.mem_append] at hw
    have h80 := hw _ (.inl rfl)
    rw [bytes25] at h80
    simp only [List.length_map] at h80
    have hone : ∀ i, i < len → ∃ cs' t A c A' c', W.cells? base (a.add (i * 3)) 3 = some cs' ∧ cs' = ThreeCells t A c A' c' ∧ Pd W 0 W.heap.size n' t A c A' c' := fun i hi => by
      have hb := hel i hi
      rw [cells25, List.getElem?_eq_getElem (by omega)] at hb
      obtain ⟨cs', h1, h2⟩ := Option.bind_eq_some_iff.1 hb
      obtain ⟨t, A, c, A', c', e, hr⟩ := ih cs' _ h2 (fun m hm => hw m (.inr (.inl (weightsAll_mem (List.mem_map_of_mem (List.getElem_mem _)) m hm))))
      exact ⟨cs', t, A, c, A', c', h1, e, hr⟩
    have hspot : 0 < len → a.spot = none ∧ a.block < W.heap.size := fun h0 => by
      obtain ⟨cs', t, A, c, A', c', h1, e, _⟩ := hone 0 h0
      have h3 := (World.cells?_some h1).2.2 0 (by omega)
      rw [e] at h3
      have h3' : W.cell? ((a.add (0 * 3)).add 0) = some (.int .i64 t.k) := h3
      have e0 : (a.add (0 * 3)).add 0 = a := by unfold Addr.add; simp
      rw [e0] at h3'
      exact ⟨World.cell?_spot h3', World.block_lt_of_cell? W _ h3'⟩
    have hall : ∀ k, k ≤ len → ∃ l : List P, l.length = k ∧ ∀ j t, l[j]? = some t → ∃ A1 c1 A2 c2, cells3 W a.block (a.off + j * 3) t A1 c1 A2 c2 ∧ Pd W 0 W.heap.size n' t A1 c1 A2 c2 := fun k => by
      induction k with
      | zero => exact fun _ => ⟨[], rfl, fun j t h => by simp at h⟩
      | succ k ihk =>
        intro hk
        obtain ⟨l, h1, h2⟩ := ihk (by omega)
        obtain ⟨cs', t, A, c, A', c', h3, e, hr⟩ := hone k (by omega)
        refine ⟨l ++ [t], by simp [h1], fun j u hj => ?_⟩
        rcases Nat.lt_or_ge j l.length with hlt | hge
        · rw [List.getElem?_append_left hlt] at hj
          exact h2 j u hj
        · have := (List.getElem?_eq_some_iff.1 hj).1
          simp at this
          obtain rfl : j = l.length := by omega
          simp at hj
          subst hj
          have hc := (World.cells?_some h3).2.2
          obtain ⟨b, off, spot⟩ := a
          obtain rfl : spot = none := (hspot (by omega)).1
          rw [add_none] at hc
          simp only [add_none] at hc
          subst e
          rw [← h1] at hc
          exact ⟨A, c, A', c', ⟨hc 0 (by decide), hc 1 (by decide), hc 2 (by decide)⟩, hr⟩
    obtain ⟨l, h1, h2⟩ := hall len (Nat.le_refl _)
    refine ⟨some a, cap, l, by rw [h1]; exact hv, ⟨by omega, hm, by omega, (fun e => by cases e), fun h0 => ?_⟩⟩
    obtain ⟨hsp, hbl⟩ := hspot (by omega)
    obtain ⟨b, off, spot⟩ := a
    obtain rfl : spot = none := hsp
    exact ⟨b, off, rfl, Nat.zero_le _, hbl, h2⟩
theorem pred_opens : ∀ n, OpensP W base spare held enc n := by
  intro n
  induction n using Nat.strongRecOn with
  | ind n ih =>
    intro cs x h hs
    obtain ⟨ys, m, hn, hx, hcl, hyl, hf⟩ := DataW.trod_struct Tryz.underlying80 h
    rw [cells25] at hcl
    match cs, hcl with
    | [v0, v1, v2], _ =>
      have f0 := hf 0 _ rfl
      have f1 := hf 1 _ rfl
      have f2 := hf 2 _ rfl
      match ys, hyl with
      | [y0, y1, y2], _ =>
        have g0 : DataW.trod enc Tryz.prog W base spare held m 3 [v0] = some y0 := f0
        have g1 : DataW.trod enc Tryz.prog W base spare held m 75 [v1] = some y1 := f1
        have g2 : DataW.trod enc Tryz.prog W base spare held m 78 [v2] = some y2 := f2
        subst hx
        have hw : ∀ q ∈ (DataW.agg [y0.1, y1.1, y2.1] : DataW H).weights Tryz.prog 80, q ≤ 140737488351232 := hs
        simp only [DataW.weights, Tryz.underlying80] at hw
        have hw' : ∀ q ∈ DataW.weightsEach Tryz.prog [3, 75, 78] [y0.1, y1.1, y2.1], q ≤ 140737488351232 := hw
        simp only [DataW.weightsEach, List.mem_append] at hw'
        obtain ⟨k, e0, _, k0⟩ := DataW.trod_int Tryz.underlying3 g0
        injection e0 with e0
        cases m with
        | zero => simp [DataW.trod] at g0
        | succ m =>
          obtain ⟨A, c, l, e3, r3⟩ := row_opens (value_opens m) g1 (fun z hz => hw' z (by simp [hz]))
          obtain ⟨A', c', l', e4, r4⟩ := rowP_opens (ih m (by omega)) g2 (fun z hz => hw' z (by simp [hz]))
          subst hn
          have b0 := bounds_i64 k0
          refine ⟨.mk k l l', A, c, A', c', by rw [e0, e3, e4]; rfl, ⟨⟨b0.1, b0.2⟩, ⟨m, r3⟩, r4.more (Nat.le_refl _) (Nat.le_refl _) (by omega)⟩⟩
end
end Go.Proofs.YtllkimdlmnjoiaaGreatDoor


namespace Go.Proofs.YtllkimdlmnjoiaaGreatDoor
set_option maxRecDepth 100000
open Go.ChangeShapes Go.WideShapes Go.ChangeAt Go.RowKit
set_option maxRecDepth 100000

abbrev laidN : List (String × DataW Unit) := [("wayfarer/tree.names", Rows.laid_wayfarer_tree_names)]
theorem gNames : Tryz.prog.globalNamed "wayfarer/tree.names" = some 0 := by kernel_rfl
theorem tNames : (Tryz.prog.globals[0]?).map (·.type) = some 138 := by kernel_rfl
theorem uNames : Tryz.prog.underlying 138 = some (.array 15 9) := by kernel_rfl
theorem door_met (os : Os) (args : Array Value) : laidMetH Tryz.prog laidN ((World.doorLaid Tryz.prog 14 os).forCall (fun _ _ => 0) ⟨#[], args, []⟩).memory :=
  laidMetH_of_parts3 (fuel := 8) (laidMet_of_run' 8 (by kernel_rfl) (by kernel_rfl)) (by kernel_rfl) (by kernel_rfl)
def namesD : List (List UInt8) := namesL.map fun s => s.data.toList
theorem namesD_eq : (Rows.laid_wayfarer_tree_names : DataW Unit) = .agg (namesD.map fun s => .lit (.string s)) := rfl
/-- The names lie where they are looked for. -/
theorem of_laid {W : World} (h : laidMetH Tryz.prog laidN W) : NM W := by
  rw [MakeChecks.laidMetH_plain _ _ _ (by kernel_rfl)] at h
  obtain ⟨ps, ⟨g0, t0, cs0, f0, p0, q0, hg0, ht0, hv0, hd0, _⟩, _, _⟩ := h
  obtain rfl := Option.some.inj (gNames.symm.trans hg0)
  obtain rfl := Option.some.inj (tNames.symm.trans ht0)
  obtain ⟨xs, m1, rfl, hx1, hlen, hn, hel⟩ := DataW.trod_array uNames hd0
  have c9 : Tryz.prog.cellsOf 9 = 1 := by kernel_rfl
  simp only [Prod.mk.injEq] at hx1
  have hx := hx1.1
  rw [namesD_eq] at hx
  injection hx with hx
  intro i s hi
  have hi15 : i < 15 := (List.getElem?_eq_some_iff.1 hi).1
  have h0 := hel i hi15
  rw [c9, Nat.mul_one] at h0
  have hxi : (xs.map (·.1))[i]? = some (.lit (.string s.data.toList)) := by
    rw [← hx, List.getElem?_map, namesD, List.getElem?_map, hi]
    rfl
  rw [List.getElem?_map] at hxi
  obtain ⟨x, hx2, hx3⟩ := Option.map_eq_some_iff.1 hxi
  rw [hx2] at h0
  obtain ⟨s', e1, e2, _⟩ := DataW.trod_string (Tryz.underlying9) h0
  have hcell := World.var?_cell hg0 hv0 i
  have hc : cs0.toList[i]? = some (.string s') := by
    have := congrArg (fun l => l[0]?) e1
    simpa using this
  rw [hcell, ← Array.getElem?_toList, hc]
  rw [e2] at hx3
  have : s'.data.toList = s.data.toList := by simpa using hx3
  congr 2
  obtain ⟨a⟩ := s'
  obtain ⟨b⟩ := s
  congr 1
  exact Array.toList_inj.1 this
end Go.Proofs.YtllkimdlmnjoiaaGreatDoor
namespace Go.Proofs.YtllkimdlmnjoiaaGreatDoor
set_option maxRecDepth 100000
set_option maxRecDepth 100000
set_option maxRecDepth 100000
open Go.RowKit Go.ChangeShapes Go.WideShapes Go.ChangeAt Go.Deep

section
variable {H : Type} {enc : TypeId × Value → H} {W : World} {base : Nat} {spare : Nat → Bool} {held : Bool}
theorem sized_consT {t : TypeId} {ts : List TypeId} {d : DataW H} {ds : List (DataW H)} (h : (DataW.weightsEach Tryz.prog (t :: ts) (d :: ds)).all (· ≤ reachBytes) = true) : Sized d t ∧ (DataW.weightsEach Tryz.prog ts ds).all (· ≤ reachBytes) = true := by
  rw [DataW.weightsEach, List.all_append, Bool.and_eq_true] at h
  refine ⟨fun n hn => ?_, h.2⟩
  have := List.all_eq_true.1 h.1 n hn
  exact of_decide_eq_true this
theorem bytes44 : Tryz.prog.bytesOf 82 = 184 := by kernel_rfl
theorem cells44 : Tryz.prog.cellsOf 82 = 11 := by kernel_rfl
theorem bytes36 : Tryz.prog.bytesOf 74 = 40 := by kernel_rfl
theorem cells36 : Tryz.prog.cellsOf 74 = 2 := by kernel_rfl
/-- A row of any element, opened. -/
theorem grow_opens {X τ : Type} {tr : X → τ} {cs : X → List Value} {n M E TS BY : Nat} {R : X → Prop} (hu : Tryz.prog.underlying TS = some (.slice E)) (hby : Tryz.prog.bytesOf E = BY) (hce : Tryz.prog.cellsOf E = n) (hn0 : 0 < n) (hcs : ∀ x, (cs x).length = n) (hM : ∀ k, BY * k ≤ 140737488351232 → k ≤ M)
    {fuel : Nat} (ih : ∀ (cs' : List Value) (y : DataW H × List MemPlace), DataW.trod enc Tryz.prog W base spare held fuel E cs' = some y → Sized y.1 E → ∃ x : X, cs' = cs x ∧ R x)
    {v : Value} {x : DataW H × List MemPlace} (h : DataW.trod enc Tryz.prog W base spare held (fuel + 1) TS [v] = some x) (hs : Sized x.1 TS) :
    ∃ A c l, v = .slice A (List.length (α := τ) l) c ∧ GRow tr cs n M W 0 W.heap.size R A c l := by
  rcases DataW.trod_slice hu h with ⟨hv, _⟩ | ⟨a, len, cap, elems, rest, n', hn, hv, hx, hb, hl, hm, hlen, hel, _, _⟩
  · injection hv with hv
    exact ⟨none, 0, [], hv, grow_none _ _ _ _⟩
  · obtain rfl : n' = fuel := by omega
    injection hv with hv
    subst hx
    have hw : ∀ m ∈ (DataW.slice (elems.map (·.1)) (rest.map (·.1)) : DataW H).weights Tryz.prog TS, m ≤ 140737488351232 := hs
    simp only [DataW.weights, hu, List.mem_cons, List.mem_append] at hw
    have h80 := hw _ (.inl rfl)
    rw [hby] at h80
    simp only [List.length_map] at h80
    have hone : ∀ i, i < len → ∃ cs' y, W.cells? base (a.add (i * n)) n = some cs' ∧ cs' = cs y ∧ R y := fun i hi => by
      have hb := hel i hi
      rw [hce, List.getElem?_eq_getElem (by omega)] at hb
      obtain ⟨cs', h1, h2⟩ := Option.bind_eq_some_iff.1 hb
      obtain ⟨y, e, hr⟩ := ih cs' _ h2 (fun m hm => hw m (.inr (.inl (weightsAll_mem (List.mem_map_of_mem (List.getElem_mem _)) m hm))))
      exact ⟨cs', y, h1, e, hr⟩
    have hspot : 0 < len → a.spot = none ∧ a.block < W.heap.size := fun h0 => by
      obtain ⟨cs', y, h1, e, _⟩ := hone 0 h0
      have h3 := (World.cells?_some h1).2.2 0 (by omega)
      rw [e] at h3
      have hc0 : 0 < (cs y).length := by rw [hcs]; exact hn0
      rw [List.getElem?_eq_getElem hc0] at h3
      have e0 : (a.add (0 * n)).add 0 = a := by unfold Addr.add; simp
      rw [e0] at h3
      exact ⟨World.cell?_spot h3, World.block_lt_of_cell? W _ h3⟩
    have hall : ∀ k, k ≤ len → ∃ l : List τ, l.length = k ∧ ∀ j t, l[j]? = some t → ∃ y : X, tr y = t ∧ Cs W a.block (a.off + j * n) (cs y) ∧ R y := fun k => by
      induction k with
      | zero => exact fun _ => ⟨[], rfl, fun j t h => by simp at h⟩
      | succ k ihk =>
        intro hk
        obtain ⟨l, h1, h2⟩ := ihk (by omega)
        obtain ⟨cs', y, h3, e, hr⟩ := hone k (by omega)
        refine ⟨l ++ [tr y], by simp [h1], fun j u hj => ?_⟩
        rcases Nat.lt_or_ge j l.length with hlt | hge
        · rw [List.getElem?_append_left hlt] at hj
          exact h2 j u hj
        · have := (List.getElem?_eq_some_iff.1 hj).1
          simp at this
          obtain rfl : j = l.length := by omega
          simp at hj
          subst hj
          have hc := (World.cells?_some h3).2.2
          obtain ⟨b, off, spot⟩ := a
          obtain rfl : spot = none := (hspot (by omega)).1
          rw [add_none] at hc
          simp only [add_none] at hc
          subst e
          rw [← h1] at hc
          refine ⟨y, rfl, fun i v hi => ?_, hr⟩
          have hin : i < n := by have := (List.getElem?_eq_some_iff.1 hi).1; rw [hcs] at this; exact this
          rw [hc i hin, hi]
    obtain ⟨l, h1, h2⟩ := hall len (Nat.le_refl _)
    refine ⟨some a, cap, l, by rw [h1]; exact hv, ⟨by omega, hm, by rw [h1]; exact hM _ (Nat.le_trans (by rw [Nat.mul_comm]; exact Nat.mul_le_mul_right BY (by omega)) h80), (fun e => by cases e), fun h0 => ?_⟩⟩
    obtain ⟨hsp, hbl⟩ := hspot (by omega)
    obtain ⟨b, off, spot⟩ := a
    obtain rfl : spot = none := hsp
    exact ⟨b, off, rfl, Nat.zero_le _, hbl, h2⟩
def OpensC (W : World) (base : Nat) (spare : Nat → Bool) (held : Bool) (enc : TypeId × Value → H) (n : Nat) : Prop :=
  ∀ (v : Value) (x : DataW H × List MemPlace), DataW.trod enc Tryz.prog W base spare held n 22 [v] = some x → Sized x.1 22 → ∃ A c l, v = .slice A (List.length (α := C) l) c ∧ Ch W 0 W.heap.size n A c l
theorem str_size {s : ByteArray} {y : DataW H × List MemPlace} (x2 : y = (.lit (.string s.data.toList), [])) (hw : ∀ q ∈ y.1.weights Tryz.prog 9, q ≤ 140737488351232) : s.size ≤ 140737488355328 := by
  have := hw s.data.toList.length (by rw [x2]; simp only [DataW.weights, List.mem_singleton])
  have e : s.data.toList.length = s.size := Array.length_toList
  omega
theorem arg_opens {n : Nat} (ih : ∀ q, q < n → OpensC W base spare held enc q) (cs : List Value) (x : DataW H × List MemPlace) (h : DataW.trod enc Tryz.prog W base spare held n 82 cs = some x) (hs : Sized x.1 82) :
    ∃ g : Gt, cs = g.cs ∧ GOk W 0 W.heap.size (Ch W 0 W.heap.size n) g := by
  obtain ⟨ys, m, hn, hx, hcl, hyl, hf⟩ := DataW.trod_struct Tryz.underlying82 h
  rw [cells44] at hcl
  match cs, hcl with
  | [v0, v1, v2, v3, v4, v5, v6, v7, v8, v9, v10], _ =>
    have f0 := hf 0 _ rfl
    have f1 := hf 1 _ rfl
    have f2 := hf 2 _ rfl
    have f3 := hf 3 _ rfl
    have f4 := hf 4 _ rfl
    match ys, hyl with
    | [y0, y1, y2, y3, y4], _ =>
      have g0 : DataW.trod enc Tryz.prog W base spare held m 3 [v0] = some y0 := f0
      have g1 : DataW.trod enc Tryz.prog W base spare held m 77 [v1, v2, v3, v4, v5] = some y1 := f1
      have g2 : DataW.trod enc Tryz.prog W base spare held m 80 [v6, v7, v8] = some y2 := f2
      have g3 : DataW.trod enc Tryz.prog W base spare held m 22 [v9] = some y3 := f3
      have g4 : DataW.trod enc Tryz.prog W base spare held m 9 [v10] = some y4 := f4
      subst hx
      have hw : ∀ q ∈ (DataW.agg [y0.1, y1.1, y2.1, y3.1, y4.1] : DataW H).weights Tryz.prog 82, q ≤ 140737488351232 := hs
      simp only [DataW.weights, Tryz.underlying82] at hw
      have hw' : ∀ q ∈ DataW.weightsEach Tryz.prog [3, 77, 80, 22, 9] [y0.1, y1.1, y2.1, y3.1, y4.1], q ≤ 140737488351232 := hw
      simp only [DataW.weightsEach, List.mem_append] at hw'
      obtain ⟨k, e0, _, k0⟩ := DataW.trod_int Tryz.underlying3 g0
      obtain ⟨s, e4, x4, _⟩ := DataW.trod_string Tryz.underlying9 g4
      injection e0 with e0
      injection e4 with e4
      obtain ⟨t, A1, c1, A2, c2, e1, r1⟩ := value_opens m _ _ g1 (fun z hz => hw' z (by simp [hz]))
      obtain ⟨p, B1, d1, B2, d2, e2, r2⟩ := pred_opens m _ _ g2 (fun z hz => hw' z (by simp [hz]))
      obtain ⟨A, c, l, e3, r3⟩ := ih m (by omega) _ _ g3 (fun z hz => hw' z (by simp [hz]))
      have b0 := bounds_i64 k0
      have hsz := str_size x4 (fun z hz => hw' z (by simp [hz]))
      unfold FiveCells at e1
      unfold ThreeCells at e2
      injection e1 with u1 e1
      injection e1 with u2 e1
      injection e1 with u3 e1
      injection e1 with u4 e1
      injection e1 with u5 e1
      injection e2 with u6 e2
      injection e2 with u7 e2
      injection e2 with u8 e2
      subst e0 e4 u1 u2 u3 u4 u5 u6 u7 u8 e3
      exact ⟨⟨k, ⟨t, A1, c1, A2, c2⟩, ⟨p, B1, d1, B2, d2⟩, l, A, c, s⟩, rfl, b0.1, b0.2, hsz, ⟨m, r1⟩, ⟨m, r2⟩, r3.up (by omega)⟩
theorem call_opens {n : Nat} (ih : ∀ q, q < n → OpensC W base spare held enc q) (cs : List Value) (x : DataW H × List MemPlace) (h : DataW.trod enc Tryz.prog W base spare held n 74 cs = some x) (hs : Sized x.1 74) :
    ∃ g : Ct, cs = g.cs ∧ COk W 0 W.heap.size (Ch W 0 W.heap.size n) g := by
  obtain ⟨ys, m, hn, hx, hcl, hyl, hf⟩ := DataW.trod_struct Tryz.underlying74 h
  rw [cells36] at hcl
  match cs, hcl with
  | [v0, v1], _ =>
    have f0 := hf 0 _ rfl
    have f1 := hf 1 _ rfl
    match ys, hyl with
    | [y0, y1], _ =>
      have g0 : DataW.trod enc Tryz.prog W base spare held m 9 [v0] = some y0 := f0
      have g1 : DataW.trod enc Tryz.prog W base spare held m 72 [v1] = some y1 := f1
      subst hx
      have hw : ∀ q ∈ (DataW.agg [y0.1, y1.1] : DataW H).weights Tryz.prog 74, q ≤ 140737488351232 := hs
      simp only [DataW.weights, Tryz.underlying74] at hw
      have hw' : ∀ q ∈ DataW.weightsEach Tryz.prog [9, 72] [y0.1, y1.1], q ≤ 140737488351232 := hw
      simp only [DataW.weightsEach, List.mem_append] at hw'
      obtain ⟨s, e0, x0, _⟩ := DataW.trod_string Tryz.underlying9 g0
      injection e0 with e0
      have hsz := str_size x0 (fun z hz => hw' z (by simp [hz]))
      cases m with
      | zero => simp [DataW.trod] at g0
      | succ m =>
        obtain ⟨A, c, l, e1, r1⟩ := grow_opens (tr := Gt.t) (cs := Gt.cs) (M := 764877654082) Tryz.underlying72 bytes44 cells44 (by decide) (fun _ => rfl) (fun k hk => by omega) (arg_opens (n := m) (fun q hq => ih q (by omega))) g1 (fun z hz => hw' z (by simp [hz]))
        subst e0 e1
        exact ⟨⟨s, l, A, c⟩, rfl, hsz, GRow.imp r1 (Kept.refl _ _ _) (Nat.le_refl _) (Nat.le_refl _) (fun g hg => GOk.imp (Kept.refl _ _ _) (Nat.le_refl _) (Nat.le_refl _) (fun _ _ _ hc => hc.up (by omega)) hg)⟩
theorem calls_opens : ∀ n, OpensC W base spare held enc n := by
  intro n
  induction n using Nat.strongRecOn with
  | ind n ih =>
    intro v x h hs
    cases n with
    | zero => simp [DataW.trod] at h
    | succ n =>
      obtain ⟨A, c, l, e, r⟩ := grow_opens (tr := Ct.t) (cs := Ct.cs) (M := 3518437208780) Tryz.underlying22 bytes36 cells36 (by decide) (fun _ => rfl) (fun k hk => by omega) (call_opens (n := n) (fun q hq => ih q (by omega))) h hs
      exact ⟨A, c, l, e, r⟩
theorem open_calls {b0 : Nat} {v : Value} {d : DataW H} {ps : List MemPlace} (hv : Value.okWide Tryz.prog W .any b0 22 v) (h : DataW.Trod enc Tryz.prog W base spare held 22 v d ps) (hs : Sized d 22) : ∃ A c l n, v = .slice A (List.length (α := C) l) c ∧ Ch W 0 W.heap.size n A c l := by
  obtain ⟨a, len, cap, rfl⟩ := okWide_slice Tryz.underlying22 hv
  obtain ⟨n, hf⟩ := h
  have hf' : DataW.trod enc Tryz.prog W base spare held n 22 [.slice a len cap] = some (d, ps) := hf
  obtain ⟨A, c, l, e, hr⟩ := calls_opens n _ _ hf' hs
  exact ⟨A, c, l, n, e, hr⟩
end
end Go.Proofs.YtllkimdlmnjoiaaGreatDoor



