/- A call that gets an argument more, in calls that lie in a block of their own. -/
import Derived.Test.YtiiopbcihieblaaGreatDoorWC
import Derived.Test.YtiiopbcihieblaaGreatDoorTT
import Derived.Test.YtiiopbcihieblaaGreatDoorTL
import Derived.Test.YtiiopbcihieblaaGreatDoorTC
import Derived.Test.YtiiopbcihieblaaGreatDoorVPh
import Derived.ArgAppend
import Derived.Test.YtiiopbcihieblaaGreatDoorWF
namespace Go.Proofs.YtiiopbcihieblaaGreatDoor
set_option maxRecDepth 100000
open Go.RowKit Go.Sort

/-- append of one argument to a row that has no room. -/
theorem wp_append_full {o : Oper} {a : Act} {W : World} {K : Act → World → Prop} {Q : Exit → Act → World → Prop} (s x : Operand)
    (ho : o.op = .call { callee := .builtin .append, args := #[s, x], argTypes := #[34, 34] })
    {lo B : Nat} {R : Gt → Prop} {A : Option Addr} {l : List Ag} (hrow : GRowA W lo B R A l.length l) (hs : a.eval s = .slice A l.length l.length)
    (ad : Addr) (b : Gt) (hx : a.eval x = .slice (some ad) 1 1) (hb : ∀ j u, b.cs[j]? = some u → W.cell? (ad.add j) = some u) (hlen : (l.length + 1) * 184 ≤ 140737488355328)
    (h : ∀ xs g cap w', xs.map Gt.t = l → (∀ x ∈ xs, R x) → GOwn Gt.cs 11 44 w' W.heap.size (some ⟨g, 0, none⟩) (l.length + 1) cap (xs ++ [b]) → W.grownBy w' none → K (a.put o.dst (.slice (some ⟨g, 0, none⟩) (l.length + 1) cap)) w') :
    Oper.wp Tryz.prog o a W K Q := by
  obtain ⟨i0, hi, hz0, hz1, hz2⟩ := info_partsG infoG
  obtain ⟨xs, hm, hR, h0, hc⟩ := hrow.list
  have hxl : xs.length = l.length := by rw [← hm, List.length_map]
  have hfl : (xs.flatMap Gt.cs).length = l.length * 11 := by rw [flatG_len Gt.cs_len, hxl]
  have fin : ∀ v' w', w'.ownsRow W.heap.size 44 11 v' (l.length + 1) (xs.flatMap Gt.cs ++ b.cs) → W.grownBy w' none → K (a.put o.dst v') w' := fun v' w' h1 h2 => by
    have hv : ∃ g cap, v' = .slice (some ⟨g, 0, none⟩) (l.length + 1) cap := by
      rcases h1.2 with ⟨_, e0⟩ | ⟨g, cap, cur, e, _⟩
      · omega
      · exact ⟨g, cap, e⟩
    obtain ⟨g, cap, rfl⟩ := hv
    exact h xs g cap w' hm hR (by unfold GOwn; rw [List.flatMap_append, List.flatMap_cons, List.flatMap_nil, List.append_nil]; exact h1) h2
  have hcell : ∀ b', A = some b' → ∀ j u, (xs.flatMap Gt.cs)[j]? = some u → W.cell? (b'.add j) = some u := fun b' e j u hj => by
    by_cases hl0 : 0 < l.length
    · obtain ⟨b1, off, e1, _, _, hcc⟩ := hc hl0
      rw [e] at e1
      injection e1 with e1
      subst e1
      exact flatG_cell Gt.cs_len (by decide) hcc j u hj
    · have := (List.getElem?_eq_some_iff.1 hj).1
      omega
  have hmx : l.length + 1 ≤ maxLen := by unfold maxLen; omega
  cases A with
  | some b1 =>
    obtain ⟨v', w', hrun, r1, r2⟩ := run_append_arg_grows (P := Tryz.prog) W 34 o.type 44 i0 _ 11 184 Tryz.underlying34 hi hz0 hz1 hz2 (by rfl) (by decide) b1 l.length l.length (xs.flatMap Gt.cs) hfl (hcell b1 rfl) ad 1 1 b.cs rfl hb (by omega) hmx hlen
    unfold Oper.wp
    simp [execOp, ho, resolve, invoke, builtin, hs, hx, hrun, Result.andThen]
    exact fin _ _ r1 r2
  | none =>
    have hl0 : l.length = 0 := hrow.nil rfl
    have hx0 : xs = [] := h0 hl0
    subst hx0
    rw [hl0] at hs
    obtain ⟨v', w', hrun, r1, r2, _⟩ := run_append_own (P := Tryz.prog) W W.heap.size 34 o.type 44 i0 _ 11 184 Tryz.underlying34 hi hz0 hz1 hz2 (by rfl) (by decide) (.slice none 0 0) 0 [] (World.ownsRow_nil W _ 44 11) ad 1 1 b.cs rfl hb (oneG b) (by omega) (by omega) (Nat.le_refl _)
    unfold Oper.wp
    simp [execOp, ho, resolve, invoke, builtin, hs, hx, hrun, Result.andThen]
    exact fin _ _ (by rw [hl0]; simpa using r1) r2

/-- One cell of an element of a row is written. -/
theorem GFill.one {X τ : Type} {tr : X → τ} {cs : X → List Value} {n : Nat} {T : TypeId} {R : World → Nat → Nat → X → Prop} (hR : Mono R) (hn : ∀ x, (cs x).length = n) {w : World} {g N : Nat} {done : List τ} (h : GFill tr cs n T R w g N done)
    (hN : done.length ≤ N) (k i : Nat) (hi : i < n) {t : τ} (ht : done[k]? = some t) (v : Value) {t' : τ}
    (hf : ∀ x, tr x = t → Cs w g (k * n) (cs x) → R w (g + 1) w.heap.size x → ∃ x', tr x' = t' ∧ cs x' = (cs x).set i v ∧ R w (g + 1) w.heap.size x') :
    GFill tr cs n T R (w.setCell ⟨g, k * n + i, none⟩ v) g N (done.set k t') := by
  have hk : k < done.length := (List.getElem?_eq_some_iff.1 ht).1
  have hmul : ∀ a b : Nat, a < b → a * n + n ≤ b * n := fun a b hab => by
    have := Nat.mul_le_mul_right n (Nat.succ_le_of_lt hab)
    rwa [Nat.succ_mul] at this
  have hkept : Kept (g + 1) w.heap.size w (w.setCell ⟨g, k * n + i, none⟩ v) := fun j h1 _ => Below.heap_setCell _ _ _ _ (by show j ≠ g; omega)
  have hsz : (w.setCell ⟨g, k * n + i, none⟩ v).heap.size = w.heap.size := by simp [World.setCell]
  obtain ⟨c0, hg, hs⟩ := h.blk
  have hkn := hmul k N (by omega)
  have hg' : (w.setCell ⟨g, k * n + i, none⟩ v).heap[g]? = some (.cells (c0.setIfInBounds (k * n + i) v) T (0, 0)) := by simp [World.setCell, Array.getElem?_modify, hg]
  refine ⟨⟨_, hg', by rw [Array.size_setIfInBounds]; exact hs⟩, fun j u hj => ?_⟩
  rw [hsz]
  by_cases e : j = k
  · subst e
    rw [List.getElem?_set_self hk] at hj
    injection hj with hj
    subst hj
    obtain ⟨x, q0, q1, q2⟩ := h.el j t ht
    obtain ⟨x', r0, r1, r2⟩ := hf x q0 q1 q2
    refine ⟨x', r0, fun i' u hu => ?_, hR _ _ _ _ _ _ _ hkept (Nat.le_refl _) (Nat.le_refl _) r2⟩
    rw [cell_of_row _ _ _ _ _ _ hg']
    rw [r1] at hu
    by_cases ei : i' = i
    · subst ei
      rw [List.getElem?_set_self (by rw [hn]; exact hi)] at hu
      rw [Array.getElem?_setIfInBounds_self_of_lt (by omega)]
      exact hu
    · rw [List.getElem?_set_ne (by omega)] at hu
      rw [Array.getElem?_setIfInBounds_ne (by omega)]
      have := q1 i' u hu
      rwa [cell_of_row _ _ _ _ _ _ hg] at this
  · rw [List.getElem?_set_ne (by omega)] at hj
    obtain ⟨x, q0, q1, q2⟩ := h.el j u hj
    refine ⟨x, q0, fun i' u' hu => ?_, hR _ _ _ _ _ _ _ hkept (Nat.le_refl _) (Nat.le_refl _) q2⟩
    have hin : i' < n := by have := (List.getElem?_eq_some_iff.1 hu).1; rw [hn] at this; exact this
    rw [cell_of_row _ _ _ _ _ _ hg', Array.getElem?_setIfInBounds_ne (by
      rcases Nat.lt_or_gt_of_ne e with h1 | h1
      · have := hmul j k h1; omega
      · have := hmul k j h1; omega)]
    have := q1 i' u' hu
    rwa [cell_of_row _ _ _ _ _ _ hg] at this
theorem GFill.weak {X τ : Type} {tr : X → τ} {cs : X → List Value} {n : Nat} {T : TypeId} {R R' : World → Nat → Nat → X → Prop} {w : World} {g N : Nat} {done : List τ} (h : GFill tr cs n T R w g N done) (hR : ∀ x, R w (g + 1) w.heap.size x → R' w (g + 1) w.heap.size x) : GFill tr cs n T R' w g N done :=
  ⟨h.blk, fun j t hj => by
    obtain ⟨x, a, b, c⟩ := h.el j t hj
    exact ⟨x, a, b, hR x c⟩⟩
/-- A call gets another name. -/
theorem GFill.name {w : World} {g D : Nat} {l : List C} (h : GFill Ct.t Ct.cs 2 36 (RC D) w g l.length l) (k : Nat) {t : C} (ht : l[k]? = some t) (s : ByteArray) (hs : s.size ≤ 140737488355328) :
    GFill Ct.t Ct.cs 2 36 (RC D) (w.setCell ⟨g, k * 2, none⟩ (.string s)) g l.length (l.set k (.mk s t.a)) :=
  GFill.one (RC.mono D) Ct.cs_len h (Nat.le_refl _) k 0 (by decide) ht (.string s) fun x e _ hr => ⟨⟨s, x.l, x.A, x.c⟩, by rw [← e]; rfl, rfl, ⟨⟨hs, hr.1.a⟩, hr.2⟩⟩
def RK (D : Nat) (w : World) (lo B : Nat) (y : Ct) : Prop := COk w lo B (Ch w lo B D) y
theorem RK.mono (D : Nat) : Mono (RK D) := fun _ _ _ _ _ _ _ hk h1 h2 h => COk.imp hk h1 h2 (fun _ _ _ => Ch.imp hk h1 h2 (Nat.le_refl _)) h
/-- A row without room, wherever it lies; a row of one's own. -/
def IsA (lo D n : Nat) (l : List Ag) : Value → World → Prop := fun v w => ∃ A, v = .slice A n n ∧ GRowA w lo w.heap.size (RA D w lo w.heap.size) A n l
def IsL (lo D n : Nat) (l : List Ag) : Value → World → Prop := fun v w => ∃ g c, v = .slice (some ⟨g, 0, none⟩) n c ∧ GRowA w lo w.heap.size (RA D w lo w.heap.size) (some ⟨g, 0, none⟩) c l
def IsB (b : Gt) : Value → World → Prop := fun v w => ∃ p, v = .slice (some ⟨p, 0, none⟩) 1 1 ∧ BG w p b
theorem rowA_next {w w' : World} {lo D c : Nat} {A : Option Addr} {l : List Ag} (h : GRowA w lo w.heap.size (RA D w lo w.heap.size) A c l) (hb : Below w.heap.size w w') : GRowA w' lo w'.heap.size (RA D w' lo w'.heap.size) A c l :=
  GRow.imp h (Kept.of_below hb (Nat.le_refl _)) (Nat.le_refl _) hb.size (fun _ hx => RA.mono D _ _ _ _ _ _ _ (Kept.of_below hb (Nat.le_refl _)) (Nat.le_refl _) hb.size hx)
theorem IsA.stays (lo D n : Nat) (l : List Ag) : Stays (IsA lo D n l) := fun _ _ _ ⟨A, e, h⟩ hb => ⟨A, e, rowA_next h hb⟩
theorem IsL.stays (lo D n : Nat) (l : List Ag) : Stays (IsL lo D n l) := fun _ _ _ ⟨g, c, e, h⟩ hb => ⟨g, c, e, rowA_next h hb⟩
theorem IsB.stays (b : Gt) : Stays (IsB b) := fun _ _ _ ⟨p, e, h⟩ hb => ⟨p, e, h.next hb⟩
theorem BG.cells {w : World} {p : Nat} {b : Gt} (h : BG w p b) : ∀ j u, b.cs[j]? = some u → w.cell? ⟨p, j, none⟩ = some u := fun j u hu => by
  have hj := (List.getElem?_eq_some_iff.1 hu).1
  have hj' : j < 11 := hj
  obtain ⟨c0, c1, c2, c3, c4, c5, c6, c7, c8, c9, c10, _⟩ := h
  rcases j with _ | _ | _ | _ | _ | _ | _ | _ | _ | _ | _ | j
  all_goals first | omega | (injection hu with hu; subst hu; assumption)
theorem grown_below {w w' : World} (hg : w.grownBy w' none) : Below w.heap.size w w' := ⟨hg.os, hg.tape, hg.output, hg.size, fun k hk => hg.block k hk (by simp)⟩
/-- The row that is new. -/
theorem row_longer {w w' : World} {lo g' cap D : Nat} {l : List Ag} (hlo : lo ≤ w.heap.size) (hta : l.length + 1 ≤ 764877654082) (hg : w.grownBy w' none) {xs : List Gt} {b : Gt} (hm : xs.map Gt.t = l) (hxs : ∀ x ∈ xs, RA D w lo w.heap.size x) (hb : ∀ W lo B, RA D W lo B b)
    (ho : GOwn Gt.cs 11 44 w' w.heap.size (some ⟨g', 0, none⟩) (l.length + 1) cap (xs ++ [b])) : GRowA w' lo w'.heap.size (RA D w' lo w'.heap.size) (some ⟨g', 0, none⟩) cap (l ++ [b.t]) := by
  have hk : Kept lo w.heap.size w w' := fun k _ h2 => hg.block k h2 (by simp)
  have := GOwn.row (tr := Gt.t) (M := 764877654082) Gt.cs_len (by decide) ho hta (R := RA D w' lo w'.heap.size) (fun x hx => by
    rcases List.mem_append.1 hx with hx | hx
    · exact RA.mono D _ _ _ _ _ _ _ hk (Nat.le_refl _) hg.size (hxs x hx)
    · rw [List.mem_singleton.1 hx]; exact hb _ _ _)
  rw [List.map_append, hm] at this
  exact GRow.imp this (Kept.refl _ _ _) hlo (Nat.le_refl _) (fun _ h => h)
/-- A call's arguments get one more. -/
theorem GFill.longer {w' : World} {g g' cap D k N : Nat} {l : List C} (h : GFill Ct.t Ct.cs 2 36 (RC D) w' g N l) (hN : l.length = N) {t : C} (ht : l[k]? = some t) (hl : N ≤ 3518437208780) {b : Gt}
    (row : GRowA w' (g + 1) w'.heap.size (RA D w' (g + 1) w'.heap.size) (some ⟨g', 0, none⟩) cap (t.a ++ [b.t])) :
    Ch (w'.setCell ⟨g, k * 2 + 1, none⟩ (.slice (some ⟨g', 0, none⟩) (t.a.length + 1) cap)) 0 (w'.setCell ⟨g, k * 2 + 1, none⟩ (.slice (some ⟨g', 0, none⟩) (t.a.length + 1) cap)).heap.size (D + 1) (some ⟨g, 0, none⟩) N (l.set k (.mk t.n (t.a ++ [b.t]))) := by
  have h1 := h.weak (R' := RK D) (fun x hx => hx.1)
  have h2 := GFill.one (RK.mono D) Ct.cs_len h1 (by omega) k 1 (by decide) ht (.slice (some ⟨g', 0, none⟩) (t.a.length + 1) cap) (t' := .mk t.n (t.a ++ [b.t])) fun x e _ hr =>
    ⟨⟨x.n, t.a ++ [b.t], some ⟨g', 0, none⟩, cap⟩, by rw [← e]; rfl, by simp [Ct.cs], ⟨hr.n1, row⟩⟩
  generalize w'.setCell ⟨g, k * 2 + 1, none⟩ (.slice (some ⟨g', 0, none⟩) (t.a.length + 1) cap) = W2 at h2 ⊢
  have e : (l.set k (.mk t.n (t.a ++ [b.t]))).length = N := by rw [List.length_set]; exact hN
  have h3 : GFill Ct.t Ct.cs 2 36 (RK D) W2 g (l.set k (.mk t.n (t.a ++ [b.t]))).length (l.set k (.mk t.n (t.a ++ [b.t]))) := by rw [e]; exact h2
  have h4 := h3.row (lo := 0) (M := 3518437208780) (R' := fun x => COk W2 0 W2.heap.size (Ch W2 0 W2.heap.size D) x) (Nat.zero_le _) (by rw [e]; exact hl) (by rw [e]; unfold maxLen; omega) (fun x hx => COk.imp (Kept.refl _ _ _) (Nat.zero_le _) (Nat.le_refl _) (fun _ _ _ => Ch.imp (Kept.refl _ _ _) (Nat.zero_le _) (Nat.le_refl _) (Nat.le_refl _)) hx)
  rw [e] at h4
  exact h4
def hwD : Nat → Tmp := fun j => [77, 78, 79, 80, 81, 82, 83, 84, 85, 86, 0].getD j 0
def hwE : Nat → List Nat := fun j => [[], [], [], [], [2, 3], [4], [5], [], [7], [6, 8], []].getD j []
end Go.Proofs.YtiiopbcihieblaaGreatDoor
/- A query is none any more. -/
namespace Go.Proofs.YtiiopbcihieblaaGreatDoor
set_option maxRecDepth 100000
open Go.RowKit Go.Sort

theorem copyV_same : ∀ (r : Nat) (v : V), okV r v = true → copyV r v = v
  | 0, _, h => by cases h
  | r + 1, v, h => by
    obtain ⟨_, h2, h3, _⟩ := (ok_parts r v).1 h
    have e : ∀ l : List V, (∀ x ∈ l, okV r x = true) → l.map (copyV r) = l := fun l hl => by
      conv => rhs; rw [← List.map_id l]
      exact List.map_congr_left (fun x hx => copyV_same r x (hl x hx))
    cases v
    simp only [copyV, V.l, V.m] at h2 h3 ⊢
    simp only [V.k, V.n, V.s]
    rw [e _ h2, e _ h3]
theorem copyP_same : ∀ (r : Nat) (p : P), okP r p = true → copyP r p = p
  | 0, _, h => by cases h
  | r + 1, p, h => by
    obtain ⟨_, h2, h3⟩ := (okP_parts r p).1 h
    have e1 : p.v.map (copyV 12) = p.v := by
      conv => rhs; rw [← List.map_id p.v]
      exact List.map_congr_left (fun x hx => copyV_same 12 x (h2 x hx))
    have e2 : p.p.map (copyP r) = p.p := by
      conv => rhs; rw [← List.map_id p.p]
      exact List.map_congr_left (fun x hx => copyP_same r x (h3 x hx))
    cases p
    simp only [copyP, P.v, P.p] at e1 e2 ⊢
    simp only [P.k]
    rw [e1, e2]
theorem copyC_same : ∀ (r : Nat) (l : List C), chOk r l = true → copyC (r + 1) l = l
  | 0, _, h => by cases h
  | r + 1, l, h => by
    obtain ⟨_, hc⟩ := ch_len h
    show l.map (copyCl (copyC (r + 1))) = l
    conv => rhs; rw [← List.map_id l]
    refine List.map_congr_left (fun x hx => ?_)
    obtain ⟨_, _, _, ha⟩ := call_parts (hc x hx)
    have e : x.a.map (copyA (copyC (r + 1))) = x.a := by
      conv => rhs; rw [← List.map_id x.a]
      refine List.map_congr_left (fun g hg => ?_)
      have ho := ha g hg
      have hf := argOk_fit ho
      obtain ⟨z1, z2, z3, z4⟩ := fit_rest hf
      have ev : copyV 12 g.v = g.v := by
        by_cases hk : g.k = 1
        · rw [argOk_1 _ _ hf hk, Bool.and_eq_true] at ho
          exact copyV_same 12 _ ho.1
        · rw [z1 hk]; rfl
      have ep : copyP 12 g.p = g.p := by
        by_cases hk : g.k = 2
        · rw [argOk_2 _ _ hf hk, Bool.and_eq_true] at ho
          exact copyP_same 12 _ ho.1
        · rw [z2 hk]; rfl
      have ec : copyC (r + 1) g.c = g.c := by
        by_cases hk : g.k = 3
        · rw [argOk_3 _ _ hf hk] at ho
          exact copyC_same r _ ho
        · rw [z3 hk]; rfl
      show (⟨g.k, copyV 12 g.v, copyP 12 g.p, copyC (r + 1) g.c, g.s⟩ : Ag) = g
      rw [ev, ep, ec]
    show C.mk x.n (x.a.map (copyA (copyC (r + 1)))) = x
    rw [e]
    cases x; rfl
/-- No argument of this kind may be. -/
def badG (h : Nat) : Gt :=
  if h = 2 then gA 4 v0 ⟨#[119, 105, 116, 104, 105, 110]⟩ else if h = 3 then gA 1 (.mk 4 0 ⟨#[]⟩ [] []) ⟨#[]⟩ else if h = 4 then gA 1 (.mk 3 0 ⟨#[97, 10]⟩ [] []) ⟨#[]⟩
  else if h = 5 then gA 4 (.mk 2 1 ⟨#[]⟩ [] []) ⟨#[97, 115, 99]⟩ else if h = 6 then gA 3 v0 ⟨#[]⟩ else gA 0 v0 ⟨#[]⟩
theorem bad_no (r h : Nat) : argOk (chOk r) (badG h).t = false := by
  unfold badG
  split
  · kernel_rfl
  split
  · kernel_rfl
  split
  · kernel_rfl
  split
  · kernel_rfl
  split
  · cases r <;> kernel_rfl
  · kernel_rfl
theorem bad_in (h : Nat) : ∀ W lo B, RA 11 W lo B (badG h) := by
  intro W lo B
  have key : ∀ k t s, -9223372036854775808 ≤ k → k ≤ 9223372036854775807 → V.l t = [] → V.m t = [] → Fld t → ByteArray.size s ≤ 140737488355328 → RA 11 W lo B (gA k t s) := fun k t s k0 k1 hl hm hf hs =>
    ⟨k0, k1, hs, ⟨1, ⟨hf, by rw [show (gA k t s).x.t.l = [] from hl]; exact rw_nil _ _ _ _, by rw [show (gA k t s).x.t.m = [] from hm]; exact rw_nil _ _ _ _⟩⟩, ⟨1, ⟨⟨by show (-9223372036854775808 : Int) ≤ 0; decide, by show (0 : Int) ≤ 9223372036854775807; decide⟩, ⟨0, rw_nil _ _ _ _⟩, pw_nil _ _ _ _⟩⟩, ch_none _ _ _ _⟩
  unfold badG
  split
  · exact key _ _ _ (by decide) (by decide) rfl rfl ⟨by decide, by decide, by decide, by decide, by decide⟩ (by decide)
  split
  · exact key _ _ _ (by decide) (by decide) rfl rfl ⟨by decide, by decide, by decide, by decide, by decide⟩ (by decide)
  split
  · exact key _ _ _ (by decide) (by decide) rfl rfl ⟨by decide, by decide, by decide, by decide, by decide⟩ (by decide)
  split
  · exact key _ _ _ (by decide) (by decide) rfl rfl ⟨by decide, by decide, by decide, by decide, by decide⟩ (by decide)
  split
  · exact key _ _ _ (by decide) (by decide) rfl rfl ⟨by decide, by decide, by decide, by decide, by decide⟩ (by decide)
  · exact key _ _ _ (by decide) (by decide) rfl rfl ⟨by decide, by decide, by decide, by decide, by decide⟩ (by decide)
theorem BG.off {w : World} {z g i : Nat} {v : Value} {b : Gt} (h : BG w z b) (hne : z ≠ g) : BG (w.setCell ⟨g, i, none⟩ v) z b := by
  have c : ∀ j, (w.setCell ⟨g, i, none⟩ v).cell? ⟨z, j, none⟩ = w.cell? ⟨z, j, none⟩ := fun j => World.cell?_of_block (w := w) (a := ⟨z, j, none⟩) (Below.heap_setCell _ _ _ _ hne)
  exact ⟨(c _).trans h.c0, (c _).trans h.c1, (c _).trans h.c2, (c _).trans h.c3, (c _).trans h.c4, (c _).trans h.c5, (c _).trans h.c6, (c _).trans h.c7, (c _).trans h.c8, (c _).trans h.c9, (c _).trans h.c10, by simpa [World.setCell] using h.lt⟩
theorem hurt_no (m : List C) (n : ByteArray) (a : List Ag) (k : Nat) (u : Ag) (hu : ∀ r, argOk (chOk r) u = false) (hk : m[k]? = some (.mk n (a ++ [u]))) : qOk m = false := by
  unfold qOk
  have : chOk 10 m = false := by
    cases hc : chOk 10 m
    · rfl
    · exfalso
      obtain ⟨_, _, _, ha⟩ := call_parts ((ch_len hc).2 _ (List.mem_of_getElem? hk))
      have := ha u (by show u ∈ a ++ [u]; simp)
      rw [hu] at this
      cases this
  rw [this, Bool.and_false]
theorem u64_pos (x : Int) : 0 ≤ IntKind.u64.wrap x := by
  unfold IntKind.wrap
  simp only [IntKind.bits, show IntKind.u64.signed = false from rfl, Bool.false_and]
  rw [if_neg (by simp)]
  exact Int.emod_nonneg _ (by decide)
theorem pick_in (x : Int) (n : Nat) (hn : 0 < n) : ∃ k : Nat, (IntKind.u64.wrap x).tmod (n : Int) = (k : Int) ∧ k < n := by
  have h0 := Int.tmod_nonneg (n : Int) (u64_pos x)
  have h1 := Int.tmod_lt_of_pos (IntKind.u64.wrap x) (show (0 : Int) < (n : Int) by omega)
  exact ⟨((IntKind.u64.wrap x).tmod (n : Int)).toNat, by omega, by omega⟩
set_option maxHeartbeats 12800000 in
theorem hurt_law (W : World) (hm : NM W) (d : Nat) (A : Option Addr) (c : Nat) (l : List C) (at_ how : Int) (hl : Ch W 0 W.heap.size d A c l) (hat : -9223372036854775808 ≤ at_ ∧ at_ ≤ 9223372036854775807) (hho : 0 ≤ how ∧ how ≤ 255) :
    Calls Tryz.prog 6 #[.slice A l.length c, .int .i64 at_, .int .u8 how] W fun e w' => e = .returned (.bool true) ∧ Below W.heap.size W w' := by
  have HM := Lib.hid hm
  have HL := Lib.hid (hl.up (show d ≤ d + 1 by omega))
  have hbl := hl.big
  obtain ⟨x0, x1⟩ := hat
  obtain ⟨y0, y1⟩ := hho
  clear hm hl
  have CT := Lib.hid (much_anyD W _ A c l HL.out)
  go_enter Tryz.func6, Tryz.ntmps6
  go_wp2_with fail
  refine CT.out.mono ?_
  rintro e w1 ⟨b1, rfl, hb, hs1⟩
  have B1 := Lib.hid hb
  have HS1 := Lib.hid hs1
  have HL1 := Lib.hid (HL.out.next hb)
  clear CT hb hs1 HL
  cases b1
  case true =>
    have CT := Lib.hid (known_any w1 (HM.out.next B1.out))
    go_wp2_with fail
    refine CT.out.mono ?_
    rintro e w2 ⟨rfl, hb⟩
    have B2 := Lib.hid (bnext B1.out hb)
    clear CT hb
    go_wp2
    go_ret
    exact ⟨rfl, B2.out⟩
  have CT := rCheck_any w1 _ A c l (by first | exact (HS1.out rfl).2 | exact (HS1.out trivial).2) HL1.out
  obtain ⟨zq, hzq⟩ : ∃ q, qOk l = q := ⟨_, rfl⟩
  rw [hzq] at CT
  replace CT := Lib.hid CT
  have HQ := Lib.hid hzq
  clear hzq HS1
  go_wp2_with fail
  refine CT.out.mono ?_
  rintro e w2 ⟨rfl, hb⟩
  have B2 := Lib.hid (bnext B1.out hb)
  have HL2 := Lib.hid (HL1.out.next hb)
  clear CT hb HL1
  cases zq
  case false =>
    have e1 : errI false = 2 := rfl
    have CT := Lib.hid (known_any w2 (HM.out.next B2.out))
    go_wp2_with fail
    refine CT.out.mono ?_
    rintro e w3 ⟨rfl, hb⟩
    have B3 := Lib.hid (bnext B2.out hb)
    clear CT hb
    go_wp2
    go_ret
    exact ⟨rfl, B3.out⟩
  have e0 : errI true = 0 := rfl
  have CH := Lib.hid (show chOk 10 l = true by have := HQ.out; unfold qOk at this; rw [Bool.and_eq_true] at this; exact this.2)
  obtain ⟨hlen, hcall⟩ := ch_len CH.out
  have CHC := Lib.hid hcall
  clear hcall
  have hlen0 : ((l.length : Int) == 0) = false := by rw [beq_eq_false_iff_ne]; omega
  have hlen1 : ¬ (l.length : Int) = 0 := by omega
  have hlen2 : (0 : Int) < (l.length : Int) := by omega
  go_upto_region 4 with fail
  obtain ⟨k, hk, hkl⟩ := pick_in at_ l.length hlen
  have hkw : wrap64 (k : Int) = (k : Int) := by unfold wrap64; omega
  rw [hk, hkw]
  clear hk hkw
  have CQ := tcopy_any w2 _ A c l HL2.out
  rw [show copyC 11 l = l from copyC_same 10 l CH.out] at CQ
  replace CQ := Lib.hid CQ
  go_wp2_with fail
  refine CQ.out.mono ?_
  rintro e w3 ⟨A3, rfl, hb, _, hfill⟩
  have HCH := Lib.hid (NewCs.ch ⟨A3, rfl, hb, by assumption, hfill⟩ hbl)
  obtain ⟨g, rfl, hgw, hF⟩ := hfill hlen
  have HF := Lib.hid hF
  have HGW := Lib.hid hgw
  have B3 := Lib.hid (bnext B2.out hb)
  have HB3 := Lib.hid hb
  have HL3 := Lib.hid (HL2.out.next hb)
  clear CQ hb hfill hF hgw HL2
  have hkl' : ¬ (l.length : Int) ≤ (k : Int) := by omega
  have CS := refSameC_any w3 (d + 1 + 12) _ _ l A c l (HCH.out.more (Nat.zero_le _) (Nat.le_refl _) (by omega)) (HL3.out.up (by omega))
  rw [show sameC 11 l l = true from sameC_refl 11 l] at CS
  replace CS := Lib.hid CS
  go_wp2_with fail
  refine CS.out.mono ?_
  rintro e w4 ⟨rfl, hb⟩
  have B4 := Lib.hid (bnext B3.out hb)
  have HF4 := Lib.hid (GFill.next (RC.mono 11) HF.out hb)
  have HG4 := Lib.hid (show W.heap.size ≤ g by have h1 := B2.out.size; have h2 := HGW.out; omega)
  clear CS hb HF HCH HL3 HB3 HGW
  go_upto_region 8 with fail
  rename_i K0 k0 K1 k1
  obtain ⟨r, hr, hr8⟩ : ∃ r : Nat, how.tmod 8 = (r : Int) ∧ r < 8 := by
    have h0 := Int.tmod_nonneg 8 y0
    have h1 := Int.tmod_lt_of_pos how (show (0 : Int) < 8 by omega)
    exact ⟨(how.tmod 8).toNat, by omega, by omega⟩
  have TAIL : ∀ (v0 v1 v2 v3 v4 v5 v10 v11 v12 v13 v14 v15 v16 v17 v18 v19 v20 v21 v22 v23 v24 v25 v26 v27 v28 v29 v30 v31 v32 v33 v34 v35 v36 v37 v38 v39 v40 v41 v42 v43 v44 v45 v46 v47 v48 v49 v50 v51 v52 v53 v54 v55 v56 v57 v58 v59 v60 v61 v62 v63 v64 v65 v66 v67 v68 v69 v70 v71 v72 v73 v74 v75 v76 v77 v78 v79 v80 v81 v82 v83 v84 v85 v86 v87 v88 v89 v90 v91 v92 v93 v94 v95 v96 v97 v98 v99 v100 v101 v102 v103 : Value) (z : Nat) (b : Gt) (m : List C) (t : C) (w5 : World), m.length = l.length → m[k]? = some t → t.a.length ≤ 50 → (∀ W lo B, RA 11 W lo B b) → (∀ r, argOk (chOk r) b.t = false) →
      Below W.heap.size W w5 → GFill Ct.t Ct.cs 2 36 (RC 11) w5 g l.length m → BG w5 z b → K0 { tmps := #[v0, v1, v2, v3, v4, v5, .bool false, .int .i64 k, (.slice (some ⟨g, 0, none⟩) l.length l.length), .pointer (some ⟨z, 0, none⟩), v10, v11, v12, v13, v14, v15, v16, v17, v18, v19, v20, v21, v22, v23, v24, v25, v26, v27, v28, v29, v30, v31, v32, v33, v34, v35, v36, v37, v38, v39, v40, v41, v42, v43, v44, v45, v46, v47, v48, v49, v50, v51, v52, v53, v54, v55, v56, v57, v58, v59, v60, v61, v62, v63, v64, v65, v66, v67, v68, v69, v70, v71, v72, v73, v74, v75, v76, v77, v78, v79, v80, v81, v82, v83, v84, v85, v86, v87, v88, v89, v90, v91, v92, v93, v94, v95, v96, v97, v98, v99, v100, v101, v102, v103], defers := [] } w5 := by
    intro v0 v1 v2 v3 v4 v5 v10 v11 v12 v13 v14 v15 v16 v17 v18 v19 v20 v21 v22 v23 v24 v25 v26 v27 v28 v29 v30 v31 v32 v33 v34 v35 v36 v37 v38 v39 v40 v41 v42 v43 v44 v45 v46 v47 v48 v49 v50 v51 v52 v53 v54 v55 v56 v57 v58 v59 v60 v61 v62 v63 v64 v65 v66 v67 v68 v69 v70 v71 v72 v73 v74 v75 v76 v77 v78 v79 v80 v81 v82 v83 v84 v85 v86 v87 v88 v89 v90 v91 v92 v93 v94 v95 v96 v97 v98 v99 v100 v101 v102 v103 z b m t w5 hml ht hta hbb hno hb5 hf5 hbg
    have HML := Lib.hid hml
    have HT := Lib.hid ht
    have HA := Lib.hid hta
    have HBB := Lib.hid hbb
    have HNO := Lib.hid hno
    have B5 := Lib.hid hb5
    have F5 := Lib.hid hf5
    have G5 := Lib.hid hbg
    have i0 : (0 : Int) ≤ (k : Int) := by omega
    have i2 : (k : Int) < (l.length : Int) := by omega
    clear hml ht hta hbb hno hb5 hf5 hbg k1
    refine k0 _ _ ?_
    clear k0
    go_upto_region 23 with fail
    refine region_phase [0, 1, 2, 3, 4, 5, 6, 7, 8, 9] [] hwD hwE 1 (fun w' => Below W.heap.size W w' ∧ GFill Ct.t Ct.cs 2 36 (RC 11) w' g l.length m ∧ BG w' z b) (saidOf [Is (.slice (some ⟨g, 0, none⟩) l.length l.length), Is (.int .i64 k), Is (.slice (some ⟨g, 0, none⟩) l.length l.length), Is (.int .i64 k), Is (.pointer (some ⟨g, k * 2, none⟩)), Is (.pointer (some ⟨g, k * 2 + 1, none⟩)), IsA (g + 1) 11 t.a.length t.a, Is b.val, IsB b, IsL (g + 1) 11 (t.a.length + 1) (t.a ++ [b.t]), fun _ _ => True]) 104 rfl (by kernel_rfl) (by kernel_rfl) (fun _ _ h hb => ⟨bnext h.1 hb, h.2.1.next (RC.mono 11) hb, h.2.2.next hb⟩) (stays_said _ (stays_cons (Is.stays _) (stays_cons (Is.stays _) (stays_cons (Is.stays _) (stays_cons (Is.stays _) (stays_cons (Is.stays _) (stays_cons (Is.stays _) (stays_cons (IsA.stays _ _ _ _) (stays_cons (Is.stays _) (stays_cons (IsB.stays _) (stays_cons (IsL.stays _ _ _ _) (stays_cons (fun _ _ _ _ _ => trivial) stays_nil)))))))))))) ⟨bnext B5.out (below_drewN _ _ 1), F5.out.next (RC.mono 11) (below_drewN _ _ 1), G5.out.next (below_drewN _ _ 1)⟩ (by kernel_rfl) ?_ ?_
    · skip
      refine owes_cons (Owes.mk (o := ({ dst := some 77, op := .move (.tmp 8), type := 22, pos := "law.go:122", after := #[], guard := none } : Oper)) rfl (fun v wk hj hD K hK => ?_)) ?_
      · simp only [hwD, hwE, putAll, Act.put, List.getD_cons_zero, List.setIfInBounds_toArray, List.set_cons_zero, List.set_cons_succ] at hK ⊢
        go_simp
        exact hK.out _ _ (Below.refl _ _) rfl
      refine owes_cons (Owes.mk (o := ({ dst := some 78, op := .move (.tmp 7), type := 3, pos := "law.go:122", after := #[], guard := none } : Oper)) rfl (fun v wk hj hD K hK => ?_)) ?_
      · simp only [hwD, hwE, putAll, Act.put, List.getD_cons_succ, List.getD_cons_zero, List.setIfInBounds_toArray, List.set_cons_zero, List.set_cons_succ] at hK ⊢
        go_simp
        exact hK.out _ _ (Below.refl _ _) rfl
      refine owes_cons (Owes.mk (o := ({ dst := some 79, op := .move (.tmp 8), type := 22, pos := "law.go:122", after := #[], guard := none } : Oper)) rfl (fun v wk hj hD K hK => ?_)) ?_
      · simp only [hwD, hwE, putAll, Act.put, List.getD_cons_succ, List.getD_cons_zero, List.setIfInBounds_toArray, List.set_cons_zero, List.set_cons_succ] at hK ⊢
        go_simp
        exact hK.out _ _ (Below.refl _ _) rfl
      refine owes_cons (Owes.mk (o := ({ dst := some 80, op := .move (.tmp 7), type := 3, pos := "law.go:122", after := #[], guard := none } : Oper)) rfl (fun v wk hj hD K hK => ?_)) ?_
      · simp only [hwD, hwE, putAll, Act.put, List.getD_cons_succ, List.getD_cons_zero, List.setIfInBounds_toArray, List.set_cons_zero, List.set_cons_succ] at hK ⊢
        go_simp
        exact hK.out _ _ (Below.refl _ _) rfl
      refine owes_cons (Owes.mk (o := ({ dst := some 81, op := .indexAddr 22 (.tmp 79) (.tmp 80), type := 0, pos := "law.go:122", after := #[{ on := 2, ground := .data }, { on := 3, ground := .data }], guard := none } : Oper)) rfl (fun v wk hj hD K hK => ?_)) ?_
      · have h2 : v 2 = (.slice (some ⟨g, 0, none⟩) l.length l.length) := hD 2 (by decide)
        have h3 : v 3 = (.int .i64 k) := hD 3 (by decide)
        simp only [hwD, hwE, putAll, Act.put, List.getD_cons_succ, List.getD_cons_zero, List.setIfInBounds_toArray, List.set_cons_zero, List.set_cons_succ, h2, h3] at hK ⊢
        go_simp
        exact hK.out _ _ (Below.refl _ _) rfl
      refine owes_cons (Owes.mk (o := ({ dst := some 82, op := .fieldAddr 36 (.tmp 81) 1, type := 0, pos := "law.go:122", after := #[{ on := 4, ground := .data }], guard := none } : Oper)) rfl (fun v wk hj hD K hK => ?_)) ?_
      · have h4 : v 4 = (.pointer (some ⟨g, k * 2, none⟩)) := hD 4 (by decide)
        simp only [hwD, hwE, putAll, Act.put, List.getD_cons_succ, List.getD_cons_zero, List.setIfInBounds_toArray, List.set_cons_zero, List.set_cons_succ, h4] at hK ⊢
        go_simp
        exact hK.out _ _ (Below.refl _ _) rfl
      refine owes_cons (Owes.mk (o := ({ dst := some 83, op := .load 34 (.tmp 82), type := 34, pos := "law.go:122", after := #[{ on := 5, ground := .data }], guard := none } : Oper)) rfl (fun v wk hj hD K hK => ?_)) ?_
      · have h5 : v 5 = (.pointer (some ⟨g, k * 2 + 1, none⟩)) := hD 5 (by decide)
        simp only [hwD, hwE, putAll, Act.put, List.getD_cons_succ, List.getD_cons_zero, List.setIfInBounds_toArray, List.set_cons_zero, List.set_cons_succ, h5] at hK ⊢
        obtain ⟨x, e, hc, hx⟩ := hj.2.1.el k t HT.out
        have c1 := hc 1 _ rfl
        have el : x.l = t.a := by rw [← e]; rfl
        have e2 := hx.2
        rw [e2, el] at c1
        have ra := hx.1.a
        rw [e2, el] at ra
        go_simp
        exact hK.out _ _ (Below.refl _ _) ⟨x.A, rfl, ra⟩
      refine owes_cons (Owes.mk (o := ({ dst := some 84, op := .load 44 (.tmp 9), type := 44, pos := "law.go:122", after := #[], guard := none } : Oper)) rfl (fun v wk hj hD K hK => ?_)) ?_
      · simp only [hwD, hwE, putAll, Act.put, List.getD_cons_succ, List.getD_cons_zero, List.setIfInBounds_toArray, List.set_cons_zero, List.set_cons_succ] at hK ⊢
        obtain ⟨a0, a1, a2, a3, a4, a5, a6, a7, a8, a9, a10, _⟩ := hj.2.2
        go_simp
        exact hK.out _ _ (Below.refl _ _) rfl
      refine owes_cons (Owes.mk (o := ({ dst := some 85, op := .buildSlice 34 1 #[(0, .tmp 84)], type := 34, pos := "law.go:122", after := #[{ on := 7, ground := .data }], guard := none } : Oper)) rfl (fun v wk hj hD K hK => ?_)) ?_
      · have h7 : v 7 = b.val := hD 7 (by decide)
        simp only [hwD, hwE, putAll, Act.put, List.getD_cons_succ, List.getD_cons_zero, List.setIfInBounds_toArray, List.set_cons_zero, List.set_cons_succ, h7] at hK ⊢
        go_simp
        exact hK.out _ _ (below_new _ _) ⟨_, rfl, BG.new _ b⟩
      refine owes_cons (Owes.mk (o := ({ dst := some 86, op := .call { callee := .builtin .append, args := #[.tmp 83, .tmp 85], argTypes := #[34, 34] }, type := 34, pos := "law.go:122", after := #[{ on := 6, ground := .data }, { on := 8, ground := .data }], guard := none } : Oper)) rfl (fun v wk hj hD K hK => ?_)) ?_
      · obtain ⟨A6, h6, r6⟩ : IsA (g + 1) 11 t.a.length t.a (v 6) wk := hD 6 (by decide)
        obtain ⟨p, h8, r8⟩ : IsB b (v 8) wk := hD 8 (by decide)
        simp only [hwD, hwE, putAll, Act.put, List.getD_cons_succ, List.getD_cons_zero, List.setIfInBounds_toArray, List.set_cons_zero, List.set_cons_succ, h6, h8] at hK ⊢
        rw [if_pos (by simp [Region.wanted])]
        refine wp_append_full (.tmp 83) (.tmp 85) (by rfl) r6 (by simp [Act.eval]) ⟨p, 0, none⟩ b (by simp [Act.eval]) (fun j u hu => by rw [addr_add, Nat.zero_add]; exact r8.cells j u hu) (by have := HA.out; omega) ?_
        intro xs g' cap w' hm hxs ho hg
        exact hK.out _ _ (grown_below hg) ⟨g', cap, rfl, row_longer (by have := hj.2.1.blk.lt; omega) (by have := HA.out; omega) hg hm hxs HBB.out ho⟩
      exact owes_nil
    · intro p v w6 h1 h2 hj hr
      obtain rfl := marks_all h1 (fun m hm => h2 m hm (by simp))
      have h0 : v 0 = (.slice (some ⟨g, 0, none⟩) l.length l.length) := hr 0 (by decide) (by decide)
      have h1' : v 1 = (.int .i64 k) := hr 1 (by decide) (by decide)
      obtain ⟨g', cap, h9, row⟩ : IsL (g + 1) 11 (t.a.length + 1) (t.a ++ [b.t]) (v 9) w6 := hr 9 (by decide) (by decide)
      rw [show List.filter (fun k => [0, 1, 2, 3, 4, 5, 6, 7, 8, 9].contains k) [0, 1, 2, 3, 4, 5, 6, 7, 8, 9] = [0, 1, 2, 3, 4, 5, 6, 7, 8, 9] from rfl]
      simp only [hwD, putAll, Act.put, List.getD_cons_succ, List.getD_cons_zero, List.setIfInBounds_toArray, List.set_cons_zero, List.set_cons_succ, h0, h1', h9]
      have CHX := Lib.hid (GFill.longer hj.2.1 HML.out HT.out hbl row)
      obtain ⟨x, e, hc, hx⟩ := hj.2.1.el k t HT.out
      have c1 := hc 1 _ rfl
      have f1 := hj.2.1.blk.frozen (k * 2 + 1)
      have B6 := Lib.hid hj.1
      clear hj hr h1 h2 row e hc hx h0 h1' h9
      refine anyN_any (S := fun _ => True) (N := []) _ _ _ _ ?_
      refine anyN_one (i := 10) (o := ({ dst := some 87, op := .indexAddr 22 (.tmp 77) (.tmp 78), type := 0, pos := "law.go:122", after := #[{ on := 0, ground := .data }, { on := 1, ground := .data }, { on := 0, ground := .phase }, { on := 1, ground := .phase }, { on := 2, ground := .phase }, { on := 3, ground := .phase }, { on := 4, ground := .phase }, { on := 5, ground := .phase }, { on := 6, ground := .phase }, { on := 7, ground := .phase }, { on := 8, ground := .phase }, { on := 9, ground := .phase }], guard := none } : Oper)) (by kernel_rfl) rfl (fun K hK => ?_)
      go_simp
      refine hK.out _ _ (fun _ => trivial) ?_
      clear hK K
      try simp only [Act.put, List.setIfInBounds_toArray, List.set_cons_zero, List.set_cons_succ]
      refine anyN_one (i := 11) (o := ({ dst := some 88, op := .fieldAddr 36 (.tmp 87) 1, type := 0, pos := "law.go:122", after := #[{ on := 10, ground := .data }, { on := 0, ground := .phase }, { on := 1, ground := .phase }, { on := 2, ground := .phase }, { on := 3, ground := .phase }, { on := 4, ground := .phase }, { on := 5, ground := .phase }, { on := 6, ground := .phase }, { on := 7, ground := .phase }, { on := 8, ground := .phase }, { on := 9, ground := .phase }], guard := none } : Oper)) (by kernel_rfl) rfl (fun K hK => ?_)
      go_simp
      refine hK.out _ _ (fun _ => trivial) ?_
      clear hK K
      try simp only [Act.put, List.setIfInBounds_toArray, List.set_cons_zero, List.set_cons_succ]
      refine anyN_one (i := 12) (o := ({ dst := none, op := .store 34 (.tmp 88) (.tmp 86), type := 0, pos := "law.go:122", after := #[{ on := 11, ground := .data }, { on := 9, ground := .data }, { on := 9, ground := .chain }, { on := 0, ground := .phase }, { on := 1, ground := .phase }, { on := 2, ground := .phase }, { on := 3, ground := .phase }, { on := 4, ground := .phase }, { on := 5, ground := .phase }, { on := 6, ground := .phase }, { on := 7, ground := .phase }, { on := 8, ground := .phase }, { on := 9, ground := .phase }], guard := none } : Oper)) (by kernel_rfl) rfl (fun K hK => ?_)
      go_simp
      refine hK.out _ _ (fun _ => trivial) ?_
      clear hK K
      try simp only [Act.put, List.setIfInBounds_toArray, List.set_cons_zero, List.set_cons_succ]
      refine anyN_done (by kernel_rfl) ?_ _
      have B7 := Lib.hid (B6.out.setCell (p := ⟨g, k * 2 + 1, none⟩) HG4.out (.slice (some ⟨g', 0, none⟩) (t.a.length + 1) cap))
      obtain ⟨w7, hw7⟩ : ∃ q, q = w6.setCell ⟨g, k * 2 + 1, none⟩ (.slice (some ⟨g', 0, none⟩) (t.a.length + 1) cap) := ⟨_, rfl⟩
      rw [← hw7] at CHX B7 ⊢
      clear hw7 c1 f1
      obtain ⟨nl, hnl⟩ : ∃ q, q = m.set k (.mk t.n (t.a ++ [b.t])) := ⟨_, rfl⟩
      have LN := Lib.hid (show nl.length = l.length by rw [hnl, List.length_set]; exact HML.out)
      have QN := Lib.hid (show qOk nl = false from hurt_no nl t.n t.a k b.t HNO.out (by rw [hnl, List.getElem?_set_self (by have := HML.out; omega)]))
      rw [← hnl] at CHX
      clear hnl
      have e1 : errI false = 2 := rfl
      have CT := tprint_any w7 (HM.out.next B7.out) 12 _ _ nl CHX.out (fun h => by rw [QN.out] at h; cases h)
      rw [LN.out, QN.out] at CT
      replace CT := Lib.hid CT
      go_wp2_with fail
      refine CT.out.mono ?_
      rintro e w8 ⟨rfl, hb⟩
      have B8 := Lib.hid (bnext B7.out hb)
      have CHX8 := Lib.hid (CHX.out.next hb)
      clear CT hb CHX
      have CK := tcheck_any w8 (HM.out.next B8.out) 12 _ _ nl CHX8.out
      rw [LN.out, QN.out] at CK
      replace CK := Lib.hid CK
      go_wp2_with fail
      refine CK.out.mono ?_
      rintro e w9 ⟨rfl, hb⟩
      have B9 := Lib.hid (bnext B8.out hb)
      clear CK hb CHX8
      have CN := Lib.hid (known_any w9 (HM.out.next B9.out))
      go_wp2_with fail
      refine CN.out.mono ?_
      rintro e w10 ⟨rfl, hb⟩
      have B10 := Lib.hid (bnext B9.out hb)
      clear CN hb
      go_wp2
      go_ret
      exact ⟨rfl, B10.out⟩
  clear k0
  have HF5 := Lib.hid (GFill.next (RC.mono 11) HF4.out (below_new w4 (.cells #[.int .i64 0, .int .i64 0, .int .i64 0, .string ⟨#[]⟩, .slice none 0 0, .slice none 0 0, .int .i64 0, .slice none 0 0, .slice none 0 0, .slice none 0 0, .string ⟨#[]⟩] 44)))
  obtain ⟨y, hyt, hyc, hyr⟩ := HF5.out.el k _ (List.getElem?_eq_getElem hkl)
  have c0 := hyc 0 _ rfl
  have f0 := HF5.out.blk.frozen (k * 2)
  have YC := Lib.hid hyc
  have YR := Lib.hid hyr
  have YT := Lib.hid hyt
  have i0 : (0 : Int) ≤ (k : Int) := by omega
  have i2 : (k : Int) < (l.length : Int) := by omega
  clear hyc hyr hyt
  simp only [Nat.add_zero] at c0
  have AL := Lib.hid (show (l[k]).a.length ≤ 50 from (call_parts (CHC.out _ (List.getElem_mem hkl))).2.2.1)
  have GZ := Lib.hid (show w4.heap.size ≠ g by have := HF4.out.blk.lt; omega)
  rcases r with _ | _ | _ | _ | _ | _ | _ | _ | r
  case succ.succ.succ.succ.succ.succ.succ.succ => omega
  case zero =>
    go_wp2_with fail
    have G5 := (BG.new w4 (badG 0))
    exact TAIL _ _ _ _ _ _ _ _ _ _ _ _ _ _ _ _ _ _ _ _ _ _ _ _ _ _ _ _ _ _ _ _ _ _ _ _ _ _ _ _ _ _ _ _ _ _ _ _ _ _ _ _ _ _ _ _ _ _ _ _ _ _ _ _ _ _ _ _ _ _ _ _ _ _ _ _ _ _ _ _ _ _ _ _ _ _ _ _ _ _ _ _ _ _ _ _ _ _ _ _ w4.heap.size (badG 0) (l.set k (.mk ⟨#[]⟩ (l[k]).a)) (.mk ⟨#[]⟩ (l[k]).a) _ (by rw [List.length_set]) (List.getElem?_set_self hkl) AL.out (bad_in 0) (fun r => bad_no r 0) ((bnext B4.out (below_new _ _)).setCell (p := ⟨g, k * 2, none⟩) HG4.out _) (GFill.name HF5.out k (List.getElem?_eq_getElem hkl) ⟨#[]⟩ (by decide)) (BG.off G5 GZ.out)
  case succ.zero =>
    go_wp2_with fail
    have G5 := (BG.new w4 (badG 1))
    exact TAIL _ _ _ _ _ _ _ _ _ _ _ _ _ _ _ _ _ _ _ _ _ _ _ _ _ _ _ _ _ _ _ _ _ _ _ _ _ _ _ _ _ _ _ _ _ _ _ _ _ _ _ _ _ _ _ _ _ _ _ _ _ _ _ _ _ _ _ _ _ _ _ _ _ _ _ _ _ _ _ _ _ _ _ _ _ _ _ _ _ _ _ _ _ _ _ _ _ _ _ _ w4.heap.size (badG 1) (l.set k (.mk ⟨#[95, 95]⟩ (l[k]).a)) (.mk ⟨#[95, 95]⟩ (l[k]).a) _ (by rw [List.length_set]) (List.getElem?_set_self hkl) AL.out (bad_in 1) (fun r => bad_no r 1) ((bnext B4.out (below_new _ _)).setCell (p := ⟨g, k * 2, none⟩) HG4.out _) (GFill.name HF5.out k (List.getElem?_eq_getElem hkl) ⟨#[95, 95]⟩ (by decide)) (BG.off G5 GZ.out)
  case succ.succ.zero =>
    go_wp2_with fail
    exact TAIL _ _ _ _ _ _ _ _ _ _ _ _ _ _ _ _ _ _ _ _ _ _ _ _ _ _ _ _ _ _ _ _ _ _ _ _ _ _ _ _ _ _ _ _ _ _ _ _ _ _ _ _ _ _ _ _ _ _ _ _ _ _ _ _ _ _ _ _ _ _ _ _ _ _ _ _ _ _ _ _ _ _ _ _ _ _ _ _ _ _ _ _ _ _ _ _ _ _ _ _ w4.heap.size (badG 2) _ _ _ rfl (List.getElem?_eq_getElem hkl) AL.out (bad_in 2) (fun r => bad_no r 2) (bnext B4.out (below_new _ _)) (GFill.next (RC.mono 11) HF4.out (below_new _ _)) (BG.new w4 (badG 2))
  case succ.succ.succ.zero =>
    go_wp2_with fail
    exact TAIL _ _ _ _ _ _ _ _ _ _ _ _ _ _ _ _ _ _ _ _ _ _ _ _ _ _ _ _ _ _ _ _ _ _ _ _ _ _ _ _ _ _ _ _ _ _ _ _ _ _ _ _ _ _ _ _ _ _ _ _ _ _ _ _ _ _ _ _ _ _ _ _ _ _ _ _ _ _ _ _ _ _ _ _ _ _ _ _ _ _ _ _ _ _ _ _ _ _ _ _ w4.heap.size (badG 3) _ _ _ rfl (List.getElem?_eq_getElem hkl) AL.out (bad_in 3) (fun r => bad_no r 3) (bnext B4.out (below_new _ _)) (GFill.next (RC.mono 11) HF4.out (below_new _ _)) (BG.new w4 (badG 3))
  case succ.succ.succ.succ.zero =>
    go_wp2_with fail
    exact TAIL _ _ _ _ _ _ _ _ _ _ _ _ _ _ _ _ _ _ _ _ _ _ _ _ _ _ _ _ _ _ _ _ _ _ _ _ _ _ _ _ _ _ _ _ _ _ _ _ _ _ _ _ _ _ _ _ _ _ _ _ _ _ _ _ _ _ _ _ _ _ _ _ _ _ _ _ _ _ _ _ _ _ _ _ _ _ _ _ _ _ _ _ _ _ _ _ _ _ _ _ w4.heap.size (badG 4) _ _ _ rfl (List.getElem?_eq_getElem hkl) AL.out (bad_in 4) (fun r => bad_no r 4) (bnext B4.out (below_new _ _)) (GFill.next (RC.mono 11) HF4.out (below_new _ _)) (BG.new w4 (badG 4))
  case succ.succ.succ.succ.succ.zero =>
    go_wp2_with fail
    exact TAIL _ _ _ _ _ _ _ _ _ _ _ _ _ _ _ _ _ _ _ _ _ _ _ _ _ _ _ _ _ _ _ _ _ _ _ _ _ _ _ _ _ _ _ _ _ _ _ _ _ _ _ _ _ _ _ _ _ _ _ _ _ _ _ _ _ _ _ _ _ _ _ _ _ _ _ _ _ _ _ _ _ _ _ _ _ _ _ _ _ _ _ _ _ _ _ _ _ _ _ _ w4.heap.size (badG 5) _ _ _ rfl (List.getElem?_eq_getElem hkl) AL.out (bad_in 5) (fun r => bad_no r 5) (bnext B4.out (below_new _ _)) (GFill.next (RC.mono 11) HF4.out (below_new _ _)) (BG.new w4 (badG 5))
  case succ.succ.succ.succ.succ.succ.zero =>
    go_wp2_with fail
    exact TAIL _ _ _ _ _ _ _ _ _ _ _ _ _ _ _ _ _ _ _ _ _ _ _ _ _ _ _ _ _ _ _ _ _ _ _ _ _ _ _ _ _ _ _ _ _ _ _ _ _ _ _ _ _ _ _ _ _ _ _ _ _ _ _ _ _ _ _ _ _ _ _ _ _ _ _ _ _ _ _ _ _ _ _ _ _ _ _ _ _ _ _ _ _ _ _ _ _ _ _ _ w4.heap.size (badG 6) _ _ _ rfl (List.getElem?_eq_getElem hkl) AL.out (bad_in 6) (fun r => bad_no r 6) (bnext B4.out (below_new _ _)) (GFill.next (RC.mono 11) HF4.out (below_new _ _)) (BG.new w4 (badG 6))
  case succ.succ.succ.succ.succ.succ.succ.zero =>
    go_wp2_with fail
    exact TAIL _ _ _ _ _ _ _ _ _ _ _ _ _ _ _ _ _ _ _ _ _ _ _ _ _ _ _ _ _ _ _ _ _ _ _ _ _ _ _ _ _ _ _ _ _ _ _ _ _ _ _ _ _ _ _ _ _ _ _ _ _ _ _ _ _ _ _ _ _ _ _ _ _ _ _ _ _ _ _ _ _ _ _ _ _ _ _ _ _ _ _ _ _ _ _ _ _ _ _ _ w4.heap.size (badG 7) _ _ _ rfl (List.getElem?_eq_getElem hkl) AL.out (bad_in 7) (fun r => bad_no r 7) (bnext B4.out (below_new _ _)) (GFill.next (RC.mono 11) HF4.out (below_new _ _)) (BG.new w4 (badG 7))
end Go.Proofs.YtiiopbcihieblaaGreatDoor
