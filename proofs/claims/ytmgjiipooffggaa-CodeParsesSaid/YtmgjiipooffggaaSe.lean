/- The document's reader of texts: the memory of a row that is read. -/
import Derived.Test.YtmgjiipooffggaaSd
namespace Go.Proofs.Ytmgjiipooffggaa
set_option maxRecDepth 100000
open Go.RowKit Go.Sort

/-- append of one value to a row that the call owns. -/
theorem append_val {ops : Array Oper} {rest : List Oper} {o : Oper} {a : Act} {W : World} {Q : Exit → Act → World → Prop} (hgd : o.guard = none) (s x : Operand)
    (ho : o.op = .call { callee := .builtin .append, args := #[s, x], argTypes := #[22, 22] }) (base : Nat) (A : Option Addr) (c : Nat) (acc : List At) (q : At)
    (hs : a.eval s = .slice A acc.length c) (hV : VG W base (.slice A acc.length c) Pr.kc (acc.map At.pr)) (ad : Addr) (hx : a.eval x = .slice (some ad) 1 1) (hnews : ∀ j u, q.pr.kc[j]? = some u → W.cell? (ad.add j) = some u)
    (hlen : acc.length + 1 ≤ 1759218604441) (hbase : base ≤ W.heap.size)
    (h : ∀ g cap w', VG w' base (.slice (some ⟨g, 0, none⟩) (acc.length + 1) cap) Pr.kc (acc.map At.pr ++ [q.pr]) → W.grownBy w' (Value.slice A acc.length c).ownBlock → ((Value.slice A acc.length c).ownBlock = some g ∨ g = W.heap.size) → g < w'.heap.size → wpList Try.prog ops Q rest (a.put o.dst (.slice (some ⟨g, 0, none⟩) (acc.length + 1) cap)) w') :
    wpList Try.prog ops Q (o :: rest) a W := by
  have hV' := hV
  rw [← List.length_map (f := At.pr)] at hV'
  obtain ⟨xs, hown, hl, hxs⟩ := hV'.owns
  obtain ⟨i0, hi, hz0, hz1, hz2⟩ := info_parts info24
  rw [List.length_map] at hown hl
  refine wpList_append_lies W hgd s x 22 ho base 24 i0 _ 5 80 Try.underlying22 hi hz0 hz1 hz2 rfl (by decide) _ acc.length xs hs hown ad 1 1 q.pr.kc hx (by rw [kc_len]) hnews (kc_one q.pr) (by omega) (by unfold maxLen; omega) (by omega) hbase W.heap.size rfl ?_
  intro g cap w' hown' hgrow hat hlt
  have hv := vg_of_owns (acc := acc.map At.pr) (p := q.pr) (f := Pr.kc) (by rw [List.length_map]; exact hown') (by rw [List.length_map]; exact hl) (kc_len q.pr) hxs
  rw [List.length_map] at hv
  exact h g cap w' hv hgrow hat hlt

/-- The call's own blocks. -/
def OwnR (gx r0 : Nat) (vL vM : Value) (k : Nat) : Prop := k = gx ∨ k = r0 ∨ vL.ownBlock = some k ∨ vM.ownBlock = some k

structure Rst (w0 wr : World) (d r0 gx : Nat) (kk : Int) (accL accM : List At) (AL : Option Addr) (cL : Nat) (AM : Option Addr) (cM : Nat) : Prop where
  bel : Below w0.heap.size w0 wr
  lo : w0.heap.size ≤ r0
  l0 : r0 < gx
  lx : gx < wr.heap.size
  res : Blk wr r0 1
  box : Cell wr gx (.int .i64 kk) (.int .i64 0) (.string ⟨#[]⟩) (.slice AL accL.length cL) (.slice AM accM.length cM)
  vl : VG wr (gx + 1) (.slice AL accL.length cL) Pr.kc (accL.map At.pr)
  vm : VG wr (gx + 1) (.slice AM accM.length cM) Pr.kc (accM.map At.pr)
  sep : ∀ b, (Value.slice AL accL.length cL).ownBlock = some b → (Value.slice AM accM.length cM).ownBlock ≠ some b
  st : ∀ q ∈ accL ++ accM, Sturdy w0.heap.size (OwnR gx r0 (.slice AL accL.length cL) (.slice AM accM.length cM)) wr d q
theorem Rst.next {w0 a b : World} {d r0 gx : Nat} {kk : Int} {accL accM : List At} {AL : Option Addr} {cL : Nat} {AM : Option Addr} {cM : Nat} (h : Rst w0 a d r0 gx kk accL accM AL cL AM cM) (hb : Below a.heap.size a b) : Rst w0 b d r0 gx kk accL accM AL cL AM cM :=
  ⟨bnext h.bel hb, h.lo, h.l0, Nat.lt_of_lt_of_le h.lx hb.size, Blk.next hb h.res, Cell.next hb h.box, h.vl.below hb, h.vm.below hb, h.sep, fun q hq => (h.st q hq).move hb.size (fun k _ hk _ => hb.block k hk) (fun _ _ hy => hy)⟩
theorem Rst.pushL {w0 wr wf wA : World} {d r0 gx : Nat} {kk : Int} {accL accM : List At} {AL : Option Addr} {cL : Nat} {AM : Option Addr} {cM gL cL' : Nat} {q : At} (h : Rst w0 wr d r0 gx kk accL accM AL cL AM cM) (hb : Below wr.heap.size wr wf)
    (hq : Rd wf wr.heap.size wf.heap.size d q.t q.A q.c q.A' q.c') (hv : VG wA (gx + 1) (.slice (some ⟨gL, 0, none⟩) (accL.length + 1) cL') Pr.kc (accL.map At.pr ++ [q.pr])) (hg : wf.grownBy wA (Value.slice AL accL.length cL).ownBlock) (hat : (Value.slice AL accL.length cL).ownBlock = some gL ∨ gL = wf.heap.size) (hlt : gL < wA.heap.size) :
    Rst w0 (wA.setCell ⟨gx, 3, none⟩ (.slice (some ⟨gL, 0, none⟩) (accL.length + 1) cL')) d r0 gx kk (accL ++ [q]) accM (some ⟨gL, 0, none⟩) cL' AM cM := by
  have hf := h.next hb
  have hs1 := hb.size
  have hs2 := hg.size
  have hx := hf.lx
  have l0 := h.l0
  have lo := h.lo
  have ll := hf.vl.lt
  have lm := hf.vm.lt
  have e1 : (accL ++ [q]).length = accL.length + 1 := by simp
  have hgL : gx < gL := by
    rcases hat with e | e
    · have := (ll gL e).1; omega
    · omega
  have hrow : ∀ k, (Value.slice AL accL.length cL).ownBlock = some k → gx + 1 ≤ k := fun k e => (ll k e).1
  have keep : ∀ k, k < wf.heap.size → (Value.slice AL accL.length cL).ownBlock ≠ some k → k ≠ gx → (wA.setCell ⟨gx, 3, none⟩ (.slice (some ⟨gL, 0, none⟩) (accL.length + 1) cL')).heap[k]? = wf.heap[k]? := fun k h1 h2 h3 =>
    (Below.heap_setCell _ _ _ _ h3).trans (hg.block k h1 (fun e => h2 e.symm))
  have hsz : (wA.setCell ⟨gx, 3, none⟩ (.slice (some ⟨gL, 0, none⟩) (accL.length + 1) cL')).heap.size = wA.heap.size := by simp [World.setCell]
  have hLM : (Value.slice AM accM.length cM).ownBlock ≠ some gL := fun e => by
    rcases hat with h' | h'
    · exact h.sep gL h' e
    · have := (lm gL e).2; omega
  refine ⟨?_, lo, l0, by rw [hsz]; omega, ?_, ?_, ?_, ?_, ?_, ?_⟩
  · have b1 : Below w0.heap.size wf wA := ⟨hg.os, hg.tape, hg.output, hg.size, fun k hk => hg.block k (by omega) (fun e => by have := hrow k e.symm; omega)⟩
    exact (hf.bel.trans b1).setCell (by simp; omega) _
  · exact hf.res.kept (keep r0 (by omega) (fun e => by have := hrow r0 e; omega) (by omega))
  · have c0 := hf.box.kept (hg.block gx (by omega) (fun e => by have := hrow gx e.symm; omega))
    rw [e1]
    obtain ⟨cs, k1, k2⟩ := c0.blk
    have hh := set_heap wA gx 3 (.slice (some ⟨gL, 0, none⟩) (accL.length + 1) cL') cs k1
    have q0 := c0.c0
    have q1 := c0.c1
    have q2 := c0.c2
    have q4 := c0.c4
    rw [cell_of_row _ _ _ _ _ _ k1] at q0 q1 q2 q4
    have hblk := c0.blk.set ⟨gx, 3, none⟩ (.slice (some ⟨gL, 0, none⟩) (accL.length + 1) cL') rfl
    refine ⟨?_, ?_, ?_, ?_, ?_, hblk.frozen 0, hblk.frozen 1, hblk.frozen 2, hblk.frozen 3, hblk.frozen 4, hblk⟩
    all_goals (rw [cell_of_row _ _ _ _ _ _ hh]; simp [Array.getElem?_setIfInBounds, q0, q1, q2, q4]; try omega)
  · rw [e1, List.map_append]
    exact hv.keep (fun b hb' hle _ => Below.heap_setCell _ _ _ _ (show b ≠ gx by omega))
  · exact hf.vm.keep (fun b hb' hle hlt' => keep b hlt' (fun e => h.sep b e hb') (by omega))
  · intro b hb1 hb2
    rw [e1] at hb1
    injection hb1 with hb1
    have hb1 : gL = b := hb1
    exact hLM (by rw [hb1]; exact hb2)
  · intro z hz
    have hY : ∀ k, k < wf.heap.size → OwnR gx r0 (.slice (some ⟨gL, 0, none⟩) (accL ++ [q]).length cL') (.slice AM accM.length cM) k → OwnR gx r0 (.slice AL accL.length cL) (.slice AM accM.length cM) k := fun k hk hy => by
      rcases hy with e | e | e | e
      · exact .inl e
      · exact .inr (.inl e)
      · injection e with e
        have e : gL = k := e
        rcases hat with h' | h'
        · exact .inr (.inr (.inl (by rw [← e]; exact h')))
        · omega
      · exact .inr (.inr (.inr e))
    have hkk : ∀ k, w0.heap.size ≤ k → k < wf.heap.size → ¬ OwnR gx r0 (.slice AL accL.length cL) (.slice AM accM.length cM) k → (wA.setCell ⟨gx, 3, none⟩ (.slice (some ⟨gL, 0, none⟩) (accL.length + 1) cL')).heap[k]? = wf.heap[k]? := fun k _ hk hn =>
      keep k hk (fun e => hn (.inr (.inr (.inl e)))) (fun e => hn (.inl e))
    have hzz : Sturdy w0.heap.size (OwnR gx r0 (.slice AL accL.length cL) (.slice AM accM.length cM)) wf d z := by
      rcases List.mem_append.1 hz with h1 | h1
      · rcases List.mem_append.1 h1 with h1 | h1
        · exact hf.st z (List.mem_append_left _ h1)
        · have : z = q := by simpa using h1
          subst this
          refine Sturdy.of_rd hq (Nat.le_trans h.bel.size (Nat.le_refl _)) (fun k hy => ?_)
          have := h.lx
          rcases hy with e | e | e | e
          · omega
          · omega
          · exact (h.vl.lt k e).2
          · exact (h.vm.lt k e).2
      · exact hf.st z (List.mem_append_right _ h1)
    exact hzz.move (by rw [hsz]; exact hs2) hkk hY
theorem Rst.pushM {w0 wr wf wA : World} {d r0 gx : Nat} {kk : Int} {accL accM : List At} {AL : Option Addr} {cL : Nat} {AM : Option Addr} {cM gL cL' : Nat} {q : At} (h : Rst w0 wr d r0 gx kk accL accM AL cL AM cM) (hb : Below wr.heap.size wr wf)
    (hq : Rd wf wr.heap.size wf.heap.size d q.t q.A q.c q.A' q.c') (hv : VG wA (gx + 1) (.slice (some ⟨gL, 0, none⟩) (accM.length + 1) cL') Pr.kc (accM.map At.pr ++ [q.pr])) (hg : wf.grownBy wA (Value.slice AM accM.length cM).ownBlock) (hat : (Value.slice AM accM.length cM).ownBlock = some gL ∨ gL = wf.heap.size) (hlt : gL < wA.heap.size) :
    Rst w0 (wA.setCell ⟨gx, 4, none⟩ (.slice (some ⟨gL, 0, none⟩) (accM.length + 1) cL')) d r0 gx kk accL (accM ++ [q]) AL cL (some ⟨gL, 0, none⟩) cL' := by
  have hf := h.next hb
  have hs1 := hb.size
  have hs2 := hg.size
  have hx := hf.lx
  have l0 := h.l0
  have lo := h.lo
  have ll := hf.vl.lt
  have lm := hf.vm.lt
  have e1 : (accM ++ [q]).length = accM.length + 1 := by simp
  have hgL : gx < gL := by
    rcases hat with e | e
    · have := (lm gL e).1; omega
    · omega
  have hrow : ∀ k, (Value.slice AM accM.length cM).ownBlock = some k → gx + 1 ≤ k := fun k e => (lm k e).1
  have keep : ∀ k, k < wf.heap.size → (Value.slice AM accM.length cM).ownBlock ≠ some k → k ≠ gx → (wA.setCell ⟨gx, 4, none⟩ (.slice (some ⟨gL, 0, none⟩) (accM.length + 1) cL')).heap[k]? = wf.heap[k]? := fun k h1 h2 h3 =>
    (Below.heap_setCell _ _ _ _ h3).trans (hg.block k h1 (fun e => h2 e.symm))
  have hsz : (wA.setCell ⟨gx, 4, none⟩ (.slice (some ⟨gL, 0, none⟩) (accM.length + 1) cL')).heap.size = wA.heap.size := by simp [World.setCell]
  have hLM : (Value.slice AL accL.length cL).ownBlock ≠ some gL := fun e => by
    rcases hat with h' | h'
    · exact h.sep gL e h'
    · have := (ll gL e).2; omega
  refine ⟨?_, lo, l0, by rw [hsz]; omega, ?_, ?_, ?_, ?_, ?_, ?_⟩
  · have b1 : Below w0.heap.size wf wA := ⟨hg.os, hg.tape, hg.output, hg.size, fun k hk => hg.block k (by omega) (fun e => by have := hrow k e.symm; omega)⟩
    exact (hf.bel.trans b1).setCell (by simp; omega) _
  · exact hf.res.kept (keep r0 (by omega) (fun e => by have := hrow r0 e; omega) (by omega))
  · have c0 := hf.box.kept (hg.block gx (by omega) (fun e => by have := hrow gx e.symm; omega))
    rw [e1]
    obtain ⟨cs, k1, k2⟩ := c0.blk
    have hh := set_heap wA gx 4 (.slice (some ⟨gL, 0, none⟩) (accM.length + 1) cL') cs k1
    have q0 := c0.c0
    have q1 := c0.c1
    have q2 := c0.c2
    have q3 := c0.c3
    rw [cell_of_row _ _ _ _ _ _ k1] at q0 q1 q2 q3
    have hblk := c0.blk.set ⟨gx, 4, none⟩ (.slice (some ⟨gL, 0, none⟩) (accM.length + 1) cL') rfl
    refine ⟨?_, ?_, ?_, ?_, ?_, hblk.frozen 0, hblk.frozen 1, hblk.frozen 2, hblk.frozen 3, hblk.frozen 4, hblk⟩
    all_goals (rw [cell_of_row _ _ _ _ _ _ hh]; simp [Array.getElem?_setIfInBounds, q0, q1, q2, q3]; try omega)
  · exact hf.vl.keep (fun b hb' hle hlt' => keep b hlt' (fun e => h.sep b hb' e) (by omega))
  · rw [e1, List.map_append]
    exact hv.keep (fun b hb' hle _ => Below.heap_setCell _ _ _ _ (show b ≠ gx by omega))
  · intro b hb1 hb2
    rw [e1] at hb2
    injection hb2 with hb2
    have hb2 : gL = b := hb2
    exact hLM (by rw [hb2]; exact hb1)
  · intro z hz
    have hY : ∀ k, k < wf.heap.size → OwnR gx r0 (.slice AL accL.length cL) (.slice (some ⟨gL, 0, none⟩) (accM ++ [q]).length cL') k → OwnR gx r0 (.slice AL accL.length cL) (.slice AM accM.length cM) k := fun k hk hy => by
      rcases hy with e | e | e | e
      · exact .inl e
      · exact .inr (.inl e)
      · exact .inr (.inr (.inl e))
      · injection e with e
        have e : gL = k := e
        rcases hat with h' | h'
        · exact .inr (.inr (.inr (by rw [← e]; exact h')))
        · omega
    have hkk : ∀ k, w0.heap.size ≤ k → k < wf.heap.size → ¬ OwnR gx r0 (.slice AL accL.length cL) (.slice AM accM.length cM) k → (wA.setCell ⟨gx, 4, none⟩ (.slice (some ⟨gL, 0, none⟩) (accM.length + 1) cL')).heap[k]? = wf.heap[k]? := fun k _ hk hn =>
      keep k hk (fun e => hn (.inr (.inr (.inr e)))) (fun e => hn (.inl e))
    have hzz : Sturdy w0.heap.size (OwnR gx r0 (.slice AL accL.length cL) (.slice AM accM.length cM)) wf d z := by
      rcases List.mem_append.1 hz with h1 | h1
      · exact hf.st z (List.mem_append_left _ h1)
      · rcases List.mem_append.1 h1 with h1 | h1
        · exact hf.st z (List.mem_append_right _ h1)
        · have : z = q := by simpa using h1
          subst this
          refine Sturdy.of_rd hq (Nat.le_trans h.bel.size (Nat.le_refl _)) (fun k hy => ?_)
          have := h.lx
          rcases hy with e | e | e | e
          · omega
          · omega
          · exact (h.vl.lt k e).2
          · exact (h.vm.lt k e).2
    exact hzz.move (by rw [hsz]; exact hs2) hkk hY


theorem Rst.start (w : World) (d : Nat) (k : Int) (W : World) (hW : (w.alloc (.cells #[.int .i64 0, .int .i64 0, .string ⟨#[]⟩, .slice none 0 0, .slice none 0 0] 24)).alloc (.cells #[.int .i64 k, .int .i64 0, .string ⟨#[]⟩, .slice none 0 0, .slice none 0 0] 24) = W) :
    Rst w W d w.heap.size (w.heap.size + 1) k [] [] none 0 none 0 := by
  have z0 := below_new w (.cells #[.int .i64 0, .int .i64 0, .string ⟨#[]⟩, .slice none 0 0, .slice none 0 0] 24)
  have c0 := Cell.new w (.int .i64 0) (.int .i64 0) (.string ⟨#[]⟩) (.slice none 0 0) (.slice none 0 0)
  have e0 : (w.alloc (.cells #[.int .i64 0, .int .i64 0, .string ⟨#[]⟩, .slice none 0 0, .slice none 0 0] 24)).heap.size = w.heap.size + 1 := by simp
  generalize w.alloc (.cells #[.int .i64 0, .int .i64 0, .string ⟨#[]⟩, .slice none 0 0, .slice none 0 0] 24) = W0 at *
  have z1 := below_new W0 (.cells #[.int .i64 k, .int .i64 0, .string ⟨#[]⟩, .slice none 0 0, .slice none 0 0] 24)
  have c1 := Cell.new W0 (.int .i64 k) (.int .i64 0) (.string ⟨#[]⟩) (.slice none 0 0) (.slice none 0 0)
  have e1 : (W0.alloc (.cells #[.int .i64 k, .int .i64 0, .string ⟨#[]⟩, .slice none 0 0, .slice none 0 0] 24)).heap.size = W0.heap.size + 1 := by simp
  rw [hW] at z1 c1 e1
  rw [e0] at c1
  exact ⟨bnext z0 z1, Nat.le_refl _, by omega, by omega, (c0.below z1 c0.blk.lt).blk, c1, .inl ⟨rfl, rfl⟩, .inl ⟨rfl, rfl⟩, (fun b h => by cases h), (by simp)⟩
theorem rst_end {w wr F : World} {r r0 gx : Nat} {kk : Int} {accL accM : List At} {AL : Option Addr} {cL : Nat} {AM : Option Addr} {cM : Nat} {s : ByteArray} {a : Nat} {R : Option (V × Bs)} {n : Int} (hC : Rst w wr (r + 1) r0 gx kk accL accM AL cL AM cM) (hkk : 0 ≤ kk ∧ kk ≤ 8) (b1 : accL.length ≤ 1759218604441) (b2 : accM.length ≤ 1759218604441)
    (hk : ∀ lo B, r0 < lo → Kept lo B wr F) (hs : F.heap.size = wr.heap.size) (hbel : ∀ B w0, B ≤ r0 → Below B w0 wr → Below B w0 F)
    (hn : n = -1 ∨ ∃ k : Nat, n = (k : Int) ∧ a < k ∧ k ≤ s.size ∧ 1 + sumN (cntV r) (accL.map (·.t)) + sumN (cntV r) (accM.map (·.t)) + a ≤ k) (hR : ∀ t z, R = some (t, z) → .mk kk 0 ⟨#[]⟩ (accL.map (·.t)) (accM.map (·.t)) = t ∧ ∃ k : Nat, n = (k : Int) ∧ s.toList.drop k = z) :
    PPost s a R (r + 1) w (.returned (.tuple #[.agg #[.int .i64 kk, .int .i64 0, .string ⟨#[]⟩, .slice AL accL.length cL, .slice AM accM.length cM], .int .i64 n])) F := by
  have hb0 := hbel r0 wr (Nat.le_refl _) (Below.refl _ _)
  have far : ∀ k, k ≠ r0 → F.heap[k]? = wr.heap[k]? := fun k hk0 => by
    rcases Nat.lt_or_ge k r0 with h | h
    · exact hb0.block k h
    · exact hk (r0 + 1) (k + 1) (by omega) k (by omega) (by omega)
  have l0 := hC.l0
  have lo := hC.lo
  have st : ∀ q ∈ accL ++ accM, Rd F w.heap.size F.heap.size (r + 1) q.t q.A q.c q.A' q.c' := fun q hq => hC.st q hq F (by omega) (fun k _ _ hn => far k (fun e => hn (.inr (.inl e))))
  have vl := hC.vl.keep (w' := F) (fun b _ h1 _ => far b (by omega))
  have vm := hC.vm.keep (w' := F) (fun b _ h1 _ => far b (by omega))
  have rl := grown_rd (lo := w.heap.size) vl (by omega) b1 (fun q hq => st q (List.mem_append_left _ hq))
  have rm := grown_rd (lo := w.heap.size) vm (by omega) b2 (fun q hq => st q (List.mem_append_right _ hq))
  refine ⟨⟨.mk kk 0 ⟨#[]⟩ (accL.map (·.t)) (accM.map (·.t)), AL, cL, AM, cM⟩, n, by simp [V.k, V.n, V.s, V.l, V.m], ?_, hbel _ _ (by omega) hC.bel, ?_, hR⟩
  · have hF := fld_small kk 0 hkk (by omega) ⟨#[]⟩ (by decide)
    exact ⟨⟨hF.k0, hF.k1, hF.n0, hF.n1, hF.s1⟩, rl, rm⟩
  · rcases hn with h | ⟨k, h1, h2, h3, h4⟩
    · exact .inl h
    · exact .inr ⟨k, h1, h2, h3, by simp only [cntV, V.l, V.m, V.s]; show 1 + _ + _ + 0 / 20 + a ≤ k; omega⟩

/-! What is left of a row, at the end of an item, or at its beginning. -/
def goL {α : Type} (e : Bs) (one : Bs → Option (α × Bs)) (fst : Bool) (n : Nat) (acc : List α) (l : Bs) : Option (List α × Bs) :=
  match takeL e l with
  | some q => some (acc, q)
  | none => if fst then itemsR e one n acc l else match takeL [44, 32] l with
    | none => none
    | some q => itemsR e one n acc q
section
variable {α : Type} {e : Bs} {one : Bs → Option (α × Bs)} {fst : Bool} {n : Nat} {acc xs : List α} {l q : Bs}
theorem goL_start (e l : Bs) : rowR e one l = goL e one true 1000 [] l := by
  unfold goL rowR
  cases takeL e l <;> rfl
theorem goL_end (h : goL e one fst n acc l = some (xs, q)) (he : e.isPrefixOf l = true) : xs = acc ∧ q = l.drop e.length := by
  unfold goL takeL at h
  rw [if_pos he] at h
  injection h with h
  injection h with h1 h2
  exact ⟨h1.symm, h2.symm⟩
theorem goL_first (h : goL e one true n acc l = some (xs, q)) (he : e.isPrefixOf l = false) : itemsR e one n acc l = some (xs, q) := by
  unfold goL takeL at h
  rw [he] at h
  exact h
theorem goL_comma (h : goL e one false n acc l = some (xs, q)) (he : e.isPrefixOf l = false) : [44, 32].isPrefixOf l = true ∧ itemsR e one n acc (l.drop 2) = some (xs, q) := by
  unfold goL takeL at h
  rw [he] at h
  simp only [Bool.false_eq_true, if_false] at h
  by_cases hc : [44, 32].isPrefixOf l = true
  · rw [if_pos hc] at h
    exact ⟨hc, h⟩
  · rw [if_neg hc] at h
    cases h
theorem items_go (h : itemsR e one n acc l = some (xs, q)) : ∃ x z m, one l = some (x, z) ∧ goL e one false m (acc ++ [x]) z = some (xs, q) := by
  cases n with
  | zero => cases h
  | succ n =>
    unfold itemsR at h
    cases ho : one l with
    | none => rw [ho] at h; cases h
    | some p =>
      obtain ⟨x, z⟩ := p
      rw [ho] at h
      refine ⟨x, z, n, rfl, ?_⟩
      unfold goL
      simp only at h
      cases ht : takeL e z with
      | some q' => rw [ht] at h; exact h
      | none =>
        rw [ht] at h
        simp only [Bool.false_eq_true, if_false]
        cases hc : takeL [44, 32] z with
        | none => rw [hc] at h; cases h
        | some q' => rw [hc] at h; exact h
theorem pair_go {one : Bs → Option (V × Bs)} {l z : Bs} {p : V × V} (h : pairR one l = some (p, z)) : ∃ r, one l = some (p.1, r) ∧ [58, 32].isPrefixOf r = true ∧ one (r.drop 2) = some (p.2, z) := by
  unfold pairR at h
  cases ho : one l with
  | none => rw [ho] at h; cases h
  | some xr =>
    obtain ⟨k, r⟩ := xr
    rw [ho] at h
    simp only [takeL] at h
    by_cases hc : [58, 32].isPrefixOf r = true
    · rw [if_pos hc] at h
      simp only at h
      cases h2 : one (r.drop ([58, 32] : Bs).length) with
      | none => rw [h2] at h; cases h
      | some vz =>
        obtain ⟨v, z'⟩ := vz
        rw [h2] at h
        injection h with h
        injection h with h3 h4
        subst h3 h4
        exact ⟨r, rfl, hc, h2⟩
    · rw [if_neg hc] at h; cases h
end
end Go.Proofs.Ytmgjiipooffggaa
