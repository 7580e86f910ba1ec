/- Rows of values that grow in the call's own memory: for the document's copied. -/
import Derived.Test.YtdolejafihgpmaaVc
namespace Go.Proofs.Ytdolejafihgpmaa
open Go.RowKit Go.Sort

def At.pr (x : At) : Pr := ⟨x.t, x.A, x.c, x.A', x.c', zeroV, none, 0, none, 0⟩
theorem At.kc (x : At) : x.pr.kc = x.cs := rfl
/-- append of one value to a row as long as any may be. -/
theorem step_append_big {ops : Array Oper} {o : Oper} {a : Act} {W : World} {K : Act → World → Prop} {Q : Exit → Act → World → Prop} {E : Prop} (hgd : o.guard = none) (s x : Operand)
    (ho : o.op = .call { callee := .builtin .append, args := #[s, x], argTypes := #[22, 22] }) (base : Nat) (A : Option Addr) (c : Nat) (acc : List Pr) (p : Pr)
    (hs : a.eval s = .slice A acc.length c) (hV : VG W base (.slice A acc.length c) Pr.kc acc) (ad : Addr) (hx : a.eval x = .slice (some ad) 1 1) (hnews : ∀ j u, p.kc[j]? = some u → W.cell? (ad.add j) = some u)
    (hlen : acc.length + 1 ≤ 1759218604441) (hbase : base ≤ W.heap.size)
    (h : ∀ g cap w', VG w' base (.slice (some ⟨g, 0, none⟩) (acc.length + 1) cap) Pr.kc (acc ++ [p]) → W.grownBy w' (Value.slice A acc.length c).ownBlock → ((Value.slice A acc.length c).ownBlock = some g ∨ g = W.heap.size) → g < w'.heap.size → K (a.put o.dst (.slice (some ⟨g, 0, none⟩) (acc.length + 1) cap)) w') :
    if Region.wanted o (yielded ops a.tmps) = true then Oper.wp Try.prog o a W K Q else E := by
  obtain ⟨xs, hown, hl, hxs⟩ := hV.owns
  obtain ⟨i0, hi, hz0, hz1, hz2⟩ := info_parts info24
  refine step_append_lies W hgd s x 22 ho base 24 i0 _ 5 80 Try.underlying22 hi hz0 hz1 hz2 rfl (by decide) _ acc.length xs hs hown ad 1 1 p.kc hx (by rw [kc_len]) hnews (kc_one p) (by omega) (by unfold maxLen; omega) (by omega) hbase W.heap.size rfl ?_
  intro g cap w' hown' hgrow hat hlt
  exact h g cap w' (vg_of_owns hown' hl (kc_len p) hxs) hgrow hat hlt

/-- It reads so whatever becomes of the blocks X. -/
def Sturdy (lo : Nat) (X : Nat → Prop) (wr : World) (d : Nat) (q : At) : Prop := ∀ w2 : World, wr.heap.size ≤ w2.heap.size → (∀ k, lo ≤ k → k < wr.heap.size → ¬ X k → w2.heap[k]? = wr.heap[k]?) → Rd w2 lo w2.heap.size d q.t q.A q.c q.A' q.c'
theorem Sturdy.of_rd {lo lo1 : Nat} {X : Nat → Prop} {w : World} {d : Nat} {q : At} (h : Rd w lo1 w.heap.size d q.t q.A q.c q.A' q.c') (hl : lo ≤ lo1) (hX : ∀ k, X k → k < lo1) : Sturdy lo X w d q := fun w2 hs hk =>
  Rd.imp (fun k h1 h2 => hk k (by omega) h2 (fun hx => by have := hX k hx; omega)) hl hs (Nat.le_refl _) h
theorem Sturdy.move {lo : Nat} {X Y : Nat → Prop} {wr wx : World} {d : Nat} {q : At} (h : Sturdy lo X wr d q) (hs : wr.heap.size ≤ wx.heap.size) (hk : ∀ k, lo ≤ k → k < wr.heap.size → ¬ X k → wx.heap[k]? = wr.heap[k]?) (hX : ∀ k, k < wr.heap.size → Y k → X k) : Sturdy lo Y wx d q := fun w2 h2 hk2 =>
  h w2 (by omega) (fun k h1 h3 hx => (hk2 k h1 (by omega) (fun hy => hx (hX k h3 hy))).trans (hk k h1 h3 hx))
/-- The call's own blocks. -/
def Own (gx r0 : Nat) (vL vM : Value) (k : Nat) : Prop := k = gx ∨ k = r0 ∨ vL.ownBlock = some k ∨ vM.ownBlock = some k

structure Cpy (w0 wr : World) (d g2 r0 gx : Nat) (x : At) (accL accM : List At) (AL : Option Addr) (cL : Nat) (AM : Option Addr) (cM : Nat) : Prop where
  bel : Below w0.heap.size w0 wr
  lo : w0.heap.size ≤ g2
  l2 : g2 < r0
  l0 : r0 < gx
  lx : gx < wr.heap.size
  bx : Bx wr g2 x
  res : Blk wr r0 1
  box : Cell wr gx (.int .i64 x.t.k) (.int .i64 x.t.n) (.string x.t.s) (.slice AL accL.length cL) (.slice AM accM.length cM)
  vl : VG wr (gx + 1) (.slice AL accL.length cL) Pr.kc (accL.map At.pr)
  vm : VG wr (gx + 1) (.slice AM accM.length cM) Pr.kc (accM.map At.pr)
  sep : ∀ b, (Value.slice AL accL.length cL).ownBlock = some b → (Value.slice AM accM.length cM).ownBlock ≠ some b
  st : ∀ q ∈ accL ++ accM, Sturdy w0.heap.size (Own gx r0 (.slice AL accL.length cL) (.slice AM accM.length cM)) wr d q
theorem Cpy.next {w0 a b : World} {d g2 r0 gx : Nat} {x : At} {accL accM : List At} {AL : Option Addr} {cL : Nat} {AM : Option Addr} {cM : Nat} (h : Cpy w0 a d g2 r0 gx x accL accM AL cL AM cM) (hb : Below a.heap.size a b) : Cpy w0 b d g2 r0 gx x accL accM AL cL AM cM :=
  ⟨bnext h.bel hb, h.lo, h.l2, h.l0, Nat.lt_of_lt_of_le h.lx hb.size, h.bx.next hb, Blk.next hb h.res, Cell.next hb h.box, h.vl.below hb, h.vm.below hb, h.sep, fun q hq => (h.st q hq).move hb.size (fun k _ hk _ => hb.block k hk) (fun _ _ hy => hy)⟩
theorem own_slice (A : Option Addr) (n c m : Nat) : (Value.slice A n c).ownBlock = (Value.slice A m c).ownBlock := by cases A <;> rfl
theorem Cpy.pushL {w0 wr wf wA : World} {d g2 r0 gx : Nat} {x : At} {accL accM : List At} {AL : Option Addr} {cL : Nat} {AM : Option Addr} {cM gL cL' : Nat} {q : At} (h : Cpy w0 wr d g2 r0 gx x accL accM AL cL AM cM) (hb : Below wr.heap.size wr wf)
    (hq : Rd wf wr.heap.size wf.heap.size d q.t q.A q.c q.A' q.c') (hv : VG wA (gx + 1) (.slice (some ⟨gL, 0, none⟩) (accL.length + 1) cL') Pr.kc (accL.map At.pr ++ [q.pr])) (hg : wf.grownBy wA (Value.slice AL accL.length cL).ownBlock) (hat : (Value.slice AL accL.length cL).ownBlock = some gL ∨ gL = wf.heap.size) (hlt : gL < wA.heap.size) :
    Cpy w0 (wA.setCell ⟨gx, 3, none⟩ (.slice (some ⟨gL, 0, none⟩) (accL.length + 1) cL')) d g2 r0 gx x (accL ++ [q]) accM (some ⟨gL, 0, none⟩) cL' AM cM := by
  have hf := h.next hb
  have hs1 := hb.size
  have hs2 := hg.size
  have hx := hf.lx
  have l0 := h.l0
  have l2 := h.l2
  have lo := h.lo
  have ll := hf.vl.lt
  have lm := hf.vm.lt
  have e1 : (accL ++ [q]).length = accL.length + 1 := by simp
  have hgL : gx < gL := by
    rcases hat with e | e
    · have := (ll gL e).1; omega
    · omega
  have hrow : ∀ k, (Value.slice AL accL.length cL).ownBlock = some k → gx + 1 ≤ k := fun k e => (ll k e).1
  have keep : ∀ k, k < wf.heap.size → (Value.slice AL accL.length cL).ownBlock ≠ some k → k ≠ gx → (wA.setCell ⟨gx, 3, none⟩ (.slice (some ⟨gL, 0, none⟩) (accL.length + 1) cL')).heap[k]? = wf.heap[k]? := fun k h1 h2 h3 =>
    (Below.heap_setCell _ _ _ _ h3).trans (hg.block k h1 (fun e => h2 e.symm))
  have hsz : (wA.setCell ⟨gx, 3, none⟩ (.slice (some ⟨gL, 0, none⟩) (accL.length + 1) cL')).heap.size = wA.heap.size := by simp [World.setCell]
  have hLM : (Value.slice AM accM.length cM).ownBlock ≠ some gL := fun e => by
    rcases hat with h' | h'
    · exact h.sep gL h' e
    · have := (lm gL e).2; omega
  refine ⟨?_, lo, l2, l0, by rw [hsz]; omega, ?_, ?_, ?_, ?_, ?_, ?_, ?_⟩
  · have b1 : Below w0.heap.size wf wA := ⟨hg.os, hg.tape, hg.output, hg.size, fun k hk => hg.block k (by omega) (fun e => by have := hrow k e.symm; omega)⟩
    exact (hf.bel.trans b1).setCell (by simp; omega) _
  · exact Cell.kept hf.bx (keep g2 (by omega) (fun e => by have := hrow g2 e; omega) (by omega))
  · exact hf.res.kept (keep r0 (by omega) (fun e => by have := hrow r0 e; omega) (by omega))
  · have c0 := hf.box.kept (hg.block gx (by omega) (fun e => by have := hrow gx e.symm; omega))
    rw [e1]
    obtain ⟨cs, k1, k2⟩ := c0.blk
    have hh := set_heap wA gx 3 (.slice (some ⟨gL, 0, none⟩) (accL.length + 1) cL') cs k1
    have q0 := c0.c0
    have q1 := c0.c1
    have q2 := c0.c2
    have q4 := c0.c4
    rw [cell_of_row _ _ _ _ _ _ k1] at q0 q1 q2 q4
    have hblk := c0.blk.set ⟨gx, 3, none⟩ (.slice (some ⟨gL, 0, none⟩) (accL.length + 1) cL') rfl
    refine ⟨?_, ?_, ?_, ?_, ?_, hblk.frozen 0, hblk.frozen 1, hblk.frozen 2, hblk.frozen 3, hblk.frozen 4, hblk⟩
    all_goals (rw [cell_of_row _ _ _ _ _ _ hh]; simp [Array.getElem?_setIfInBounds, q0, q1, q2, q4]; try omega)
  · rw [e1, List.map_append]
    exact hv.keep (fun b hb' hle _ => Below.heap_setCell _ _ _ _ (show b ≠ gx by omega))
  · exact hf.vm.keep (fun b hb' hle hlt' => keep b hlt' (fun e => h.sep b e hb') (by omega))
  · intro b hb1 hb2
    rw [e1] at hb1
    injection hb1 with hb1
    have hb1 : gL = b := hb1
    exact hLM (by rw [hb1]; exact hb2)
  · intro z hz
    have hY : ∀ k, k < wf.heap.size → Own gx r0 (.slice (some ⟨gL, 0, none⟩) (accL ++ [q]).length cL') (.slice AM accM.length cM) k → Own gx r0 (.slice AL accL.length cL) (.slice AM accM.length cM) k := fun k hk hy => by
      rcases hy with e | e | e | e
      · exact .inl e
      · exact .inr (.inl e)
      · injection e with e
        have e : gL = k := e
        rcases hat with h' | h'
        · exact .inr (.inr (.inl (by rw [← e]; exact h')))
        · omega
      · exact .inr (.inr (.inr e))
    have hkk : ∀ k, w0.heap.size ≤ k → k < wf.heap.size → ¬ Own gx r0 (.slice AL accL.length cL) (.slice AM accM.length cM) k → (wA.setCell ⟨gx, 3, none⟩ (.slice (some ⟨gL, 0, none⟩) (accL.length + 1) cL')).heap[k]? = wf.heap[k]? := fun k _ hk hn =>
      keep k hk (fun e => hn (.inr (.inr (.inl e)))) (fun e => hn (.inl e))
    have hzz : Sturdy w0.heap.size (Own gx r0 (.slice AL accL.length cL) (.slice AM accM.length cM)) wf d z := by
      rcases List.mem_append.1 hz with h1 | h1
      · rcases List.mem_append.1 h1 with h1 | h1
        · exact hf.st z (List.mem_append_left _ h1)
        · have : z = q := by simpa using h1
          subst this
          refine Sturdy.of_rd hq (Nat.le_trans h.bel.size (Nat.le_refl _)) (fun k hy => ?_)
          have := h.lx
          rcases hy with e | e | e | e
          · omega
          · omega
          · exact (h.vl.lt k e).2
          · exact (h.vm.lt k e).2
      · exact hf.st z (List.mem_append_right _ h1)
    exact hzz.move (by rw [hsz]; exact hs2) hkk hY
theorem Cpy.pushM {w0 wr wf wA : World} {d g2 r0 gx : Nat} {x : At} {accL accM : List At} {AL : Option Addr} {cL : Nat} {AM : Option Addr} {cM gL cL' : Nat} {q : At} (h : Cpy w0 wr d g2 r0 gx x accL accM AL cL AM cM) (hb : Below wr.heap.size wr wf)
    (hq : Rd wf wr.heap.size wf.heap.size d q.t q.A q.c q.A' q.c') (hv : VG wA (gx + 1) (.slice (some ⟨gL, 0, none⟩) (accM.length + 1) cL') Pr.kc (accM.map At.pr ++ [q.pr])) (hg : wf.grownBy wA (Value.slice AM accM.length cM).ownBlock) (hat : (Value.slice AM accM.length cM).ownBlock = some gL ∨ gL = wf.heap.size) (hlt : gL < wA.heap.size) :
    Cpy w0 (wA.setCell ⟨gx, 4, none⟩ (.slice (some ⟨gL, 0, none⟩) (accM.length + 1) cL')) d g2 r0 gx x accL (accM ++ [q]) AL cL (some ⟨gL, 0, none⟩) cL' := by
  have hf := h.next hb
  have hs1 := hb.size
  have hs2 := hg.size
  have hx := hf.lx
  have l0 := h.l0
  have l2 := h.l2
  have lo := h.lo
  have ll := hf.vl.lt
  have lm := hf.vm.lt
  have e1 : (accM ++ [q]).length = accM.length + 1 := by simp
  have hgL : gx < gL := by
    rcases hat with e | e
    · have := (lm gL e).1; omega
    · omega
  have hrow : ∀ k, (Value.slice AM accM.length cM).ownBlock = some k → gx + 1 ≤ k := fun k e => (lm k e).1
  have keep : ∀ k, k < wf.heap.size → (Value.slice AM accM.length cM).ownBlock ≠ some k → k ≠ gx → (wA.setCell ⟨gx, 4, none⟩ (.slice (some ⟨gL, 0, none⟩) (accM.length + 1) cL')).heap[k]? = wf.heap[k]? := fun k h1 h2 h3 =>
    (Below.heap_setCell _ _ _ _ h3).trans (hg.block k h1 (fun e => h2 e.symm))
  have hsz : (wA.setCell ⟨gx, 4, none⟩ (.slice (some ⟨gL, 0, none⟩) (accM.length + 1) cL')).heap.size = wA.heap.size := by simp [World.setCell]
  have hLM : (Value.slice AL accL.length cL).ownBlock ≠ some gL := fun e => by
    rcases hat with h' | h'
    · exact h.sep gL e h'
    · have := (ll gL e).2; omega
  refine ⟨?_, lo, l2, l0, by rw [hsz]; omega, ?_, ?_, ?_, ?_, ?_, ?_, ?_⟩
  · have b1 : Below w0.heap.size wf wA := ⟨hg.os, hg.tape, hg.output, hg.size, fun k hk => hg.block k (by omega) (fun e => by have := hrow k e.symm; omega)⟩
    exact (hf.bel.trans b1).setCell (by simp; omega) _
  · exact Cell.kept hf.bx (keep g2 (by omega) (fun e => by have := hrow g2 e; omega) (by omega))
  · exact hf.res.kept (keep r0 (by omega) (fun e => by have := hrow r0 e; omega) (by omega))
  · have c0 := hf.box.kept (hg.block gx (by omega) (fun e => by have := hrow gx e.symm; omega))
    rw [e1]
    obtain ⟨cs, k1, k2⟩ := c0.blk
    have hh := set_heap wA gx 4 (.slice (some ⟨gL, 0, none⟩) (accM.length + 1) cL') cs k1
    have q0 := c0.c0
    have q1 := c0.c1
    have q2 := c0.c2
    have q3 := c0.c3
    rw [cell_of_row _ _ _ _ _ _ k1] at q0 q1 q2 q3
    have hblk := c0.blk.set ⟨gx, 4, none⟩ (.slice (some ⟨gL, 0, none⟩) (accM.length + 1) cL') rfl
    refine ⟨?_, ?_, ?_, ?_, ?_, hblk.frozen 0, hblk.frozen 1, hblk.frozen 2, hblk.frozen 3, hblk.frozen 4, hblk⟩
    all_goals (rw [cell_of_row _ _ _ _ _ _ hh]; simp [Array.getElem?_setIfInBounds, q0, q1, q2, q3]; try omega)
  · exact hf.vl.keep (fun b hb' hle hlt' => keep b hlt' (fun e => h.sep b hb' e) (by omega))
  · rw [e1, List.map_append]
    exact hv.keep (fun b hb' hle _ => Below.heap_setCell _ _ _ _ (show b ≠ gx by omega))
  · intro b hb1 hb2
    rw [e1] at hb2
    injection hb2 with hb2
    have hb2 : gL = b := hb2
    exact hLM (by rw [hb2]; exact hb1)
  · intro z hz
    have hY : ∀ k, k < wf.heap.size → Own gx r0 (.slice AL accL.length cL) (.slice (some ⟨gL, 0, none⟩) (accM ++ [q]).length cL') k → Own gx r0 (.slice AL accL.length cL) (.slice AM accM.length cM) k := fun k hk hy => by
      rcases hy with e | e | e | e
      · exact .inl e
      · exact .inr (.inl e)
      · exact .inr (.inr (.inl e))
      · injection e with e
        have e : gL = k := e
        rcases hat with h' | h'
        · exact .inr (.inr (.inr (by rw [← e]; exact h')))
        · omega
    have hkk : ∀ k, w0.heap.size ≤ k → k < wf.heap.size → ¬ Own gx r0 (.slice AL accL.length cL) (.slice AM accM.length cM) k → (wA.setCell ⟨gx, 4, none⟩ (.slice (some ⟨gL, 0, none⟩) (accM.length + 1) cL')).heap[k]? = wf.heap[k]? := fun k _ hk hn =>
      keep k hk (fun e => hn (.inr (.inr (.inr e)))) (fun e => hn (.inl e))
    have hzz : Sturdy w0.heap.size (Own gx r0 (.slice AL accL.length cL) (.slice AM accM.length cM)) wf d z := by
      rcases List.mem_append.1 hz with h1 | h1
      · exact hf.st z (List.mem_append_left _ h1)
      · rcases List.mem_append.1 h1 with h1 | h1
        · exact hf.st z (List.mem_append_right _ h1)
        · have : z = q := by simpa using h1
          subst this
          refine Sturdy.of_rd hq (Nat.le_trans h.bel.size (Nat.le_refl _)) (fun k hy => ?_)
          have := h.lx
          rcases hy with e | e | e | e
          · omega
          · omega
          · exact (h.vl.lt k e).2
          · exact (h.vm.lt k e).2
    exact hzz.move (by rw [hsz]; exact hs2) hkk hY
/-- What grew reads as its values. -/
theorem grown_rd {w : World} {lo base d : Nat} {A : Option Addr} {c : Nat} {acc : List At} (h : VG w base (.slice A acc.length c) Pr.kc (acc.map At.pr)) (hlo : lo ≤ base) (hb : acc.length ≤ 1759218604441) (hp : ∀ q ∈ acc, Rd w lo w.heap.size d q.t q.A q.c q.A' q.c') : Rw w lo w.heap.size d A c (acc.map (·.t)) := by
  rcases h with ⟨e, e2⟩ | ⟨g, cap, e, h1, h2, h3, h4, h5⟩
  · have : acc = [] := by simpa using e2
    subst this
    injection e with e1 _ e3
    subst e1; subst e3
    exact rw_nil _ _ _ _
  · injection e with e1 _ e3
    subst e1; subst e3
    refine ⟨by simpa using h2, h3, by simpa using hb, (fun e => by cases e), fun h0 => ⟨g, 0, rfl, by omega, h4.lt, fun j t hj => ?_⟩⟩
    rw [List.getElem?_map] at hj
    obtain ⟨q, hq, rfl⟩ := Option.map_eq_some_iff.1 hj
    have hc := fun c hc => h5 j q.pr (by rw [List.getElem?_map, hq]; rfl) c hc
    refine ⟨q.A, q.c, q.A', q.c', ⟨?_, ?_, ?_, ?_, ?_⟩, hp q (List.mem_of_getElem? hq)⟩
    all_goals rw [Nat.zero_add]
    · exact hc 0 (by omega)
    · exact hc 1 (by omega)
    · exact hc 2 (by omega)
    · exact hc 3 (by omega)
    · exact hc 4 (by omega)
end Go.Proofs.Ytdolejafihgpmaa
