/- Carried over from the seat of layer 2. -/
import Derived.Test.YtmgjiipooffggaaVVb
namespace Go.Proofs.Ytmgjiipooffggaa
set_option maxRecDepth 100000
open Go.RowKit Go.Sort

def At.pr (x : At) : Pr := ⟨x.t, x.A, x.c, x.A', x.c', zeroV, none, 0, none, 0⟩
theorem At.kc (x : At) : x.pr.kc = x.cs := rfl
/-- append of one value to a row as long as any may be. -/
theorem step_append_big {ops : Array Oper} {o : Oper} {a : Act} {W : World} {K : Act → World → Prop} {Q : Exit → Act → World → Prop} {E : Prop} (hgd : o.guard = none) (s x : Operand)
    (ho : o.op = .call { callee := .builtin .append, args := #[s, x], argTypes := #[22, 22] }) (base : Nat) (A : Option Addr) (c : Nat) (acc : List Pr) (p : Pr)
    (hs : a.eval s = .slice A acc.length c) (hV : VG W base (.slice A acc.length c) Pr.kc acc) (ad : Addr) (hx : a.eval x = .slice (some ad) 1 1) (hnews : ∀ j u, p.kc[j]? = some u → W.cell? (ad.add j) = some u)
    (hlen : acc.length + 1 ≤ 1759218604441) (hbase : base ≤ W.heap.size)
    (h : ∀ g cap w', VG w' base (.slice (some ⟨g, 0, none⟩) (acc.length + 1) cap) Pr.kc (acc ++ [p]) → W.grownBy w' (Value.slice A acc.length c).ownBlock → ((Value.slice A acc.length c).ownBlock = some g ∨ g = W.heap.size) → g < w'.heap.size → K (a.put o.dst (.slice (some ⟨g, 0, none⟩) (acc.length + 1) cap)) w') :
    if Region.wanted o (yielded ops a.tmps) = true then Oper.wp Try.prog o a W K Q else E := by
  obtain ⟨xs, hown, hl, hxs⟩ := hV.owns
  obtain ⟨i0, hi, hz0, hz1, hz2⟩ := info_parts info24
  refine step_append_lies W hgd s x 22 ho base 24 i0 _ 5 80 Try.underlying22 hi hz0 hz1 hz2 rfl (by decide) _ acc.length xs hs hown ad 1 1 p.kc hx (by rw [kc_len]) hnews (kc_one p) (by omega) (by unfold maxLen; omega) (by omega) hbase W.heap.size rfl ?_
  intro g cap w' hown' hgrow hat hlt
  exact h g cap w' (vg_of_owns hown' hl (kc_len p) hxs) hgrow hat hlt

/-- It reads so whatever becomes of the blocks X. -/
def Sturdy (lo : Nat) (X : Nat → Prop) (wr : World) (d : Nat) (q : At) : Prop := ∀ w2 : World, wr.heap.size ≤ w2.heap.size → (∀ k, lo ≤ k → k < wr.heap.size → ¬ X k → w2.heap[k]? = wr.heap[k]?) → Rd w2 lo w2.heap.size d q.t q.A q.c q.A' q.c'
theorem Sturdy.of_rd {lo lo1 : Nat} {X : Nat → Prop} {w : World} {d : Nat} {q : At} (h : Rd w lo1 w.heap.size d q.t q.A q.c q.A' q.c') (hl : lo ≤ lo1) (hX : ∀ k, X k → k < lo1) : Sturdy lo X w d q := fun w2 hs hk =>
  Rd.imp (fun k h1 h2 => hk k (by omega) h2 (fun hx => by have := hX k hx; omega)) hl hs (Nat.le_refl _) h
theorem Sturdy.move {lo : Nat} {X Y : Nat → Prop} {wr wx : World} {d : Nat} {q : At} (h : Sturdy lo X wr d q) (hs : wr.heap.size ≤ wx.heap.size) (hk : ∀ k, lo ≤ k → k < wr.heap.size → ¬ X k → wx.heap[k]? = wr.heap[k]?) (hX : ∀ k, k < wr.heap.size → Y k → X k) : Sturdy lo Y wx d q := fun w2 h2 hk2 =>
  h w2 (by omega) (fun k h1 h3 hx => (hk2 k h1 (by omega) (fun hy => hx (hX k h3 hy))).trans (hk k h1 h3 hx))
theorem own_slice (A : Option Addr) (n c m : Nat) : (Value.slice A n c).ownBlock = (Value.slice A m c).ownBlock := by cases A <;> rfl
/-- What grew reads as its values. -/
theorem grown_rd {w : World} {lo base d : Nat} {A : Option Addr} {c : Nat} {acc : List At} (h : VG w base (.slice A acc.length c) Pr.kc (acc.map At.pr)) (hlo : lo ≤ base) (hb : acc.length ≤ 1759218604441) (hp : ∀ q ∈ acc, Rd w lo w.heap.size d q.t q.A q.c q.A' q.c') : Rw w lo w.heap.size d A c (acc.map (·.t)) := by
  rcases h with ⟨e, e2⟩ | ⟨g, cap, e, h1, h2, h3, h4, h5⟩
  · have : acc = [] := by simpa using e2
    subst this
    injection e with e1 _ e3
    subst e1; subst e3
    exact rw_nil _ _ _ _
  · injection e with e1 _ e3
    subst e1; subst e3
    refine ⟨by simpa using h2, h3, by simpa using hb, (fun e => by cases e), fun h0 => ⟨g, 0, rfl, by omega, h4.lt, fun j t hj => ?_⟩⟩
    rw [List.getElem?_map] at hj
    obtain ⟨q, hq, rfl⟩ := Option.map_eq_some_iff.1 hj
    have hc := fun c hc => h5 j q.pr (by rw [List.getElem?_map, hq]; rfl) c hc
    refine ⟨q.A, q.c, q.A', q.c', ⟨?_, ?_, ?_, ?_, ?_⟩, hp q (List.mem_of_getElem? hq)⟩
    all_goals rw [Nat.zero_add]
    · exact hc 0 (by omega)
    · exact hc 1 (by omega)
    · exact hc 2 (by omega)
    · exact hc 3 (by omega)
    · exact hc 4 (by omega)
end Go.Proofs.Ytmgjiipooffggaa

