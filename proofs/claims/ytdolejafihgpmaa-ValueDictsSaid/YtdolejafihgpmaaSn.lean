/- For value.mapOf: the last pair gets another value; what the grown rows read as. -/
import Derived.Test.YtdolejafihgpmaaS
namespace Go.Proofs.Ytdolejafihgpmaa
open Go.RowKit Go.Sort

theorem VG.congr {w : World} {base : Nat} {v : Value} {f : Pr → List Value} {acc acc' : List Pr} (h : VG w base v f acc) (he : acc'.map f = acc.map f) : VG w base v f acc' := by
  have hl : acc'.length = acc.length := by have := congrArg List.length he; simpa using this
  rcases h with ⟨e, rfl⟩ | ⟨g, cap, e, h1, h2, h3, h4, h5⟩
  · exact .inl ⟨e, List.eq_nil_of_length_eq_zero (by simpa using hl)⟩
  · refine .inr ⟨g, cap, by rw [hl]; exact e, h1, by omega, h3, h4, fun i p hi c hc => ?_⟩
    have hi' := (List.getElem?_eq_some_iff.1 hi).1
    have hq : acc[i]? = some (acc[i]'(by omega)) := List.getElem?_eq_getElem (by omega)
    have e1 : (acc'.map f)[i]? = (acc.map f)[i]? := by rw [he]
    rw [List.getElem?_map, List.getElem?_map, hi, hq] at e1
    injection e1 with e1
    have e1 : f p = f acc[i] := e1
    rw [e1]
    exact h5 i _ hq c hc
theorem VG.last {w : World} {base : Nat} {A : Option Addr} {c n : Nat} {f : Pr → List Value} {acc0 : List Pr} {q : Pr} (h : VG w base (.slice A n c) f (acc0 ++ [q])) :
    ∃ g, A = some ⟨g, 0, none⟩ ∧ base ≤ g ∧ g < w.heap.size ∧ Blk w g c ∧ acc0.length + 1 ≤ c ∧ ∀ j, j < 5 → w.cell? ⟨g, acc0.length * 5 + j, none⟩ = some ((f q)[j]!) := by
  rcases h with ⟨_, e⟩ | ⟨g, cap, e, h1, h2, h3, h4, h5⟩
  · simp at e
  · injection e with e1 e2 e3
    subst e1; subst e3
    exact ⟨g, rfl, h1, h4.lt, h4, by simpa using h2, fun j hj => h5 acc0.length q (by simp) j hj⟩
theorem Mid.prIn {W0 wr : World} {g B d n gm r0 : Nat} {ps' : Array Pr} {k : Nat} {acc : List Pr} {AL : Option Addr} {cL : Nat} {AM : Option Addr} {cM : Nat} (h : Mid W0 wr g B d n gm r0 ps' k acc AL cL AM cM) (hB : B ≤ g) (hg : g < W0.heap.size) {p : Pr} (hp : PrIn W0 0 B d p) : PrIn wr 0 wr.heap.size d p := by
  have hk : Kept 0 B W0 wr := fun i _ hi => h.held.near.block i (by omega) (by omega)
  have hs := h.held.near.size
  exact ⟨Rd.imp hk (Nat.le_refl _) (by omega) (Nat.le_refl _) hp.1, Rd.imp hk (Nat.le_refl _) (by omega) (Nat.le_refl _) hp.2⟩
theorem put5_below (B : Nat) (w : World) (g o : Nat) (v0 v1 v2 v3 v4 : Value) (h : B ≤ g) : Below B w (put5 w g o v0 v1 v2 v3 v4) :=
  ((((((Below.refl B w).setCell (p := ⟨g, o, none⟩) h v0).setCell (p := ⟨g, o + 1, none⟩) h v1).setCell (p := ⟨g, o + 2, none⟩) h v2).setCell (p := ⟨g, o + 3, none⟩) h v3).setCell (p := ⟨g, o + 4, none⟩) h v4)
/-- A pair with another one's value. -/
abbrev Pr.with (q p : Pr) : Pr := { q with y := p.y, a3 := p.a3, n3 := p.n3, a4 := p.a4, n4 := p.n4 }
set_option maxHeartbeats 1000000 in
theorem Mid.put {W0 wq : World} {g B d n gm r0 : Nat} {ps' : Array Pr} {k : Nat} {acc0 : List Pr} {q p : Pr} {AL : Option Addr} {cL gM cM N : Nat} (hN : (acc0 ++ [q]).length = N)
    (hM : Mid W0 wq g B d n gm r0 ps' k (acc0 ++ [q]) AL cL (some ⟨gM, 0, none⟩) cM) (hgW : W0.heap.size ≤ gm) (hg : g < W0.heap.size) (hr : r0 < gm)
    (hp : PrIn W0 0 B d p) (hfold : acc0 ++ [q.with p] = (ps'.toList.take (k + 1)).foldl gat []) :
    Mid W0 (put5 wq gM (acc0.length * 5) (.int .i64 p.y.k) (.int .i64 p.y.n) (.string p.y.s) (.slice p.a3 p.y.l.length p.n3) (.slice p.a4 p.y.m.length p.n4)) g B d n gm r0 ps' (k + 1) (acc0 ++ [q.with p]) AL cL (some ⟨gM, 0, none⟩) cM := by
  obtain ⟨g', e', hb', hlt', hblk, hle, _⟩ := hM.vm.last
  injection e' with e'
  injection e' with e'
  subst e'
  have hlen : (acc0 ++ [q.with p]).length = (acc0 ++ [q]).length := by simp
  have hgm := hM.gmlt
  have far := fun k (hk : k ≠ gM) => put5_far wq gM (acc0.length * 5) (.int .i64 p.y.k) (.int .i64 p.y.n) (.string p.y.s) (.slice p.a3 p.y.l.length p.n3) (.slice p.a4 p.y.m.length p.n4) k hk
  have hsz := put5_size wq gM (acc0.length * 5) (.int .i64 p.y.k) (.int .i64 p.y.n) (.string p.y.s) (.slice p.a3 p.y.l.length p.n3) (.slice p.a4 p.y.m.length p.n4)
  have hvm := hM.vm.put (q := q) (p := q.with p) (f := Pr.vc) (v0 := .int .i64 p.y.k) (v1 := .int .i64 p.y.n) (v2 := .string p.y.s) (v3 := .slice p.a3 p.y.l.length p.n3) (v4 := .slice p.a4 p.y.m.length p.n4) rfl
  have hF : Below gm wq (put5 wq gM (acc0.length * 5) (.int .i64 p.y.k) (.int .i64 p.y.n) (.string p.y.s) (.slice p.a3 p.y.l.length p.n3) (.slice p.a4 p.y.m.length p.n4)) :=
    put5_below gm wq gM _ _ _ _ _ _ (by omega)
  generalize put5 wq gM (acc0.length * 5) (.int .i64 p.y.k) (.int .i64 p.y.n) (.string p.y.s) (.slice p.a3 p.y.l.length p.n3) (.slice p.a4 p.y.m.length p.n4) = X at *
  refine ⟨⟨hM.held.sz, hM.held.row.below hF (by omega), ⟨hF.os.trans hM.held.near.os, hF.tape.trans hM.held.near.tape, hF.output.trans hM.held.near.output, Nat.le_trans hM.held.near.size hF.size, fun i hi hne => (hF.block i (by omega)).trans (hM.held.near.block i hi hne)⟩, hM.held.els⟩, ?_, hM.res.below hF hr, ?_, ?_, ?_, by omega, hfold, by rw [hlen]; have := hM.len; omega, ?_⟩
  · rw [hlen]
    exact hM.box.kept (far gm (by omega))
  · rw [hlen]
    exact (hM.vl.keep (fun b hb _ _ => far b (fun e => hM.sep b hb (by rw [e]; rfl)))).congr (by simp [Pr.kc])
  · rw [hlen]
    exact hvm
  · rw [hlen]
    exact hM.sep
  · intro r hr
    rcases List.mem_append.1 hr with h | h
    · exact hM.els r (by simp [h])
    · simp at h
      subst h
      exact ⟨(hM.els q (by simp)).1, hp.2⟩

/-- A grown row reads as its values. -/
theorem VG.rdK {w : World} {base d : Nat} {A : Option Addr} {c : Nat} {acc : List Pr} (h : VG w base (.slice A acc.length c) Pr.kc acc) (hb : acc.length ≤ 100000) (hp : ∀ p ∈ acc, PrIn w 0 w.heap.size d p) : Rw w 0 w.heap.size d A c (acc.map (·.x)) := by
  rcases h with ⟨e, rfl⟩ | ⟨g, cap, e, h1, h2, h3, h4, h5⟩
  · injection e with e1 _ e3
    subst e1; subst e3
    exact rw_nil _ _ _ _
  · injection e with e1 _ e3
    subst e1; subst e3
    refine ⟨by simpa using h2, h3, by simp; omega, (fun e => by cases e), fun h0 => ⟨g, 0, rfl, Nat.zero_le _, h4.lt, fun j t hj => ?_⟩⟩
    rw [List.getElem?_map] at hj
    obtain ⟨q, hq, rfl⟩ := Option.map_eq_some_iff.1 hj
    have hc := fun c hc => h5 j q hq c hc
    refine ⟨q.a1, q.n1, q.a2, q.n2, ⟨?_, ?_, ?_, ?_, ?_⟩, (hp q (List.mem_of_getElem? hq)).1⟩
    all_goals rw [Nat.zero_add]
    · exact hc 0 (by omega)
    · exact hc 1 (by omega)
    · exact hc 2 (by omega)
    · exact hc 3 (by omega)
    · exact hc 4 (by omega)
theorem VG.rdV {w : World} {base d : Nat} {A : Option Addr} {c : Nat} {acc : List Pr} (h : VG w base (.slice A acc.length c) Pr.vc acc) (hb : acc.length ≤ 100000) (hp : ∀ p ∈ acc, PrIn w 0 w.heap.size d p) : Rw w 0 w.heap.size d A c (acc.map (·.y)) := by
  rcases h with ⟨e, rfl⟩ | ⟨g, cap, e, h1, h2, h3, h4, h5⟩
  · injection e with e1 _ e3
    subst e1; subst e3
    exact rw_nil _ _ _ _
  · injection e with e1 _ e3
    subst e1; subst e3
    refine ⟨by simpa using h2, h3, by simp; omega, (fun e => by cases e), fun h0 => ⟨g, 0, rfl, Nat.zero_le _, h4.lt, fun j t hj => ?_⟩⟩
    rw [List.getElem?_map] at hj
    obtain ⟨q, hq, rfl⟩ := Option.map_eq_some_iff.1 hj
    have hc := fun c hc => h5 j q hq c hc
    refine ⟨q.a3, q.n3, q.a4, q.n4, ⟨?_, ?_, ?_, ?_, ?_⟩, (hp q (List.mem_of_getElem? hq)).2⟩
    all_goals rw [Nat.zero_add]
    · exact hc 0 (by omega)
    · exact hc 1 (by omega)
    · exact hc 2 (by omega)
    · exact hc 3 (by omega)
    · exact hc 4 (by omega)
theorem same_regrown {w : World} {da db : Nat} {a b : V} {A : Option Addr} {c : Nat} {A' : Option Addr} {c' : Nat} {D : Option Addr} {e : Nat} {D' : Option Addr} {e' : Nat}
    (ra : Rd w 0 w.heap.size da a A c A' c') (rb : Rd w 0 w.heap.size db b D e D' e') (dd : Nat) (os : Array Obj) :
    Calls Try.prog 14 #[.agg #[.int .i64 a.k, .int .i64 a.n, .string a.s, .slice A a.l.length c, .slice A' a.m.length c'], .agg #[.int .i64 b.k, .int .i64 b.n, .string b.s, .slice D b.l.length e, .slice D' b.m.length e']] (grow (redrawn w dd) os) fun e w'' => e = .returned (.bool (cmpV 12 a b == 0)) ∧ ∃ p : Regrown, w'' = grow (redrawn w p.d) p.os :=
  Calls.regrown_of (same_any _ da db a b _ _ _ _ _ _ _ _ (ra.next (below_regrown w dd os)) (rb.next (below_regrown w dd os)))
end Go.Proofs.Ytdolejafihgpmaa
