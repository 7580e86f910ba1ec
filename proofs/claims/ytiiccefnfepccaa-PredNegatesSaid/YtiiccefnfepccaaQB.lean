/- Where a negated predicate lies: below a bound, or in blocks that are written no more. -/
import Derived.Test.YtiiccefnfepccaaPY
namespace Go.Proofs.Ytiiccefnfepccaa
set_option maxRecDepth 100000
open Go.RowKit Go.Sort

/-- A predicate, at most so deep: its values' rows lie below B, its predicates' rows below B or in S. -/
def PdS (w : World) (B : Nat) (S : Nat → Prop) : Nat → P → Option Addr → Nat → Option Addr → Nat → Prop
  | 0, _, _, _, _, _ => False
  | d + 1, t, A, c, A', c' => Knd t ∧ (∃ n, Rw w 0 B n A c t.v) ∧ (t.p.length ≤ c' ∧ c' ≤ maxLen ∧ t.p.length ≤ 2513169434843 ∧ (A' = none → c' = 0)) ∧
      (0 < t.p.length → ∃ b off, A' = some ⟨b, off, none⟩ ∧ b < w.heap.size ∧ (b < B ∨ S b) ∧ ∀ j u, t.p[j]? = some u → ∃ A1 c1 A2 c2, cells3 w b (off + j * 3) u A1 c1 A2 c2 ∧ PdS w B S d u A1 c1 A2 c2)
theorem PdS.pd {w : World} {B : Nat} {S : Nat → Prop} (hB : B ≤ w.heap.size) : ∀ {d : Nat} {t : P} {A : Option Addr} {c : Nat} {A' : Option Addr} {c' : Nat}, PdS w B S d t A c A' c' → Pd w 0 w.heap.size d t A c A' c'
  | 0, _, _, _, _, _, h => h.elim
  | d + 1, t, A, c, A', c', h => ⟨h.1, h.2.1.imp fun n hn => hn.more (Nat.le_refl _) hB (Nat.le_refl _), ⟨h.2.2.1.1, h.2.2.1.2.1, h.2.2.1.2.2.1, h.2.2.1.2.2.2, fun h0 => by
      obtain ⟨b, off, e, hb, _, hc⟩ := h.2.2.2 h0
      refine ⟨b, off, e, Nat.zero_le _, hb, fun j u hj => ?_⟩
      obtain ⟨A1, c1, A2, c2, q, r⟩ := hc j u hj
      exact ⟨A1, c1, A2, c2, q, PdS.pd hB r⟩⟩⟩
/-- What lies below the bound is such a one. -/
theorem PdS.of {w : World} {B : Nat} {S : Nat → Prop} (hB : B ≤ w.heap.size) : ∀ {d : Nat} {t : P} {A : Option Addr} {c : Nat} {A' : Option Addr} {c' : Nat}, Pd w 0 B d t A c A' c' → PdS w B S d t A c A' c'
  | 0, _, _, _, _, _, h => h.elim
  | d + 1, t, A, c, A', c', h => ⟨h.1, h.2.1, ⟨h.2.2.le, h.2.2.cap, h.2.2.big, h.2.2.nil⟩, fun h0 => by
      obtain ⟨b, off, e, _, hb, hc⟩ := h.2.2.at_ h0
      refine ⟨b, off, e, by omega, .inl hb, fun j u hj => ?_⟩
      obtain ⟨A1, c1, A2, c2, q, r⟩ := hc j u hj
      exact ⟨A1, c1, A2, c2, q, PdS.of hB r⟩⟩
/-- It stays in a world that has the same below the bound and in S. -/
theorem PdS.keep {w w' : World} {B : Nat} {S S' : Nat → Prop} (hs : w.heap.size ≤ w'.heap.size) (h0 : ∀ b, b < B → w'.heap[b]? = w.heap[b]?) (h1 : ∀ b, S b → b < w.heap.size → w'.heap[b]? = w.heap[b]?) (h2 : ∀ b, S b → S' b) :
    ∀ {d d' : Nat} {t : P} {A : Option Addr} {c : Nat} {A' : Option Addr} {c' : Nat}, d ≤ d' → PdS w B S d t A c A' c' → PdS w' B S' d' t A c A' c'
  | 0, _, _, _, _, _, _, _, h => h.elim
  | d + 1, 0, _, _, _, _, _, hd, _ => absurd hd (by omega)
  | d + 1, d' + 1, t, A, c, A', c', hd, h => ⟨h.1, h.2.1.imp fun n hn => hn.keep (fun k _ hk => h0 k hk), h.2.2.1, fun hp => by
      obtain ⟨b, off, e, hb, hS, hc⟩ := h.2.2.2 hp
      have hw : w'.heap[b]? = w.heap[b]? := by
        rcases hS with hS | hS
        · exact h0 b hS
        · exact h1 b hS hb
      refine ⟨b, off, e, by omega, hS.imp id (h2 b), fun j u hj => ?_⟩
      obtain ⟨A1, c1, A2, c2, q, r⟩ := hc j u hj
      have hq := fun o => World.cell?_of_block (w := w) (w' := w') (a := ⟨b, o, none⟩) hw
      exact ⟨A1, c1, A2, c2, ⟨(hq _).trans q.c0, (hq _).trans q.c1, (hq _).trans q.c2⟩, PdS.keep hs h0 h1 h2 (by omega) r⟩⟩
/-- A row of such ones that is the call's own, sealed. -/
theorem PdS.build {w : World} {B : Nat} {S S' : Nat → Prop} {d n : Nat} {k : Int} {v : List V} {A : Option Addr} {c : Nat} {base m c' : Nat} {A' : Option Addr} {l : List Pt} (hk : -9223372036854775808 ≤ k ∧ k ≤ 9223372036854775807)
    (hv : Rw w 0 B n A c v) (hO : POwn w base A' m c' l) (hbig : m ≤ 2513169434843) (hl : ∀ x ∈ l, PdS w B S d x.t x.A x.c x.A' x.c') (hS : ∀ b, S b → S' b) (hA : ∀ b o, A' = some ⟨b, o, none⟩ → S' b) :
    PdS w B S' (d + 1) (.mk k v (l.map (·.t))) A c A' c' := by
  have hlen := hO.len
  rcases hO.2 with ⟨e, e0⟩ | ⟨g, cap, cur, e, hb, hg, hnc, hcm, hcs, ht⟩
  · injection e with e1 e2 e3
    obtain rfl : l = [] := List.eq_nil_of_length_eq_zero (by omega)
    subst e1
    subst e3
    exact ⟨⟨hk.1, hk.2⟩, ⟨n, hv⟩, ⟨by simp [P.p], by unfold maxLen; omega, by simp [P.p], fun _ => rfl⟩, fun h => absurd h (by simp [P.p])⟩
  · injection e with e1 e2 e3
    subst e1 e3
    refine ⟨⟨hk.1, hk.2⟩, ⟨n, hv⟩, ⟨by show (l.map (·.t)).length ≤ _; rw [List.length_map]; omega, by omega, by show (l.map (·.t)).length ≤ _; rw [List.length_map]; omega, fun e => by cases e⟩, fun h0 => ⟨g, 0, rfl, (Array.getElem?_eq_some_iff.1 hg).1, .inr (hA g 0 rfl), fun j t hj => ?_⟩⟩
    have hj' : (l.map (·.t))[j]? = some t := hj
    rw [List.getElem?_map] at hj'
    obtain ⟨x, hx, rfl⟩ := Option.map_eq_some_iff.1 hj'
    have hc := fun (i : Nat) u (hu : (flatP l)[i]? = some u) => World.ownsRow.cells (g := g) hO rfl i u hu
    have ha : ∀ i, (⟨g, 0, none⟩ : Addr).add i = ⟨g, 0 + i, none⟩ := fun i => add_n _ _ _
    simp only [ha] at hc
    have f := flatP_at l j x hx
    have hpd := hl x (List.mem_of_getElem? hx)
    have hlt : w.heap.size ≤ w.heap.size := Nat.le_refl _
    exact ⟨x.A, x.c, x.A', x.c', ⟨hc _ _ (f 0 (by omega)), by have := hc _ _ (f 1 (by omega)); rwa [← Nat.add_assoc] at this, by have := hc _ _ (f 2 (by omega)); rwa [← Nat.add_assoc] at this⟩, PdS.keep hlt (fun _ _ => rfl) (fun _ _ _ => rfl) hS (Nat.le_refl _) hpd⟩
/-- What the document's negate hands on. -/
def NegPost (w : World) (B d : Nat) (t : P) (e : Ending) (w' : World) : Prop :=
  ∃ (q : Pt) (S : Nat → Prop), e = .returned q.val ∧ q.t = t ∧ PdS w' B S d q.t q.A q.c q.A' q.c' ∧ (∀ b, S b → w.heap.size ≤ b ∧ b < w'.heap.size) ∧ Below w.heap.size w w'
end Go.Proofs.Ytiiccefnfepccaa
