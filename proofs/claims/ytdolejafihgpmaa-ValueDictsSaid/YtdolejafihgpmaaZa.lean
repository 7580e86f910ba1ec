/- Laying pairs in one by one comes to the same as gathering them in their order. Plain facts. -/
import Derived.Test.YtdolejafihgpmaaYa
import Derived.Test.YtdolejafihgpmaaVe
import Derived.ArgAppend
import Derived.Laws.AppendOwnNone
namespace Go.Proofs.Ytdolejafihgpmaa
open Go.RowKit Go.Sort

def cpP (p : V × V) : V × V := (copyV 12 p.1, copyV 12 p.2)
def ins : List (V × V) → V × V → List (V × V)
  | [], p => [p]
  | q :: r, p => if cmpV 12 q.1 p.1 < 0 then q :: ins r p else if cmpV 12 q.1 p.1 = 0 then (q.1, p.2) :: r else p :: q :: r
def insC : List (V × V) → V × V → List (V × V)
  | [], p => [cpP p]
  | q :: r, p => if cmpV 12 q.1 p.1 < 0 then q :: insC r p else if cmpV 12 q.1 p.1 = 0 then (q.1, copyV 12 p.2) :: r else cpP p :: q :: r
theorem cmp_cp (q p : V × V) : cmpV 12 (cpP q).1 p.1 = cmpV 12 q.1 p.1 := (ord_cmpV 12).same_left _ _ _ (cmp_copy 12 12 q.1 (Nat.le_refl _))
theorem insC_map : ∀ (L : List (V × V)) (p : V × V), insC (L.map cpP) p = (ins L p).map cpP
  | [], p => rfl
  | q :: r, p => by
    rw [List.map_cons, insC, ins, cmp_cp]
    split
    · rw [insC_map r p]; rfl
    · split <;> rfl
theorem insC_all (P : List (V × V)) : P.foldl insC [] = (P.foldl ins []).map cpP := by
  have : ∀ (P L : List (V × V)), P.foldl insC (L.map cpP) = (P.foldl ins L).map cpP := fun P => by
    induction P with
    | nil => intro L; rfl
    | cons p P ih => intro L; rw [List.foldl_cons, List.foldl_cons, insC_map]; exact ih _
  exact this P []
def Rs (L : List (V × V)) : Prop := L.Pairwise (fun a b => cmpV 12 a.1 b.1 < 0)
theorem ins_past : ∀ (pre L : List (V × V)) (p : V × V), (∀ a ∈ pre, cmpV 12 a.1 p.1 < 0) → ins (pre ++ L) p = pre ++ ins L p
  | [], _, _, _ => rfl
  | a :: pre, L, p, h => by
    rw [List.cons_append, ins, if_pos (h a (by simp)), ins_past pre L p (fun b hb => h b (List.mem_cons_of_mem _ hb))]; rfl
theorem insC_past : ∀ (pre L : List (V × V)) (p : V × V), (∀ a ∈ pre, cmpV 12 a.1 p.1 < 0) → insC (pre ++ L) p = pre ++ insC L p
  | [], _, _, _ => rfl
  | a :: pre, L, p, h => by
    rw [List.cons_append, insC, if_pos (h a (by simp)), insC_past pre L p (fun b hb => h b (List.mem_cons_of_mem _ hb))]; rfl
theorem ord_pair : Ord (fun a b : V × V => cmpV 12 a.1 b.1) := ⟨fun x y => (ord_cmpV 12).anti x.1 y.1, fun x y => (ord_cmpV 12).tri x.1 y.1, fun x y z => (ord_cmpV 12).trans x.1 y.1 z.1⟩
theorem ins_mem : ∀ (L : List (V × V)) (p : V × V), ∀ b ∈ ins L p, cmpV 12 b.1 p.1 = 0 ∨ b ∈ L
  | [], p, b, hb => by simp [ins] at hb; subst hb; exact .inl ((ord_cmpV 12).refl _)
  | q :: r, p, b, hb => by
    rw [ins] at hb
    split at hb
    · rcases List.mem_cons.1 hb with rfl | hb
      · exact .inr (by simp)
      · rcases ins_mem r p b hb with h | h
        · exact .inl h
        · exact .inr (List.mem_cons_of_mem _ h)
    · split at hb
      · rename_i h0
        rcases List.mem_cons.1 hb with rfl | hb
        · exact .inl h0
        · exact .inr (List.mem_cons_of_mem _ hb)
      · rcases List.mem_cons.1 hb with rfl | hb
        · exact .inl ((ord_cmpV 12).refl _)
        · exact .inr hb
theorem ins_rs : ∀ (L : List (V × V)) (p : V × V), Rs L → Rs (ins L p)
  | [], p, _ => List.pairwise_singleton _ _
  | q :: r, p, h => by
    have h' := List.pairwise_cons.1 h
    rw [ins]
    split
    · rename_i h0
      refine List.pairwise_cons.2 ⟨fun b hb => ?_, ins_rs r p h'.2⟩
      rcases ins_mem r p b hb with e | hm
      · rw [(ord_cmpV 12).same_right q.1 b.1 p.1 e]; exact h0
      · exact h'.1 b hm
    · split
      · exact List.pairwise_cons.2 ⟨fun b hb => h'.1 b hb, h'.2⟩
      · rename_i h0 h1
        have hp : cmpV 12 p.1 q.1 < 0 := by have := (ord_cmpV 12).anti p.1 q.1; omega
        refine List.pairwise_cons.2 ⟨fun b hb => ?_, h⟩
        rcases List.mem_cons.1 hb with rfl | hb
        · exact hp
        · exact ord_pair.lt_le (x := p) (y := q) (z := b) hp (by have := h'.1 b hb; omega)
def fd (L : List (V × V)) (z : V) : Option (V × V) := L.find? (keyIs z)
theorem fd_cons (q : V × V) (L : List (V × V)) (z : V) : fd (q :: L) z = if keyIs z q = true then some q else fd L z := by
  unfold fd
  by_cases h : keyIs z q = true
  · rw [if_pos h, List.find?_cons_of_pos h]
  · rw [if_neg h, List.find?_cons_of_neg h]
theorem fd_none {L : List (V × V)} {z : V} (h : ∀ a ∈ L, keyIs z a = false) : fd L z = none := by
  unfold fd
  rw [List.find?_eq_none]; intro a ha; rw [h a ha]; simp
theorem keyIs_same {z : V} {p q : V × V} (h : cmpV 12 q.1 p.1 = 0) : keyIs z q = keyIs z p := by
  unfold keyIs; rw [(ord_cmpV 12).same_left q.1 p.1 z h]
theorem keyIs_past {z : V} {p q : V × V} (h : cmpV 12 q.1 p.1 < 0) (hp : keyIs z p = true) : keyIs z q = false :=
  keyIs_lt h (by simpa [keyIs] using hp)
theorem keyIs_ahead {z : V} {p q : V × V} (h : cmpV 12 p.1 q.1 < 0) (hp : keyIs z p = true) : keyIs z q = false := by
  have h0 : cmpV 12 p.1 z = 0 := by simpa [keyIs] using hp
  have h1 : cmpV 12 q.1 z ≠ 0 := fun e => by
    have e1 := (ord_cmpV 12).anti q.1 z
    rw [(ord_cmpV 12).same_left p.1 z q.1 h0] at h; omega
  simp [keyIs, h1]
theorem fd_ins : ∀ (L : List (V × V)) (p : V × V) (z : V), Rs L → fd (ins L p) z = if keyIs z p = true then some (((fd L z).map (·.1)).getD p.1, p.2) else fd L z
  | [], p, z, _ => by rw [ins, fd_cons]; rfl
  | q :: r, p, z, h => by
    have h' := List.pairwise_cons.1 h
    rw [ins]
    split
    · rename_i h0
      rw [fd_cons, fd_ins r p z h'.2, fd_cons q r z]
      by_cases hp : keyIs z p = true
      · rw [keyIs_past h0 hp]; simp [hp]
      · simp [hp]
    · split
      · rename_i h0 h1
        rw [fd_cons, fd_cons q r z]
        have e : keyIs z (q.1, p.2) = keyIs z p := by rw [← keyIs_same (z := z) h1]; rfl
        rw [e, keyIs_same (z := z) h1]
        by_cases hp : keyIs z p = true
        · simp [hp]
        · simp [hp]
      · rename_i h0 h1
        have hpq : cmpV 12 p.1 q.1 < 0 := by have := (ord_cmpV 12).anti p.1 q.1; omega
        rw [fd_cons p (q :: r) z]
        by_cases hp : keyIs z p = true
        · rw [if_pos hp, if_pos hp, fd_none (L := q :: r) (fun a ha => ?_)]
          · rfl
          · rcases List.mem_cons.1 ha with rfl | ha
            · exact keyIs_ahead hpq hp
            · exact keyIs_ahead (ord_pair.lt_le (x := p) (y := q) (z := a) hpq (by have := h'.1 a ha; omega)) hp
        · rw [if_neg hp, if_neg hp]
def fl (F : List (V × V)) : Option (V × V) := match F with
  | [] => none
  | a :: r => some (a.1, (r.getLast?.getD a).2)
theorem fl_snoc (F : List (V × V)) (p : V × V) : fl (F ++ [p]) = some (((fl F).map (·.1)).getD p.1, p.2) := by
  cases F with
  | nil => rfl
  | cons a r => simp [fl]
theorem fd_all (P : List (V × V)) : Rs (P.foldl ins []) ∧ ∀ z, fd (P.foldl ins []) z = fl (P.filter (keyIs z)) := by
  induction P using snocInd with
  | h0 => exact ⟨List.Pairwise.nil, fun z => rfl⟩
  | h1 P p ih =>
    rw [List.foldl_append]
    refine ⟨ins_rs _ _ ih.1, fun z => ?_⟩
    show fd (ins (P.foldl ins []) p) z = _
    rw [fd_ins _ p z ih.1, List.filter_append, ih.2 z]
    by_cases hp : keyIs z p = true
    · rw [if_pos hp, List.filter_cons_of_pos hp, List.filter_nil, fl_snoc]
    · rw [if_neg hp, List.filter_cons_of_neg hp]; simp
theorem rs_unique : ∀ (P Q : List (V × V)), Rs P → Rs Q → (∀ z, fd P z = fd Q z) → P = Q
  | [], [], _, _, _ => rfl
  | [], q :: Q, _, _, h => by
    have := h q.1
    rw [fd_cons, if_pos (by simp [keyIs, (ord_cmpV 12).refl])] at this
    cases this
  | p :: P, [], _, _, h => by
    have := h p.1
    rw [fd_cons, if_pos (by simp [keyIs, (ord_cmpV 12).refl])] at this
    cases this
  | p :: P, q :: Q, hP, hQ, h => by
    have hp := List.pairwise_cons.1 hP
    have hq := List.pairwise_cons.1 hQ
    have self : ∀ r : V × V, keyIs r.1 r = true := fun r => by simp [keyIs, (ord_cmpV 12).refl]
    have h1 := h p.1
    have h2 := h q.1
    rw [fd_cons, if_pos (self p)] at h1
    rw [fd_cons q, if_pos (self q)] at h2
    have e : cmpV 12 p.1 q.1 = 0 := by
      rcases Int.lt_trichotomy (cmpV 12 p.1 q.1) 0 with hl | he | hg
      · have : fd (q :: Q) p.1 = none := fd_none (fun a ha => by
          rcases List.mem_cons.1 ha with rfl | ha
          · exact keyIs_ahead hl (self p)
          · exact keyIs_ahead (ord_pair.lt_le (x := p) (y := q) (z := a) hl (by have := hq.1 a ha; omega)) (self p))
        rw [this] at h1; cases h1
      · exact he
      · have hg : cmpV 12 q.1 p.1 < 0 := by have := (ord_cmpV 12).anti p.1 q.1; omega
        have : fd (p :: P) q.1 = none := fd_none (fun a ha => by
          rcases List.mem_cons.1 ha with rfl | ha
          · exact keyIs_ahead hg (self q)
          · exact keyIs_ahead (ord_pair.lt_le (x := q) (y := p) (z := a) hg (by have := hp.1 a ha; omega)) (self q))
        rw [this] at h2; cases h2
    have hk : keyIs p.1 q = true := by unfold keyIs; rw [(ord_cmpV 12).anti p.1 q.1, e]; rfl
    rw [fd_cons, if_pos hk] at h1
    injection h1 with h1
    subst h1
    rw [rs_unique P Q hp.2 hq.2 (fun z => by
      have hz := h z
      rw [fd_cons, fd_cons] at hz
      by_cases c : keyIs z p = true
      · rw [fd_none (fun a ha => keyIs_ahead (hp.1 a ha) c), fd_none (fun a ha => keyIs_ahead (hq.1 a ha) c)]
      · rw [if_neg c, if_neg c] at hz; exact hz)]

theorem gat_ins {ps acc : List Pr} {p : Pr} (h : Gth ps acc) (hs : ∀ q ∈ ps, cmpP q p ≤ 0) : (gat acc p).map Pr.kv = ins (acc.map Pr.kv) p.kv := by
  have ho := ord_cmpV 12
  rcases List.eq_nil_or_concat acc with rfl | ⟨pre, q, rfl⟩
  · simp [gat, ins]
  · have hne : ps ≠ [] := fun e => by have := h.none e; simp at this
    obtain ⟨pp, r, rfl⟩ := (List.eq_nil_or_concat ps).resolve_left hne
    obtain ⟨q', hq', hqr⟩ := h.last r (by simp)
    obtain rfl : q = q' := by simpa using hq'
    have hqp : cmpV 12 q.x p.x ≤ 0 := by rw [ho.same_left q.x r.x p.x hqr]; exact hs r (by simp)
    have hr := h.rises
    rw [List.concat_eq_append, List.pairwise_append] at hr
    have hpre : ∀ a ∈ pre.map Pr.kv, cmpV 12 a.1 p.kv.1 < 0 := fun a ha => by
      obtain ⟨b, hb, rfl⟩ := List.mem_map.1 ha
      exact ord_cmpP.lt_le (x := b) (y := q) (z := p) (hr.2.2 b hb q (by simp)) hqp
    rw [List.concat_eq_append, List.map_append, ins_past _ _ _ hpre]
    by_cases e : cmpV 12 q.x p.x = 0
    · simp [gat, e, ins, Pr.kv]
    · have hlt : cmpV 12 q.x p.x < 0 := by omega
      simp [gat, e, ins, Pr.kv, hlt]
theorem gat_all : ∀ ps : List Pr, Srt ps → (ps.foldl gat []).map Pr.kv = (ps.map Pr.kv).foldl ins [] := fun ps => by
  induction ps using snocInd with
  | h0 => intro _; rfl
  | h1 ps p ih =>
    intro hs
    have hs' := hs
    unfold Srt at hs'
    rw [List.pairwise_append] at hs'
    rw [List.foldl_append, List.map_append, List.foldl_append, ← ih hs'.1]
    exact gat_ins (gth_all ps hs'.1) (fun q hq => hs'.2.2 q hq p (by simp))
theorem dict_ins {ps ps' : List Pr} (hs : Srt ps') (hf : FEq ps ps') : dictOf ps' = mapV ((ps.map Pr.kv).foldl ins []) := by
  unfold dictOf
  rw [gat_all ps' hs]
  congr 1
  have h1 := fd_all (ps'.map Pr.kv)
  have h2 := fd_all (ps.map Pr.kv)
  refine rs_unique _ _ h1.1 h2.1 (fun z => ?_)
  rw [h1.2, h2.2, List.filter_map, List.filter_map]
  have e : (keyIs z ∘ Pr.kv) = cls z := rfl
  rw [e, hf z]
/-- A map of copies. -/
theorem rises_cp : ∀ L : List (V × V), risesV ((L.map cpP).map (·.1)) = risesV (L.map (·.1))
  | [] => rfl
  | [_] => rfl
  | p :: q :: L => by
    have := rises_cp (q :: L)
    simp only [List.map_cons] at this ⊢
    rw [risesV, risesV, this]
    have e : cmpV 12 (cpP p).1 (cpP q).1 = cmpV 12 p.1 q.1 := cmp_copies 12 12 _ _ (Nat.le_refl _)
    rw [e]
theorem ok_cp (L : List (V × V)) : okV 12 (mapV (L.map cpP)) = okV 12 (mapV L) := by
  have hf : fitsV (mapV (L.map cpP)) = fitsV (mapV L) := by simp [fitsV, mapV, V.k, V.n, V.s, V.l, V.m]
  have h1 : ((L.map cpP).map (·.1)).all (okV 11) = (L.map (·.1)).all (okV 11) := by
    rw [List.map_map, List.all_map, List.all_map]
    congr 1
    funext p
    exact ok_copy 11 12 p.1 (by omega)
  have h2 : ((L.map cpP).map (·.2)).all (okV 11) = (L.map (·.2)).all (okV 11) := by
    rw [List.map_map, List.all_map, List.all_map]
    congr 1
    funext p
    exact ok_copy 11 12 p.2 (by omega)
  show (fitsV (mapV (L.map cpP)) && ((L.map cpP).map (·.1)).all (okV 11) && ((L.map cpP).map (·.2)).all (okV 11) && ((7 : Int) != 7 || risesV ((L.map cpP).map (·.1)))) = (fitsV (mapV L) && (L.map (·.1)).all (okV 11) && (L.map (·.2)).all (okV 11) && ((7 : Int) != 7 || risesV (L.map (·.1))))
  rw [hf, h1, h2, rises_cp]
theorem cp_same {L : List (V × V)} (h : okV 12 (mapV L) = true) : L.map cpP = L := by
  have hk : ∀ p ∈ L, cpP p = p := fun p hp => by
    have h1 : okV 11 p.1 = true := ok_l h (show p.1 ∈ (mapV L).l from List.mem_map_of_mem hp)
    have h2 : okV 11 p.2 = true := ok_m h (show p.2 ∈ (mapV L).m from List.mem_map_of_mem hp)
    unfold cpP
    rw [ok_same_copy 11 12 _ h1 (by omega), ok_same_copy 11 12 _ h2 (by omega)]
  rw [List.map_congr_left hk, List.map_id']
/-- The document's map. -/
def refMap (l : List V) : V := mapV ((pairUp l).foldl insC [])
theorem refMap_dict {l : List V} {ps ps' : List Pr} (hk : ps.map Pr.kv = pairUp l) (hs : Srt ps') (hf : FEq ps ps') : okV 12 (refMap l) = okV 12 (dictOf ps') ∧ (okV 12 (dictOf ps') = true → refMap l = dictOf ps') := by
  unfold refMap
  rw [insC_all, dict_ins hs hf, hk]
  exact ⟨ok_cp _, fun h => by rw [cp_same h]⟩
/-- A pair is laid in where it belongs. -/
theorem insC_at (Z : List (V × V)) (x y : V) (n : Nat) (h : ∀ j q, j < n → Z[j]? = some q → cmpV 12 q.1 x < 0) :
    insC Z (x, y) = Z.take n ++ insC (Z.drop n) (x, y) := by
  have := insC_past (Z.take n) (Z.drop n) (x, y) (fun a ha => by
    obtain ⟨j, hj⟩ := List.mem_iff_getElem?.1 ha
    rw [List.getElem?_take] at hj
    split at hj
    · exact h j a (by assumption) hj
    · cases hj)
  rwa [List.take_append_drop] at this
theorem insC_head {Z : List (V × V)} {x y : V} {n : Nat} {q : V × V} (hq : Z[n]? = some q) (h : ¬ cmpV 12 q.1 x < 0) : insC (Z.drop n) (x, y) = if cmpV 12 q.1 x = 0 then (q.1, copyV 12 y) :: Z.drop (n + 1) else (copyV 12 x, copyV 12 y) :: Z.drop n := by
  obtain ⟨h1, e1⟩ := List.getElem?_eq_some_iff.1 hq
  rw [List.drop_eq_getElem_cons h1, e1, insC, if_neg h]
  rfl
end Go.Proofs.Ytdolejafihgpmaa
/- The memory of the document's Dict: a map in a box, two rows that grow, and values that no write of its own touches. -/
namespace Go.Proofs.Ytdolejafihgpmaa
open Go.RowKit Go.Sort

structure St (w0 wr : World) (r0 g4 base : Nat) (own : List Nat) (vals : List At) (AL : Option Addr) (cL : Nat) (AM : Option Addr) (cM : Nat) (Zl Zm : List At) (AK : Option Addr) (cK : Nat) (AV : Option Addr) (cV : Nat) (ks vs : List At) : Prop where
  bel : Below w0.heap.size w0 wr
  lo : ∀ b ∈ own, w0.heap.size ≤ b ∧ b < wr.heap.size
  st : ∀ q ∈ vals, Sturdy w0.heap.size (fun k => k ∈ own) wr 13 q
  rin : r0 ∈ own
  gin : g4 ∈ own
  ne : r0 ≠ g4
  rb : r0 < base
  gb : g4 < base
  b0 : base ≤ wr.heap.size
  res : Blk wr r0 1
  box : Cell wr g4 (.int .i64 7) (.int .i64 0) (.string ⟨#[]⟩) (.slice AL Zl.length cL) (.slice AM Zm.length cM)
  vl : VG wr 0 (.slice AL Zl.length cL) Pr.kc (Zl.map At.pr)
  vm : VG wr 0 (.slice AM Zm.length cM) Pr.kc (Zm.map At.pr)
  ol : ∀ b, Value.ownBlock (.slice AL Zl.length cL) = some b → b ∈ own ∧ b ≠ g4 ∧ b ≠ r0 ∧ b < base
  om : ∀ b, Value.ownBlock (.slice AM Zm.length cM) = some b → b ∈ own ∧ b ≠ g4 ∧ b ≠ r0 ∧ b < base
  sub : ∀ q ∈ Zl ++ Zm, q ∈ vals
  vk : VG wr base (.slice AK ks.length cK) Pr.kc (ks.map At.pr)
  vv : VG wr base (.slice AV vs.length cV) Pr.kc (vs.map At.pr)
  okk : ∀ b, Value.ownBlock (.slice AK ks.length cK) = some b → b ∈ own
  ovv : ∀ b, Value.ownBlock (.slice AV vs.length cV) = some b → b ∈ own
  sep : ∀ b, Value.ownBlock (.slice AK ks.length cK) = some b → Value.ownBlock (.slice AV vs.length cV) ≠ some b
  subk : ∀ q ∈ ks ++ vs, q ∈ vals
theorem St.pushK {w0 wr wx : World} {r0 g4 base : Nat} {own : List Nat} {vals : List At} {AL : Option Addr} {cL : Nat} {AM : Option Addr} {cM : Nat} {Zl Zm : List At} {AK : Option Addr} {cK : Nat} {AV : Option Addr} {cV : Nat} {ks vs qs : List At} {g c' : Nat}
    (h : St w0 wr r0 g4 base own vals AL cL AM cM Zl Zm AK cK AV cV ks vs) (hg : wr.grownBy wx (Value.ownBlock (.slice AK ks.length cK))) (hat : Value.ownBlock (.slice AK ks.length cK) = some g ∨ g = wr.heap.size) (hlt : g < wx.heap.size)
    (hv : VG wx base (.slice (some ⟨g, 0, none⟩) (ks ++ qs).length c') Pr.kc ((ks ++ qs).map At.pr)) (hq : ∀ q ∈ qs, q ∈ vals) : St w0 wx r0 g4 base (g :: own) vals AL cL AM cM Zl Zm (some ⟨g, 0, none⟩) c' AV cV (ks ++ qs) vs := by
  have hs := hg.size
  have rb := h.rb
  have gb := h.gb
  have b0 := h.b0
  have own1 : ∀ b, Value.ownBlock (.slice AK ks.length cK) = some b → b ∈ own ∧ base ≤ b := fun b e => ⟨h.okk b e, (h.vk.lt b e).1⟩
  have same : ∀ k, k < wr.heap.size → Value.ownBlock (.slice AK ks.length cK) ≠ some k → wx.heap[k]? = wr.heap[k]? := fun k h1 h2 => hg.block k h1 (fun e => h2 e.symm)
  have nb : ∀ k, k < base → Value.ownBlock (.slice AK ks.length cK) ≠ some k := fun k hk e => by have := (own1 k e).2; omega
  refine ⟨⟨hg.os.trans h.bel.os, hg.tape.trans h.bel.tape, hg.output.trans h.bel.output, Nat.le_trans h.bel.size hs, fun k hk => (same k (by have := h.bel.size; omega) (fun e => by have := (h.lo k (own1 k e).1).1; omega)).trans (h.bel.block k hk)⟩, fun b hb => ?_, fun q hq => ?_, List.mem_cons_of_mem _ h.rin, List.mem_cons_of_mem _ h.gin, h.ne, rb, gb, Nat.le_trans b0 hs, ?_, ?_, ?_, ?_, fun b e => ?_, fun b e => ?_, h.sub, hv, ?_, fun b e => ?_, fun b e => ?_, fun b e1 e2 => ?_, fun q hq1 => ?_⟩
  · rcases List.mem_cons.1 hb with rfl | hb
    · refine ⟨?_, hlt⟩
      rcases hat with e | e
      · exact (h.lo _ (own1 _ e).1).1
      · have := h.bel.size; omega
    · exact ⟨(h.lo b hb).1, Nat.lt_of_lt_of_le (h.lo b hb).2 hs⟩
  · refine (h.st q hq).move hs (fun k _ hk hn => same k hk (fun e => hn (own1 k e).1)) (fun k hk hm => ?_)
    rcases List.mem_cons.1 hm with rfl | hm
    · rcases hat with e | e
      · exact (own1 _ e).1
      · omega
    · exact hm
  · exact h.res.kept (same r0 (by omega) (nb r0 rb))
  · exact Cell.kept h.box (same g4 (by omega) (nb g4 gb))
  · exact h.vl.keep (fun b e _ hb => same b hb (nb b (h.ol b e).2.2.2))
  · exact h.vm.keep (fun b e _ hb => same b hb (nb b (h.om b e).2.2.2))
  · exact ⟨List.mem_cons_of_mem _ (h.ol b e).1, (h.ol b e).2⟩
  · exact ⟨List.mem_cons_of_mem _ (h.om b e).1, (h.om b e).2⟩
  · exact h.vv.keep (fun b e _ hb => same b hb (fun e' => h.sep b e' e))
  · injection e with e
    exact e ▸ List.mem_cons_self
  · exact List.mem_cons_of_mem _ (h.ovv b e)
  · injection e1 with e1
    have e1 : g = b := e1
    subst e1
    rcases hat with e | e
    · exact h.sep _ e e2
    · have := (h.vv.lt _ e2).2; omega
  · rw [List.append_assoc] at hq1
    rcases List.mem_append.1 hq1 with h1 | h1
    · exact h.subk q (List.mem_append_left _ h1)
    · rcases List.mem_append.1 h1 with h1 | h1
      · exact hq q h1
      · exact h.subk q (List.mem_append_right _ h1)
theorem St.pushV {w0 wr wx : World} {r0 g4 base : Nat} {own : List Nat} {vals : List At} {AL : Option Addr} {cL : Nat} {AM : Option Addr} {cM : Nat} {Zl Zm : List At} {AK : Option Addr} {cK : Nat} {AV : Option Addr} {cV : Nat} {ks vs qs : List At} {g c' : Nat}
    (h : St w0 wr r0 g4 base own vals AL cL AM cM Zl Zm AK cK AV cV ks vs) (hg : wr.grownBy wx (Value.ownBlock (.slice AV vs.length cV))) (hat : Value.ownBlock (.slice AV vs.length cV) = some g ∨ g = wr.heap.size) (hlt : g < wx.heap.size)
    (hv : VG wx base (.slice (some ⟨g, 0, none⟩) (vs ++ qs).length c') Pr.kc ((vs ++ qs).map At.pr)) (hq : ∀ q ∈ qs, q ∈ vals) : St w0 wx r0 g4 base (g :: own) vals AL cL AM cM Zl Zm AK cK (some ⟨g, 0, none⟩) c' ks (vs ++ qs) := by
  have hs := hg.size
  have rb := h.rb
  have gb := h.gb
  have b0 := h.b0
  have own1 : ∀ b, Value.ownBlock (.slice AV vs.length cV) = some b → b ∈ own ∧ base ≤ b := fun b e => ⟨h.ovv b e, (h.vv.lt b e).1⟩
  have same : ∀ k, k < wr.heap.size → Value.ownBlock (.slice AV vs.length cV) ≠ some k → wx.heap[k]? = wr.heap[k]? := fun k h1 h2 => hg.block k h1 (fun e => h2 e.symm)
  have nb : ∀ k, k < base → Value.ownBlock (.slice AV vs.length cV) ≠ some k := fun k hk e => by have := (own1 k e).2; omega
  refine ⟨⟨hg.os.trans h.bel.os, hg.tape.trans h.bel.tape, hg.output.trans h.bel.output, Nat.le_trans h.bel.size hs, fun k hk => (same k (by have := h.bel.size; omega) (fun e => by have := (h.lo k (own1 k e).1).1; omega)).trans (h.bel.block k hk)⟩, fun b hb => ?_, fun q hq => ?_, List.mem_cons_of_mem _ h.rin, List.mem_cons_of_mem _ h.gin, h.ne, rb, gb, Nat.le_trans b0 hs, ?_, ?_, ?_, ?_, fun b e => ?_, fun b e => ?_, h.sub, ?_, hv, fun b e => ?_, fun b e => ?_, fun b e1 e2 => ?_, fun q hq1 => ?_⟩
  · rcases List.mem_cons.1 hb with rfl | hb
    · refine ⟨?_, hlt⟩
      rcases hat with e | e
      · exact (h.lo _ (own1 _ e).1).1
      · have := h.bel.size; omega
    · exact ⟨(h.lo b hb).1, Nat.lt_of_lt_of_le (h.lo b hb).2 hs⟩
  · refine (h.st q hq).move hs (fun k _ hk hn => same k hk (fun e => hn (own1 k e).1)) (fun k hk hm => ?_)
    rcases List.mem_cons.1 hm with rfl | hm
    · rcases hat with e | e
      · exact (own1 _ e).1
      · omega
    · exact hm
  · exact h.res.kept (same r0 (by omega) (nb r0 rb))
  · exact Cell.kept h.box (same g4 (by omega) (nb g4 gb))
  · exact h.vl.keep (fun b e _ hb => same b hb (nb b (h.ol b e).2.2.2))
  · exact h.vm.keep (fun b e _ hb => same b hb (nb b (h.om b e).2.2.2))
  · exact ⟨List.mem_cons_of_mem _ (h.ol b e).1, (h.ol b e).2⟩
  · exact ⟨List.mem_cons_of_mem _ (h.om b e).1, (h.om b e).2⟩
  · exact h.vk.keep (fun b e _ hb => same b hb (fun e' => h.sep b e e'))
  · exact List.mem_cons_of_mem _ (h.okk b e)
  · injection e with e
    exact e ▸ List.mem_cons_self
  · injection e2 with e2
    have e2 : g = b := e2
    subst e2
    rcases hat with e | e
    · exact h.sep _ e1 e
    · have := (h.vk.lt _ e1).2; omega
  · rcases List.mem_append.1 hq1 with h1 | h1
    · exact h.subk q (List.mem_append_left _ h1)
    · rcases List.mem_append.1 h1 with h1 | h1
      · exact h.subk q (List.mem_append_right _ h1)
      · exact hq q h1
/-- A step that touches none of the rows. -/
theorem St.keep {w0 wr wx : World} {r0 g4 base : Nat} {own : List Nat} {vals : List At} {AL : Option Addr} {cL : Nat} {AM : Option Addr} {cM : Nat} {Zl Zm : List At} {AK : Option Addr} {cK : Nat} {AV : Option Addr} {cV : Nat} {ks vs : List At} {t : Option Nat} {own' : List Nat} (h : St w0 wr r0 g4 base own vals AL cL AM cM Zl Zm AK cK AV cV ks vs) (hg : wr.grownBy wx t) (ht : ∀ b, t = some b → b ∈ own ∧ b ≠ r0 ∧ b ≠ g4 ∧ Value.ownBlock (.slice AL Zl.length cL) ≠ some b ∧ Value.ownBlock (.slice AM Zm.length cM) ≠ some b ∧ Value.ownBlock (.slice AK ks.length cK) ≠ some b ∧ Value.ownBlock (.slice AV vs.length cV) ≠ some b)
    (how : ∀ b ∈ own', b ∈ own ∨ wr.heap.size ≤ b ∧ b < wx.heap.size) (hsub : ∀ b ∈ own, b ∈ own') : St w0 wx r0 g4 base own' vals AL cL AM cM Zl Zm AK cK AV cV ks vs := by
  have hs := hg.size
  have same : ∀ k, k < wr.heap.size → t ≠ some k → wx.heap[k]? = wr.heap[k]? := fun k h1 h2 => hg.block k h1 (fun e => h2 e.symm)
  have l4 := (h.lo g4 h.gin).2
  have lr := (h.lo r0 h.rin).2
  refine ⟨⟨hg.os.trans h.bel.os, hg.tape.trans h.bel.tape, hg.output.trans h.bel.output, Nat.le_trans h.bel.size hs, fun k hk => (same k (by have := h.bel.size; omega) (fun e => by have := (h.lo k (ht k e).1).1; omega)).trans (h.bel.block k hk)⟩, fun b hb => ?_, fun q hq => ?_, hsub _ h.rin, hsub _ h.gin, h.ne, h.rb, h.gb, Nat.le_trans h.b0 hs, ?_, ?_, ?_, ?_, fun b e => ⟨hsub _ (h.ol b e).1, (h.ol b e).2⟩, fun b e => ⟨hsub _ (h.om b e).1, (h.om b e).2⟩, h.sub, ?_, ?_, fun b e => hsub _ (h.okk b e), fun b e => hsub _ (h.ovv b e), h.sep, h.subk⟩
  · rcases how b hb with hb | ⟨h1, h2⟩
    · exact ⟨(h.lo b hb).1, Nat.lt_of_lt_of_le (h.lo b hb).2 hs⟩
    · exact ⟨Nat.le_trans h.bel.size h1, h2⟩
  · refine (h.st q hq).move hs (fun k _ hk hn => same k hk (fun e => hn (ht k e).1)) (fun k hk hm => ?_)
    rcases how k hm with hm | ⟨h1, _⟩
    · exact hm
    · omega
  · exact h.res.kept (same r0 lr (fun e => (ht _ e).2.1 rfl))
  · exact Cell.kept h.box (same g4 l4 (fun e => (ht _ e).2.2.1 rfl))
  · exact h.vl.keep (fun b e _ hb => same b hb (fun e' => (ht b e').2.2.2.1 e))
  · exact h.vm.keep (fun b e _ hb => same b hb (fun e' => (ht b e').2.2.2.2.1 e))
  · exact h.vk.keep (fun b e _ hb => same b hb (fun e' => (ht b e').2.2.2.2.2.1 e))
  · exact h.vv.keep (fun b e _ hb => same b hb (fun e' => (ht b e').2.2.2.2.2.2 e))
theorem grown_none {w w' : World} (h : Below w.heap.size w w') : w.grownBy w' none := ⟨h.os, h.tape, h.output, h.size, fun k hk _ => h.block k hk⟩
theorem grown_set (w : World) (b o : Nat) (u : Value) : w.grownBy (w.setCell ⟨b, o, none⟩ u) (some b) := ⟨rfl, rfl, rfl, by simp [World.setCell], fun k _ hk => Below.heap_setCell _ _ _ _ (fun e => hk (by rw [e]))⟩
theorem grown_put5 (w : World) (b o : Nat) (v0 v1 v2 v3 v4 : Value) : w.grownBy (put5 w b o v0 v1 v2 v3 v4) (some b) := ⟨(put5_below 0 w b o v0 v1 v2 v3 v4 (Nat.zero_le _)).os, (put5_below 0 w b o v0 v1 v2 v3 v4 (Nat.zero_le _)).tape, (put5_below 0 w b o v0 v1 v2 v3 v4 (Nat.zero_le _)).output, by rw [put5_size]; exact Nat.le_refl _, fun k _ hk => put5_far _ _ _ _ _ _ _ _ _ (fun e => hk (by rw [e]))⟩
theorem St.next {w0 wr wx : World} {r0 g4 base : Nat} {own : List Nat} {vals : List At} {AL : Option Addr} {cL : Nat} {AM : Option Addr} {cM : Nat} {Zl Zm : List At} {AK : Option Addr} {cK : Nat} {AV : Option Addr} {cV : Nat} {ks vs : List At} (h : St w0 wr r0 g4 base own vals AL cL AM cM Zl Zm AK cK AV cV ks vs) (hb : Below wr.heap.size wr wx) : St w0 wx r0 g4 base own vals AL cL AM cM Zl Zm AK cK AV cV ks vs :=
  h.keep (grown_none hb) (fun b e => by cases e) (fun b hb => .inl hb) (fun b hb => hb)
theorem St.fresh {w0 wr wx : World} {r0 g4 base : Nat} {own : List Nat} {vals : List At} {AL : Option Addr} {cL : Nat} {AM : Option Addr} {cM : Nat} {Zl Zm : List At} {AK : Option Addr} {cK : Nat} {AV : Option Addr} {cV : Nat} {ks vs : List At} {g : Nat} (h : St w0 wr r0 g4 base own vals AL cL AM cM Zl Zm AK cK AV cV ks vs) (hb : Below wr.heap.size wr wx) (h1 : wr.heap.size ≤ g) (h2 : g < wx.heap.size) : St w0 wx r0 g4 base (g :: own) vals AL cL AM cM Zl Zm AK cK AV cV ks vs :=
  h.keep (grown_none hb) (fun b e => by cases e) (fun b hb => by
    rcases List.mem_cons.1 hb with rfl | hb
    · exact .inr ⟨h1, h2⟩
    · exact .inl hb) (fun b hb => List.mem_cons_of_mem _ hb)
theorem St.val {w0 wr : World} {r0 g4 base : Nat} {own : List Nat} {vals : List At} {AL : Option Addr} {cL : Nat} {AM : Option Addr} {cM : Nat} {Zl Zm : List At} {AK : Option Addr} {cK : Nat} {AV : Option Addr} {cV : Nat} {ks vs : List At} {q : At} {lo1 : Nat} (h : St w0 wr r0 g4 base own vals AL cL AM cM Zl Zm AK cK AV cV ks vs) (hq : Rd wr lo1 wr.heap.size 13 q.t q.A q.c q.A' q.c') (hl : ∀ b ∈ own, b < lo1) (h0 : w0.heap.size ≤ lo1) : St w0 wr r0 g4 base own (q :: vals) AL cL AM cM Zl Zm AK cK AV cV ks vs :=
  ⟨h.bel, h.lo, fun z hz => by
    rcases List.mem_cons.1 hz with rfl | hz
    · exact Sturdy.of_rd hq h0 hl
    · exact h.st z hz, h.rin, h.gin, h.ne, h.rb, h.gb, h.b0, h.res, h.box, h.vl, h.vm, h.ol, h.om, fun z hz => List.mem_cons_of_mem _ (h.sub z hz), h.vk, h.vv, h.okk, h.ovv, h.sep, fun z hz => List.mem_cons_of_mem _ (h.subk z hz)⟩
theorem St.into {w0 wr : World} {r0 g4 base : Nat} {own : List Nat} {vals : List At} {AL : Option Addr} {cL : Nat} {AM : Option Addr} {cM : Nat} {Zl Zm : List At} {AK : Option Addr} {cK : Nat} {AV : Option Addr} {cV : Nat} {ks vs : List At} {q : At} (h : St w0 wr r0 g4 base own vals AL cL AM cM Zl Zm AK cK AV cV ks vs) (hq : q ∈ vals) : q.In wr 13 :=
  Rd.more (h.st q hq wr (Nat.le_refl _) (fun _ _ _ _ => rfl)) (Nat.zero_le _) (Nat.le_refl _) (Nat.le_refl _)
/-- An item of a row that grew. -/
theorem vg_item {w : World} {base : Nat} {A : Option Addr} {c n : Nat} {Z : List At} (h : VG w base (.slice A Z.length c) Pr.kc (Z.map At.pr)) (hn : n < Z.length) : ∃ g q, A = some ⟨g, 0, none⟩ ∧ base ≤ g ∧ g < w.heap.size ∧ Z[n]? = some q ∧ q ∈ Z ∧ cells5 w g (n * 5) q.t q.A q.c q.A' q.c' ∧ Z.length ≤ c := by
  rcases h with ⟨e, e2⟩ | ⟨g, cap, e, h1, h2, h3, h4, h5⟩
  · have : Z = [] := by simpa using e2
    subst this
    simp at hn
  · injection e with e1 _ e3
    subst e1 e3
    have hq : Z[n]? = some Z[n] := List.getElem?_eq_getElem hn
    have hc := fun c hc => h5 n Z[n].pr (by rw [List.getElem?_map, hq]; rfl) c hc
    exact ⟨g, Z[n], rfl, h1, h4.lt, hq, List.getElem_mem _, ⟨hc 0 (by omega), hc 1 (by omega), hc 2 (by omega), hc 3 (by omega), hc 4 (by omega)⟩, by simpa using h2⟩
theorem vg_at {w : World} {base g c n : Nat} {Z : List At} {q : At} (h : VG w base (.slice (some ⟨g, 0, none⟩) Z.length c) Pr.kc (Z.map At.pr)) (hq : Z[n]? = some q) : cells5 w g (n * 5) q.t q.A q.c q.A' q.c' := by
  obtain ⟨g', q', e, _, _, hq', _, hc, _⟩ := vg_item h (List.getElem?_eq_some_iff.1 hq).1
  injection e with e
  injection e with e
  subst e
  rw [hq] at hq'
  injection hq' with hq'
  subst hq'
  exact hc
theorem vg_cap {w : World} {base : Nat} {A : Option Addr} {c : Nat} {Z : List At} (h : VG w base (.slice A Z.length c) Pr.kc (Z.map At.pr)) : (A = none → c = 0 ∧ Z = []) ∧ (∀ ad, A = some ad → ∃ g, ad = ⟨g, 0, none⟩) ∧ Z.length ≤ c ∧ c ≤ maxLen := by
  rcases h with ⟨e, e2⟩ | ⟨g, cap, e, h1, h2, h3, h4, h5⟩
  · have : Z = [] := by simpa using e2
    subst this
    injection e with e1 _ e3
    subst e1 e3
    exact ⟨fun _ => ⟨rfl, rfl⟩, fun ad h => (by cases h), Nat.le_refl _, by unfold maxLen; omega⟩
  · injection e with e1 _ e3
    subst e1 e3
    exact ⟨fun h => (by cases h), fun ad h => ⟨g, by injection h with h; exact h.symm⟩, by simpa using h2, h3⟩
theorem flatA_len : ∀ qs : List At, (flatA qs).length = qs.length * 5
  | [] => rfl
  | q :: r => by
    have := flatA_len r
    unfold flatA at *
    rw [List.flatMap_cons, List.length_append, this, List.length_cons]; simp [At.cs]; omega
theorem at_of_cells {w : World} {b o : Nat} {q : At} (h : cells5 w b o q.t q.A q.c q.A' q.c') {m : Nat} {u : Value} (hu : q.cs[m]? = some u) : w.cell? ⟨b, o + m, none⟩ = some u := by
  have hm := (List.getElem?_eq_some_iff.1 hu).1
  change m < 5 at hm
  have : m = 0 ∨ m = 1 ∨ m = 2 ∨ m = 3 ∨ m = 4 := by omega
  rcases this with rfl | rfl | rfl | rfl | rfl <;> (injection hu with hu; subst hu)
  · exact h.c0
  · exact h.c1
  · exact h.c2
  · exact h.c3
  · exact h.c4
theorem vg_of_owns_all {w : World} {base g cap : Nat} {acc qs : List At} {xs : List Value} (h : w.ownsRow base 24 5 (.slice (some ⟨g, 0, none⟩) (acc.length + qs.length) cap) (acc.length + qs.length) (xs ++ flatA qs)) (hl : xs.length = acc.length * 5)
    (hx : ∀ i p, (acc.map At.pr)[i]? = some p → ∀ c, c < 5 → xs[i * 5 + c]? = some (p.kc[c]!)) : VG w base (.slice (some ⟨g, 0, none⟩) (acc ++ qs).length cap) Pr.kc ((acc ++ qs).map At.pr) := by
  have hcells := World.ownsRow.cells (g := g) h rfl
  rcases h.2 with ⟨e, e2⟩ | ⟨g', cap', cur, e, hb, hg, hnc, hcm, hcs, _⟩
  · cases e
  · injection e with e1 _ e3
    injection e1 with e1
    injection e1 with e1
    subst e1; subst e3
    have ad : ∀ j, (⟨g, 0, none⟩ : Addr).add j = ⟨g, j, none⟩ := fun j => by unfold Addr.add; split <;> simp_all
    refine .inr ⟨g, cap, by simp, hb, by simpa using hnc, hcm, ⟨cur, hg, hcs⟩, fun i q hi c hc => ?_⟩
    rw [← ad]
    apply hcells
    rw [List.map_append] at hi
    rcases Nat.lt_or_ge i acc.length with hlt | hge
    · rw [List.getElem?_append_left (by simpa using hlt)] at hi
      rw [List.getElem?_append_left (by omega)]
      exact hx i q hi c hc
    · rw [List.getElem?_append_right (by simpa using hge), List.length_map, List.getElem?_map] at hi
      obtain ⟨z, hz, rfl⟩ := Option.map_eq_some_iff.1 hi
      rw [List.getElem?_append_right (by omega), hl, show i * 5 + c - acc.length * 5 = (i - acc.length) * 5 + c by omega]
      rw [flatA_at qs _ z hz c hc]
      show z.pr.kc[c]? = some (z.pr.kc[c]!)
      have : c < z.pr.kc.length := by rw [kc_len]; exact hc
      rw [List.getElem?_eq_getElem this, getElem!_pos z.pr.kc c this]
theorem vg_base {w : World} {base base' : Nat} {v : Value} {f : Pr → List Value} {acc : List Pr} (h : VG w base v f acc) (hb : base' ≤ base) : VG w base' v f acc := by
  rcases h with h | ⟨g, cap, e, h1, h⟩
  · exact .inl h
  · exact .inr ⟨g, cap, e, Nat.le_trans hb h1, h⟩
/-- The rows that grew become the map's. -/
theorem St.turn {w0 wr : World} {r0 g4 base : Nat} {own : List Nat} {vals : List At} {AL : Option Addr} {cL : Nat} {AM : Option Addr} {cM : Nat} {Zl Zm : List At} {AK : Option Addr} {cK : Nat} {AV : Option Addr} {cV : Nat} {ks vs : List At} (h : St w0 wr r0 g4 base own vals AL cL AM cM Zl Zm AK cK AV cV ks vs) : St w0 ((wr.setCell ⟨g4, 3, none⟩ (.slice AK ks.length cK)).setCell ⟨g4, 4, none⟩ (.slice AV vs.length cV)) r0 g4 ((wr.setCell ⟨g4, 3, none⟩ (.slice AK ks.length cK)).setCell ⟨g4, 4, none⟩ (.slice AV vs.length cV)).heap.size own vals AK cK AV cV ks vs none 0 none 0 [] [] := by
  have hs : ((wr.setCell ⟨g4, 3, none⟩ (.slice AK ks.length cK)).setCell ⟨g4, 4, none⟩ (.slice AV vs.length cV)).heap.size = wr.heap.size := by simp [World.setCell]
  have far : ∀ k, k ≠ g4 → ((wr.setCell ⟨g4, 3, none⟩ (.slice AK ks.length cK)).setCell ⟨g4, 4, none⟩ (.slice AV vs.length cV)).heap[k]? = wr.heap[k]? := fun k hk => (Below.heap_setCell _ _ _ _ hk).trans (Below.heap_setCell _ _ _ _ hk)
  have l4 := (h.lo g4 h.gin)
  have lr := (h.lo r0 h.rin)
  have gb := h.gb
  have rb := h.rb
  have b0 := h.b0
  refine ⟨(h.bel.setCell (p := ⟨g4, 3, none⟩) l4.1 _).setCell (p := ⟨g4, 4, none⟩) l4.1 _, fun b hb => by rw [hs]; exact h.lo b hb, fun q hq => (h.st q hq).move (by rw [hs]; exact Nat.le_refl _) (fun k _ _ hn => far k (fun e => hn (by rw [e]; exact h.gin))) (fun _ _ hm => hm), h.rin, h.gin, h.ne, by rw [hs]; exact lr.2, by rw [hs]; exact l4.2, Nat.le_refl _, h.res.kept (far r0 h.ne), ?_, ?_, ?_, fun b e => ⟨h.okk b e, ?_, ?_, ?_⟩, fun b e => ⟨h.ovv b e, ?_, ?_, ?_⟩, h.subk, VG.nil _ _ _, VG.nil _ _ _, (fun b e => by cases e), (fun b e => by cases e), (fun b e => by cases e), (by simp)⟩
  · obtain ⟨cs, k1, k2⟩ := h.box.blk
    have c0 := h.box.c0
    have c1 := h.box.c1
    have c2 := h.box.c2
    rw [cell_of_row _ _ _ _ _ _ k1] at c0 c1 c2
    have h1 := set_heap wr g4 3 (.slice AK ks.length cK) cs k1
    have h2 := set_heap _ g4 4 (.slice AV vs.length cV) _ h1
    have hblk := (h.box.blk.set ⟨g4, 3, none⟩ (.slice AK ks.length cK) rfl).set ⟨g4, 4, none⟩ (.slice AV vs.length cV) rfl
    refine ⟨?_, ?_, ?_, ?_, ?_, hblk.frozen 0, hblk.frozen 1, hblk.frozen 2, hblk.frozen 3, hblk.frozen 4, hblk⟩
    all_goals (rw [cell_of_row _ _ _ _ _ _ h2]; simp [Array.getElem?_setIfInBounds, c0, c1, c2]; try omega)
  · exact vg_base (h.vk.keep (fun b e hb _ => far b (by omega))) (Nat.zero_le _)
  · exact vg_base (h.vv.keep (fun b e hb _ => far b (by omega))) (Nat.zero_le _)
  · have := (h.vk.lt b e).1; omega
  · have := (h.vk.lt b e).1; omega
  · rw [hs]; exact (h.vk.lt b e).2
  · have := (h.vv.lt b e).1; omega
  · have := (h.vv.lt b e).1; omega
  · rw [hs]; exact (h.vv.lt b e).2
theorem take_on {α : Type} {Z ks : List α} {n : Nat} {q : α} (h : ks = Z.take n) (hq : Z[n]? = some q) : ks ++ [q] = Z.take (n + 1) := by
  obtain ⟨h1, e1⟩ := List.getElem?_eq_some_iff.1 hq
  rw [h, List.take_succ_eq_append_getElem h1, e1]
/-- append of some values, at least one, to a row. -/
theorem append_some {ops : Array Oper} {rest : List Oper} {o : Oper} {a : Act} {W : World} {Q : Exit → Act → World → Prop} (hgd : o.guard = none) (s x : Operand)
    (ho : o.op = .call { callee := .builtin .append, args := #[s, x], argTypes := #[22, 22] }) (base : Nat) (A : Option Addr) (c : Nat) (acc qs : List At)
    (hs : a.eval s = .slice A acc.length c) (hV : VG W base (.slice A acc.length c) Pr.kc (acc.map At.pr)) (b off cx m : Nat) (hqm : qs.length = m) (hx : a.eval x = .slice (some ⟨b, off, none⟩) m cx)
    (hnews : ∀ (j : Nat) (q : At), qs[j]? = some q → cells5 W b (off + j * 5) q.t q.A q.c q.A' q.c') (hm : 0 < qs.length) (hlen : acc.length + qs.length ≤ 1000000) (hbase : base ≤ W.heap.size)
    (h : ∀ g cap w', VG w' base (.slice (some ⟨g, 0, none⟩) (acc ++ qs).length cap) Pr.kc ((acc ++ qs).map At.pr) → W.grownBy w' (Value.slice A acc.length c).ownBlock → ((Value.slice A acc.length c).ownBlock = some g ∨ g = W.heap.size) → g < w'.heap.size → wpList Try.prog ops Q rest (a.put o.dst (.slice (some ⟨g, 0, none⟩) (acc.length + m) cap)) w') :
    wpList Try.prog ops Q (o :: rest) a W := by
  subst hqm
  have hV' := hV
  rw [← List.length_map (f := At.pr)] at hV'
  obtain ⟨xs, hown, hl, hxs⟩ := hV'.owns
  obtain ⟨i0, hi, hz0, hz1, hz2⟩ := info_parts info24
  rw [List.length_map] at hown hl
  have hfl := flatA_len qs
  refine wpList_append_lies W hgd s x 22 ho base 24 i0 _ 5 80 Try.underlying22 hi hz0 hz1 hz2 rfl (by decide) _ acc.length xs hs hown ⟨b, off, none⟩ qs.length cx (flatA qs) hx hfl (fun j u hj => ?_) (fun u hu => ?_) hm (by unfold maxLen; omega) (by omega) hbase W.heap.size rfl ?_
  · have ad : (⟨b, off, none⟩ : Addr).add j = ⟨b, off + j, none⟩ := by unfold Addr.add; split <;> simp_all
    rw [ad]
    have hj1 := (List.getElem?_eq_some_iff.1 hj).1
    have hq : qs[j / 5]? = some qs[j / 5] := List.getElem?_eq_getElem (by omega)
    have hc := flatA_at qs (j / 5) _ hq (j % 5) (Nat.mod_lt _ (by omega))
    rw [show j / 5 * 5 + j % 5 = j by omega, hj] at hc
    have := at_of_cells (hnews (j / 5) _ hq) hc.symm
    rwa [show off + j / 5 * 5 + j % 5 = off + j by omega] at this
  · obtain ⟨q, _, hq⟩ := List.mem_flatMap.1 hu
    exact kc_one q.pr u hq
  · intro g cap w' hown' hgrow hat hlt
    exact h g cap w' (vg_of_owns_all hown' hl hxs) hgrow hat hlt
/-- append of none. -/
theorem append_empty {ops : Array Oper} {rest : List Oper} {o : Oper} {a : Act} {W : World} {Q : Exit → Act → World → Prop} (hgd : o.guard = none) (s x : Operand)
    (ho : o.op = .call { callee := .builtin .append, args := #[s, x], argTypes := #[22, 22] }) (base : Nat) (g c : Nat) (acc : List At)
    (hs : a.eval s = .slice (some ⟨g, 0, none⟩) acc.length c) (hV : VG W base (.slice (some ⟨g, 0, none⟩) acc.length c) Pr.kc (acc.map At.pr)) (X : Option Addr) (cx : Nat) (hx : a.eval x = .slice X 0 cx) (hX : X = none → cx = 0)
    (h : wpList Try.prog ops Q rest (a.put o.dst (.slice (some ⟨g, 0, none⟩) acc.length c)) W) : wpList Try.prog ops Q (o :: rest) a W := by
  obtain ⟨i0, hi, hz0, hz1, hz2⟩ := info_parts info24
  cases X with
  | none =>
    have := hX rfl
    subst this
    have hV' := hV
    rw [← List.length_map (f := At.pr)] at hV'
    obtain ⟨xs, hown, _, _⟩ := hV'.owns
    rw [List.length_map] at hown
    exact wpList_append_own_none hgd s x 22 ho base 24 i0 5 Try.underlying22 hi _ _ _ hs hown hx h
  | some ad =>
    have hrun := run_append_room_cells (P := Try.prog) (w := W) 22 o.type 24 i0 Try.underlying22 hi g 0 acc.length c ad 0 cx [] (by simp) (by simp) (by simp) (by have := (vg_cap hV).2.2.1; omega) (by simp) (by simp)
    refine wpList_plain hgd fun K hK => ?_
    unfold Oper.wp
    simp [execOp, ho, resolve, invoke, builtin, hs, hx, hrun, Result.andThen]
    exact hK _ _ h
end Go.Proofs.Ytdolejafihgpmaa
