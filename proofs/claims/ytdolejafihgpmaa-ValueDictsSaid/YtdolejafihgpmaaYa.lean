/- A map of keys and values: of each key the value that came last, each key once, rising. Plain facts, and value.Dict said with them. -/
import Derived.Test.YtdolejafihgpmaaT
import Derived.Test.YtdolejafihgpmaaXf
import Derived.Test.YtdolejafihgpmaaL
import Derived.Test.YtdolejafihgpmaaVc
import Derived.Test.YtdolejafihgpmaaVd
import Derived.Test.YtdolejafihgpmaaOrd
namespace Go.Proofs.Ytdolejafihgpmaa
open Go.RowKit Go.Sort

theorem snocInd {α : Type} {C : List α → Prop} (h0 : C []) (h1 : ∀ l a, C l → C (l ++ [a])) (l : List α) : C l := by
  have : ∀ m : List α, C m.reverse := fun m => by
    induction m with
    | nil => exact h0
    | cons a m ih => rw [List.reverse_cons]; exact h1 _ _ ih
  have := this l.reverse
  rwa [List.reverse_reverse] at this
def keyIs (x : V) (p : V × V) : Bool := cmpV 12 p.1 x == 0
/-- The value that came last for a key. -/
def lastOf (P : List (V × V)) (x : V) : Option V := (P.filter (keyIs x)).getLast?.map (·.2)
def look (P : List (V × V)) (x : V) : Option V := (P.find? (keyIs x)).map (·.2)
theorem lastOf_snoc (P : List (V × V)) (p : V × V) (x : V) : lastOf (P ++ [p]) x = if keyIs x p = true then some p.2 else lastOf P x := by
  unfold lastOf
  rw [List.filter_append]
  by_cases h : keyIs x p = true
  · rw [List.filter_cons_of_pos h, if_pos h]; simp
  · rw [List.filter_cons_of_neg h, if_neg h]; simp
theorem lastOf_some (P : List (V × V)) (x : V) : (lastOf P x).isSome = P.any (keyIs x) := by
  unfold lastOf
  rw [Option.isSome_map]
  cases h : P.filter (keyIs x) with
  | nil =>
    have : P.any (keyIs x) = false := by
      rw [List.any_eq_false]; intro p hp hk
      have : p ∈ P.filter (keyIs x) := List.mem_filter.2 ⟨hp, hk⟩
      rw [h] at this; cases this
    rw [this]; rfl
  | cons q r =>
    have hq : q ∈ P.filter (keyIs x) := by rw [h]; simp
    rw [show P.any (keyIs x) = true from List.any_eq_true.2 ⟨q, (List.mem_filter.1 hq).1, (List.mem_filter.1 hq).2⟩]
    simp [List.getLast?_cons]
/-- Scanning on from one that has the key. -/
theorem lastOf_from (P Q : List (V × V)) (x _y : V) (p : V × V) (hp : keyIs x p = true) : lastOf (P ++ p :: Q) x = some (Q.foldl (fun acc q => if keyIs x q = true then q.2 else acc) p.2) := by
  induction Q using snocInd with
  | h0 => rw [lastOf_snoc, if_pos hp]; rfl
  | h1 Q q ih =>
    rw [show P ++ p :: (Q ++ [q]) = (P ++ p :: Q) ++ [q] by simp, lastOf_snoc, ih, List.foldl_append]
    simp only [List.foldl_cons, List.foldl_nil]
    split <;> rfl
theorem look_append (P Q : List (V × V)) (x : V) : look (P ++ Q) x = (look P x).or (look Q x) := by
  unfold look
  rw [List.find?_append]
  cases P.find? (keyIs x) <;> simp
theorem look_none {P : List (V × V)} {x : V} (h : ∀ p ∈ P, keyIs x p = false) : look P x = none := by
  unfold look
  rw [Option.map_eq_none_iff, List.find?_eq_none]
  intro p hp; rw [h p hp]; simp
theorem look_one (p : V × V) (x : V) : look [p] x = if keyIs x p = true then some p.2 else none := by
  unfold look
  by_cases h : keyIs x p = true
  · rw [if_pos h, List.find?_cons_of_pos h]; rfl
  · rw [if_neg h, List.find?_cons_of_neg h]; rfl

/-- What gathering sorted pairs leads to. -/
structure Gth (ps acc : List Pr) : Prop where
  rises : acc.Pairwise (fun a b => cmpV 12 a.x b.x < 0)
  last : ∀ p, ps.getLast? = some p → ∃ q, acc.getLast? = some q ∧ cmpV 12 q.x p.x = 0
  none : ps = [] → acc = []
  look : ∀ x, look (acc.map Pr.kv) x = lastOf (ps.map Pr.kv) x
theorem cmp_lt_of {a b c : V} (h1 : cmpV 12 a b < 0) (h2 : cmpV 12 b c = 0) : cmpV 12 a c < 0 := by
  rw [← (ord_cmpV 12).same_right a b c h2]; exact h1
theorem keyIs_lt {x : V} {p : V × V} {q : V} (h : cmpV 12 p.1 q < 0) (hq : cmpV 12 q x = 0) : keyIs x p = false := by
  have := cmp_lt_of h hq
  unfold keyIs; rw [beq_eq_false_iff_ne]; omega
theorem gth_step {ps acc : List Pr} {p : Pr} (h : Gth ps acc) (hs : ∀ q ∈ ps, cmpP q p ≤ 0) : Gth (ps ++ [p]) (gat acc p) := by
  have ho := ord_cmpV 12
  rcases List.eq_nil_or_concat acc with rfl | ⟨pre, q, rfl⟩
  · have hp : ps = [] := by
      rcases List.eq_nil_or_concat ps with e | ⟨a, b, rfl⟩
      · exact e
      · obtain ⟨q, hq, _⟩ := h.last b (by simp)
        simp at hq
    subst hp
    refine ⟨by simp [gat], fun r hr => ⟨p, by simp [gat], ?_⟩, fun e => by simp at e, fun x => ?_⟩
    · simp at hr; subst hr; exact ho.refl _
    · show look [p.kv] x = lastOf ([] ++ [p.kv]) x
      rw [look_one, lastOf_snoc]; rfl
  · have hne : ps ≠ [] := fun e => by have := h.none e; simp at this
    obtain ⟨pp, r, rfl⟩ := (List.eq_nil_or_concat ps).resolve_left hne
    obtain ⟨q', hq', hqr⟩ := h.last r (by simp)
    obtain rfl : q = q' := by simpa using hq'
    have hrp : cmpV 12 r.x p.x ≤ 0 := hs r (by simp)
    have hqp : cmpV 12 q.x p.x ≤ 0 := by rw [ho.same_left q.x r.x p.x hqr]; exact hrp
    have hpre : ∀ a ∈ pre, cmpV 12 a.x q.x < 0 := by
      have := h.rises
      rw [List.concat_eq_append, List.pairwise_append] at this
      exact fun a ha => this.2.2 a ha q (by simp)
    have hprep : pre.Pairwise (fun a b => cmpV 12 a.x b.x < 0) := by
      have := h.rises
      rw [List.concat_eq_append, List.pairwise_append] at this
      exact this.1
    have hlk := h.look
    by_cases e : cmpV 12 q.x p.x = 0
    · have hg : gat (pre.concat q) p = pre ++ [{ q with y := p.y, a3 := p.a3, n3 := p.n3, a4 := p.a4, n4 := p.n4 }] := by simp [gat, e]
      rw [hg]
      refine ⟨?_, fun z hz => ⟨{ q with y := p.y, a3 := p.a3, n3 := p.n3, a4 := p.a4, n4 := p.n4 }, by simp, ?_⟩, fun e => by simp at e, fun x => ?_⟩
      · rw [List.pairwise_append]
        exact ⟨hprep, by simp, fun a ha b hb => by simp at hb; subst hb; exact hpre a ha⟩
      · simp at hz; subst hz; exact e
      · rw [List.map_append, List.map_append, look_append]
        show (look (pre.map Pr.kv) x).or (look [(q.x, p.y)] x) = lastOf (_ ++ [p.kv]) x
        rw [lastOf_snoc, look_one]
        have hk : keyIs x (q.x, p.y) = keyIs x p.kv := by unfold keyIs Pr.kv; rw [ho.same_left q.x p.x x e]
        rw [hk]
        by_cases hx : keyIs x p.kv = true
        · rw [if_pos hx, if_pos hx, look_none (fun a ha => ?_)]
          · rfl
          · obtain ⟨b, hb, rfl⟩ := List.mem_map.1 ha
            have h0 : cmpV 12 p.x x = 0 := by simpa [keyIs, Pr.kv] using hx
            exact keyIs_lt (hpre b hb) (by rw [ho.same_left q.x p.x x e]; exact h0)
        · rw [if_neg hx, if_neg hx]
          have := hlk x
          rw [List.concat_eq_append, List.map_append, look_append] at this
          have h1 : look [q.kv] x = none := by
            rw [look_one, if_neg]
            intro h2; apply hx
            rw [← hk]; exact h2
          rw [show List.map Pr.kv [q] = [q.kv] from rfl, h1] at this
          simpa using this
    · have hlt : cmpV 12 q.x p.x < 0 := by omega
      have hg : gat (pre.concat q) p = (pre.concat q) ++ [p] := by simp [gat, e]
      rw [hg]
      refine ⟨?_, fun z hz => ⟨p, by simp, ?_⟩, fun e => by simp at e, fun x => ?_⟩
      · rw [List.pairwise_append]
        refine ⟨h.rises, by simp, fun a ha b hb => ?_⟩
        simp at hb ha; subst hb
        rcases ha with ha | rfl
        · exact ord_cmpP.lt_le (x := a) (y := q) (z := b) (hpre a ha) (by unfold cmpP; omega)
        · exact hlt
      · simp at hz; subst hz; exact ho.refl _
      · rw [List.map_append, List.map_append, look_append]
        show (look ((pre.concat q).map Pr.kv) x).or (look [p.kv] x) = lastOf (_ ++ [p.kv]) x
        rw [lastOf_snoc, look_one, hlk x]
        by_cases hx : keyIs x p.kv = true
        · rw [if_pos hx, if_pos hx, ← hlk x, look_none (fun a ha => ?_)]
          · rfl
          · obtain ⟨b, hb, rfl⟩ := List.mem_map.1 ha
            have h0 : cmpV 12 p.x x = 0 := by simpa [keyIs, Pr.kv] using hx
            refine keyIs_lt (q := p.x) ?_ h0
            simp at hb
            rcases hb with hb | rfl
            · exact ord_cmpP.lt_le (x := b) (y := q) (z := p) (hpre b hb) (by unfold cmpP; omega)
            · exact hlt
        · rw [if_neg hx, if_neg hx]; simp
theorem gth_all : ∀ ps : List Pr, Srt ps → Gth ps (ps.foldl gat []) := fun ps => by
  induction ps using snocInd with
  | h0 => intro _; exact ⟨by simp, fun p h => by simp at h, fun _ => rfl, fun x => rfl⟩
  | h1 ps p ih =>
    intro hs
    unfold Srt at hs
    rw [List.pairwise_append] at hs
    rw [List.foldl_append]
    exact gth_step (ih hs.1) (fun q hq => hs.2.2 q hq p (by simp))
theorem lastOf_feq {ps ps' : List Pr} (h : FEq ps ps') (x : V) : lastOf (ps'.map Pr.kv) x = lastOf (ps.map Pr.kv) x := by
  unfold lastOf
  rw [List.filter_map, List.filter_map]
  have e : (keyIs x ∘ Pr.kv) = cls x := rfl
  rw [e, h x]
theorem idx_look (x : V) : ∀ (P : List (V × V)) (k : Nat), (let i := idxP (fun q => cmpV 12 q x == 0) (P.map (·.1)) k; if i < 0 then none else (P.map (·.2))[i.toNat - k]?) = look P x
  | [], k => by simp [idxP, look]
  | p :: P, k => by
    by_cases h : keyIs x p = true
    · have h' : (cmpV 12 p.1 x == 0) = true := h
      simp only [List.map_cons, idxP, h', if_true]
      rw [if_neg (by omega)]
      simp [look, h]
    · have h' : (cmpV 12 p.1 x == 0) = false := by simpa [keyIs] using h
      have ih := idx_look x P (k + 1)
      have hr := idxP_range (fun q => cmpV 12 q x == 0) (P.map (·.1)) (k + 1)
      simp only [List.map_cons, idxP, h'] at ih ⊢
      simp only [Bool.false_eq_true, if_false]
      have hl : look (p :: P) x = look P x := by unfold look; rw [List.find?_cons_of_neg h]
      rw [hl, ← ih]
      rcases hr with ⟨hr, _⟩ | ⟨hr, _⟩
      · rw [hr]; simp
      · rw [if_neg (by omega), if_neg (by omega)]
        obtain ⟨n, hn⟩ : ∃ n : Nat, (idxP (fun q => cmpV 12 q x == 0) (P.map (·.1)) (k + 1)).toNat - k = n + 1 ∧ (idxP (fun q => cmpV 12 q x == 0) (P.map (·.1)) (k + 1)).toNat - (k + 1) = n := ⟨_, by omega, rfl⟩
        rw [hn.1, hn.2]; simp
theorem find_look (P : List (V × V)) (x : V) : findV (mapV P) x = (look P x).map (copyV 12) := by
  have h := idx_look x P 0
  unfold findV
  rw [if_pos (show (mapV P).k = 7 from rfl)]
  simp only [Nat.sub_zero] at h
  rw [← h]
  show (if idxP (fun k => cmpV 12 k x == 0) (P.map (·.1)) 0 < 0 then none else Option.map (copyV 12) (P.map (·.2))[(idxP (fun k => cmpV 12 k x == 0) (P.map (·.1)) 0).toNat]?) = _
  split <;> rfl

/-- A map of a row's keys and values, as it has to be. -/
structure KeysOk (l : List V) (M : V) : Prop where
  ok : okV 12 M = true
  find : ∀ x, findV M x = (lastOf (pairUp l) x).map (copyV 12)
  rises : ∀ j : Nat, ∀ a b, M.l[j]? = some a → M.l[j + 1]? = some b → cmpV 12 a b < 0
  len : M.l.length = M.m.length
theorem keys_ok {l : List V} {ps ps' : List Pr} (hk : ps.map Pr.kv = pairUp l) (hs : Srt ps') (hf : FEq ps ps') (ho : okV 12 (dictOf ps') = true) : KeysOk l (dictOf ps') := by
  have G := gth_all ps' hs
  refine ⟨ho, fun x => ?_, fun j a b ha hb => ?_, by simp [dictOf, mapV, V.l, V.m]⟩
  · unfold dictOf
    rw [find_look, G.look x, lastOf_feq hf x, hk]
  · have hr := G.rises
    generalize hacc : ps'.foldl gat [] = acc at hr
    unfold dictOf at ha hb
    rw [hacc] at ha hb
    change ((acc.map Pr.kv).map (·.1))[j]? = some a at ha
    change ((acc.map Pr.kv).map (·.1))[j + 1]? = some b at hb
    rw [List.map_map, List.getElem?_map] at ha hb
    obtain ⟨p, hp, rfl⟩ := Option.map_eq_some_iff.1 ha
    obtain ⟨q, hq, rfl⟩ := Option.map_eq_some_iff.1 hb
    obtain ⟨h1, e1⟩ := List.getElem?_eq_some_iff.1 hp
    obtain ⟨h2, e2⟩ := List.getElem?_eq_some_iff.1 hq
    subst e1 e2
    exact (List.pairwise_iff_getElem.1 hr) j (j + 1) h1 h2 (by omega)
def DictAt (w : World) (l : List V) (e : Ending) (w' : World) : Prop :=
  ∃ (q : At) (err : Int), e = .returned (.tuple #[q.v, .int .i64 err]) ∧ q.In w' 14 ∧ Below w.heap.size w w' ∧ (err = 2 ∧ q.t = zeroV ∨ err = 0 ∧ l.length % 2 = 0 ∧ KeysOk l q.t)
theorem dict_at (w : World) (d : Nat) (A : Option Addr) (c : Nat) (l : List V) (h : Rw w 0 w.heap.size d A c l) (hn : l.length ≤ 200000) : Calls Try.prog 22 #[.slice A l.length c] w (DictAt w l) := by
  by_cases he : l.length % 2 = 0
  · refine (dict_even w d A c l h he (stable_any _ (by omega)) hn).mono ?_
    rintro e w' ⟨ps, ps', hk, hs, hf, B, b, B', b', rfl, rd, hb⟩
    refine ⟨⟨okCopy (dictOf ps'), B, b, B', b'⟩, _, rfl, Rd.more rd (Nat.zero_le _) (Nat.le_refl _) (by omega), hb, ?_⟩
    cases ho : okV 12 (dictOf ps') with
    | false => exact .inl ⟨rfl, by show okCopy _ = _; unfold okCopy; rw [ho]; rfl⟩
    | true =>
      refine .inr ⟨rfl, he, ?_⟩
      show KeysOk l (okCopy (dictOf ps'))
      have e1 : okCopy (dictOf ps') = dictOf ps' := by unfold okCopy; rw [if_pos ho]; exact ok_same_copy 12 12 _ ho (Nat.le_refl _)
      rw [e1]
      exact keys_ok hk hs hf ho
  · refine (dict_odd w A c l h.big (by omega)).mono ?_
    rintro e w' ⟨B, b, B', b', rfl, rd, hb⟩
    exact ⟨⟨zeroV, B, b, B', b'⟩, _, rfl, Rd.more rd (Nat.zero_le _) (Nat.le_refl _) (by omega), hb, .inl ⟨rfl, rfl⟩⟩
end Go.Proofs.Ytdolejafihgpmaa
/- What may be does not lie in a block of zeros; pairs in a row, one by one; what a map's key leads to. -/
namespace Go.Proofs.Ytdolejafihgpmaa
open Go.RowKit

theorem ok_kind {r : Nat} {t : V} (h : okV r t = true) : t.k ≠ 0 := by
  cases r with
  | zero => simp [okV] at h
  | succ r =>
    simp only [okV, Bool.and_eq_true] at h
    intro e
    have := h.1.1.1
    simp [fitsV, e] at this
theorem ok_l {r : Nat} {t x : V} (h : okV (r + 1) t = true) (hx : x ∈ t.l) : okV r x = true := by
  simp only [okV, Bool.and_eq_true] at h
  exact List.all_eq_true.1 h.1.1.2 _ hx
theorem ok_m {r : Nat} {t x : V} (h : okV (r + 1) t = true) (hx : x ∈ t.m) : okV r x = true := by
  simp only [okV, Bool.and_eq_true] at h
  exact List.all_eq_true.1 h.1.2 _ hx
theorem row_off {w : World} {g B : Nat} {u1 u2 u3 u4 : Value} (hz : Cell w g (.int .i64 0) u1 u2 u3 u4) (v0 v1 v2 v3 v4 : Value) {R R' : V → Option Addr → Nat → Option Addr → Nat → Prop} {A : Option Addr} {c : Nat} {l : List V}
    (hk : ∀ x ∈ l, x.k ≠ 0) (hR : ∀ x ∈ l, ∀ A1 c1 A2 c2, R x A1 c1 A2 c2 → R' x A1 c1 A2 c2) (h : RdRow w 0 B R A c l) : RdRow (put5 w g 0 v0 v1 v2 v3 v4) 0 B R' A c l := by
  refine ⟨h.le, h.cap, h.big, h.nil, fun h0 => ?_⟩
  obtain ⟨b, off, e, h1, h2, hc⟩ := h.at_ h0
  have hb : b ≠ g := fun e => by
    subst e
    obtain ⟨A1, c1, A2, c2, q, _⟩ := hc 0 l[0] (by rw [List.getElem?_eq_getElem h0])
    obtain ⟨cs, e1, e2⟩ := hz.blk
    have q4 := q.c4
    rw [cell_of_row w b _ cs 24 (0, 0) e1] at q4
    have := (Array.getElem?_eq_some_iff.1 q4).1
    obtain rfl : off = 0 := by omega
    have q0 := q.c0
    rw [show 0 + 0 * 5 = 0 from rfl, hz.c0] at q0
    injection q0 with q0
    injection q0 with _ q0
    exact hk l[0] (List.getElem_mem _) q0.symm
  have hk' := fun o => World.cell?_of_block (w := w) (w' := put5 w g 0 v0 v1 v2 v3 v4) (a := ⟨b, o, none⟩) (put5_far w g 0 v0 v1 v2 v3 v4 b hb)
  refine ⟨b, off, e, h1, h2, fun j t hj => ?_⟩
  obtain ⟨A1, c1, A2, c2, q, r⟩ := hc j t hj
  exact ⟨A1, c1, A2, c2, ⟨(hk' _).trans q.c0, (hk' _).trans q.c1, (hk' _).trans q.c2, (hk' _).trans q.c3, (hk' _).trans q.c4⟩, hR t (List.mem_of_getElem? hj) _ _ _ _ r⟩
/-- A value that may be does not lie in a block of zeros: it stays as that one is written over. -/
theorem rd_off {w : World} {g B : Nat} {u1 u2 u3 u4 : Value} (hz : Cell w g (.int .i64 0) u1 u2 u3 u4) (v0 v1 v2 v3 v4 : Value) : ∀ (d r : Nat) (t : V) (A : Option Addr) (c : Nat) (A' : Option Addr) (c' : Nat), okV r t = true → Rd w 0 B d t A c A' c' → Rd (put5 w g 0 v0 v1 v2 v3 v4) 0 B d t A c A' c'
  | 0, _, _, _, _, _, _, _, h => h.elim
  | _, 0, _, _, _, _, _, h, _ => by simp [okV] at h
  | d + 1, r + 1, t, A, c, A', c', h, ⟨hf, hl, hm⟩ =>
    ⟨hf, row_off hz v0 v1 v2 v3 v4 (fun x hx => ok_kind (ok_l h hx)) (fun x hx A1 c1 A2 c2 k => rd_off hz v0 v1 v2 v3 v4 d r x A1 c1 A2 c2 (ok_l h hx) k) hl,
      row_off hz v0 v1 v2 v3 v4 (fun x hx => ok_kind (ok_m h hx)) (fun x hx A1 c1 A2 c2 k => rd_off hz v0 v1 v2 v3 v4 d r x A1 c1 A2 c2 (ok_m h hx) k) hm⟩

theorem same_turn (a b : V) : (cmpV 12 a b == 0) = (cmpV 12 b a == 0) := by
  have := (ord_cmpV 12).anti a b
  rw [Bool.eq_iff_iff, beq_iff_eq, beq_iff_eq]; omega
/-- Scanning on. -/
def scan (x : V) (P : List (V × V)) (y : V) : V := P.foldl (fun acc q => if keyIs x q = true then q.2 else acc) y
theorem scan_next (x : V) (l : List V) (k : Nat) {a b y : V} (ha : l[k]? = some a) (hb : l[k + 1]? = some b) : scan x (pairUp (l.drop k)) y = scan x (pairUp (l.drop (k + 2))) (if (cmpV 12 x a == 0) = true then b else y) := by
  rw [pairUp_next l k ha hb, same_turn x a]; rfl
theorem pair_end (l : List V) (k : Nat) (h : l.length ≤ k + 1) : pairUp (l.drop k) = [] := by
  have : (l.drop k).length ≤ 1 := by rw [List.length_drop]; omega
  match l.drop k, this with
  | [], _ => rfl
  | [_], _ => rfl
  | _ :: _ :: _, h => simp at h
/-- What a key of a row leads to. -/
structure Leads (M x : V) (y : V) : Prop where
  val : ∃ v, findV M x = some v ∧ okV 11 v = true ∧ cmpV 12 v y = 0
theorem find_elem {M x v : V} (h : findV M x = some v) : ∃ u ∈ M.m, v = copyV 12 u := by
  unfold findV at h
  by_cases e : M.k = 7
  · rw [if_pos e] at h
    dsimp only at h
    split at h
    · cases h
    · obtain ⟨u, hu, rfl⟩ := Option.map_eq_some_iff.1 h
      exact ⟨u, List.mem_of_getElem? hu, rfl⟩
  · rw [if_neg e] at h; cases h
theorem leads_of {l : List V} {M : V} (h : KeysOk l M) (Q : List (V × V)) (i : Nat) {x y : V} (hx : l[i]? = some x) (hy : l[i + 1]? = some y) (hQ : pairUp l = Q ++ pairUp (l.drop i)) : Leads M x (scan x (pairUp (l.drop (i + 2))) y) := by
  have e : lastOf (pairUp l) x = some (scan x (pairUp (l.drop (i + 2))) y) := by
    rw [hQ, pairUp_next l i hx hy]
    exact lastOf_from Q _ x y (x, y) (by simp [keyIs, (ord_cmpV 12).refl])
  have hf : findV M x = some (copyV 12 (scan x (pairUp (l.drop (i + 2))) y)) := by rw [h.find x, e]; rfl
  obtain ⟨u, hu, eu⟩ := find_elem hf
  have h11 : okV 11 u = true := ok_m h.ok hu
  exact ⟨⟨_, hf, by rw [eu, ok_copy 11 12 u (by omega)]; exact h11, cmp_copy 12 12 _ (Nat.le_refl _)⟩⟩
theorem came_of {l : List V} {M key : V} (h : KeysOk l M) : (findV M key).isSome = (pairUp l).any (keyIs key) := by
  rw [h.find key, Option.isSome_map, lastOf_some]
end Go.Proofs.Ytdolejafihgpmaa
