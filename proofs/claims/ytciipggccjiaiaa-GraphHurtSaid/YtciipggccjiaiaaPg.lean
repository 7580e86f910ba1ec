/- Plain facts for the laws on properties that are set. -/
import Derived.Test.YtciipggccjiaiaaPb
import Derived.Test.YtciipggccjiaiaaPe
import Derived.Test.YtciipggccjiaiaaNP
import Derived.Test.YtciipggccjiaiaaNV
import Derived.Test.YtciipggccjiaiaaNW
namespace Go.Proofs.Ytciipggccjiaiaa
open Go.RowKit Go.Sort
set_option maxRecDepth 100000

theorem errG_cases (vs es : List TA) : (okG vs es = true ∧ errG vs es = 0) ∨ errG vs es = 50 := by
  unfold errG
  by_cases h : okG vs es = true
  · exact .inl ⟨h, by rw [if_pos h]⟩
  · exact .inr (by rw [if_neg h])
theorem okG_v {vs es : List TA} (h : okG vs es = true) {s : TA} (hs : s ∈ vs) : okTV s.tv' = true ∧ s.o = 0 ∧ s.i = 0 := by
  unfold okG at h
  simp only [Bool.and_eq_true, Bool.not_eq_true'] at h
  obtain ⟨h1, h2, _⟩ := h
  unfold okThs at h1
  simp only [Bool.and_eq_true] at h1
  have h3 := List.all_eq_true.1 h1.2.1 s hs
  rw [okTh_tv] at h3
  have h4 : endT s = false := by
    cases e : endT s with
    | false => rfl
    | true => rw [List.any_eq_true.2 ⟨s, hs, e⟩] at h2; cases h2
  unfold endT at h4
  simp at h4
  exact ⟨h3, h4.1, h4.2⟩
theorem at_ok {vs es : List TA} {id : Int} (h : okG vs es = true) {t : TA} (htv : t.tv' = (atV vs id).1) (hok : (atV vs id).2 = true) : ∃ s ∈ vs, t.tv' = s.tv' ∧ okTV t.tv' = true ∧ t.o = 0 ∧ t.i = 0 := by
  unfold atV at htv hok
  cases hf : vs.find? (idB id) with
  | none => rw [hf] at hok; cases hok
  | some s =>
    rw [hf] at htv
    have hs := List.mem_of_find?_eq_some hf
    obtain ⟨h1, h2, h3⟩ := okG_v h hs
    have e : t.tv' = s.tv' := by rw [htv]; show s.ctv = s.tv'; rw [ctv_eq, cT_ok h1]
    have e2 : t.o = s.o := congrArg TV.o e
    have e3 : t.i = s.i := congrArg TV.i e
    exact ⟨s, hs, e, by rw [e]; exact h1, by rw [e2, h2], by rw [e3, h3]⟩
theorem withE_zero {key : ByteArray} {v : V} {l : List PA} (h : withE key v l = 0) : nameB key = true ∧ plainB v = true ∧ ¬ (idxG (keyB key) l 0 < 0 ∧ 30 ≤ l.length) := by
  unfold withE at h
  by_cases h1 : nameB key = false ∨ plainB v = false
  · rw [if_pos h1] at h; cases h
  · rw [if_neg h1] at h
    by_cases h2 : idxG (keyB key) l 0 < 0 ∧ 30 ≤ l.length
    · rw [if_pos h2] at h; cases h
    · exact ⟨by simpa using fun e => h1 (.inl e), by simpa using fun e => h1 (.inr e), h2⟩
theorem withE_mk {key : ByteArray} {v : V} {l : List PA} (h1 : nameB key = true) (h2 : plainB v = true) (h3 : ¬ (idxG (keyB key) l 0 < 0 ∧ 30 ≤ l.length)) : withE key v l = 0 := by
  unfold withE
  rw [if_neg (by simp [h1, h2]), if_neg h3]
theorem find_kv (key : ByteArray) (l : List PA) : (l.map PA.kv).find? (kB key) = (l.find? (keyB key)).map PA.kv := by rw [List.find?_map]; rfl
theorem idx_has {key : ByteArray} {l : List PA} (h : ¬ idxG (keyB key) l 0 < 0) : ∃ p ∈ l.map PA.kv, kB key p = true := by
  rcases idxG_at (keyB key) l 0 with ⟨e, _⟩ | ⟨i, x, _, hx, _, hp⟩
  · rw [e] at h; exact absurd (by decide) h
  · exact ⟨x.kv, List.mem_map_of_mem (List.mem_of_getElem? hx), hp⟩
theorem with_kv {t c : TA} {key : ByteArray} {x : At} (ht : okTV t.tv' = true) (he : withE key x.t t.l = 0)
    (hc : (withE key x.t t.l ≠ 0 ∧ c.tv' = zeroTV) ∨ (withE key x.t t.l = 0 ∧ c.tv' = ⟨t.id, t.label, t.o, t.i, (withLL (fromOf key t.l) (toOf key t.l) t.l ⟨key, x⟩).map PA.ckv⟩)) :
    c.tv' = ⟨t.id, t.label, t.o, t.i, insK key x.t (t.l.map PA.kv)⟩ ∧ okTV c.tv' = true := by
  obtain ⟨h1, h2, h3, h4, h5⟩ := okTV_parts ht
  obtain ⟨n1, n2, n3⟩ := withE_zero he
  have hr : risG keyLt t.l = true := by
    have := h5
    show risG keyLt t.l = true
    rw [show t.tv'.l = t.l.map PA.kv from rfl, risG_map] at this
    exact this
  have hk := ins_ok (key := key) (v := x.t) (l := t.l.map PA.kv) h4 n1 n2
  have hc' : c.tv' = ⟨t.id, t.label, t.o, t.i, insK key x.t (t.l.map PA.kv)⟩ := by
    rcases hc with ⟨h, _⟩ | ⟨_, h⟩
    · exact absurd he h
    · rw [h, ckv_eq, with_ins key x t.l hr, map_cP hk]
  refine ⟨hc', ?_⟩
  rw [hc']
  have hlen : (t.l.map PA.kv).length ≤ 30 := h3
  refine okTV_mk h1 h2 ?_ hk (ins_ris key x.t _ h5)
  show (insK key x.t (t.l.map PA.kv)).length ≤ 30
  by_cases hi : idxG (keyB key) t.l 0 < 0
  · have := ins_len key x.t (t.l.map PA.kv)
    have h30 : t.l.length < 30 := Nat.lt_of_not_le fun h => n3 ⟨hi, h⟩
    rw [List.length_map] at this
    omega
  · rw [ins_len_has key x.t _ (show risG ltK (t.l.map PA.kv) = true from h5) (idx_has hi)]; exact hlen
theorem idx_kv {key : ByteArray} {a b : List PA} (h : (a.map PA.kv).find? (kB key) = none ↔ (b.map PA.kv).find? (kB key) = none) : idxG (keyB key) a 0 < 0 ↔ idxG (keyB key) b 0 < 0 := by
  rw [find_kv, find_kv] at h
  simp only [Option.map_eq_none_iff] at h
  rcases idxG_at (keyB key) a 0 with ⟨e1, f1⟩ | ⟨i, x, e1, _, f1, _⟩ <;> rcases idxG_at (keyB key) b 0 with ⟨e2, f2⟩ | ⟨j, y, e2, _, f2, _⟩
  · rw [e1, e2]
  · rw [f1, f2] at h; simp at h
  · rw [f1, f2] at h; simp at h
  · rw [e1, e2]; constructor <;> intro h' <;> omega
theorem not_neg_of_find {key : ByteArray} {a : List PA} {q : KV} (h : (a.map PA.kv).find? (kB key) = some q) : ¬ idxG (keyB key) a 0 < 0 := by
  rw [find_kv] at h
  rcases idxG_at (keyB key) a 0 with ⟨_, f1⟩ | ⟨i, x, e1, _, _, _⟩
  · rw [f1] at h; cases h
  · rw [e1]; omega
/-- What With comes to does not hang on whether the key was set before. -/
theorem withE_again {t c : TA} {key : ByteArray} {x y : At} (he : withE key x.t t.l = 0) (hc : c.tv' = ⟨t.id, t.label, t.o, t.i, insK key x.t (t.l.map PA.kv)⟩) : withE key y.t c.l = withE key y.t t.l := by
  obtain ⟨n1, n2, n3⟩ := withE_zero he
  have hl : c.l.map PA.kv = insK key x.t (t.l.map PA.kv) := congrArg TV.l hc
  have hf : ¬ idxG (keyB key) c.l 0 < 0 := not_neg_of_find (by rw [hl]; exact ins_find key x.t _)
  unfold withE
  rw [if_neg (show ¬ (idxG (keyB key) c.l 0 < 0 ∧ 30 ≤ c.l.length) from fun h => hf h.1), if_neg n3]
theorem prop_set {t c : TA} {key : ByteArray} {x a : At} {is : Bool} (hc : c.tv' = ⟨t.id, t.label, t.o, t.i, insK key x.t (t.l.map PA.kv)⟩)
    (ha : (is = true ∧ ∃ p, c.l.find? (keyB key) = some p ∧ a.t = copyV 12 p.x.t) ∨ (is = false ∧ c.l.find? (keyB key) = none ∧ a = zeroAt)) : is = true ∧ (cmpV 12 a.t x.t == 0) = true := by
  have hl : c.l.map PA.kv = insK key x.t (t.l.map PA.kv) := congrArg TV.l hc
  have hf : (c.l.find? (keyB key)).map PA.kv = some (key, x.t) := by rw [← find_kv, hl]; exact ins_find key x.t _
  rcases ha with ⟨h, p, h1, h2⟩ | ⟨_, h1, _⟩
  · rw [h1] at hf
    have e : p.x.t = x.t := congrArg Prod.snd (Option.some.inj hf)
    rw [h2, e, cmp_left, (ord_cmpV 12).refl]
    exact ⟨h, rfl⟩
  · rw [h1] at hf; cases hf
theorem prop_keep {t c : TA} {key other : ByteArray} {x b e : At} {had has : Bool} (hne : other.toList ≠ key.toList) (hc : c.tv' = ⟨t.id, t.label, t.o, t.i, insK key x.t (t.l.map PA.kv)⟩)
    (hb : (had = true ∧ ∃ p, t.l.find? (keyB other) = some p ∧ b.t = copyV 12 p.x.t) ∨ (had = false ∧ t.l.find? (keyB other) = none ∧ b = zeroAt))
    (he : (has = true ∧ ∃ p, c.l.find? (keyB other) = some p ∧ e.t = copyV 12 p.x.t) ∨ (has = false ∧ c.l.find? (keyB other) = none ∧ e = zeroAt)) : had = has ∧ (cmpV 12 b.t e.t == 0) = true := by
  have hl : c.l.map PA.kv = insK key x.t (t.l.map PA.kv) := congrArg TV.l hc
  have hf : (c.l.find? (keyB other)).map PA.kv = (t.l.find? (keyB other)).map PA.kv := by rw [← find_kv, ← find_kv, hl]; exact ins_other hne x.t _
  rcases hb with ⟨h, p, h1, h2⟩ | ⟨h, h1, h2⟩ <;> rcases he with ⟨k, q, k1, k2⟩ | ⟨k, k1, k2⟩
  · rw [h1, k1] at hf
    have e' : q.x.t = p.x.t := congrArg Prod.snd (Option.some.inj hf)
    rw [h, k, h2, k2, e', (ord_cmpV 12).refl]; exact ⟨rfl, rfl⟩
  · rw [h1, k1] at hf; cases hf
  · rw [h1, k1] at hf; cases hf
  · rw [h, k, h2, k2, (ord_cmpV 12).refl]; exact ⟨rfl, rfl⟩
theorem okG_one {c : TA} (h : okTV c.tv' = true) (h1 : c.o = 0) (h2 : c.i = 0) : errG [c] [] = 0 := by
  refine errG_c0 ?_ rfl ?_ rfl
  · unfold okThs
    have : okTh c = true := by rw [okTh_tv]; exact h
    simp [this, risG]
  · simp [endT, h1, h2]
theorem two_again {t c y z : TA} {key : ByteArray} {x u : At} (hc : c.tv' = ⟨t.id, t.label, t.o, t.i, insK key x.t (t.l.map PA.kv)⟩)
    (hy : y.tv' = ⟨c.id, c.label, c.o, c.i, insK key u.t (c.l.map PA.kv)⟩) (hz : z.tv' = ⟨t.id, t.label, t.o, t.i, insK key u.t (t.l.map PA.kv)⟩) : samT y.tv' z.tv' = true := by
  have hl : c.l.map PA.kv = insK key x.t (t.l.map PA.kv) := congrArg TV.l hc
  have e1 : c.id = t.id := congrArg TV.id hc
  have e2 : c.label = t.label := congrArg TV.label hc
  have e3 : c.o = t.o := congrArg TV.o hc
  have e4 : c.i = t.i := congrArg TV.i hc
  have e : y.tv' = z.tv' := by rw [hy, hz, hl, ins_ins, e1, e2, e3, e4]
  rw [e]; exact samT_refl _
theorem two_ways {t c e p q : TA} {a b : ByteArray} {x u : At} (hne : a.toList ≠ b.toList) (hc : c.tv' = ⟨t.id, t.label, t.o, t.i, insK a x.t (t.l.map PA.kv)⟩) (he : e.tv' = ⟨t.id, t.label, t.o, t.i, insK b u.t (t.l.map PA.kv)⟩)
    (hp : p.tv' = ⟨c.id, c.label, c.o, c.i, insK b u.t (c.l.map PA.kv)⟩) (hq : q.tv' = ⟨e.id, e.label, e.o, e.i, insK a x.t (e.l.map PA.kv)⟩) : samT p.tv' q.tv' = true := by
  have hl : c.l.map PA.kv = insK a x.t (t.l.map PA.kv) := congrArg TV.l hc
  have hl' : e.l.map PA.kv = insK b u.t (t.l.map PA.kv) := congrArg TV.l he
  have e1 : c.id = t.id := congrArg TV.id hc
  have e2 : c.label = t.label := congrArg TV.label hc
  have e3 : c.o = t.o := congrArg TV.o hc
  have e4 : c.i = t.i := congrArg TV.i hc
  have k1 : e.id = t.id := congrArg TV.id he
  have k2 : e.label = t.label := congrArg TV.label he
  have k3 : e.o = t.o := congrArg TV.o he
  have k4 : e.i = t.i := congrArg TV.i he
  have e : p.tv' = q.tv' := by rw [hp, hq, hl, hl', ← ins_swap hne, e1, e2, e3, e4, k1, k2, k3, k4]
  rw [e]; exact samT_refl _
theorem withE_room {t c : TA} {a : ByteArray} {x u : At} {b : ByteArray} (hc : c.tv' = ⟨t.id, t.label, t.o, t.i, insK a x.t (t.l.map PA.kv)⟩) (hl : t.l.length ≤ 28) (hb : withE b u.t t.l = 0) : withE b u.t c.l = 0 := by
  obtain ⟨n1, n2, _⟩ := withE_zero hb
  have hk : c.l.map PA.kv = insK a x.t (t.l.map PA.kv) := congrArg TV.l hc
  have h1 : c.l.length = (insK a x.t (t.l.map PA.kv)).length := by rw [← hk, List.length_map]
  have h2 := ins_len a x.t (t.l.map PA.kv)
  rw [List.length_map] at h2
  exact withE_mk n1 n2 (fun h => by omega)
structure C2 (w : World) (g : Nat) (v0 v1 : Value) : Prop where
  c0 : w.cell? ⟨g, 0, none⟩ = some v0
  c1 : w.cell? ⟨g, 1, none⟩ = some v1
  lt : g < w.heap.size
theorem C2.next {a b : World} {g : Nat} {v0 v1 : Value} (h : C2 a g v0 v1) (hb : Below a.heap.size a b) : C2 b g v0 v1 := ⟨cell_below hb h.c0 h.lt, cell_below hb h.c1 h.lt, Nat.lt_of_lt_of_le h.lt hb.size⟩
theorem made24 {w W : World} {v0 v1 : Value} (hW : w.alloc (.cells #[v0, v1] 24) = W) : C2 W w.heap.size v0 v1 ∧ Below w.heap.size w W ∧ W.heap.size = w.heap.size + 1 := by
  obtain ⟨a, b, c, d⟩ := box24 w v0 v1 W hW
  exact ⟨⟨a, b, by omega⟩, c, d⟩
theorem made34 {w W : World} {v0 v1 v2 v3 v4 : Value} (hW : w.alloc (.cells #[v0, v1, v2, v3, v4] 34) = W) : CellT W w.heap.size v0 v1 v2 v3 v4 ∧ Below w.heap.size w W ∧ W.heap.size = w.heap.size + 1 := by
  subst hW
  exact ⟨CellT.new _ _ _ _ _ _, below_new _ _, by simp⟩
theorem made37 {w W : World} (x : At) (hW : w.alloc (.cells #[.int .i64 x.t.k, .int .i64 x.t.n, .string x.t.s, .slice x.A x.t.l.length x.c, .slice x.A' x.t.m.length x.c'] 37) = W) : Bx W w.heap.size x ∧ Below w.heap.size w W ∧ W.heap.size = w.heap.size + 1 := by
  subst hW
  exact ⟨Bx.new _ _, below_new _ _, by simp⟩
theorem PRow.up {w : World} {lo d d' c : Nat} {A : Option Addr} {l : List PA} (h : PRow w lo d A c l) (hd : d ≤ d') : PRow w lo d' A c l :=
  ⟨h.le, h.cap, h.big, h.nil, h.at_, fun p hp => Rd.more (h.vals p hp) (Nat.le_refl _) (Nat.le_refl _) hd⟩
theorem TRow.up {w : World} {d d' c : Nat} {A : Option Addr} {l : List TA} (h : TRow w d A c l) (hd : d ≤ d') : TRow w d' A c l := ⟨h.le, h.big, h.at_, fun t ht => (h.vals t ht).up hd⟩
theorem GA.In.up {g : GA} {w : World} {d d' : Nat} (h : g.In w d) (hd : d ≤ d') : g.In w d' := ⟨h.v.up hd, h.e.up hd, h.fv, h.fe⟩
theorem MineP.next {a b : World} {A : Option Addr} {n : Nat} (h : MineP a A n) (hb : Below a.heap.size a b) : MineP b A n := fun h0 => by
  obtain ⟨g, e, hg⟩ := h h0
  exact ⟨g, e, hg.below hb hg.lt⟩
theorem fld_of {q g : List TA} (h : q.map TA.tv' = g.map TA.ctv) (hf : ∀ t ∈ g, TFld t) : ∀ t ∈ q, TFld t := fun t ht => by
  have h1 : t.tv' ∈ q.map TA.tv' := List.mem_map_of_mem ht
  rw [h] at h1
  obtain ⟨s, hs, e⟩ := List.mem_map.1 h1
  have hs' := hf s hs
  have e1 : s.id = t.id := congrArg TV.id e
  have e2 : s.o = t.o := congrArg TV.o e
  have e3 : s.i = t.i := congrArg TV.i e
  unfold TFld at hs' ⊢
  rw [← e1, ← e2, ← e3]
  exact hs'
theorem copy_in {w w' : World} {d : Nat} {g q : GA} (hg : g.In w d) (h1 : q.vs.map TA.tv' = g.vs.map TA.ctv) (h2 : q.es.map TA.tv' = g.es.map TA.ctv) (c1 : COwn w.heap.size w' q.AV q.cV q.vs) (c2 : COwn w.heap.size w' q.AE q.cE q.es) : q.In w' 13 := by
  have l1 : q.vs.length = g.vs.length := by have := congrArg List.length h1; simpa using this
  have l2 : q.es.length = g.es.length := by have := congrArg List.length h2; simpa using this
  exact ⟨c1.trow (by rw [l1]; exact hg.v.big), c2.trow (by rw [l2]; exact hg.e.big), fld_of h1 hg.fv, fld_of h2 hg.fe⟩
theorem prop_both {key : ByteArray} {t u : List PA} {a b : At} {has had : Bool} (h : SamK t u)
    (ha : (has = true ∧ ∃ p, t.find? (keyB key) = some p ∧ a.t = copyV 12 p.x.t) ∨ (has = false ∧ t.find? (keyB key) = none ∧ a = zeroAt))
    (hb : (had = true ∧ ∃ p, u.find? (keyB key) = some p ∧ b = p.x) ∨ (had = false ∧ u.find? (keyB key) = none ∧ b = zeroAt)) : has = had ∧ (cmpV 12 a.t b.t == 0) = true := by
  rcases SamK.find key t u h with ⟨e1, e2⟩ | ⟨p, q, e1, e2, e3⟩
  · rcases ha with ⟨_, p, h1, _⟩ | ⟨h0, _, ha⟩
    · rw [e1] at h1; cases h1
    · rcases hb with ⟨_, p, h1, _⟩ | ⟨h0', _, hb⟩
      · rw [e2] at h1; cases h1
      · rw [h0, h0', ha, hb, (ord_cmpV 12).refl]; exact ⟨rfl, rfl⟩
  · rcases ha with ⟨h0, p', h1, ha⟩ | ⟨_, h1, _⟩
    · rcases hb with ⟨h0', q', h2, hb⟩ | ⟨_, h2, _⟩
      · rw [e1] at h1
        rw [e2] at h2
        injection h1 with h1
        injection h2 with h2
        subst h1 h2
        rw [h0, h0', ha, hb, cmp_left, e3]; exact ⟨rfl, rfl⟩
      · rw [e2] at h2; cases h2
    · rw [e1] at h1; cases h1
end Go.Proofs.Ytciipggccjiaiaa
