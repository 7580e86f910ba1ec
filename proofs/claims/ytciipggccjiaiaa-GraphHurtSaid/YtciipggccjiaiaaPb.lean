/- Plain facts on properties laid in, and on what Check asks. -/
import Derived.Test.YtciipggccjiaiaaPa
import Derived.Test.YtciipggccjiaiaaOd
namespace Go.Proofs.Ytciipggccjiaiaa
open Go.RowKit Go.Sort
set_option maxRecDepth 100000

theorem bl_irr : ∀ x : List UInt8, Op.bytesLess x x = false
  | [] => rfl
  | a :: x => by simp [Op.bytesLess, bl_irr x]
theorem bl_trans : ∀ x y z : List UInt8, Op.bytesLess x y = true → Op.bytesLess y z = true → Op.bytesLess x z = true
  | _, [], _, h, _ => by simp [Op.bytesLess] at h
  | _, _ :: _, [], _, h => by simp [Op.bytesLess] at h
  | [], _ :: _, _ :: _, _, _ => rfl
  | a :: x, b :: y, c :: z, h1, h2 => by
    simp only [Op.bytesLess, Bool.or_eq_true, Bool.and_eq_true, decide_eq_true_eq, beq_iff_eq, UInt8.lt_iff_toNat_lt] at h1 h2 ⊢
    rcases h1 with h1 | ⟨rfl, h1⟩
    · rcases h2 with h2 | ⟨rfl, _⟩
      · exact .inl (by omega)
      · exact .inl h1
    · rcases h2 with h2 | ⟨rfl, h2⟩
      · exact .inl h2
      · exact .inr ⟨rfl, bl_trans x y z h1 h2⟩
theorem bl_tri : ∀ x y : List UInt8, x = y ∨ Op.bytesLess x y = true ∨ Op.bytesLess y x = true
  | [], [] => .inl rfl
  | [], _ :: _ => .inr (.inl rfl)
  | _ :: _, [] => .inr (.inr rfl)
  | a :: x, b :: y => by
    simp only [Op.bytesLess, Bool.or_eq_true, Bool.and_eq_true, decide_eq_true_eq, beq_iff_eq, UInt8.lt_iff_toNat_lt]
    by_cases h : a = b
    · subst h
      rcases bl_tri x y with h | h | h
      · exact .inl (by rw [h])
      · exact .inr (.inl (.inr ⟨rfl, h⟩))
      · exact .inr (.inr (.inr ⟨rfl, h⟩))
    · have : a.toNat ≠ b.toNat := fun e => h (UInt8.toNat_inj.1 e)
      rcases Nat.lt_or_gt_of_ne this with h' | h'
      · exact .inr (.inl (.inl h'))
      · exact .inr (.inr (.inl h'))
theorem bl_asym {x y : List UInt8} (h : Op.bytesLess x y = true) : Op.bytesLess y x = false := by
  cases h' : Op.bytesLess y x with
  | false => rfl
  | true => have := bl_trans _ _ _ h h'; rw [bl_irr] at this; cases this
theorem bl_ne {x y : List UInt8} (h : Op.bytesLess x y = true) : x ≠ y := fun e => by rw [e, bl_irr] at h; cases h

theorem map_id' {g : V → V} {l : List V} (h : ∀ x ∈ l, g x = x) : l.map g = l := by
  rw [List.map_congr_left h]; simp
theorem ok_same_copy : ∀ r s a, okV r a = true → r ≤ s → copyV s a = a
  | 0, _, _, h, _ => by simp [okV] at h
  | r + 1, 0, _, _, h => absurd h (by omega)
  | r + 1, s + 1, a, h, hs => by
    simp only [okV, Bool.and_eq_true] at h
    obtain ⟨⟨⟨_, h1⟩, h2⟩, _⟩ := h
    have e1 : a.l.map (copyV s) = a.l := map_id' fun x hx => ok_same_copy r s x (List.all_eq_true.1 h1 _ hx) (by omega)
    have e2 : a.m.map (copyV s) = a.m := map_id' fun x hx => ok_same_copy r s x (List.all_eq_true.1 h2 _ hx) (by omega)
    show V.mk a.k a.n a.s (a.l.map (copyV s)) (a.m.map (copyV s)) = a
    rw [e1, e2]; cases a; rfl
theorem plain_copy {t : V} (h : plainB t = true) : copyV 12 t = t := by
  unfold plainB at h
  simp only [Bool.and_eq_true] at h
  exact ok_same_copy 12 12 t h.2 (Nat.le_refl _)

abbrev KV := ByteArray × V
def okPrK (p : KV) : Bool := nameB p.1 && plainB p.2
def ltK (p q : KV) : Bool := Op.bytesLess p.1.toList q.1.toList
def okPsK (l : List KV) : Bool := decide (l.length ≤ 30) && (l.all okPrK && risG ltK l)
def okTV (t : TV) : Bool := decide (0 ≤ t.id) && (nameB t.label && okPsK t.l)
def idLtV (s t : TV) : Bool := decide (s.id < t.id)
def okTVs (most : Nat) (ts : List TV) : Bool := decide (ts.length ≤ most) && (ts.all okTV && risG idLtV ts)
def endTV (t : TV) : Bool := decide (t.o ≠ 0) || decide (t.i ≠ 0)
def idBV (id : Int) (t : TV) : Bool := t.id == id
def looseV (vs : List TV) (t : TV) : Bool := !vs.any (idBV t.o) || !vs.any (idBV t.i)
def okGV (vs es : List TV) : Bool := okTVs 500 vs && (!vs.any endTV && (okTVs 2000 es && !es.any (looseV vs)))
theorem risG_map {α β : Type} (f : β → β → Bool) (g : α → β) : ∀ l : List α, risG f (l.map g) = risG (fun a b => f (g a) (g b)) l
  | [] => rfl
  | [_] => rfl
  | a :: b :: r => by
    have := risG_map f g (b :: r)
    simp only [List.map_cons] at this ⊢
    simp only [risG, this]
theorem okPs_kv (l : List PA) : okPs l = okPsK (l.map PA.kv) := by
  unfold okPs okPsK
  rw [risG_map, List.all_map, List.length_map]; rfl
theorem okTh_tv (t : TA) : okTh t = okTV t.tv' := by
  unfold okTh okTV
  rw [okPs_kv]; rfl
theorem okThs_tv (most : Nat) (ts : List TA) : okThs most ts = okTVs most (ts.map TA.tv') := by
  unfold okThs okTVs
  rw [risG_map, List.all_map, List.length_map]
  congr 2
  exact List.all_congr rfl (fun t => okTh_tv t)
theorem okG_tv (vs es : List TA) : okG vs es = okGV (vs.map TA.tv') (es.map TA.tv') := by
  unfold okG okGV
  rw [okThs_tv, okThs_tv, List.any_map, List.any_map]
  congr 3
  congr 1
  refine congrArg (fun f => es.any f) (funext fun t => ?_)
  show looseB vs t = looseV (vs.map TA.tv') t.tv'
  unfold looseB looseV
  rw [List.any_map, List.any_map]; rfl
theorem cP_ok {p : KV} (h : okPrK p = true) : cP p = p := by
  unfold okPrK at h
  simp only [Bool.and_eq_true] at h
  unfold cP
  rw [plain_copy h.2]
theorem map_cP {l : List KV} (h : l.all okPrK = true) : l.map cP = l := by
  rw [List.map_congr_left (fun p hp => cP_ok (List.all_eq_true.1 h p hp))]; simp
theorem okTV_parts {t : TV} (h : okTV t = true) : 0 ≤ t.id ∧ nameB t.label = true ∧ t.l.length ≤ 30 ∧ t.l.all okPrK = true ∧ risG ltK t.l = true := by
  unfold okTV okPsK at h
  simp only [Bool.and_eq_true, decide_eq_true_eq] at h
  exact ⟨h.1, h.2.1, h.2.2.1, h.2.2.2.1, h.2.2.2.2⟩
theorem okTV_mk {t : TV} (h1 : 0 ≤ t.id) (h2 : nameB t.label = true) (h3 : t.l.length ≤ 30) (h4 : t.l.all okPrK = true) (h5 : risG ltK t.l = true) : okTV t = true := by
  unfold okTV okPsK
  simp only [Bool.and_eq_true, decide_eq_true_eq]
  exact ⟨h1, h2, h3, h4, h5⟩
theorem cT_ok {t : TV} (h : okTV t = true) : cT t = t := by
  unfold cT
  rw [map_cP (okTV_parts h).2.2.2.1]
theorem ctvs_ok {ts : List TA} (h : (ts.map TA.tv').all okTV = true) : ts.map TA.ctv = ts.map TA.tv' := by
  rw [ctvs_eq, List.map_congr_left (fun t ht => cT_ok (List.all_eq_true.1 h t ht))]; simp

/-- A property laid in, or set. -/
def insK (key : ByteArray) (v : V) : List KV → List KV
  | [] => [(key, v)]
  | q :: l => if q.1.toList == key.toList then (key, v) :: l else if Op.bytesLess key.toList q.1.toList then (key, v) :: q :: l else q :: insK key v l
def kB (key : ByteArray) (p : KV) : Bool := p.1.toList == key.toList
theorem idxG_shift {α : Type} (p : α → Bool) : ∀ (l : List α) (k : Nat), (idxG p l k = -1 ∧ idxG p l (k + 1) = -1) ∨ ∃ i : Nat, idxG p l k = (k : Int) + i ∧ idxG p l (k + 1) = (k : Int) + 1 + i
  | [], _ => .inl ⟨rfl, rfl⟩
  | x :: r, k => by
    cases h : p x with
    | true => exact .inr ⟨0, by simp [idxG, h], by simp [idxG, h]⟩
    | false =>
      rcases idxG_shift p r (k + 1) with ⟨e1, e2⟩ | ⟨i, e1, e2⟩
      · exact .inl ⟨by simp [idxG, h, e1], by simp [idxG, h, e2]⟩
      · refine .inr ⟨i + 1, ?_, ?_⟩
        · simp only [idxG, h]; rw [if_neg (by simp), e1]; omega
        · simp only [idxG, h]; rw [if_neg (by simp), e2]; omega
theorem idxG_none {α : Type} (p : α → Bool) (l : List α) (k : Nat) (h : ∀ x ∈ l, p x = false) : idxG p l k = -1 := by
  rcases idxG_at p l k with ⟨e, _⟩ | ⟨i, x, _, hx, _, hp⟩
  · exact e
  · rw [h x (List.mem_of_getElem? hx)] at hp; cases hp
theorem ris_all {α : Type} {f : α → α → Bool} (ht : ∀ a b c, f a b = true → f b c = true → f a c = true) : ∀ {l : List α} {x : α}, risG f (x :: l) = true → risG f l = true ∧ ∀ y ∈ l, f x y = true
  | [], _, _ => ⟨rfl, fun _ h => by cases h⟩
  | y :: r, x, h => by
    simp only [risG, Bool.and_eq_true] at h
    refine ⟨h.2, fun z hz => ?_⟩
    rcases List.mem_cons.1 hz with rfl | hz
    · exact h.1
    · exact ht _ _ _ h.1 ((ris_all ht h.2).2 z hz)
theorem ris_mk {α : Type} {f : α → α → Bool} {l : List α} {x : α} (h : risG f l = true) (hx : ∀ y, l.head? = some y → f x y = true) : risG f (x :: l) = true := by
  cases l with
  | nil => rfl
  | cons y r =>
    simp only [risG, Bool.and_eq_true]
    exact ⟨hx y rfl, h⟩
theorem ltK_trans (a b c : KV) (h1 : ltK a b = true) (h2 : ltK b c = true) : ltK a c = true := bl_trans _ _ _ h1 h2
theorem keyLt_trans (a b c : PA) (h1 : keyLt a b = true) (h2 : keyLt b c = true) : keyLt a c = true := bl_trans _ _ _ h1 h2
theorem with_ins (key : ByteArray) (x : At) : ∀ l : List PA, risG keyLt l = true → (withLL (fromOf key l) (toOf key l) l ⟨key, x⟩).map PA.kv = insK key x.t (l.map PA.kv)
  | [], _ => rfl
  | q :: l, h => by
    obtain ⟨hl, hq⟩ := ris_all keyLt_trans h
    have ih := with_ins key x l hl
    cases h1 : keyB key q with
    | true =>
      have e0 : idxG (keyB key) (q :: l) 0 = 0 := by simp [idxG, h1]
      have ef : fromOf key (q :: l) = 0 := by unfold fromOf; rw [e0]; rfl
      have et : toOf key (q :: l) = 1 := by unfold toOf; rw [e0]; rfl
      have e1 : (q.key.toList == key.toList) = true := h1
      rw [ef, et]
      show (PA.kv ⟨key, x⟩ :: l.map PA.kv) = insK key x.t (q.kv :: l.map PA.kv)
      simp only [insK, PA.kv, e1]; rfl
    | false =>
      have n1 : (q.key.toList == key.toList) = false := h1
      cases h2 : Op.bytesLess key.toList q.key.toList with
      | true =>
        have hn : ∀ r ∈ q :: l, keyB key r = false := fun r hr => by
          rcases List.mem_cons.1 hr with rfl | hr
          · exact h1
          · have := bl_trans _ _ _ h2 (hq r hr)
            have := bl_ne this
            simp only [keyB, beq_eq_false_iff_ne]
            exact fun e => this e.symm
        have e0 : idxG (keyB key) (q :: l) 0 = -1 := idxG_none _ _ _ hn
        have g1 : gtB key q = true := by unfold gtB; rw [n1, bl_asym h2]; rfl
        have e2 : insAt key (q :: l) = 0 := by unfold insAt; simp [idxG, g1]
        have ef : fromOf key (q :: l) = 0 := by unfold fromOf; rw [e0, e2]; rfl
        have et : toOf key (q :: l) = 0 := by unfold toOf; rw [e0, e2]; rfl
        rw [ef, et]
        show (PA.kv ⟨key, x⟩ :: q.kv :: l.map PA.kv) = insK key x.t (q.kv :: l.map PA.kv)
        simp only [insK, PA.kv, n1, h2]; rfl
      | false =>
        have h3 : Op.bytesLess q.key.toList key.toList = true := by
          rcases bl_tri q.key.toList key.toList with e | e | e
          · rw [e] at n1; simp at n1
          · exact e
          · rw [h2] at e; cases e
        have g1 : gtB key q = false := by unfold gtB; rw [h3]; rfl
        have ei : insAt key (q :: l) = insAt key l + 1 := by
          unfold insAt
          have e9 : idxG (gtB key) (q :: l) 0 = idxG (gtB key) l 1 := by simp [idxG, g1]
          rw [e9]
          rcases idxG_shift (gtB key) l 0 with ⟨e1, e2⟩ | ⟨i, e1, e2⟩
          · rw [e1, e2]; rfl
          · rw [e1, e2, if_neg (by omega), if_neg (by omega)]; omega
        have e9 : idxG (keyB key) (q :: l) 0 = idxG (keyB key) l 1 := by simp [idxG, h1]
        have ef : fromOf key (q :: l) = fromOf key l + 1 ∧ toOf key (q :: l) = toOf key l + 1 := by
          unfold fromOf toOf
          rw [e9, ei]
          rcases idxG_shift (keyB key) l 0 with ⟨e1, e2⟩ | ⟨i, e1, e2⟩
          · rw [e1, e2]; exact ⟨rfl, rfl⟩
          · rw [e1, e2, if_neg (by omega), if_neg (by omega), if_neg (by omega), if_neg (by omega)]
            exact ⟨by omega, by omega⟩
        rw [ef.1, ef.2]
        show (q.kv :: (withLL (fromOf key l) (toOf key l) l ⟨key, x⟩).map PA.kv) = insK key x.t (q.kv :: l.map PA.kv)
        rw [ih]
        simp only [insK, PA.kv, n1, h2]; rfl
theorem ins_find (key : ByteArray) (v : V) : ∀ l, (insK key v l).find? (kB key) = some (key, v)
  | [] => by simp [insK, kB]
  | q :: l => by
    unfold insK
    cases h1 : q.1.toList == key.toList with
    | true => simp [kB]
    | false =>
      cases h2 : Op.bytesLess key.toList q.1.toList with
      | true => simp [kB]
      | false =>
        simp only [if_neg (show ¬ (false = true) by simp)]
        rw [List.find?_cons_of_neg (by show ¬ (q.1.toList == key.toList) = true; simp [h1])]
        exact ins_find key v l
theorem ins_other {key other : ByteArray} (hne : other.toList ≠ key.toList) (v : V) : ∀ l, (insK key v l).find? (kB other) = l.find? (kB other)
  | [] => by
    simp only [insK]
    rw [List.find?_cons_of_neg (by show ¬ (key.toList == other.toList) = true; simp; exact fun e => hne e.symm)]
  | q :: l => by
    have hk : ¬ kB other (key, v) = true := by show ¬ (key.toList == other.toList) = true; simp; exact fun e => hne e.symm
    unfold insK
    cases h1 : q.1.toList == key.toList with
    | true =>
      simp only [if_pos]
      rw [List.find?_cons_of_neg hk, List.find?_cons_of_neg]
      have e : q.1.toList = key.toList := by simpa using h1
      show ¬ (q.1.toList == other.toList) = true
      rw [e]; simp; exact fun e => hne e.symm
    | false =>
      cases h2 : Op.bytesLess key.toList q.1.toList with
      | true =>
        simp only [if_neg (show ¬ (false = true) by simp), if_pos]
        rw [List.find?_cons_of_neg hk]
      | false =>
        simp only [if_neg (show ¬ (false = true) by simp)]
        simp only [List.find?_cons]
        cases kB other q with
        | true => rfl
        | false => exact ins_other hne v l
theorem ins_head {key : ByteArray} {v : V} {q : KV} (hq : Op.bytesLess q.1.toList key.toList = true) : ∀ {l : List KV}, (∀ y, l.head? = some y → ltK q y = true) → ∀ y, (insK key v l).head? = some y → ltK q y = true
  | [], _, y, hy => by
    simp [insK] at hy
    subst hy; exact hq
  | r :: l, h, y, hy => by
    unfold insK at hy
    split at hy
    · simp at hy; subst hy; exact hq
    · split at hy
      · simp at hy; subst hy; exact hq
      · simp at hy; subst hy; exact h _ rfl
theorem ins_ris (key : ByteArray) (v : V) : ∀ l, risG ltK l = true → risG ltK (insK key v l) = true
  | [], _ => rfl
  | q :: l, h => by
    obtain ⟨hl, hq⟩ := ris_all ltK_trans h
    unfold insK
    cases h1 : q.1.toList == key.toList with
    | true =>
      have e : q.1.toList = key.toList := by simpa using h1
      simp only [if_pos]
      refine ris_mk hl fun y hy => ?_
      have := hq y (List.mem_of_mem_head? hy)
      unfold ltK at this ⊢
      rw [e] at this; exact this
    | false =>
      cases h2 : Op.bytesLess key.toList q.1.toList with
      | true =>
        simp only [if_neg (show ¬ (false = true) by simp), if_pos]
        refine ris_mk h fun y hy => ?_
        simp at hy; subst hy; exact h2
      | false =>
        simp only [if_neg (show ¬ (false = true) by simp)]
        have h3 : Op.bytesLess q.1.toList key.toList = true := by
          rcases bl_tri q.1.toList key.toList with e | e | e
          · rw [e] at h1; simp at h1
          · exact e
          · rw [h2] at e; cases e
        exact ris_mk (ins_ris key v l hl) (ins_head h3 fun y hy => hq y (List.mem_of_mem_head? hy))
theorem ins_mem {key : ByteArray} {v : V} {p : KV} : ∀ {l : List KV}, p ∈ insK key v l → p = (key, v) ∨ p ∈ l
  | [], h => by simp [insK] at h; exact .inl h
  | q :: l, h => by
    unfold insK at h
    split at h
    · rcases List.mem_cons.1 h with h | h
      · exact .inl h
      · exact .inr (List.mem_cons_of_mem _ h)
    · split at h
      · rcases List.mem_cons.1 h with h | h
        · exact .inl h
        · exact .inr h
      · rcases List.mem_cons.1 h with h | h
        · exact .inr (by rw [h]; exact List.mem_cons_self ..)
        · rcases ins_mem h with h | h
          · exact .inl h
          · exact .inr (List.mem_cons_of_mem _ h)
theorem ins_ok {key : ByteArray} {v : V} {l : List KV} (h : l.all okPrK = true) (hk : nameB key = true) (hv : plainB v = true) : (insK key v l).all okPrK = true :=
  List.all_eq_true.2 fun p hp => by
    rcases ins_mem hp with rfl | hp
    · unfold okPrK; rw [hk, hv]; rfl
    · exact List.all_eq_true.1 h p hp
theorem ins_len (key : ByteArray) (v : V) : ∀ l, (insK key v l).length ≤ l.length + 1
  | [] => by simp [insK]
  | q :: l => by
    have := ins_len key v l
    unfold insK
    split
    · simp
    · split
      · simp
      · simp; omega
theorem ins_len_has (key : ByteArray) (v : V) : ∀ l, risG ltK l = true → (∃ p ∈ l, kB key p = true) → (insK key v l).length = l.length
  | [], _, h => by obtain ⟨_, h, _⟩ := h; cases h
  | q :: l, hr, h => by
    obtain ⟨hl, hq⟩ := ris_all ltK_trans hr
    unfold insK
    cases h1 : q.1.toList == key.toList with
    | true => simp
    | false =>
      obtain ⟨p, hp, hk⟩ := h
      rcases List.mem_cons.1 hp with rfl | hp
      · have : (p.1.toList == key.toList) = true := hk
        rw [h1] at this; cases this
      · cases h2 : Op.bytesLess key.toList q.1.toList with
        | true =>
          have h3 := bl_ne (bl_trans _ _ _ h2 (hq p hp))
          have : p.1.toList = key.toList := by simpa [kB] using hk
          exact absurd this.symm h3
        | false =>
          simp only [if_neg (show ¬ (false = true) by simp), List.length_cons]
          rw [ins_len_has key v l hl ⟨p, hp, hk⟩]
theorem ins_ins (key : ByteArray) (v u : V) : ∀ l, insK key u (insK key v l) = insK key u l
  | [] => by simp [insK]
  | q :: l => by
    have ih := ins_ins key v u l
    cases h1 : q.1.toList == key.toList with
    | true => simp [insK, h1]
    | false =>
      cases h2 : Op.bytesLess key.toList q.1.toList with
      | true => simp [insK, h1, h2]
      | false => simp [insK, h1, h2, ih]
theorem ins_swap {a b : ByteArray} (hne : a.toList ≠ b.toList) (v u : V) : ∀ l, insK a v (insK b u l) = insK b u (insK a v l)
  | [] => by
    have n1 : (b.toList == a.toList) = false := by simpa using fun e => hne e.symm
    have n2 : (a.toList == b.toList) = false := by simpa using hne
    rcases bl_tri a.toList b.toList with e | e | e
    · exact absurd e hne
    · have e' := bl_asym e
      simp [insK, n1, n2, e, e']
    · have e' := bl_asym e
      simp [insK, n1, n2, e, e']
  | q :: l => by
    have ih := ins_swap hne v u l
    have n1 : (b.toList == a.toList) = false := by simpa using fun e => hne e.symm
    have n2 : (a.toList == b.toList) = false := by simpa using hne
    cases qa : q.1.toList == a.toList with
    | true =>
      have ea : q.1.toList = a.toList := by simpa using qa
      have qb : (q.1.toList == b.toList) = false := by rw [ea]; exact n2
      rcases bl_tri a.toList b.toList with e | e | e
      · exact absurd e hne
      · have e' := bl_asym e
        have b2 : Op.bytesLess b.toList q.1.toList = false := by rw [ea]; exact e'
        simp [insK, qa, qb, b2, n2, e']
      · have e' := bl_asym e
        have b2 : Op.bytesLess b.toList q.1.toList = true := by rw [ea]; exact e
        simp [insK, qa, qb, b2, n2, e', n1, e]
    | false =>
      cases qb : q.1.toList == b.toList with
      | true =>
        have eb : q.1.toList = b.toList := by simpa using qb
        rcases bl_tri a.toList b.toList with e | e | e
        · exact absurd e hne
        · have e' := bl_asym e
          have a2 : Op.bytesLess a.toList q.1.toList = true := by rw [eb]; exact e
          simp [insK, qa, qb, a2, n2, e', n1, e]
        · have e' := bl_asym e
          have a2 : Op.bytesLess a.toList q.1.toList = false := by rw [eb]; exact e'
          simp [insK, qa, qb, a2, e', n1]
      | false =>
        cases ca : Op.bytesLess a.toList q.1.toList with
        | true =>
          cases cb : Op.bytesLess b.toList q.1.toList with
          | true =>
            rcases bl_tri a.toList b.toList with e | e | e
            · exact absurd e hne
            · have e' := bl_asym e
              simp [insK, qa, qb, ca, cb, n1, n2, e, e']
            · have e' := bl_asym e
              simp [insK, qa, qb, ca, cb, n1, n2, e, e']
          | false =>
            have hqb : Op.bytesLess q.1.toList b.toList = true := by
              rcases bl_tri q.1.toList b.toList with e | e | e
              · rw [e] at qb; simp at qb
              · exact e
              · rw [cb] at e; cases e
            have e := bl_trans _ _ _ ca hqb
            have e' := bl_asym e
            simp [insK, qa, qb, ca, cb, n2, e']
        | false =>
          cases cb : Op.bytesLess b.toList q.1.toList with
          | true =>
            have hqa : Op.bytesLess q.1.toList a.toList = true := by
              rcases bl_tri q.1.toList a.toList with e | e | e
              · rw [e] at qa; simp at qa
              · exact e
              · rw [ca] at e; cases e
            have e := bl_trans _ _ _ cb hqa
            have e' := bl_asym e
            simp [insK, qa, qb, ca, cb, n1, e']
          | false => simp [insK, qa, qb, ca, cb, ih]
end Go.Proofs.Ytciipggccjiaiaa
