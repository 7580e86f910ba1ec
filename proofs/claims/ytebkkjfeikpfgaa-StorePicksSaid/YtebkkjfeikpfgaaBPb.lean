/- Carried over from an earlier seat. -/
import Derived.Test.YtebkkjfeikpfgaaBPa
import Derived.Test.YtebkkjfeikpfgaaBOd
namespace Go.Proofs.Ytebkkjfeikpfgaa
set_option maxRecDepth 100000
open Go.RowKit Go.Sort
set_option maxRecDepth 100000

theorem map_id' {g : V → V} {l : List V} (h : ∀ x ∈ l, g x = x) : l.map g = l := by
  rw [List.map_congr_left h]; simp
theorem ok_same_copy : ∀ r s a, okV r a = true → r ≤ s → copyV s a = a
  | 0, _, _, h, _ => by simp [okV] at h
  | r + 1, 0, _, _, h => absurd h (by omega)
  | r + 1, s + 1, a, h, hs => by
    simp only [okV, Bool.and_eq_true] at h
    obtain ⟨⟨⟨_, h1⟩, h2⟩, _⟩ := h
    have e1 : a.l.map (copyV s) = a.l := map_id' fun x hx => ok_same_copy r s x (List.all_eq_true.1 h1 _ hx) (by omega)
    have e2 : a.m.map (copyV s) = a.m := map_id' fun x hx => ok_same_copy r s x (List.all_eq_true.1 h2 _ hx) (by omega)
    show V.mk a.k a.n a.s (a.l.map (copyV s)) (a.m.map (copyV s)) = a
    rw [e1, e2]; cases a; rfl
theorem plain_copy {t : V} (h : plainB t = true) : copyV 12 t = t := by
  unfold plainB at h
  simp only [Bool.and_eq_true] at h
  exact ok_same_copy 12 12 t h.2 (Nat.le_refl _)

abbrev KV := ByteArray × V
def okPrK (p : KV) : Bool := nameB p.1 && plainB p.2
def ltK (p q : KV) : Bool := Op.bytesLess p.1.toList q.1.toList
def okPsK (l : List KV) : Bool := decide (l.length ≤ 30) && (l.all okPrK && risG ltK l)
def okTV (t : TV) : Bool := decide (0 ≤ t.id) && (nameB t.label && okPsK t.l)
def idLtV (s t : TV) : Bool := decide (s.id < t.id)
def okTVs (most : Nat) (ts : List TV) : Bool := decide (ts.length ≤ most) && (ts.all okTV && risG idLtV ts)
def endTV (t : TV) : Bool := decide (t.o ≠ 0) || decide (t.i ≠ 0)
def idBV (id : Int) (t : TV) : Bool := t.id == id
def looseV (vs : List TV) (t : TV) : Bool := !vs.any (idBV t.o) || !vs.any (idBV t.i)
def okGV (vs es : List TV) : Bool := okTVs 500 vs && (!vs.any endTV && (okTVs 2000 es && !es.any (looseV vs)))
theorem risG_map {α β : Type} (f : β → β → Bool) (g : α → β) : ∀ l : List α, risG f (l.map g) = risG (fun a b => f (g a) (g b)) l
  | [] => rfl
  | [_] => rfl
  | a :: b :: r => by
    have := risG_map f g (b :: r)
    simp only [List.map_cons] at this ⊢
    simp only [risG, this]
theorem okPs_kv (l : List PA) : okPs l = okPsK (l.map PA.kv) := by
  unfold okPs okPsK
  rw [risG_map, List.all_map, List.length_map]; rfl
theorem okTh_tv (t : TA) : okTh t = okTV t.tv' := by
  unfold okTh okTV
  rw [okPs_kv]; rfl
theorem okThs_tv (most : Nat) (ts : List TA) : okThs most ts = okTVs most (ts.map TA.tv') := by
  unfold okThs okTVs
  rw [risG_map, List.all_map, List.length_map]
  congr 2
  exact List.all_congr rfl (fun t => okTh_tv t)
theorem okG_tv (vs es : List TA) : okG vs es = okGV (vs.map TA.tv') (es.map TA.tv') := by
  unfold okG okGV
  rw [okThs_tv, okThs_tv, List.any_map, List.any_map]
  congr 3
  congr 1
  refine congrArg (fun f => es.any f) (funext fun t => ?_)
  show looseB vs t = looseV (vs.map TA.tv') t.tv'
  unfold looseB looseV
  rw [List.any_map, List.any_map]; rfl
theorem cP_ok {p : KV} (h : okPrK p = true) : cP p = p := by
  unfold okPrK at h
  simp only [Bool.and_eq_true] at h
  unfold cP
  rw [plain_copy h.2]
theorem map_cP {l : List KV} (h : l.all okPrK = true) : l.map cP = l := by
  rw [List.map_congr_left (fun p hp => cP_ok (List.all_eq_true.1 h p hp))]; simp
theorem okTV_parts {t : TV} (h : okTV t = true) : 0 ≤ t.id ∧ nameB t.label = true ∧ t.l.length ≤ 30 ∧ t.l.all okPrK = true ∧ risG ltK t.l = true := by
  unfold okTV okPsK at h
  simp only [Bool.and_eq_true, decide_eq_true_eq] at h
  exact ⟨h.1, h.2.1, h.2.2.1, h.2.2.2.1, h.2.2.2.2⟩
theorem cT_ok {t : TV} (h : okTV t = true) : cT t = t := by
  unfold cT
  rw [map_cP (okTV_parts h).2.2.2.1]
theorem ctvs_ok {ts : List TA} (h : (ts.map TA.tv').all okTV = true) : ts.map TA.ctv = ts.map TA.tv' := by
  rw [ctvs_eq, List.map_congr_left (fun t ht => cT_ok (List.all_eq_true.1 h t ht))]; simp

end Go.Proofs.Ytebkkjfeikpfgaa

