/- What may be does not lie in a block of zeros; pairs in a row, one by one; what a map's key leads to. -/
import Derived.Test.YtdolejafihgpmaaYa
import Derived.Test.YtdolejafihgpmaaVd
import Derived.Test.YtdolejafihgpmaaOrd
namespace Go.Proofs.Ytdolejafihgpmaa
open Go.RowKit

theorem ok_kind {r : Nat} {t : V} (h : okV r t = true) : t.k ≠ 0 := by
  cases r with
  | zero => simp [okV] at h
  | succ r =>
    simp only [okV, Bool.and_eq_true] at h
    intro e
    have := h.1.1.1
    simp [fitsV, e] at this
theorem ok_l {r : Nat} {t x : V} (h : okV (r + 1) t = true) (hx : x ∈ t.l) : okV r x = true := by
  simp only [okV, Bool.and_eq_true] at h
  exact List.all_eq_true.1 h.1.1.2 _ hx
theorem ok_m {r : Nat} {t x : V} (h : okV (r + 1) t = true) (hx : x ∈ t.m) : okV r x = true := by
  simp only [okV, Bool.and_eq_true] at h
  exact List.all_eq_true.1 h.1.2 _ hx
theorem row_off {w : World} {g B : Nat} {u1 u2 u3 u4 : Value} (hz : Cell w g (.int .i64 0) u1 u2 u3 u4) (v0 v1 v2 v3 v4 : Value) {R R' : V → Option Addr → Nat → Option Addr → Nat → Prop} {A : Option Addr} {c : Nat} {l : List V}
    (hk : ∀ x ∈ l, x.k ≠ 0) (hR : ∀ x ∈ l, ∀ A1 c1 A2 c2, R x A1 c1 A2 c2 → R' x A1 c1 A2 c2) (h : RdRow w 0 B R A c l) : RdRow (put5 w g 0 v0 v1 v2 v3 v4) 0 B R' A c l := by
  refine ⟨h.le, h.cap, h.big, h.nil, fun h0 => ?_⟩
  obtain ⟨b, off, e, h1, h2, hc⟩ := h.at_ h0
  have hb : b ≠ g := fun e => by
    subst e
    obtain ⟨A1, c1, A2, c2, q, _⟩ := hc 0 l[0] (by rw [List.getElem?_eq_getElem h0])
    obtain ⟨cs, e1, e2⟩ := hz.blk
    have q4 := q.c4
    rw [cell_of_row w b _ cs 24 (0, 0) e1] at q4
    have := (Array.getElem?_eq_some_iff.1 q4).1
    obtain rfl : off = 0 := by omega
    have q0 := q.c0
    rw [show 0 + 0 * 5 = 0 from rfl, hz.c0] at q0
    injection q0 with q0
    injection q0 with _ q0
    exact hk l[0] (List.getElem_mem _) q0.symm
  have hk' := fun o => World.cell?_of_block (w := w) (w' := put5 w g 0 v0 v1 v2 v3 v4) (a := ⟨b, o, none⟩) (put5_far w g 0 v0 v1 v2 v3 v4 b hb)
  refine ⟨b, off, e, h1, h2, fun j t hj => ?_⟩
  obtain ⟨A1, c1, A2, c2, q, r⟩ := hc j t hj
  exact ⟨A1, c1, A2, c2, ⟨(hk' _).trans q.c0, (hk' _).trans q.c1, (hk' _).trans q.c2, (hk' _).trans q.c3, (hk' _).trans q.c4⟩, hR t (List.mem_of_getElem? hj) _ _ _ _ r⟩
/-- A value that may be does not lie in a block of zeros: it stays as that one is written over. -/
theorem rd_off {w : World} {g B : Nat} {u1 u2 u3 u4 : Value} (hz : Cell w g (.int .i64 0) u1 u2 u3 u4) (v0 v1 v2 v3 v4 : Value) : ∀ (d r : Nat) (t : V) (A : Option Addr) (c : Nat) (A' : Option Addr) (c' : Nat), okV r t = true → Rd w 0 B d t A c A' c' → Rd (put5 w g 0 v0 v1 v2 v3 v4) 0 B d t A c A' c'
  | 0, _, _, _, _, _, _, _, h => h.elim
  | _, 0, _, _, _, _, _, h, _ => by simp [okV] at h
  | d + 1, r + 1, t, A, c, A', c', h, ⟨hf, hl, hm⟩ =>
    ⟨hf, row_off hz v0 v1 v2 v3 v4 (fun x hx => ok_kind (ok_l h hx)) (fun x hx A1 c1 A2 c2 k => rd_off hz v0 v1 v2 v3 v4 d r x A1 c1 A2 c2 (ok_l h hx) k) hl,
      row_off hz v0 v1 v2 v3 v4 (fun x hx => ok_kind (ok_m h hx)) (fun x hx A1 c1 A2 c2 k => rd_off hz v0 v1 v2 v3 v4 d r x A1 c1 A2 c2 (ok_m h hx) k) hm⟩

theorem same_turn (a b : V) : (cmpV 12 a b == 0) = (cmpV 12 b a == 0) := by
  have := (ord_cmpV 12).anti a b
  rw [Bool.eq_iff_iff, beq_iff_eq, beq_iff_eq]; omega
/-- Scanning on. -/
def scan (x : V) (P : List (V × V)) (y : V) : V := P.foldl (fun acc q => if keyIs x q = true then q.2 else acc) y
theorem scan_next (x : V) (l : List V) (k : Nat) {a b y : V} (ha : l[k]? = some a) (hb : l[k + 1]? = some b) : scan x (pairUp (l.drop k)) y = scan x (pairUp (l.drop (k + 2))) (if (cmpV 12 x a == 0) = true then b else y) := by
  rw [pairUp_next l k ha hb, same_turn x a]; rfl
theorem pair_end (l : List V) (k : Nat) (h : l.length ≤ k + 1) : pairUp (l.drop k) = [] := by
  have : (l.drop k).length ≤ 1 := by rw [List.length_drop]; omega
  match l.drop k, this with
  | [], _ => rfl
  | [_], _ => rfl
  | _ :: _ :: _, h => simp at h
/-- What a key of a row leads to. -/
structure Leads (M x : V) (y : V) : Prop where
  val : ∃ v, findV M x = some v ∧ okV 11 v = true ∧ cmpV 12 v y = 0
theorem find_elem {M x v : V} (h : findV M x = some v) : ∃ u ∈ M.m, v = copyV 12 u := by
  unfold findV at h
  by_cases e : M.k = 7
  · rw [if_pos e] at h
    dsimp only at h
    split at h
    · cases h
    · obtain ⟨u, hu, rfl⟩ := Option.map_eq_some_iff.1 h
      exact ⟨u, List.mem_of_getElem? hu, rfl⟩
  · rw [if_neg e] at h; cases h
theorem leads_of {l : List V} {M : V} (h : KeysOk l M) (Q : List (V × V)) (i : Nat) {x y : V} (hx : l[i]? = some x) (hy : l[i + 1]? = some y) (hQ : pairUp l = Q ++ pairUp (l.drop i)) : Leads M x (scan x (pairUp (l.drop (i + 2))) y) := by
  have e : lastOf (pairUp l) x = some (scan x (pairUp (l.drop (i + 2))) y) := by
    rw [hQ, pairUp_next l i hx hy]
    exact lastOf_from Q _ x y (x, y) (by simp [keyIs, (ord_cmpV 12).refl])
  have hf : findV M x = some (copyV 12 (scan x (pairUp (l.drop (i + 2))) y)) := by rw [h.find x, e]; rfl
  obtain ⟨u, hu, eu⟩ := find_elem hf
  have h11 : okV 11 u = true := ok_m h.ok hu
  exact ⟨⟨_, hf, by rw [eu, ok_copy 11 12 u (by omega)]; exact h11, cmp_copy 12 12 _ (Nat.le_refl _)⟩⟩
theorem came_of {l : List V} {M key : V} (h : KeysOk l M) : (findV M key).isSome = (pairUp l).any (keyIs key) := by
  rw [h.find key, Option.isSome_map, lastOf_some]
end Go.Proofs.Ytdolejafihgpmaa
