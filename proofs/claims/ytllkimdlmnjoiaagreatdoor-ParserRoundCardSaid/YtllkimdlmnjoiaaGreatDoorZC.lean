/- Carried over from an earlier seat. -/
import Derived.Test.YtllkimdlmnjoiaaGreatDoorELG
import Derived.ProofKit
import Derived.OpenShut
import Derived.SizedLaws
import Derived.ChangeSame
import Derived.Deep.Slices
import Derived.Test.YtllkimdlmnjoiaaGreatDoorYD
namespace Go.Proofs.YtllkimdlmnjoiaaGreatDoor.E8
set_option maxRecDepth 100000
set_option maxRecDepth 100000
set_option maxRecDepth 100000
open Go.RowKit Go.ChangeShapes Go.WideShapes Go.ChangeAt Go.Deep
set_option maxRecDepth 100000

section
variable {H : Type} {enc : TypeId × Value → H} {W : World} {base : Nat} {spare : Nat → Bool} {held : Bool}
/-- No slice and no text of it is too great for a machine. -/
def Sized (d : DataW H) (t : TypeId) : Prop := ∀ n ∈ d.weights Tryz.prog t, n ≤ 140737488351232
theorem weightsAll_mem {e : TypeId} : ∀ {l : List (DataW H)} {d : DataW H}, d ∈ l → ∀ n ∈ d.weights Tryz.prog e, n ∈ DataW.weightsAll Tryz.prog e l
  | d' :: r, d, hd, n, hn => by
    simp only [DataW.weightsAll, List.mem_append]
    rcases List.mem_cons.1 hd with rfl | h
    · exact Or.inl hn
    · exact Or.inr (weightsAll_mem h n hn)
end
end Go.Proofs.YtllkimdlmnjoiaaGreatDoor.E8
namespace Go.Proofs.YtllkimdlmnjoiaaGreatDoor.E8
set_option maxRecDepth 100000
set_option maxRecDepth 100000
set_option maxRecDepth 100000
open Go.RowKit Go.ChangeShapes Go.WideShapes Go.ChangeAt Go.Deep
set_option maxRecDepth 100000
section
variable {H : Type} {enc : TypeId × Value → H} {W : World} {base : Nat} {spare : Nat → Bool} {held : Bool}
theorem sized_cons {t : TypeId} {ts : List TypeId} {d : DataW H} {ds : List (DataW H)} (h : (DataW.weightsEach Tryz.prog (t :: ts) (d :: ds)).all (· ≤ reachBytes) = true) : Sized d t ∧ (DataW.weightsEach Tryz.prog ts ds).all (· ≤ reachBytes) = true := by
  rw [DataW.weightsEach, List.all_append, Bool.and_eq_true] at h
  refine ⟨fun n hn => ?_, h.2⟩
  have := List.all_eq_true.1 h.1 n hn
  exact of_decide_eq_true this
end
end Go.Proofs.YtllkimdlmnjoiaaGreatDoor.E8


namespace Go.Proofs.YtllkimdlmnjoiaaGreatDoor.E8
set_option maxRecDepth 100000
set_option maxRecDepth 100000
set_option maxRecDepth 100000
open Go.RowKit Go.ChangeShapes Go.WideShapes Go.ChangeAt Go.Deep
set_option maxRecDepth 100000

section
variable {H : Type} {enc : TypeId × Value → H} {W : World} {base : Nat} {spare : Nat → Bool} {held : Bool}
/-- A row that came in, whatever its elements are. -/
theorem rows_open {t e : TypeId} {size bytes : Nat} (ht : Tryz.prog.underlying t = some (.slice e)) (hcell : Tryz.prog.cellsOf e = size) (hby : Tryz.prog.bytesOf e = bytes) (hs0 : 0 < size) (_hb0 : 0 < bytes) {α : Type} {n : Nat} (E : List Value → α → Prop) (hE : ∀ cs a, E cs a → cs.length = size)
    (ih : ∀ (cs : List Value) (x : DataW H × List MemPlace), DataW.trod enc Tryz.prog W base spare held n e cs = some x → Sized x.1 e → ∃ a, E cs a)
    {v : Value} {x : DataW H × List MemPlace} (h : DataW.trod enc Tryz.prog W base spare held (n + 1) t [v] = some x) (hs : Sized x.1 t) :
    ∃ (A : Option Addr) (c : Nat) (l : List α), v = .slice A l.length c ∧ l.length ≤ c ∧ c ≤ maxLen ∧ l.length * bytes ≤ 140737488351232 ∧ (A = none → c = 0) ∧ (0 < l.length → ∃ b off, A = some ⟨b, off, none⟩ ∧ b < W.heap.size ∧ ∀ (j : Nat) (a : α), l[j]? = some a → ∃ cs, E cs a ∧ ∀ m u, cs[m]? = some u → W.cell? ⟨b, off + j * size + m, none⟩ = some u) ∧ ∀ a ∈ l, ∃ cs, E cs a := by
  rcases DataW.trod_slice ht h with ⟨hv, _⟩ | ⟨a, len, cap, elems, rest, n', hn, hv, hx, hb, hl, hm, hlen, hel, _, _⟩
  · injection hv with hv
    exact ⟨none, 0, [], hv, Nat.le_refl _, by unfold maxLen; omega, by simp, fun _ => rfl, fun h => absurd h (by simp), fun a ha => by cases ha⟩
  · obtain rfl : n' = n := by omega
    injection hv with hv
    subst hx
    have hw : ∀ m ∈ (DataW.slice (elems.map (·.1)) (rest.map (·.1)) : DataW H).weights Tryz.prog t, m ≤ 140737488351232 := hs
    simp only [DataW.weights, ht, List.mem_cons, List.mem_append] at hw
    have h80 := hw _ (.inl rfl)
    rw [hby] at h80
    simp only [List.length_map] at h80
    have hone : ∀ i, i < len → ∃ cs' a', W.cells? base (a.add (i * size)) size = some cs' ∧ E cs' a' := fun i hi => by
      have hb := hel i hi
      rw [hcell, List.getElem?_eq_getElem (by omega)] at hb
      obtain ⟨cs', h1, h2⟩ := Option.bind_eq_some_iff.1 hb
      obtain ⟨a', e⟩ := ih cs' _ h2 (fun m hm => hw m (.inr (.inl (weightsAll_mem (List.mem_map_of_mem (List.getElem_mem _)) m hm))))
      exact ⟨cs', a', h1, e⟩
    have hspot : 0 < len → a.spot = none ∧ a.block < W.heap.size := fun h0 => by
      obtain ⟨cs', a', h1, e⟩ := hone 0 h0
      have hl' := hE _ _ e
      have h3 := (World.cells?_some h1).2.2 0 (by omega)
      rw [List.getElem?_eq_getElem (by omega)] at h3
      have e0 : (a.add (0 * size)).add 0 = a := by unfold Addr.add; simp
      rw [e0] at h3
      exact ⟨World.cell?_spot h3, World.block_lt_of_cell? W _ h3⟩
    have hall : ∀ k, k ≤ len → ∃ l : List α, l.length = k ∧ ∀ j a', l[j]? = some a' → ∃ cs, W.cells? base (a.add (j * size)) size = some cs ∧ E cs a' := fun k => by
      induction k with
      | zero => exact fun _ => ⟨[], rfl, fun j t h => by simp at h⟩
      | succ k ihk =>
        intro hk
        obtain ⟨l, h1, h2⟩ := ihk (by omega)
        obtain ⟨cs', a', h3, e⟩ := hone k (by omega)
        refine ⟨l ++ [a'], by simp [h1], fun j u hj => ?_⟩
        rcases Nat.lt_or_ge j l.length with hlt | hge
        · rw [List.getElem?_append_left hlt] at hj
          exact h2 j u hj
        · have := (List.getElem?_eq_some_iff.1 hj).1
          simp at this
          obtain rfl : j = l.length := by omega
          simp at hj
          subst hj
          rw [h1]
          exact ⟨cs', h3, e⟩
    obtain ⟨l, h1, h2⟩ := hall len (Nat.le_refl _)
    refine ⟨some a, cap, l, by rw [h1]; exact hv, by omega, hm, by rw [h1]; exact Nat.le_trans (Nat.mul_le_mul_right bytes (by omega)) h80, (fun e => by cases e), fun h0 => ?_, fun a' ha => ?_⟩
    · obtain ⟨hsp, hbl⟩ := hspot (by omega)
      obtain ⟨b, off, spot⟩ := a
      obtain rfl : spot = none := hsp
      refine ⟨b, off, rfl, hbl, fun j a' hj => ?_⟩
      obtain ⟨cs, h3, e⟩ := h2 j a' hj
      refine ⟨cs, e, fun m u hu => ?_⟩
      have hlt := (List.getElem?_eq_some_iff.1 hu).1
      have hc := (World.cells?_some h3).2.2 m (by have := hE _ _ e; omega)
      rw [add_none, add_none, hu] at hc
      exact hc
    · obtain ⟨j, hj⟩ := List.mem_iff_getElem?.1 ha
      obtain ⟨cs, _, e⟩ := h2 j a' hj
      exact ⟨cs, e⟩
theorem cells5p : Tryz.prog.cellsOf 5 = 1 := by kernel_rfl
theorem bytes5p : Tryz.prog.bytesOf 5 = 1 := by kernel_rfl
/-- Bytes that came in. -/
theorem open_bytes {b0 : Nat} {v : Value} {d : DataW H} {ps : List MemPlace} (hv : Value.okWide Tryz.prog W .any b0 31 v) (h : DataW.Trod enc Tryz.prog W base spare held 31 v d ps) (hs : Sized d 31) : ∃ A c l, v = .slice A (List.length (α := UInt8) l) c ∧ BRow W A c l := by
  obtain ⟨a, len, cap, rfl⟩ := okWide_slice Tryz.underlying31 hv
  obtain ⟨n, hf⟩ := h
  cases n with
  | zero => simp [DataW.trod] at hf
  | succ n =>
    have hf' : DataW.trod enc Tryz.prog W base spare held (n + 1) 31 [.slice a len cap] = some (d, ps) := hf
    obtain ⟨A, c, l, e, h1, h2, h3, h4, h5, h6⟩ := rows_open Tryz.underlying31 cells5p bytes5p (by omega) (by omega) (fun cs (s : UInt8) => cs = [u8v s]) (fun cs a e => by rw [e]; rfl) (fun cs x hx _ => by
      obtain ⟨s, e0, _, hw⟩ := DataW.trod_int Tryz.underlying5 hx
      have hb := bounds_u8 hw
      refine ⟨UInt8.ofNat s.toNat, ?_⟩
      rw [e0]
      unfold u8v
      rw [show ((UInt8.ofNat s.toNat).toNat : Int) = s by simp; omega]) hf' hs
    refine ⟨A, c, l, e, ⟨h1, h2, h4, fun h0 => ?_⟩⟩
    obtain ⟨b, off, e, hb, hc⟩ := h5 h0
    refine ⟨b, off, e, hb, fun j s hj => ?_⟩
    obtain ⟨cs, rfl, hcs⟩ := hc j s hj
    have := hcs 0 _ rfl
    rwa [Nat.mul_one] at this
end
end Go.Proofs.YtllkimdlmnjoiaaGreatDoor.E8

/- What is read is a query that may be, and its text is not much longer (plain). -/
namespace Go.Proofs.YtllkimdlmnjoiaaGreatDoor
set_option maxRecDepth 100000
open Go.RowKit Go.Sort

theorem kind_name {t : Tk} (h : kindT t ≠ 0) : t.k = 1 ∧ 1 ≤ kindT t ∧ kindT t ≤ 14 ∧ t.s = nameP (kindT t) := by
  by_cases hk : t.k = 1
  case neg => exact absurd (by unfold kindT; rw [if_pos hk]) h
  by_cases h1 : t.s = [101, 113]
  · have e : kindT t = 1 := by
      unfold kindT
      rw [if_neg (fun n => n hk), if_pos h1]
    rw [e]; exact ⟨hk, by omega, by omega, h1⟩
  by_cases h2 : t.s = [110, 101, 113]
  · have e : kindT t = 2 := by
      unfold kindT
      rw [if_neg (fun n => n hk), if_neg h1, if_pos h2]
    rw [e]; exact ⟨hk, by omega, by omega, h2⟩
  by_cases h3 : t.s = [108, 116]
  · have e : kindT t = 3 := by
      unfold kindT
      rw [if_neg (fun n => n hk), if_neg h1, if_neg h2, if_pos h3]
    rw [e]; exact ⟨hk, by omega, by omega, h3⟩
  by_cases h4 : t.s = [108, 116, 101]
  · have e : kindT t = 4 := by
      unfold kindT
      rw [if_neg (fun n => n hk), if_neg h1, if_neg h2, if_neg h3, if_pos h4]
    rw [e]; exact ⟨hk, by omega, by omega, h4⟩
  by_cases h5 : t.s = [103, 116]
  · have e : kindT t = 5 := by
      unfold kindT
      rw [if_neg (fun n => n hk), if_neg h1, if_neg h2, if_neg h3, if_neg h4, if_pos h5]
    rw [e]; exact ⟨hk, by omega, by omega, h5⟩
  by_cases h6 : t.s = [103, 116, 101]
  · have e : kindT t = 6 := by
      unfold kindT
      rw [if_neg (fun n => n hk), if_neg h1, if_neg h2, if_neg h3, if_neg h4, if_neg h5, if_pos h6]
    rw [e]; exact ⟨hk, by omega, by omega, h6⟩
  by_cases h7 : t.s = [98, 101, 116, 119, 101, 101, 110]
  · have e : kindT t = 7 := by
      unfold kindT
      rw [if_neg (fun n => n hk), if_neg h1, if_neg h2, if_neg h3, if_neg h4, if_neg h5, if_neg h6, if_pos h7]
    rw [e]; exact ⟨hk, by omega, by omega, h7⟩
  by_cases h8 : t.s = [105, 110, 115, 105, 100, 101]
  · have e : kindT t = 8 := by
      unfold kindT
      rw [if_neg (fun n => n hk), if_neg h1, if_neg h2, if_neg h3, if_neg h4, if_neg h5, if_neg h6, if_neg h7, if_pos h8]
    rw [e]; exact ⟨hk, by omega, by omega, h8⟩
  by_cases h9 : t.s = [111, 117, 116, 115, 105, 100, 101]
  · have e : kindT t = 9 := by
      unfold kindT
      rw [if_neg (fun n => n hk), if_neg h1, if_neg h2, if_neg h3, if_neg h4, if_neg h5, if_neg h6, if_neg h7, if_neg h8, if_pos h9]
    rw [e]; exact ⟨hk, by omega, by omega, h9⟩
  by_cases h10 : t.s = [119, 105, 116, 104, 105, 110]
  · have e : kindT t = 10 := by
      unfold kindT
      rw [if_neg (fun n => n hk), if_neg h1, if_neg h2, if_neg h3, if_neg h4, if_neg h5, if_neg h6, if_neg h7, if_neg h8, if_neg h9, if_pos h10]
    rw [e]; exact ⟨hk, by omega, by omega, h10⟩
  by_cases h11 : t.s = [119, 105, 116, 104, 111, 117, 116]
  · have e : kindT t = 11 := by
      unfold kindT
      rw [if_neg (fun n => n hk), if_neg h1, if_neg h2, if_neg h3, if_neg h4, if_neg h5, if_neg h6, if_neg h7, if_neg h8, if_neg h9, if_neg h10, if_pos h11]
    rw [e]; exact ⟨hk, by omega, by omega, h11⟩
  by_cases h12 : t.s = [110, 111, 116]
  · have e : kindT t = 12 := by
      unfold kindT
      rw [if_neg (fun n => n hk), if_neg h1, if_neg h2, if_neg h3, if_neg h4, if_neg h5, if_neg h6, if_neg h7, if_neg h8, if_neg h9, if_neg h10, if_neg h11, if_pos h12]
    rw [e]; exact ⟨hk, by omega, by omega, h12⟩
  by_cases h13 : t.s = [97, 110, 100]
  · have e : kindT t = 13 := by
      unfold kindT
      rw [if_neg (fun n => n hk), if_neg h1, if_neg h2, if_neg h3, if_neg h4, if_neg h5, if_neg h6, if_neg h7, if_neg h8, if_neg h9, if_neg h10, if_neg h11, if_neg h12, if_pos h13]
    rw [e]; exact ⟨hk, by omega, by omega, h13⟩
  by_cases h14 : t.s = [111, 114]
  · have e : kindT t = 14 := by
      unfold kindT
      rw [if_neg (fun n => n hk), if_neg h1, if_neg h2, if_neg h3, if_neg h4, if_neg h5, if_neg h6, if_neg h7, if_neg h8, if_neg h9, if_neg h10, if_neg h11, if_neg h12, if_neg h13, if_pos h14]
    rw [e]; exact ⟨hk, by omega, by omega, h14⟩
  · exact absurd (by unfold kindT; rw [if_neg (fun n => n hk), if_neg h1, if_neg h2, if_neg h3, if_neg h4, if_neg h5, if_neg h6, if_neg h7, if_neg h8, if_neg h9, if_neg h10, if_neg h11, if_neg h12, if_neg h13, if_neg h14]) h
theorem kind_not {t : Tk} (hk : t.k = 1) (h : kindT t = 0) (hne : t.s ≠ []) : namesB.any (fun n => t.s == n) = false := by
  have no : ∀ k : Int, 1 ≤ k → k ≤ 14 → t.s ≠ nameP k := fun k k1 k2 e => by
    have e' : erK ⟨t.k, 0, t.s, 0⟩ = nmK (nameP k) := by rw [hk, e]; rfl
    have := kind_back k1 k2 e'
    have e2 : kindT t = kindT ⟨t.k, 0, t.s, 0⟩ := rfl
    rw [e2, this] at h; omega
  unfold namesB
  simp only [List.any_cons, List.any_nil, Bool.or_eq_false_iff, beq_eq_false_iff_ne]
  exact ⟨hne, no 1 (by omega) (by omega), no 2 (by omega) (by omega), no 3 (by omega) (by omega), no 4 (by omega) (by omega), no 5 (by omega) (by omega), no 6 (by omega) (by omega), no 7 (by omega) (by omega), no 8 (by omega) (by omega), no 9 (by omega) (by omega), no 10 (by omega) (by omega), no 11 (by omega) (by omega), no 12 (by omega) (by omega), no 13 (by omega) (by omega), no 14 (by omega) (by omega), trivial⟩
/-- How much is printed of a token. -/
def tl (t : Tk) : Nat := if t.k = 2 then (digL t.n).length else if t.k = 3 then (qT t.s).length else t.s.length
def Wt (l : List Tk) : Nat := (l.map fun t => 2 * tl t).sum
theorem Wt_cons (t : Tk) (l : List Tk) : Wt (t :: l) = 2 * tl t + Wt l := by unfold Wt; rw [List.map_cons, List.sum_cons]
/-- A text that is a token may be a value. -/
def TkK (l : List Tk) : Prop := ∀ t ∈ l, t.k = 3 → t.s.length ≤ 1000 ∧ ∀ c ∈ t.s, 32 ≤ c.toNat
theorem TkK.tail {t : Tk} {l : List Tk} (h : TkK (t :: l)) : TkK l := fun x hx => h x (by simp [hx])
theorem TkK.suf {l ts l2 : List Tk} (h : TkK l) (e : l = ts ++ l2) : TkK l2 := fun x hx => h x (by rw [e]; simp [hx])
def Sf (l l2 : List Tk) : Prop := ∃ ts, l = ts ++ l2
theorem Sf.refl (l : List Tk) : Sf l l := ⟨[], rfl⟩
theorem Sf.trans {a b c : List Tk} (h : Sf a b) (k : Sf b c) : Sf a c := by
  obtain ⟨x, rfl⟩ := h
  obtain ⟨y, rfl⟩ := k
  exact ⟨x ++ y, by simp⟩
theorem Sf.tl (l : List Tk) : Sf l l.tail := by
  cases l with
  | nil => exact Sf.refl _
  | cons t l => exact ⟨[t], rfl⟩
theorem Sf.cons (t : Tk) (l : List Tk) : Sf (t :: l) l := ⟨[t], rfl⟩
theorem TkK.sf {l l2 : List Tk} (h : TkK l) (k : Sf l l2) : TkK l2 := by obtain ⟨ts, e⟩ := k; exact h.suf e
/-- What is read is so; what is not read is wrong somewhere in the row. -/
def Sd {α : Type} (l : List Tk) (Q : α → List Tk → Nat → Prop) : Rs α → Prop
  | .ok x l2 n2 => Sf l l2 ∧ Q x l2 n2
  | .bad l2 _ e => Sf l l2 ∧ e ≠ 0
theorem Sd.up {α : Type} {l l' : List Tk} {Q Q' : α → List Tk → Nat → Prop} {r : Rs α} (h : Sd l' Q r) (hs : Sf l l') (hq : ∀ x l2 n2, Sf l' l2 → Q x l2 n2 → Q' x l2 n2) : Sd l Q' r := by
  cases r with
  | ok x l2 n2 => exact ⟨hs.trans h.1, hq _ _ _ h.1 h.2⟩
  | bad l2 n2 e => exact ⟨hs.trans h.1, h.2⟩
theorem Sd.map {α β : Type} {l l' : List Tk} {Q : α → List Tk → Nat → Prop} {Q' : β → List Tk → Nat → Prop} {r : Rs α} (f : α → β) (h : Sd l' Q r) (hs : Sf l l') (hq : ∀ x l2 n2, Sf l' l2 → Q x l2 n2 → Q' (f x) l2 n2) : Sd l Q' (r.map f) := by
  cases r with
  | ok x l2 n2 => exact ⟨hs.trans h.1, hq _ _ _ h.1 h.2⟩
  | bad l2 n2 e => exact ⟨hs.trans h.1, h.2⟩
theorem sees_W {l : List Tk} {c : UInt8} (h : sees l [c] = true) : ∃ t l', l = t :: l' ∧ Wt l = 2 + Wt l' := by
  cases l with
  | nil => cases h
  | cons t l =>
    have h' : (t.k == 4 && t.s == [c]) = true := h
    rw [Bool.and_eq_true, beq_iff_eq, beq_iff_eq] at h'
    refine ⟨t, l, rfl, ?_⟩
    rw [Wt_cons]
    have : tl t = 1 := by unfold tl; rw [if_neg (by omega), if_neg (by omega), h'.2]; rfl
    omega
theorem items_snoc {α : Type} (f : α → List UInt8) (x : α) : ∀ (l : List α) (i : Nat), (itemsT f i (l ++ [x])).length = (itemsT f i l).length + (if 0 < i + l.length then 2 else 0) + (f x).length
  | [], i => by
    show (((if 0 < i then [44, 32] else []) ++ f x) ++ ([] : List UInt8)).length = _
    by_cases h : 0 < i
    · rw [if_pos h, if_pos (by simpa using h)]; simp [itemsT]; omega
    · rw [if_neg h, if_neg (by simpa using h)]; simp [itemsT]
  | y :: l, i => by
    have h1 := items_snoc f x l (i + 1)
    rw [if_pos (by omega)] at h1
    rw [if_pos (show 0 < i + (y :: l).length by rw [List.length_cons]; omega)]
    show (((if 0 < i then [44, 32] else []) ++ f y) ++ itemsT f (i + 1) (l ++ [x])).length = (((if 0 < i then [44, 32] else []) ++ f y) ++ itemsT f (i + 1) l).length + 2 + (f x).length
    have app : ∀ a b : List UInt8, (a ++ b).length = a.length + b.length := fun a b => List.length_append
    rw [app _ (itemsT f (i + 1) (l ++ [x])), app _ (itemsT f (i + 1) l), h1]
    omega
theorem sum_snoc {α : Type} (f : α → Nat) (l : List α) (x : α) : ((l ++ [x]).map f).sum = (l.map f).sum + f x := by
  rw [← sumL_map, ← sumL_map, sumL_append]; simp [sumL]
theorem btl_snd {α : Type} (f : α → List UInt8) (cost : α → Nat) (ok : α → Prop) (last : UInt8) (a : Int) (m : Bool) (lim : Nat) (rd : Nat → List Tk → Nat → Rs α) (hm : m = true ∨ 1 ≤ a)
    (hrd : ∀ i l n, i ≤ lim → TkK l → n ≤ 200 → Sd l (fun x l2 n2 => i < lim ∧ ok x ∧ (f x).length + Wt l2 ≤ Wt l ∧ n2 = n + cost x ∧ n2 ≤ 200) (rd i l n)) :
    ∀ (fu : Nat) (acc : List α) (l : List Tk) (n : Nat), TkK l → n ≤ 200 → acc.length ≤ lim → (∀ x ∈ acc, ok x) → (m = true ∨ (acc.length : Int) ≤ a) →
      Sd l (fun xs l2 n2 => a ≤ (xs.length : Int) ∧ xs.length ≤ lim ∧ (m = true ∨ (xs.length : Int) ≤ a) ∧ (∀ x ∈ xs, ok x) ∧ (itemsT f 0 xs).length + 2 + Wt l2 ≤ Wt l + (itemsT f 0 acc).length ∧ n2 + (acc.map cost).sum = n + (xs.map cost).sum ∧ n2 ≤ 200) (btl [last] a m rd fu acc l n) := by
  intro fu
  induction fu with
  | zero => intro acc l n _ _ _ _ _; exact ⟨Sf.refl _, by decide⟩
  | succ fu ih =>
    intro acc l n hk hn hlim hok hma
    unfold btl
    by_cases h1 : (decide (a ≤ (acc.length : Int)) && sees l [last]) = true
    · rw [if_pos h1]
      rw [Bool.and_eq_true, decide_eq_true_eq] at h1
      obtain ⟨t, l', rfl, hw⟩ := sees_W h1.2
      exact ⟨Sf.cons _ _, h1.1, hlim, hma, hok, by rw [hw, List.tail_cons]; omega, rfl, hn⟩
    rw [if_neg h1]
    by_cases h2 : (decide (0 < acc.length) && !((decide ((acc.length : Int) < a) || m) && sees l [44])) = true
    · rw [if_pos h2]
      exact ⟨Sf.refl _, by decide⟩
    rw [if_neg h2]
    obtain ⟨l1, hl1⟩ : ∃ l1, l1 = (if 0 < acc.length then l.tail else l) := ⟨_, rfl⟩
    have hs1 : Sf l l1 := by
      rw [hl1]; split
      · exact Sf.tl l
      · exact Sf.refl l
    have hw1 : (if 0 < 0 + acc.length then 2 else 0) + Wt l1 ≤ Wt l := by
      rw [hl1]
      by_cases h0 : 0 < acc.length
      · rw [if_pos (by omega), if_pos h0]
        have : ((decide ((acc.length : Int) < a) || m) && sees l [44]) = true := by
          cases hb : ((decide ((acc.length : Int) < a) || m) && sees l [44])
          · rw [hb] at h2; exact absurd (by simpa using h0) h2
          · rfl
        rw [Bool.and_eq_true] at this
        obtain ⟨t, l', rfl, hw⟩ := sees_W this.2
        rw [hw, List.tail_cons]; omega
      · rw [if_neg (by omega), if_neg h0]; omega
    have hma' : m = true ∨ ((acc.length : Int) + 1) ≤ a := by
      rcases hm with h | h
      · exact .inl h
      · by_cases h0 : 0 < acc.length
        · have : ((decide ((acc.length : Int) < a) || m) && sees l [44]) = true := by
            cases hb : ((decide ((acc.length : Int) < a) || m) && sees l [44])
            · rw [hb] at h2; exact absurd (by simpa using h0) h2
            · rfl
          rw [Bool.and_eq_true, Bool.or_eq_true, decide_eq_true_eq] at this
          rcases this.1 with h | h
          · right; omega
          · exact .inl h
        · right; omega
    rw [← hl1]
    have hR := hrd acc.length l1 n hlim (hk.sf hs1) hn
    cases hr : rd acc.length l1 n with
    | bad l2 n2 e =>
      rw [hr] at hR
      exact ⟨hs1.trans hR.1, hR.2⟩
    | ok x l2 n2 =>
      rw [hr] at hR
      obtain ⟨hsf, hlt, hx, hw, hn2, hn3⟩ := hR
      have hI := ih (acc ++ [x]) l2 n2 ((hk.sf hs1).sf hsf) hn3 (by simp; omega) (fun y hy => by
        rcases List.mem_append.1 hy with h | h
        · exact hok y h
        · rw [List.mem_singleton.1 h]; exact hx) (by rcases hma' with h | h; exact .inl h; right; simp; omega)
      refine hI.up (hs1.trans hsf) ?_
      intro xs l3 n3 _ ⟨q1, q2, q3, q4, q5, q6, q7⟩
      rw [items_snoc] at q5
      rw [sum_snoc] at q6
      exact ⟨q1, q2, q3, q4, by omega, by omega, q7⟩
theorem btw_snd {α : Type} (f : α → List UInt8) (cost : α → Nat) (ok : α → Prop) (first last : UInt8) (a : Int) (m : Bool) (lim : Nat) (rd : Nat → List Tk → Nat → Rs α) (hm : m = true ∨ 1 ≤ a)
    (hrd : ∀ i l n, i ≤ lim → TkK l → n ≤ 200 → Sd l (fun x l2 n2 => i < lim ∧ ok x ∧ (f x).length + Wt l2 ≤ Wt l ∧ n2 = n + cost x ∧ n2 ≤ 200) (rd i l n))
    (l : List Tk) (n : Nat) (hk : TkK l) (hn : n ≤ 200) :
      Sd l (fun xs l2 n2 => a ≤ (xs.length : Int) ∧ xs.length ≤ lim ∧ (m = true ∨ (xs.length : Int) ≤ a) ∧ (∀ x ∈ xs, ok x) ∧ (itemsT f 0 xs).length + 4 + Wt l2 ≤ Wt l ∧ n2 = n + (xs.map cost).sum ∧ n2 ≤ 200) (btw [first] [last] a m rd l n) := by
  unfold btw
  by_cases h1 : sees l [first] = true
  · rw [if_pos h1]
    obtain ⟨t, l', rfl, hw⟩ := sees_W h1
    refine (btl_snd f cost ok last a m lim rd hm hrd _ [] l' n hk.tail hn (by simp) (fun x hx => by cases hx) ?_).up (Sf.cons _ _) ?_
    · rcases hm with h | h
      · exact .inl h
      · right; simp; omega
    · intro xs l2 n2 _ ⟨q1, q2, q3, q4, q5, q6, q7⟩
      have e : (itemsT f 0 ([] : List α)).length = 0 := rfl
      rw [e] at q5
      exact ⟨q1, q2, q3, q4, by omega, by simpa using q6, q7⟩
  · rw [if_neg h1]
    exact ⟨Sf.refl _, by decide⟩
/-- What is read as a value may be one, and is written. -/
theorem val_snd : ∀ (r : Nat) (l : List Tk) (n : Nat), TkK l → n ≤ 200 → Sd l (fun v l2 n2 => (okV r v = true ∧ wrV r v = true) ∧ (txV r v).length + Wt l2 ≤ Wt l ∧ n2 = n + 0 ∧ n2 ≤ 200) (valT r l n) := by
  intro r
  induction r with
  | zero =>
    intro l n _ _
    unfold valT
    split <;> exact ⟨Sf.refl _, by decide⟩
  | succ r ih =>
    intro l n hk hn
    unfold valT
    by_cases hb : begV (hdT l) = true
    case neg => rw [if_neg hb]; exact ⟨Sf.refl _, by decide⟩
    rw [if_pos hb]
    cases l with
    | nil => cases hb
    | cons t l =>
    have hb' : begV t = true := hb
    by_cases h4 : t.k = 4
    · rw [if_pos (show (hdT (t :: l)).k = 4 from h4)]
      refine (btw_snd (txV r) (fun _ => 0) (fun v => okV r v = true ∧ wrV r v = true) 91 93 0 true 1000 (rdV (valT r)) (.inl rfl) ?_ (t :: l) n hk hn).map _ (Sf.refl _) ?_
      · intro i l n hi hk hn
        unfold rdV
        by_cases h : i = 1000
        · rw [if_pos h]; exact ⟨Sf.refl _, tmE_ne l⟩
        · rw [if_neg h]
          exact (ih l n hk hn).up (Sf.refl _) fun v l2 n2 _ ⟨q1, q2, q3, q4⟩ => ⟨by omega, q1, q2, q3, q4⟩
      · intro vs l2 n2 _ ⟨q1, q2, q3, q4, q5, q6, q7⟩
        rw [cost0] at q6
        refine ⟨⟨?_, ?_⟩, ?_, q6, q7⟩
        · have hf : fitsV (.mk 6 0 ⟨#[]⟩ vs []) = true := by
            show ((0 : Int) == 0 && (⟨#[]⟩ : ByteArray).toList.isEmpty && decide (vs.length ≤ 1000) && (([] : List V).length == 0)) = true
            rw [nil_bytes, decide_eq_true q2]
            rfl
          show (fitsV (.mk 6 0 ⟨#[]⟩ vs []) && vs.all (okV r) && ([] : List V).all (okV r) && ((6 : Int) != 7 || risesV vs)) = true
          rw [hf, List.all_eq_true.2 (fun x hx => (q4 x hx).1)]
          rfl
        · show vs.all (wrV r) = true
          exact List.all_eq_true.2 (fun x hx => (q4 x hx).2)
        · show ([91] ++ (itemsT (txV r) 0 vs ++ [93]) : List UInt8).length + _ ≤ _
          rw [List.length_append, List.length_append]
          simp only [List.length_cons, List.length_nil]
          omega
    · rw [if_neg (show ¬ (hdT (t :: l)).k = 4 from h4)]
      refine ⟨Sf.cons _ _, ?_⟩
      show (okV (r + 1) (singV t) = true ∧ wrV (r + 1) (singV t) = true) ∧ (txV (r + 1) (singV t)).length + Wt l ≤ Wt (t :: l) ∧ n = n + 0 ∧ n ≤ 200
      rw [Wt_cons]
      by_cases h2 : t.k = 2
      · have e : singV t = .mk 2 t.n ⟨#[]⟩ [] [] := by unfold singV; rw [if_pos h2]
        have et : tl t = (digL t.n).length := by unfold tl; rw [if_pos h2]
        have ex : txV (r + 1) (.mk 2 t.n ⟨#[]⟩ [] []) = digL t.n := rfl
        rw [e, et, ex]
        have hf : fitsV (.mk 2 t.n ⟨#[]⟩ [] []) = true := by
          unfold fitsV
          simp only [V.k, V.n, V.s, V.l, V.m, nil_bytes]
          rfl
        refine ⟨⟨?_, rfl⟩, by omega, rfl, hn⟩
        show (fitsV (.mk 2 t.n ⟨#[]⟩ [] []) && _ && _ && _) = true
        rw [hf]; rfl
      by_cases h3 : t.k = 3
      · obtain ⟨s1, s2⟩ := hk t (by simp) h3
        have e : singV t = .mk 3 0 (bsT t.s) [] [] := by unfold singV; rw [if_neg h2, if_pos h3]
        have et : tl t = (qT t.s).length := by unfold tl; rw [if_neg h2, if_pos h3]
        have ex : txV (r + 1) (.mk 3 0 (bsT t.s) [] []) = qT (bsT t.s).toList := rfl
        rw [e, et, ex, show (bsT t.s).toList = t.s from E8.bs_toList t.s]
        have hf : fitsV (.mk 3 0 (bsT t.s) [] []) = true := by
          show ((0 : Int) == 0 && decide ((bsT t.s).size ≤ 1000) && (([] : List V).length == 0 && ([] : List V).length == 0)) = true
          rw [decide_eq_true (show (bsT t.s).size ≤ 1000 by rw [E8.bs_size]; exact s1)]
          rfl
        refine ⟨⟨?_, ?_⟩, by omega, rfl, hn⟩
        · show (fitsV (.mk 3 0 (bsT t.s) [] []) && _ && _ && _) = true
          rw [hf]; rfl
        · show (bsT t.s).toList.all (fun c => decide (32 ≤ c.toNat)) = true
          rw [show (bsT t.s).toList = t.s from E8.bs_toList t.s]
          exact List.all_eq_true.2 fun c hc => decide_eq_true (s2 c hc)
      have h1 : t.k = 1 ∧ (t.s = [116, 114, 117, 101] ∨ t.s = [102, 97, 108, 115, 101]) := by
        unfold begV at hb'
        rw [if_neg (by omega)] at hb'
        by_cases h1 : t.k = 1
        · rw [if_pos h1, Bool.or_eq_true, beq_iff_eq, beq_iff_eq] at hb'
          exact ⟨h1, hb'⟩
        · rw [if_neg h1, if_neg h4] at hb'; cases hb'
      have hf : ∀ n : Int, n = 0 ∨ n = 1 → fitsV (.mk 1 n ⟨#[]⟩ [] []) = true := by
        intro n h
        unfold fitsV
        simp only [V.k, V.n, V.s, V.l, V.m, nil_bytes]
        rcases h with rfl | rfl <;> rfl
      have et : tl t = t.s.length := by unfold tl; rw [if_neg h2, if_neg h3]
      rcases h1 with ⟨k1, hs | hs⟩
      · have e : singV t = .mk 1 1 ⟨#[]⟩ [] [] := by unfold singV; rw [if_neg h2, if_neg h3, if_pos hs]
        rw [e, et, hs]
        refine ⟨⟨?_, rfl⟩, ?_, rfl, hn⟩
        · show (fitsV (.mk 1 1 ⟨#[]⟩ [] []) && _ && _ && _) = true
          rw [hf 1 (.inr rfl)]; rfl
        · show 4 + _ ≤ 2 * 4 + _
          omega
      · have e : singV t = .mk 1 0 ⟨#[]⟩ [] [] := by unfold singV; rw [if_neg h2, if_neg h3, if_neg (by rw [hs]; decide)]
        rw [e, et, hs]
        refine ⟨⟨?_, rfl⟩, ?_, rfl, hn⟩
        · show (fitsV (.mk 1 0 ⟨#[]⟩ [] []) && _ && _ && _) = true
          rw [hf 0 (.inl rfl)]; rfl
        · show 5 + _ ≤ 2 * 5 + _
          omega
/-- A predicate of a kind, made of so many. -/
theorem fits_P {k : Int} {vs : List V} {ps : List P} (h1 : 1 ≤ k) (h2 : k ≤ 14) (h : (madeT k = false ∧ ps = [] ∧ vs.length ≤ 1000 ∧ (hasT k).1 ≤ (vs.length : Int) ∧ ((hasT k).2 = true ∨ (vs.length : Int) ≤ (hasT k).1)) ∨
    (madeT k = true ∧ vs = [] ∧ ps.length ≤ 1000 ∧ (hasT k).1 ≤ (ps.length : Int) ∧ ((hasT k).2 = true ∨ (ps.length : Int) ≤ (hasT k).1))) : fitsP (.mk k vs ps) = true := by
  show fitsN k vs.length ps.length = true
  obtain rfl | rfl | rfl | rfl | rfl | rfl | rfl | rfl | rfl | rfl | rfl | rfl | rfl | rfl : k = 1 ∨ k = 2 ∨ k = 3 ∨ k = 4 ∨ k = 5 ∨ k = 6 ∨ k = 7 ∨ k = 8 ∨ k = 9 ∨ k = 10 ∨ k = 11 ∨ k = 12 ∨ k = 13 ∨ k = 14 := by omega
  all_goals
    rcases h with ⟨hm, rfl, hl, ha, hb⟩ | ⟨hm, rfl, hl, ha, hb⟩
    all_goals
      first
      | exact absurd hm (by decide)
      | (simp [hasT] at ha hb; simp [fitsN]; omega)
theorem made_pos {k : Int} (hm : madeT k = true) : 1 ≤ (hasT k).1 := by
  unfold madeT at hm
  simp only [Bool.or_eq_true, beq_iff_eq] at hm
  unfold hasT
  rcases hm with (rfl | rfl) | rfl <;> decide
theorem has_ok (k : Int) : (hasT k).2 = true ∨ 1 ≤ (hasT k).1 := by
  unfold hasT
  split
  · right; decide
  · split
    · exact .inl rfl
    · split
      · exact .inl rfl
      · right; decide
theorem prdT_step0 (r : Nat) (t : Tk) (l : List Tk) (n : Nat) (h : kindT t = 0) : prdT (r + 1) (t :: l) n = .bad (t :: l) n 30 := by
  show (if kindT t = 0 then _ else _) = _
  rw [if_pos h]
theorem prd_snd : ∀ (r : Nat) (l : List Tk) (n : Nat), TkK l → n ≤ 200 → Sd l (fun p l2 n2 => (okP r p = true ∧ wrP r p = true) ∧ (txP r p).length + Wt l2 ≤ Wt l ∧ n2 = n + 0 ∧ n2 ≤ 200) (prdT r l n) := by
  intro r
  induction r with
  | zero =>
    intro l n _ _
    unfold prdT
    split <;> exact ⟨Sf.refl _, by decide⟩
  | succ r ih =>
    intro l n hk hn
    cases l with
    | nil => exact ⟨Sf.refl _, by decide⟩
    | cons t l =>
    by_cases h0 : kindT t = 0
    · rw [prdT_step0 r t l n h0]; exact ⟨Sf.refl _, by decide⟩
    obtain ⟨k1, k2, k3, ks⟩ := kind_name h0
    rw [prdT_step r t l n (kindT t) rfl h0]
    obtain ⟨k, hkk⟩ : ∃ k, kindT t = k := ⟨_, rfl⟩
    rw [hkk] at k2 k3 ks ⊢
    have et : tl t = (nameP k).length := by unfold tl; rw [if_neg (by omega), if_neg (by omega), ks]
    cases hm : madeT k
    · rw [if_neg (by decide)]
      refine (btw_snd (txV 12) (fun _ => 0) (fun v => okV 12 v = true ∧ wrV 12 v = true) 40 41 (hasT k).1 (hasT k).2 1000 (rdV (valT 12)) (has_ok k) ?_ l n hk.tail hn).map _ (Sf.cons _ _) ?_
      · intro i l n hi hk hn
        unfold rdV
        by_cases h : i = 1000
        · rw [if_pos h]; exact ⟨Sf.refl _, tmE_ne l⟩
        · rw [if_neg h]
          exact (val_snd 12 l n hk hn).up (Sf.refl _) fun v l2 n2 _ ⟨q1, q2, q3, q4⟩ => ⟨by omega, q1, q2, q3, q4⟩
      · intro vs l2 n2 _ ⟨q1, q2, q3, q4, q5, q6, q7⟩
        rw [cost0] at q6
        refine ⟨⟨?_, ?_⟩, ?_, q6, q7⟩
        · show (fitsP (.mk k vs []) && vs.all (okV 12) && ([] : List P).all (okP r)) = true
          rw [fits_P k2 k3 (.inl ⟨hm, rfl, q2, q1, q3⟩), List.all_eq_true.2 (fun x hx => (q4 x hx).1)]
          rfl
        · show (vs.all (wrV 12) && ([] : List P).all (wrP r)) = true
          rw [List.all_eq_true.2 (fun x hx => (q4 x hx).2)]
          rfl
        · rw [Wt_cons, et]
          show (nameP k ++ ([40] ++ (itemsT (txV 12) 0 vs ++ [41]))).length + _ ≤ _
          rw [List.length_append, List.length_append, List.length_append]
          simp only [List.length_cons, List.length_nil]
          omega
    · rw [if_pos rfl]
      refine (btw_snd (txP r) (fun _ => 0) (fun v => okP r v = true ∧ wrP r v = true) 40 41 (hasT k).1 (hasT k).2 1000 (rdP (prdT r)) (has_ok k) ?_ l n hk.tail hn).map _ (Sf.cons _ _) ?_
      · intro i l n hi hk hn
        unfold rdP
        by_cases h : i = 1000 ∧ kindT (hdT l) ≠ 0
        · rw [if_pos h]; exact ⟨Sf.refl _, by decide⟩
        · rw [if_neg h]
          by_cases h' : i = 1000
          · have hz : kindT (hdT l) = 0 := by
              by_cases hz : kindT (hdT l) = 0
              · exact hz
              · exact absurd ⟨h', hz⟩ h
            have e : prdT r l n = .bad l n 30 := by
              cases r with
              | zero => unfold prdT; rw [if_pos hz]
              | succ r => unfold prdT; rw [if_pos hz]
            rw [e]; exact ⟨Sf.refl _, by decide⟩
          · exact (ih l n hk hn).up (Sf.refl _) fun v l2 n2 _ ⟨q1, q2, q3, q4⟩ => ⟨by omega, q1, q2, q3, q4⟩
      · intro ps l2 n2 _ ⟨q1, q2, q3, q4, q5, q6, q7⟩
        rw [cost0] at q6
        have hpos : 0 < ps.length := by have := made_pos hm; omega
        refine ⟨⟨?_, ?_⟩, ?_, q6, q7⟩
        · show (fitsP (.mk k [] ps) && ([] : List V).all (okV 12) && ps.all (okP r)) = true
          rw [fits_P k2 k3 (.inr ⟨hm, rfl, q2, q1, q3⟩), List.all_eq_true.2 (fun x hx => (q4 x hx).1)]
          rfl
        · show (([] : List V).all (wrV 12) && ps.all (wrP r)) = true
          rw [List.all_eq_true.2 (fun x hx => (q4 x hx).2)]
          rfl
        · rw [Wt_cons, et]
          have ex : txP (r + 1) (.mk k [] ps) = nameP k ++ ([40] ++ (itemsT (txP r) 0 ps ++ [41])) := by
            show nameP k ++ ([40] ++ ((if 0 < ps.length then itemsT (txP r) 0 ps else itemsT (txV 12) 0 []) ++ [41])) = _
            rw [if_pos hpos]
          rw [ex, List.length_append, List.length_append, List.length_append]
          simp only [List.length_cons, List.length_nil]
          omega
theorem fits_arg (g : Ag) (h1 : g.k = 1 ∨ g.v = zV) (h2 : g.k = 2 ∨ g.p = zP) (h3 : g.k = 3 ∨ g.c = []) (h4 : g.k = 4 ∨ g.s = ⟨#[]⟩) : fitsA g = true := by
  unfold fitsA
  have e1 : (g.k == 1 || cmpV 12 g.v zeroV == 0) = true := by
    rcases h1 with h | h
    · rw [h]; rfl
    · rw [h, show (cmpV 12 zV zeroV == 0) = true from same_refl zeroV, Bool.or_true]
  have e2 : (g.k == 2 || isZeroP g.p) = true := by
    rcases h2 with h | h
    · rw [h]; rfl
    · rw [h, show isZeroP zP = true from rfl, Bool.or_true]
  have e3 : (g.k == 3 || g.c.length == 0) = true := by
    rcases h3 with h | h
    · rw [h]; rfl
    · rw [h]; simp
  have e4 : (g.k == 4 || g.s.toList.isEmpty) = true := by
    rcases h4 with h | h
    · rw [h]; rfl
    · rw [h, nil_bytes]; simp
  rw [e1, e2, e3, e4]; rfl
theorem arg_snd (r : Nat) (inner : List Tk → Nat → Rs (List C))
    (hin : ∀ (t : Tk) (l : List Tk) (n : Nat), t.k = 1 → t.s = [95, 95] → TkK (t :: l) → n ≤ 200 → Sd (t :: l) (fun c l2 n2 => chOk r c = true ∧ (txC r [95, 95] c).length + Wt l2 ≤ Wt (t :: l) ∧ n2 = n + cntP r c ∧ n2 ≤ 200) (inner (t :: l) n))
    (l : List Tk) (n : Nat) (hk : TkK l) (hn : n ≤ 200) : Sd l (fun g l2 n2 => argOk (chOk r) g = true ∧ (txG (txC r [95, 95]) g).length + Wt l2 ≤ Wt l ∧ n2 = n + cntP r g.c ∧ n2 ≤ 200) (argT inner l n) := by
  unfold argT
  by_cases hb : begV (hdT l) = true
  · rw [if_pos hb]
    refine (val_snd 12 l n hk hn).map _ (Sf.refl _) ?_
    intro v l2 n2 _ ⟨q1, q2, q3, q4⟩
    refine ⟨?_, q2, ?_, q4⟩
    · rw [argOk_1 _ _ (fits_arg _ (.inl rfl) (.inr rfl) (.inr rfl) (.inr rfl)) rfl, Bool.and_eq_true]
      exact q1
    · show n2 = n + cntP r []
      rw [cntP_nil]; exact q3
  rw [if_neg hb]
  by_cases hp : kindT (hdT l) ≠ 0
  · rw [if_pos hp]
    refine (prd_snd 12 l n hk hn).map _ (Sf.refl _) ?_
    intro p l2 n2 _ ⟨q1, q2, q3, q4⟩
    refine ⟨?_, q2, ?_, q4⟩
    · rw [argOk_2 _ _ (fits_arg _ (.inr rfl) (.inl rfl) (.inr rfl) (.inr rfl)) rfl, Bool.and_eq_true]
      exact q1
    · show n2 = n + cntP r []
      rw [cntP_nil]; exact q3
  rw [if_neg hp]
  cases l with
  | nil => exact ⟨Sf.refl _, by decide⟩
  | cons t l =>
  by_cases hi : isN t [95, 95] = true
  · rw [if_pos (show isN (hdT (t :: l)) [95, 95] = true from hi)]
    unfold isN at hi
    rw [Bool.and_eq_true, beq_iff_eq, beq_iff_eq] at hi
    refine (hin t l n hi.1 hi.2 hk hn).map _ (Sf.refl _) ?_
    intro c l2 n2 _ ⟨q1, q2, q3, q4⟩
    refine ⟨?_, q2, q3, q4⟩
    rw [argOk_3 _ _ (fits_arg _ (.inr rfl) (.inr rfl) (.inl rfl) (.inr rfl)) rfl]
    exact q1
  rw [if_neg (show ¬ isN (hdT (t :: l)) [95, 95] = true from hi)]
  by_cases hw : ((hdT (t :: l)).k == 1 && nameB (bsT (hdT (t :: l)).s)) = true
  · rw [if_pos hw]
    have hw' : (t.k == 1 && nameB (bsT t.s)) = true := hw
    rw [Bool.and_eq_true, beq_iff_eq] at hw'
    obtain ⟨k1, hnm⟩ := hw'
    have hb' : begV t = false := by
      cases h : begV t
      · rfl
      · exact absurd h hb
    have hp' : kindT t = 0 := by
      by_cases h : kindT t = 0
      · exact h
      · exact absurd h hp
    have hne : t.s ≠ [] := by
      intro e
      rw [e] at hnm
      have : (bsT []).size = 0 := by rw [E8.bs_size]; rfl
      unfold nameB at hnm
      rw [this] at hnm
      simp at hnm
    unfold begV at hb'
    rw [if_neg (by omega), if_pos k1, Bool.or_eq_false_iff] at hb'
    have hi' : (t.s == [95, 95]) = false := by
      cases h : (t.s == [95, 95])
      · rfl
      · exact absurd (by unfold isN; rw [k1, h]; rfl) hi
    have et : tl t = t.s.length := by unfold tl; rw [if_neg (by omega), if_neg (by omega)]
    refine ⟨Sf.cons _ _, ?_, ?_, ?_, hn⟩
    · rw [argOk_4 _ _ (fits_arg _ (.inr rfl) (.inr rfl) (.inr rfl) (.inl rfl)) rfl]
      show (nameB (bsT t.s) && !takenB (bsT t.s)) = true
      have ht : takenB (bsT t.s) = false := by
        unfold takenB
        rw [show (bsT t.s).toList = t.s from E8.bs_toList t.s, kind_not k1 hp' hne, hb'.1, hb'.2, hi']
        rfl
      rw [hnm, ht]; rfl
    · rw [txG_4 _ _ rfl]
      show (bsT t.s).toList.length + Wt l ≤ Wt (t :: l)
      rw [show (bsT t.s).toList = t.s from E8.bs_toList t.s, Wt_cons, et]
      omega
    · show n = n + cntP r []
      rw [cntP_nil]; rfl
  · rw [if_neg hw]
    exact ⟨Sf.refl _, by decide⟩
theorem call_snd (r : Nat) (inner : List Tk → Nat → Rs (List C))
    (hin : ∀ (t : Tk) (l : List Tk) (n : Nat), t.k = 1 → t.s = [95, 95] → TkK (t :: l) → n ≤ 200 → Sd (t :: l) (fun c l2 n2 => chOk r c = true ∧ (txC r [95, 95] c).length + Wt l2 ≤ Wt (t :: l) ∧ n2 = n + cntP r c ∧ n2 ≤ 200) (inner (t :: l) n))
    (l : List Tk) (n : Nat) (hk : TkK l) (hn : n ≤ 200) : Sd l (fun x l2 n2 => callOk (chOk r) x = true ∧ (txCall (txC r [95, 95]) x).length + Wt l2 ≤ Wt l ∧ n2 = n + (1 + sumL (fun g => cntP r g.c) x.a) ∧ n2 ≤ 200) (calT inner l n) := by
  unfold calT
  by_cases h1 : sees l [46] = true
  case neg => rw [if_neg h1]; exact ⟨Sf.refl _, by decide⟩
  rw [if_pos h1]
  obtain ⟨t, l, rfl, hw⟩ := sees_W h1
  rw [List.tail_cons]
  unfold nmT
  by_cases h2 : ((hdT l).k == 1 && !((hdT l).s == [95, 95]) && nameB (bsT (hdT l).s)) = true
  case neg => rw [if_neg h2]; exact ⟨Sf.cons _ _, by decide⟩
  rw [if_pos h2]
  by_cases h3 : n = 200
  · rw [if_pos h3]; exact ⟨Sf.cons _ _, by decide⟩
  rw [if_neg h3]
  cases l with
  | nil => cases h2
  | cons u l =>
  have h2' : (u.k == 1 && !(u.s == [95, 95]) && nameB (bsT u.s)) = true := h2
  rw [Bool.and_eq_true, Bool.and_eq_true, beq_iff_eq, Bool.not_eq_true'] at h2'
  obtain ⟨⟨k1, hu⟩, hnm⟩ := h2'
  have et : tl u = u.s.length := by unfold tl; rw [if_neg (by omega), if_neg (by omega)]
  show Sd (t :: u :: l) _ (Rs.map (fun a => C.mk (bsT u.s) a) (btw [40] [41] 0 true (rdA (argT inner)) l (n + 1)))
  refine (btw_snd (txG (txC r [95, 95])) (fun g => cntP r g.c) (fun g => argOk (chOk r) g = true) 40 41 0 true 50 (rdA (argT inner)) (.inl rfl) ?_ l (n + 1) hk.tail.tail (by omega)).map _ ((Sf.cons _ _).trans (Sf.cons _ _)) ?_
  · intro i l n hi hk hn
    unfold rdA
    by_cases h : i = 50
    · rw [if_pos h]; exact ⟨Sf.refl _, tmE_ne l⟩
    · rw [if_neg h]
      exact (arg_snd r inner hin l n hk hn).up (Sf.refl _) fun v l2 n2 _ ⟨q1, q2, q3, q4⟩ => ⟨by omega, q1, q2, q3, q4⟩
  · intro gs l2 n2 _ ⟨q1, q2, q3, q4, q5, q6, q7⟩
    rw [← sumL_map] at q6
    refine ⟨?_, ?_, ?_, q7⟩
    · show (nameB (bsT u.s) && !((bsT u.s).toList == [95, 95]) && decide (gs.length ≤ 50) && gs.all (argOk (chOk r))) = true
      rw [hnm, show (bsT u.s).toList = u.s from E8.bs_toList u.s, hu, decide_eq_true q2, List.all_eq_true.2 q4]
      rfl
    · rw [hw, Wt_cons, et]
      show ([46] ++ ((bsT u.s).toList ++ ([40] ++ (itemsT (txG (txC r [95, 95])) 0 gs ++ [41]))) : List UInt8).length + _ ≤ _
      rw [show (bsT u.s).toList = u.s from E8.bs_toList u.s, List.length_append, List.length_append, List.length_append, List.length_append]
      simp only [List.length_cons, List.length_nil]
      omega
    · show n2 = n + (1 + sumL (fun g => cntP r g.c) gs)
      omega
theorem chl_snd (g : C → List UInt8) (cost : C → Nat) (ok : C → Prop) (cal : List Tk → Nat → Rs C)
    (hc : ∀ l n, TkK l → n ≤ 200 → Sd l (fun x l2 n2 => ok x ∧ (g x).length + Wt l2 ≤ Wt l ∧ n2 = n + cost x ∧ n2 ≤ 200) (cal l n)) :
    ∀ (fu : Nat) (acc : List C) (l : List Tk) (n : Nat), TkK l → n ≤ 200 → (∀ x ∈ acc, ok x) →
      Sd l (fun xs l2 n2 => 0 < xs.length ∧ (∀ x ∈ xs, ok x) ∧ (xs.flatMap g).length + Wt l2 ≤ Wt l + (acc.flatMap g).length ∧ n2 + (acc.map cost).sum = n + (xs.map cost).sum ∧ n2 ≤ 200) (chl cal fu acc l n) := by
  intro fu
  induction fu with
  | zero => intro acc l n _ _ _; exact ⟨Sf.refl _, by decide⟩
  | succ fu ih =>
    intro acc l n hk hn hok
    unfold chl
    by_cases h : (acc.length == 0 || sees l [46]) = true
    · rw [if_pos h]
      have hR := hc l n hk hn
      cases hr : cal l n with
      | bad l2 n2 e => rw [hr] at hR; exact hR
      | ok x l2 n2 =>
        rw [hr] at hR
        obtain ⟨hsf, hx, hw, hn2, hn3⟩ := hR
        refine (ih (acc ++ [x]) l2 n2 (hk.sf hsf) hn3 (fun y hy => by
          rcases List.mem_append.1 hy with h | h
          · exact hok y h
          · rw [List.mem_singleton.1 h]; exact hx)).up hsf ?_
        intro xs l3 n3 _ ⟨q1, q2, q3, q4, q5⟩
        rw [sum_snoc] at q4
        rw [List.flatMap_append, List.length_append, List.flatMap_cons, List.flatMap_nil, List.append_nil] at q3
        exact ⟨q1, q2, by omega, by omega, q5⟩
    · rw [if_neg h]
      refine ⟨Sf.refl _, ?_, hok, by omega, rfl, hn⟩
      rw [Bool.or_eq_true, not_or] at h
      have := h.1
      simp at this
      cases acc with
      | nil => exact absurd rfl this
      | cons a b => simp
theorem chn_snd : ∀ (r : Nat) (l : List Tk) (n : Nat), TkK l → n ≤ 200 → Sd l (fun c l2 n2 => chOk r c = true ∧ (c.flatMap (txCall (txC (r - 1) [95, 95]))).length + Wt l2 ≤ Wt l ∧ n2 = n + cntP r c ∧ n2 ≤ 200) (chnT r l n) := by
  intro r
  induction r with
  | zero => intro l n _ _; exact ⟨Sf.refl _, by decide⟩
  | succ r ih =>
    intro l n hk hn
    have hin : ∀ (t : Tk) (l : List Tk) (n : Nat), t.k = 1 → t.s = [95, 95] → TkK (t :: l) → n ≤ 200 → Sd (t :: l) (fun c l2 n2 => chOk r c = true ∧ (txC r [95, 95] c).length + Wt l2 ≤ Wt (t :: l) ∧ n2 = n + cntP r c ∧ n2 ≤ 200)
        ((fun (l : List Tk) (n : Nat) => if r = 0 then (.bad l n 3 : Rs (List C)) else chnT r l.tail n) (t :: l) n) := by
      intro t l n k1 hs hk hn
      show Sd (t :: l) _ (if r = 0 then (.bad (t :: l) n 3 : Rs (List C)) else chnT r l n)
      by_cases h0 : r = 0
      · rw [if_pos h0]; exact ⟨Sf.refl _, by decide⟩
      · rw [if_neg h0]
        refine (ih l n hk.tail hn).up (Sf.cons _ _) ?_
        intro c l2 n2 _ ⟨q1, q2, q3, q4⟩
        refine ⟨q1, ?_, q3, q4⟩
        obtain ⟨q, rfl⟩ : ∃ q, r = q + 1 := ⟨r - 1, by omega⟩
        have et : tl t = 2 := by unfold tl; rw [if_neg (by omega), if_neg (by omega), hs]; rfl
        rw [Wt_cons, et]
        show (([95, 95] : List UInt8) ++ c.flatMap (txCall (txC q [95, 95]))).length + _ ≤ _
        rw [List.length_append]
        simp only [List.length_cons, List.length_nil]
        have q2' : (c.flatMap (txCall (txC q [95, 95]))).length + Wt l2 ≤ Wt l := q2
        omega
    show Sd l _ (chl (calT _) (l.length + 1) [] l n)
    refine (chl_snd (txCall (txC r [95, 95])) (fun x => 1 + sumL (fun g => cntP r g.c) x.a) (fun x => callOk (chOk r) x = true) _ (fun l n hk hn => call_snd r _ hin l n hk hn) (l.length + 1) [] l n hk hn (fun x hx => by cases hx)).up (Sf.refl _) ?_
    intro xs l2 n2 _ ⟨q1, q2, q3, q4, q5⟩
    refine ⟨?_, ?_, ?_, q5⟩
    · show (decide (0 < xs.length) && xs.all (callOk (chOk r))) = true
      rw [decide_eq_true q1, List.all_eq_true.2 q2]; rfl
    · have e : (([] : List C).flatMap (txCall (txC r [95, 95]))).length = 0 := rfl
      rw [e] at q3
      exact q3
    · have ec : cntP (r + 1) xs = (xs.map (fun x => 1 + sumL (fun g => cntP r g.c) x.a)).sum := by rw [← sumL_map]; rfl
      rw [ec]
      simpa using q4
/-- What is read as a query is one. -/
theorem qry_snd (l : List Tk) (hk : TkK l) : Sd l (fun c _ _ => qOk c = true ∧ (txC 10 [103] c).length ≤ Wt l) (qryT l) := by
  unfold qryT
  by_cases h : isN (hdT l) [103] = true
  case neg => rw [if_neg h]; exact ⟨Sf.refl _, by decide⟩
  rw [if_pos h]
  cases l with
  | nil => cases h
  | cons t l =>
  have h' : (t.k == 1 && t.s == [103]) = true := h
  rw [Bool.and_eq_true, beq_iff_eq, beq_iff_eq] at h'
  have et : tl t = 1 := by unfold tl; rw [if_neg (by omega), if_neg (by omega), h'.2]; rfl
  rw [List.tail_cons]
  have hR := chn_snd 10 l 0 hk.tail (by omega)
  cases hr : chnT 10 l 0 with
  | bad l2 n2 e => rw [hr] at hR; exact ⟨(Sf.cons _ _).trans hR.1, hR.2⟩
  | ok c l2 n2 =>
    rw [hr] at hR
    obtain ⟨hsf, q1, q2, q3, q4⟩ := hR
    show Sd _ _ (if 0 < l2.length then Rs.bad l2 n2 30 else Rs.ok c l2 n2)
    by_cases h0 : 0 < l2.length
    · rw [if_pos h0]; exact ⟨(Sf.cons _ _).trans hsf, by decide⟩
    · rw [if_neg h0]
      refine ⟨(Sf.cons _ _).trans hsf, ?_, ?_⟩
      · unfold qOk
        rw [show (11 : Nat) = 10 + 1 from rfl, cntP_ch 10 1 c q1, q1, decide_eq_true (by omega)]; rfl
      · rw [Wt_cons, et]
        show (([103] : List UInt8) ++ c.flatMap (txCall (txC 9 [95, 95]))).length ≤ _
        rw [List.length_append]
        simp only [List.length_cons, List.length_nil]
        have q2' : (c.flatMap (txCall (txC 9 [95, 95]))).length + Wt l2 ≤ Wt l := q2
        omega
end Go.Proofs.YtllkimdlmnjoiaaGreatDoor
/- What Parse tells of any bytes (plain). -/
namespace Go.Proofs.YtllkimdlmnjoiaaGreatDoor
set_option maxRecDepth 100000
open Go.RowKit Go.Sort

theorem valL_lt : ∀ (l : List UInt8) (a : Nat), l.all digB = true → l.foldl valStep a < (a + 1) * 10 ^ l.length
  | [], a, _ => by simp
  | c :: l, a, h => by
    rw [List.all_cons, Bool.and_eq_true] at h
    have hc : 48 ≤ c.toNat ∧ c.toNat ≤ 57 := by have := h.1; unfold digB at this; exact of_decide_eq_true this
    have ih := valL_lt l (valStep a c) h.2
    rw [List.foldl_cons, List.length_cons, Nat.pow_succ]
    have hv : valStep a c + 1 ≤ (a + 1) * 10 := by unfold valStep; omega
    have := Nat.mul_le_mul_right (10 ^ l.length) hv
    rw [Nat.mul_comm (10 ^ l.length) 10, ← Nat.mul_assoc]
    omega
theorem low_len {n k : Nat} (hk : 1 ≤ k) (h : n < 10 ^ k) : (lowsAll n).length ≤ k := by
  obtain ⟨j, rfl⟩ : ∃ j, k = j + 1 := ⟨k - 1, by omega⟩
  have := lows_len j (n / 10) (by rw [Nat.pow_succ] at h; omega)
  unfold lowsAll
  rw [List.length_cons]; omega
theorem num_len (l : List UInt8) (h : parseE l = 0) : (digL (parseV l)).length ≤ l.length := by
  unfold parseE at h
  by_cases h1 : parseArg l = true
  · rw [if_pos h1] at h; cases h
  rw [if_neg h1] at h
  by_cases h2 : fitsB (parseN (minusB l) (digsOf l)) = true
  case neg => rw [if_neg h2] at h; cases h
  have hv : parseV l = parseN (minusB l) (digsOf l) := by unfold parseV; rw [if_neg h1, room_ok h2]
  have hw : wholeL (digsOf l) = true := by
    cases hw : wholeL (digsOf l)
    · unfold parseArg at h1; rw [hw] at h1; simp at h1
    · rfl
  unfold wholeL at hw
  rw [Bool.and_eq_true] at hw
  have hne : 1 ≤ (digsOf l).length := by
    cases hd : digsOf l with
    | nil => rw [hd] at hw; simp at hw
    | cons a b => simp
  have hlt : valL (digsOf l) < 10 ^ (digsOf l).length := by have := valL_lt (digsOf l) 0 hw.1; simpa [valL] using this
  have hL := low_len hne hlt
  have habs : (parseN (minusB l) (digsOf l)).natAbs = valL (digsOf l) := by unfold parseN; split <;> omega
  rw [hv]
  unfold digL
  rw [List.length_append, List.length_map, List.length_reverse, habs]
  by_cases hm : minusB l = true
  · have hl : (digsOf l).length + 1 = l.length := by
      have hd : digsOf l = l.drop 1 := by unfold digsOf; rw [if_pos hm]
      rw [hd, List.length_drop]
      cases l with
      | nil => exact absurd hm (by decide)
      | cons c r => simp
    split <;> simp <;> omega
  · have hl : digsOf l = l := by unfold digsOf; rw [if_neg hm]
    have hn : ¬ parseN (minusB l) (digsOf l) < 0 := by unfold parseN; rw [if_neg hm]; omega
    have hl2 : (digsOf l).length = l.length := by rw [hl]
    rw [if_neg hn]
    simp only [List.length_nil]
    omega
theorem textP_is : ∀ (k : Nat) (l acc : List UInt8) (i : Nat) (b : List UInt8) (n : Nat), l.length ≤ k → E8.textP l acc i = some (b, n) → acc.length ≤ 1000 → (∀ c ∈ acc, 32 ≤ c.toNat) →
    (acc.flatMap qC).length + n = (b.flatMap qC).length + i + 1 ∧ b.length ≤ 1000 ∧ ∀ c ∈ b, 32 ≤ c.toNat
  | 0, l, acc, i, b, n, hk, h, _, _ => by
    obtain rfl : l = [] := List.eq_nil_of_length_eq_zero (by omega)
    rw [E8.textP_nil] at h; cases h
  | k + 1, [], acc, i, b, n, hk, h, _, _ => by rw [E8.textP_nil] at h; cases h
  | k + 1, c :: r, acc, i, b, n, hk, h, ha, hc => by
    rw [E8.textP_cons] at h
    rw [List.length_cons] at hk
    have more : ∀ d : UInt8, 32 ≤ d.toNat → ∀ x ∈ acc ++ [d], 32 ≤ x.toNat := fun d hd x hx => by
      rcases List.mem_append.1 hx with h | h
      · exact hc x h
      · rw [List.mem_singleton.1 h]; exact hd
    by_cases h0 : c.toNat < 32
    · rw [if_pos h0] at h; cases h
    rw [if_neg h0] at h
    by_cases h1 : c.toNat = 39
    · rw [if_pos h1] at h
      injection h with h
      injection h with h2 h3
      subst h2
      exact ⟨by omega, ha, hc⟩
    rw [if_neg h1] at h
    by_cases h2 : c.toNat = 92
    · rw [if_pos h2] at h
      match r, h, hk with
      | [], h, _ => cases h
      | d :: r', h, hk =>
        simp only at h
        by_cases h3 : d.toNat = 39 ∨ d.toNat = 92
        · rw [if_pos h3] at h
          by_cases h4 : acc.length = 1000
          · rw [if_pos h4] at h; cases h
          · rw [if_neg h4] at h
            rw [List.length_cons] at hk
            obtain ⟨q1, q2, q3⟩ := textP_is k r' _ _ _ _ (by omega) h (by simp; omega) (more d (by omega))
            have e : qC d = [92, d] := by
              unfold qC
              rw [if_pos]
              rcases h3 with h3 | h3
              · left; rw [← UInt8.toNat_inj]; exact h3
              · right; rw [← UInt8.toNat_inj]; exact h3
            rw [List.flatMap_append, List.flatMap_cons, List.flatMap_nil, e] at q1
            simp only [List.length_append, List.length_cons, List.length_nil, List.append_nil] at q1
            exact ⟨by omega, q2, q3⟩
        · rw [if_neg h3] at h; cases h
    · rw [if_neg h2] at h
      by_cases h4 : acc.length = 1000
      · rw [if_pos h4] at h; cases h
      · rw [if_neg h4] at h
        obtain ⟨q1, q2, q3⟩ := textP_is k r _ _ _ _ (by omega) h (by simp; omega) (more c (by omega))
        have e : qC c = [c] := by
          unfold qC
          rw [if_neg]
          rintro (rfl | rfl)
          · exact h1 (by decide)
          · exact h2 (by decide)
        rw [List.flatMap_append, List.flatMap_cons, List.flatMap_nil, e] at q1
        simp only [List.length_append, List.length_cons, List.length_nil, List.append_nil] at q1
        exact ⟨by omega, q2, q3⟩
theorem first_tl (l : List UInt8) (t : Tk) (n : Nat) (h : E8.firstP l = some (t, n)) : tl t ≤ n ∧ (t.k = 3 → t.s.length ≤ 1000 ∧ ∀ c ∈ t.s, 32 ≤ c.toNat) := by
  unfold E8.firstP at h
  by_cases h1 : E8.letB (l.headD 0) = true
  · rw [if_pos h1] at h
    injection h with h
    injection h with h2 h3
    subst h2 h3
    refine ⟨?_, fun e => absurd e (show (1 : Int) ≠ 3 by decide)⟩
    show (l.take _).length ≤ _
    rw [List.length_take]; omega
  rw [if_neg h1] at h
  by_cases h2 : E8.digB (l.headD 0) = true ∨ (l.headD 0).toNat = 45
  · rw [if_pos h2] at h
    unfold E8.numP at h
    by_cases h3 : E8.parseE (l.take (E8.runN E8.wordB l 1)) = 0
    · rw [if_pos h3] at h
      injection h with h
      injection h with h4 h5
      subst h4 h5
      refine ⟨?_, fun e => absurd e (show (2 : Int) ≠ 3 by decide)⟩
      rw [e8E] at h3
      have := num_len _ h3
      show (digL (E8.parseV _)).length ≤ _
      rw [e8V]; exact this
    · rw [if_neg h3] at h; cases h
  rw [if_neg h2] at h
  by_cases h3 : (l.headD 0).toNat = 39
  · rw [if_pos h3] at h
    unfold E8.textO at h
    cases hp : E8.textP (l.drop 1) [] 1 with
    | none => rw [hp] at h; cases h
    | some r =>
      rw [hp] at h
      obtain ⟨b, m⟩ := r
      injection h with h
      injection h with h4 h5
      subst h4
      obtain ⟨q1, q2, q3⟩ := textP_is _ _ _ _ _ _ (Nat.le_refl _) hp (by simp) (fun c hc => by cases hc)
      refine ⟨?_, fun _ => ⟨q2, q3⟩⟩
      show (qT b).length ≤ n
      unfold qT
      have h5' : m = n := h5
      simp at q1 ⊢
      omega
  rw [if_neg h3] at h
  by_cases h4 : E8.signB (l.headD 0) = true
  · rw [if_pos h4] at h
    injection h with h
    injection h with h5 h6
    subst h5 h6
    refine ⟨?_, fun e => absurd e (show (4 : Int) ≠ 3 by decide)⟩
    show (l.take 1).length ≤ 1
    rw [List.length_take]; omega
  · rw [if_neg h4] at h; cases h
/-- All tokens together are no longer than the bytes. -/
theorem its_W : ∀ (k : Nat) (m : List UInt8) (o : Nat), m.length ≤ k → Wt ((E8.its m o).map (·.t)) ≤ 2 * m.length ∧ TkK ((E8.its m o).map (·.t))
  | 0, m, o, hk => by
    obtain rfl : m = [] := List.eq_nil_of_length_eq_zero (by omega)
    rw [E8.its_nil]
    exact ⟨by simp [Wt], fun x hx => by cases hx⟩
  | k + 1, [], o, _ => by
    rw [E8.its_nil]
    exact ⟨by simp [Wt], fun x hx => by cases hx⟩
  | k + 1, c :: m, o, hk => by
    rw [List.length_cons] at hk
    cases hb : E8.blankB c
    · cases hx : E8.firstP (c :: m) with
      | none =>
        rw [E8.its_none c m o hb hx]
        refine ⟨?_, fun x hx h3 => ?_⟩
        · show Wt [E8.TK.zero.at_ o] ≤ _
          rw [Wt_cons]
          show 2 * 0 + 0 ≤ _
          omega
        · have e : x = E8.TK.zero.at_ o := by simpa using hx
          rw [e] at h3; exact absurd h3 (show (0 : Int) ≠ 3 by decide)
      | some r =>
        obtain ⟨t, n⟩ := r
        obtain ⟨f1, f2⟩ := first_tl _ _ _ hx
        obtain ⟨g1, g2⟩ := E8.first_len (c :: m) (by simp) t n hx
        rw [E8.its_some c m o hb t n hx]
        rw [List.length_cons] at g2
        obtain ⟨i1, i2⟩ := its_W k ((c :: m).drop n) (o + n) (by rw [List.length_drop, List.length_cons]; omega)
        rw [List.length_drop, List.length_cons] at i1
        rw [List.map_cons]
        refine ⟨?_, fun x hx h3 => ?_⟩
        · rw [Wt_cons, List.length_cons]
          have e : tl (t.at_ o) = tl t := rfl
          show 2 * tl (t.at_ o) + _ ≤ _
          rw [e]; omega
        · rcases List.mem_cons.1 hx with h | h
          · subst h; exact f2 h3
          · exact i2 x h h3
    · rw [E8.its_blank c m o hb]
      obtain ⟨i1, i2⟩ := its_W k m (o + 1) (by omega)
      exact ⟨by rw [List.length_cons]; omega, i2⟩
theorem all_tk (b : List UInt8) (hb : b.length ≤ 20000) (h0 : (E8.allL b).2.2 = 0) : (E8.allL b).1 = (E8.its b 0).map (·.t) := by
  unfold E8.allL at h0 ⊢
  rw [if_neg (by omega)] at h0 ⊢
  rw [E8.items_its] at h0 ⊢
  cases hf : (E8.its b 0).find? (fun x => !x.ok) with
  | none => rfl
  | some x => rw [hf] at h0; exact absurd h0 (show (30 : Int) ≠ 0 by decide)
theorem all_err (b : List UInt8) (hb : b.length ≤ 20000) (h0 : (E8.allL b).2.2 ≠ 0) : 0 ≤ (E8.allL b).2.1 ∧ (E8.allL b).2.1 ≤ (b.length : Int) := by
  unfold E8.allL at h0 ⊢
  rw [if_neg (by omega)] at h0 ⊢
  rw [E8.items_its] at h0 ⊢
  cases hf : (E8.its b 0).find? (fun x => !x.ok) with
  | none => rw [hf] at h0; exact absurd rfl h0
  | some x =>
    have hm := List.mem_of_find?_eq_some hf
    obtain ⟨h1, h2⟩ := E8.its_ge b.length b 0 (Nat.le_refl _) x hm
    show 0 ≤ x.t.p ∧ x.t.p ≤ _
    omega
/-- What Parse tells of any bytes. -/
theorem par_snd (b : List UInt8) (hb : b.length ≤ 3000) :
    (0 ≤ (parT b).2.1 ∧ (parT b).2.1 ≤ (b.length : Int)) ∧ ((parT b).2.2 = 0 → qOk (parT b).1 = true ∧ (txC 10 [103] (parT b).1).length ≤ 6000 ∧ (parT b).2.1 = 0) ∧ ((parT b).2.2 ≠ 0 → (parT b).1 = []) := by
  unfold parT
  by_cases h0 : (E8.allL b).2.2 = 0
  · rw [if_pos h0, all_tk b (by omega) h0]
    obtain ⟨w1, w2⟩ := its_W b.length b 0 (Nat.le_refl _)
    have hpos : ∀ t ∈ (E8.its b 0).map (·.t), (0 : Int) ≤ t.p ∧ t.p ≤ (b.length : Int) := by
      intro t ht
      obtain ⟨x, hx, rfl⟩ := List.mem_map.1 ht
      obtain ⟨h1, h2⟩ := E8.its_ge b.length b 0 (Nat.le_refl _) x hx
      omega
    have hQ := qry_snd _ w2
    cases hr : qryT ((E8.its b 0).map (·.t)) with
    | ok c l2 n2 =>
      rw [hr] at hQ
      exact ⟨⟨by show (0 : Int) ≤ 0; omega, by show (0 : Int) ≤ _; omega⟩, fun _ => ⟨hQ.2.1, by have := hQ.2.2; show (txC 10 [103] c).length ≤ 6000; omega, rfl⟩, fun h => absurd rfl h⟩
    | bad l2 n2 e =>
      rw [hr] at hQ
      obtain ⟨⟨ts, hs⟩, he⟩ := hQ
      refine ⟨?_, fun h => absurd h he, fun _ => rfl⟩
      show 0 ≤ plc (b.length : Int) l2 ∧ plc (b.length : Int) l2 ≤ _
      cases l2 with
      | nil => show (0 : Int) ≤ (b.length : Int) ∧ (b.length : Int) ≤ _; omega
      | cons t l2 => exact hpos t (by rw [hs]; simp)
  · rw [if_neg h0]
    exact ⟨all_err b (by omega) h0, fun h => absurd h h0, fun _ => rfl⟩
end Go.Proofs.YtllkimdlmnjoiaaGreatDoor
/- What is read, printed, and read again, is the same: the law ParserRound. -/
namespace Go.Proofs.YtllkimdlmnjoiaaGreatDoor
set_option maxRecDepth 100000
open Go.RowKit Go.Sort

structure RJ (W : World) (A : Option Addr) (c : Nat) (b : List UInt8) (w : World) : Prop where
  bel : Below W.heap.size W w
  nm : NM w
  row : E8.BRow w A c b
theorem RJ.next {W : World} {A : Option Addr} {c : Nat} {l : List UInt8} {a b : World} (h : RJ W A c l a) (hb : Below a.heap.size a b) : RJ W A c l b := ⟨bnext h.bel hb, h.nm.next hb, h.row.next hb⟩
theorem parse_all (w : World) (A : Option Addr) (c : Nat) (b : List UInt8) (h : E8.BRow w A c b) (hb : b.length ≤ 20000) (l : List C) (pl er : Int) (hp : parT b = (l, pl, er)) :
    Calls Tryz.prog 12 #[.slice A b.length c] w fun e w' => ∃ A2 c2, e = .returned (.tuple #[.slice A2 l.length c2, .int .i64 pl, .int .i64 er]) ∧ Ch w' 0 w'.heap.size 10 A2 c2 l ∧ Below w.heap.size w w' := by
  have CP := parse_any w A c b h hb
  unfold ParsePost at CP
  rw [hp] at CP
  exact CP.mono fun e w' ⟨A2, c2, h1, h2, h3⟩ => ⟨A2, c2, h1, Ch.more h2 (Nat.zero_le _) (Nat.le_refl _) (Nat.le_refl _), h3⟩
theorem round_all (w : World) (hm : NM w) (A : Option Addr) (c : Nat) (b : List UInt8) (h : E8.BRow w A c b) (hb : b.length ≤ 20000) (hl : qOk (parT b).1 = true → (txC 10 [103] (parT b).1).length ≤ MX) (s : ByteArray) (pl er : Int) (hp : rndT b = (s.toList, pl, er)) :
    Calls Tryz.prog 13 #[.slice A b.length c] w fun e w' => e = .returned (.tuple #[.string s, .int .i64 pl, .int .i64 er]) ∧ Below w.heap.size w w' := by
  have CP := round_any w hm A c b h hb hl
  rw [hp, show bsT s.toList = s from bsT_of s] at CP
  exact CP
set_option maxHeartbeats 6400000 in
theorem round_bad (W : World) (A : Option Addr) (c : Nat) (b : List UInt8) (HJ : Hid (RJ W A c b W)) (hlen : ¬ (3000 : Int) < (b.length : Int)) (pl er : Int) (hp : parT b = ([], pl, er)) (h0 : 0 ≤ pl) (h1 : pl ≤ (b.length : Int)) (he : er ≠ 0) :
    Calls Tryz.prog 4 #[.slice A b.length c] W fun e w' => e = .returned (.bool true) ∧ Below W.heap.size W w' := by
  have CT := Lib.hid (parse_all W A c b HJ.out.row (by omega) [] pl er hp)
  have CR : Hid (∀ w, RJ W A c b w → Calls Tryz.prog 13 #[.slice A b.length c] w fun e w' => e = .returned (.tuple #[.string ⟨#[]⟩, .int .i64 pl, .int .i64 er]) ∧ Below w.heap.size w w') := Lib.hid (fun w h => round_all w h.nm A c b h.row (by omega) (fun hq => by rw [hp] at hq; cases hq) ⟨#[]⟩ pl er (by
    unfold rndT
    rw [hp, if_neg he, nil_bytes]))
  have KN : Hid (∀ w, RJ W A c b w → Calls Tryz.prog 9 #[] w fun e w' => e = .returned (.bool true) ∧ Below w.heap.size w w') := Lib.hid (fun w h => known11_any w h.nm)
  have e1 : (er == er) = true := beq_self_eq_true _
  have e2 : (pl == pl) = true := beq_self_eq_true _
  have e3 : (er == 0) = false := beq_eq_false_iff_ne.2 he
  have e4 : (er != 0) = true := by rw [bne, e3]; rfl
  clear hp he
  go_enter Tryz.func4, Tryz.ntmps4
  go_wp2_with fail
  refine CT.out.mono ?_
  rintro e w1 ⟨A2, c2, rfl, _, hb⟩
  replace HJ := Lib.hid (HJ.out.next hb)
  clear CT hb
  have CT := Lib.hid (CR.out w1 HJ.out)
  go_wp2_with fail
  refine CT.out.mono ?_
  rintro e w2 ⟨rfl, hb⟩
  replace HJ := Lib.hid (HJ.out.next hb)
  clear CT hb CR
  have CT := Lib.hid (KN.out w2 HJ.out)
  go_wp2_with fail
  refine CT.out.mono ?_
  rintro e w3 ⟨rfl, hb⟩
  replace HJ := Lib.hid (HJ.out.next hb)
  clear CT hb KN
  go_wp2
  go_ret
  exact ⟨rfl, HJ.out.bel⟩
set_option maxHeartbeats 6400000 in
theorem round_good (W : World) (A : Option Addr) (c : Nat) (b : List UInt8) (HJ : Hid (RJ W A c b W)) (hlen : ¬ (3000 : Int) < (b.length : Int)) (l : List C) (hp : parT b = (l, 0, 0)) (hq : qOk l = true) (hl : (txC 10 [103] l).length ≤ 6000) :
    Calls Tryz.prog 4 #[.slice A b.length c] W fun e w' => e = .returned (.bool true) ∧ Below W.heap.size W w' := by
  obtain ⟨L, hL⟩ : ∃ z, txC 10 [103] l = z := ⟨_, rfl⟩
  obtain ⟨SA, hSA⟩ : ∃ s : ByteArray, E8.bs L = s := ⟨_, rfl⟩
  have hSL : SA.toList = L := by rw [← hSA, E8.bs_toList]
  have hne : L ≠ [] := by rw [← hL]; exact txC_ne _ _ _
  have CT := Lib.hid (parse_all W A c b HJ.out.row (by omega) l 0 0 hp)
  have CR : Hid (∀ w, RJ W A c b w → Calls Tryz.prog 13 #[.slice A b.length c] w fun e w' => e = .returned (.tuple #[.string SA, .int .i64 0, .int .i64 0]) ∧ Below w.heap.size w w') := Lib.hid (fun w h => round_all w h.nm A c b h.row (by omega) (fun _ => by rw [hp]; show (txC 10 [103] l).length ≤ MX; unfold MX; omega) SA 0 0 (by
    unfold rndT
    rw [hp, if_pos rfl, hq]
    show (prtS l, _, _) = _
    unfold prtS
    rw [if_pos hq, hL, hSL]; rfl))
  have KN : Hid (∀ w, RJ W A c b w → Calls Tryz.prog 9 #[] w fun e w' => e = .returned (.bool true) ∧ Below w.heap.size w w') := Lib.hid (fun w h => known11_any w h.nm)
  have s1 : SA.toList.isEmpty = false := by
    rw [hSL]
    cases L with
    | nil => exact absurd rfl hne
    | cons x y => rfl
  have s2 : (SA.toList == SA.toList) = true := beq_self_eq_true _
  have HQ := Lib.hid hq
  have HL := Lib.hid hL
  have HSA := Lib.hid hSA
  have HSL := Lib.hid hSL
  have HLN := Lib.hid (show L.length ≤ 6000 by rw [← hL]; exact hl)
  clear hp hq hL hSA hSL hne hl
  go_enter Tryz.func4, Tryz.ntmps4
  go_wp2_with fail
  refine CT.out.mono ?_
  rintro e w1 ⟨A2, c2, rfl, hk, hb⟩
  replace HJ := Lib.hid (HJ.out.next hb)
  have HK := Lib.hid hk
  have hbl := hk.big
  have PAR := Lib.hid (show parT L = (l, 0, 0) by
    rw [← HL.out]
    exact par_back l HQ.out (ints_of_ch 10 10 A2 c2 l hk) (by rw [HL.out]; have := HLN.out; omega))
  clear CT hb hk
  have CT := Lib.hid (CR.out w1 HJ.out)
  go_wp2_with fail
  refine CT.out.mono ?_
  rintro e w2 ⟨rfl, hb⟩
  replace HJ := Lib.hid (HJ.out.next hb)
  replace HK := Lib.hid (HK.out.next hb)
  clear CT hb CR
  obtain ⟨A3, c3, W1, hc1, hr1, hb1⟩ := conv_bytes11 w2 L (by have := HLN.out; omega)
  rw [HSA.out] at hc1
  replace HJ := Lib.hid (HJ.out.next hb1)
  replace HK := Lib.hid (HK.out.next hb1)
  have CP := Lib.hid (parse_all W1 A3 c3 L hr1 (by have := HLN.out; omega) l 0 0 PAR.out)
  clear hr1 hb1
  go_wp2_with fail
  refine CP.out.mono ?_
  rintro e w3 ⟨A4, c4, rfl, hk, hb⟩
  have HK2 := Lib.hid hk
  replace HJ := Lib.hid (HJ.out.next hb)
  replace HK := Lib.hid (HK.out.next hb)
  clear CP hb hc1 hk
  obtain ⟨A5, c5, W2, hc2, hr2, hb2⟩ := conv_bytes11 w3 L (by have := HLN.out; omega)
  rw [HSA.out] at hc2
  replace HJ := Lib.hid (HJ.out.next hb2)
  replace HK := Lib.hid (HK.out.next hb2)
  replace HK2 := Lib.hid (HK2.out.next hb2)
  have CP := Lib.hid (round_all W2 HJ.out.nm A5 c5 L hr2 (by have := HLN.out; omega) (fun _ => by rw [PAR.out]; show (txC 10 [103] l).length ≤ MX; rw [HL.out]; have := HLN.out; unfold MX; omega) SA 0 0 (by
    unfold rndT
    rw [PAR.out, if_pos rfl, HQ.out]
    show (prtS l, _, _) = _
    unfold prtS
    rw [if_pos HQ.out, HL.out, HSL.out]; rfl))
  clear hr2 hb2
  go_wp2_with fail
  refine CP.out.mono ?_
  rintro e w4 ⟨rfl, hb⟩
  replace HJ := Lib.hid (HJ.out.next hb)
  replace HK := Lib.hid (HK.out.next hb)
  replace HK2 := Lib.hid (HK2.out.next hb)
  clear CP hb hc2
  have CS := refSameC_any w4 10 A4 c4 l A2 c2 l HK2.out HK.out
  rw [sameC_refl] at CS
  replace CS := Lib.hid CS
  go_wp2_with fail
  refine CS.out.mono ?_
  rintro e w5 ⟨rfl, hb⟩
  replace HJ := Lib.hid (HJ.out.next hb)
  replace HK := Lib.hid (HK.out.next hb)
  clear CS hb HK2
  have CS := tcheck_any w5 HJ.out.nm 10 A2 c2 l HK.out
  rw [HQ.out] at CS
  replace CS := Lib.hid (show Calls Tryz.prog 15 #[.slice A2 l.length c2] w5 fun e w' => e = .returned (.int .i64 0) ∧ Below w5.heap.size w5 w' from CS)
  go_wp2_with fail
  refine CS.out.mono ?_
  rintro e w6 ⟨rfl, hb⟩
  replace HJ := Lib.hid (HJ.out.next hb)
  clear CS hb HK
  have CT := Lib.hid (KN.out w6 HJ.out)
  go_wp2_with fail
  refine CT.out.mono ?_
  rintro e w7 ⟨rfl, hb⟩
  replace HJ := Lib.hid (HJ.out.next hb)
  clear CT hb KN
  go_wp2
  go_ret
  exact ⟨rfl, HJ.out.bel⟩
set_option maxHeartbeats 3200000 in
theorem round_law (W : World) (hm : NM W) (A : Option Addr) (c : Nat) (b : List UInt8) (h : E8.BRow W A c b) :
    Calls Tryz.prog 4 #[.slice A b.length c] W fun e w' => e = .returned (.bool true) ∧ Below W.heap.size W w' := by
  by_cases hlen : (3000 : Int) < (b.length : Int)
  · have HM := Lib.hid hm
    have CT := Lib.hid (known11_any W hm)
    clear hm h
    go_enter Tryz.func4, Tryz.ntmps4
    go_wp2_with fail
    refine CT.out.mono ?_
    rintro e w2 ⟨rfl, hb⟩
    have B2 := Lib.hid hb
    clear CT hb
    go_wp2
    go_ret
    exact ⟨rfl, B2.out⟩
  have HJ : Hid (RJ W A c b W) := Lib.hid ⟨Below.refl _ _, hm, h⟩
  obtain ⟨⟨l, pl, er⟩, hp⟩ : ∃ z, parT b = z := ⟨_, rfl⟩
  obtain ⟨⟨p0, p1⟩, p2, p3⟩ := par_snd b (by omega)
  rw [hp] at p0 p1 p2 p3
  by_cases he : er = 0
  · subst he
    obtain ⟨q1, q2, q3⟩ := p2 rfl
    have q3' : pl = 0 := q3
    subst q3'
    exact round_good W A c b HJ hlen l hp q1 q2
  · have : l = [] := p3 he
    subst this
    exact round_bad W A c b HJ hlen pl er hp p0 p1 he
end Go.Proofs.YtllkimdlmnjoiaaGreatDoor
