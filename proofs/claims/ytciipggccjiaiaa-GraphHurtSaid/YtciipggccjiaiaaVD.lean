/- Carried over from the seat of layer 2. -/
import Derived.Test.YtciipggccjiaiaaVC
import Derived.StillTailTactics
namespace Go.Proofs.Ytciipggccjiaiaa
set_option maxRecDepth 100000
open Go.RowKit

theorem Rd.next {w w' : World} {d : Nat} {t : V} {A A' : Option Addr} {c c' : Nat} (h : Rd w 0 w.heap.size d t A c A' c') (hb : Below w.heap.size w w') : Rd w' 0 w'.heap.size d t A c A' c' :=
  Rd.imp (Kept.of_below hb (Nat.le_refl _)) (Nat.le_refl _) hb.size (Nat.le_refl _) h
theorem RdRow.next {w w' : World} {d : Nat} {A : Option Addr} {c : Nat} {l : List V} (h : Rw w 0 w.heap.size d A c l) (hb : Below w.heap.size w w') : Rw w' 0 w'.heap.size d A c l :=
  h.imp (Kept.of_below hb (Nat.le_refl _)) (Nat.le_refl _) hb.size (fun _ _ _ _ _ h => h.next hb)

/-- A closure that compares two values as f does, in every world in which all that lay in w lies unturned; g: what it captured. -/
def Cmps (cap : Value) (w : World) (f : V → V → Int) : Prop :=
  ∀ (W : World) (da db : Nat) (a b : V) (A : Option Addr) (c : Nat) (A' : Option Addr) (c' : Nat) (D : Option Addr) (e : Nat) (D' : Option Addr) (e' : Nat), Below w.heap.size w W →
    Rd W 0 W.heap.size da a A c A' c' → Rd W 0 W.heap.size db b D e D' e' →
    Calls Try.prog 88 #[vl a A c A' c', vl b D e D' e', cap] W fun x w' => x = .returned (.int .i64 (f a b)) ∧ Below W.heap.size W w'

theorem rowC_next {α : Type} (f : α → α → Int) (l l' : List α) (k : Nat) {x y : α} (hx : l[k]? = some x) (hy : l'[k]? = some y) : rowC f (l.drop k) (l'.drop k) = orI (f x y) (rowC f (l.drop (k + 1)) (l'.drop (k + 1))) := by
  obtain ⟨h1, e1⟩ := List.getElem?_eq_some_iff.1 hx
  obtain ⟨h2, e2⟩ := List.getElem?_eq_some_iff.1 hy
  rw [List.drop_eq_getElem_cons h1, List.drop_eq_getElem_cons h2, e1, e2]; rfl
theorem rowC_out {α : Type} (f : α → α → Int) (l l' : List α) (k : Nat) (h1 : k < l.length) (h2 : l'.length ≤ k) : rowC f (l.drop k) (l'.drop k) = 1 := by
  rw [List.drop_eq_getElem_cons h1, List.drop_eq_nil_of_le h2]; rfl
theorem rowC_less {α : Type} (f : α → α → Int) (l l' : List α) (k : Nat) (h1 : l.length ≤ k) (h2 : k < l'.length) : rowC f (l.drop k) (l'.drop k) = -1 := by
  rw [List.drop_eq_getElem_cons h2, List.drop_eq_nil_of_le h1]; rfl
theorem rowC_done {α : Type} (f : α → α → Int) (l l' : List α) (k : Nat) (h1 : l.length ≤ k) (h2 : l'.length ≤ k) : rowC f (l.drop k) (l'.drop k) = 0 := by
  rw [List.drop_eq_nil_of_le h1, List.drop_eq_nil_of_le h2]; rfl
theorem orI_ne {x y : Int} (h : (x != 0) = true) : orI x y = x := by unfold orI; rw [if_neg (by simpa using h)]
theorem orI_eq {x y : Int} (h : (x != 0) = false) : orI x y = y := by unfold orI; rw [if_pos (by simpa using h)]

set_option maxHeartbeats 1600000 in
theorem compareFunc (f : V → V → Int) (g : Nat) (w : World) (hcl : Cmps (.pointer (some ⟨g, 0, none⟩)) w f) (d d' : Nat) (A : Option Addr) (c : Nat) (l : List V) (A' : Option Addr) (c' : Nat) (l' : List V)
    (h : Rw w 0 w.heap.size d A c l) (h' : Rw w 0 w.heap.size d' A' c' l') :
    Calls Try.prog 89 #[.slice A l.length c, .slice A' l'.length c', .func (.func 88) #[] #[.pointer (some ⟨g, 0, none⟩)]] w fun e w' => e = .returned (.int .i64 (rowC f l l')) ∧ Below w.heap.size w w' := by
  have HC := Lib.hid hcl
  have H1 := Lib.hid h
  have H2 := Lib.hid h'
  have b1 := h.big
  have b2 := h'.big
  clear hcl h h'
  go_enter Try.func89, Try.ntmps89
  go_wp2
  go_loopw [13] (fun i wr => ∃ k : Nat, k ≤ l.length ∧ k ≤ l'.length ∧ i = .int .i64 k ∧ Hid (Below w.heap.size w wr) ∧ Hid (rowC f (l.drop k) (l'.drop k) = rowC f l l')) (fun i _ => l.length - (intOf i).toNat)
  case atStart => exact ⟨0, by omega, by omega, rfl, Lib.hid (Below.refl _ _), Lib.hid (by simp)⟩
  case round =>
    obtain ⟨k, hk, hk', rfl, hbel, hr⟩ := hrel
    by_cases hlt : k < l.length
    · obtain ⟨b, off, x, A1, c1, A2, c2, rfl, _, hb, hx, q, rx⟩ := (H1.out.next hbel.out).elem hlt
      obtain ⟨q0, q1, q2, q3, q4⟩ := q
      by_cases hlt' : k < l'.length
      · obtain ⟨b', off', y, D1, e1, D2, e2, rfl, _, hb', hy, p, ry⟩ := (H2.out.next hbel.out).elem hlt'
        obtain ⟨p0, p1, p2, p3, p4⟩ := p
        have NX := Lib.hid (rowC_next f l l' k hx hy)
        have RX := Lib.hid rx
        have RY := Lib.hid ry
        have HX := Lib.hid hx
        have HY := Lib.hid hy
        clear rx ry hx hy
        go_wp2_with fail
        refine (HC.out _ _ _ x y _ _ _ _ _ _ _ _ (bnext hbel.out (below_new2 _ _ _)) (RX.out.next (below_new2 _ _ _)) (RY.out.next (below_new2 _ _ _))).mono ?_
        rintro e w1 ⟨rfl, hb1⟩
        have HB := Lib.hid (bnext (bnext hbel.out (below_new2 _ _ _)) hb1)
        clear hb1
        cases hne : (f x y != 0)
        · go_wp2
          go_roundw
          case rel => exact ⟨k + 1, by omega, by omega, by go_num, HB, Lib.hid (by rw [← hr.out, NX.out, orI_eq hne])⟩
          case measure => simp [intOf]; omega
        · go_wp2
          go_ret
          exact ⟨by rw [← hr.out, NX.out, orI_ne hne]; rfl, HB.out⟩
      · have OUT := Lib.hid (rowC_out f l l' k hlt (by omega))
        clear rx hx
        go_wp2
        go_ret
        exact ⟨by rw [← hr.out, OUT.out]; rfl, bnext hbel.out (below_new _ _)⟩
    · by_cases hlt' : k < l'.length
      · have OUT := Lib.hid (rowC_less f l l' k (by omega) hlt')
        go_wp2
        go_ret
        exact ⟨by rw [← hr.out, OUT.out]; rfl, hbel.out⟩
      · have OUT := Lib.hid (rowC_done f l l' k (by omega) (by omega))
        go_wp2
        go_ret
        exact ⟨by rw [← hr.out, OUT.out]; rfl, hbel.out⟩
end Go.Proofs.Ytciipggccjiaiaa

