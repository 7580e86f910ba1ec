/- Carried over from an earlier seat. -/
import Derived.Test.YtllkimdlmnjoiaaGreatDoorKIA
import Derived.Test.YtllkimdlmnjoiaaGreatDoorVRr
import Derived.Test.YtllkimdlmnjoiaaGreatDoorVVb
import Derived.Lib.Hide
import Derived.Laws.ResultCell
import Derived.Deep.RegionWith
import Derived.Laws.BytesString
import Derived.StillTailTactics
namespace Go.Proofs.YtllkimdlmnjoiaaGreatDoor
set_option maxRecDepth 100000
set_option maxRecDepth 100000
set_option maxRecDepth 100000
set_option maxRecDepth 100000

def valD : List Int → Int
  | [] => 0
  | d :: r => d + 10 * valD r
def Digs (l : List Int) : Prop := ∀ d ∈ l, 0 ≤ d ∧ d ≤ 9
/-- No nought behind. -/
def Norm (l : List Int) : Prop := l.getLastD 1 ≠ 0
def ten (n : Nat) : Int := 10 ^ n
theorem ten_zero : ten 0 = 1 := rfl
theorem ten_succ (n : Nat) : ten (n + 1) = 10 * ten n := by unfold ten; rw [Int.pow_succ, Int.mul_comm]
theorem ten_pos : ∀ n, 0 < ten n
  | 0 => by decide
  | n + 1 => by have := ten_pos n; rw [ten_succ]; omega
theorem ten_mono {a b : Nat} (h : a ≤ b) : ten a ≤ ten b := by
  induction b with
  | zero => obtain rfl : a = 0 := by omega
            exact Int.le_refl _
  | succ b ih =>
    by_cases e : a = b + 1
    · subst e; exact Int.le_refl _
    · have := ih (by omega); have := ten_pos b; rw [ten_succ]; omega

theorem digs_nil : Digs [] := fun _ h => by cases h
theorem digs_cons {d : Int} {r : List Int} (h : Digs (d :: r)) : (0 ≤ d ∧ d ≤ 9) ∧ Digs r := ⟨h d (by simp), fun x hx => h x (by simp [hx])⟩
theorem digs_snoc {l : List Int} {d : Int} (h : Digs l) (h0 : 0 ≤ d) (h9 : d ≤ 9) : Digs (l ++ [d]) := by
  intro x hx
  rcases List.mem_append.1 hx with hx | hx
  · exact h x hx
  · rw [List.mem_singleton] at hx; subst hx; exact ⟨h0, h9⟩
theorem digs_take {l : List Int} (h : Digs l) (k : Nat) : Digs (l.take k) := fun x hx => h x (List.mem_of_mem_take hx)
theorem digs_getD {l : List Int} (h : Digs l) (k : Nat) : 0 ≤ l.getD k 0 ∧ l.getD k 0 ≤ 9 := by
  rcases Nat.lt_or_ge k l.length with hk | hk
  · have e : l.getD k 0 = l[k] := by simp [hk]
    rw [e]; exact h _ (List.getElem_mem hk)
  · have e : l.getD k 0 = 0 := by simp [hk]
    rw [e]; omega

theorem valD_nonneg : ∀ {l : List Int}, Digs l → 0 ≤ valD l
  | [], _ => Int.le_refl _
  | d :: r, h => by
    have := digs_cons h
    have := valD_nonneg this.2
    simp only [valD]; omega
theorem valD_append : ∀ (a b : List Int), valD (a ++ b) = valD a + ten a.length * valD b
  | [], b => by simp [valD, ten_zero]
  | d :: r, b => by
    simp only [List.cons_append, valD, valD_append r b, List.length_cons, ten_succ]
    rw [Int.mul_add, Int.mul_assoc, Int.add_assoc]
theorem valD_snoc (a : List Int) (d : Int) : valD (a ++ [d]) = valD a + ten a.length * d := by
  rw [valD_append]; simp [valD]
theorem valD_take (l : List Int) (k : Nat) : valD (l.take (k + 1)) = valD (l.take k) + ten k * l.getD k 0 := by
  rcases Nat.lt_or_ge k l.length with hk | hk
  · rw [List.take_succ_eq_append_getElem hk, valD_snoc, List.length_take, Nat.min_eq_left (by omega)]
    simp [hk]
  · rw [List.take_of_length_le (by omega), List.take_of_length_le hk]
    simp [hk]
theorem valD_all {l : List Int} {k : Nat} (h : l.length ≤ k) : valD (l.take k) = valD l := by rw [List.take_of_length_le h]

theorem norm_ge : ∀ {l : List Int}, Digs l → Norm l → l ≠ [] → ten (l.length - 1) ≤ valD l
  | [], _, _, h => absurd rfl h
  | [d], h, hn, _ => by
    have := digs_cons h
    have h1 : d ≠ 0 := by simpa [Norm] using hn
    simp [valD, ten_zero]; omega
  | d :: e :: r, h, hn, _ => by
    have h1 := digs_cons h
    have h2 := norm_ge h1.2 (by simpa [Norm] using hn) (by simp)
    have e2 : (d :: e :: r).length - 1 = ((e :: r).length - 1) + 1 := by simp
    have e1 : valD (d :: e :: r) = d + 10 * valD (e :: r) := rfl
    rw [e1, e2, ten_succ]
    omega
/-- Without its noughts behind. -/
theorem valD_noughts (l : List Int) (k : Nat) (h : ∀ j, k ≤ j → j < l.length → l.getD j 0 = 0) : valD (l.take k) = valD l := by
  have key : ∀ m, valD (l.take (k + m)) = valD (l.take k) := by
    intro m
    induction m with
    | zero => rfl
    | succ m ih =>
      rw [← Nat.add_assoc, valD_take, ih]
      have : l.getD (k + m) 0 = 0 := by
        rcases Nat.lt_or_ge (k + m) l.length with hk | hk
        · exact h _ (by omega) hk
        · simp [hk]
      rw [this]; omega
  have := key l.length
  rw [valD_all (by omega)] at this
  exact this.symm
theorem last_snoc (m : List Int) (x : Int) : (m ++ [x]).getLastD 1 = x := by rw [List.getLastD_eq_getLast?]; simp
theorem norm_take (l : List Int) (k : Nat) (hk : k ≤ l.length) (h : k = 0 ∨ l.getD (k - 1) 0 ≠ 0) : Norm (l.take k) := by
  unfold Norm
  rcases h with rfl | h
  · simp
  · cases k with
    | zero => simp
    | succ k =>
      have e : (l.take k ++ [l[k]'(by omega)]).getLastD 1 = l[k]'(by omega) := last_snoc _ _
      rw [List.take_succ_eq_append_getElem (by omega), e]
      have e2 : l.getD (k + 1 - 1) 0 = l[k]'(by omega) := by simp [show k < l.length by omega]
      rwa [e2] at h
end Go.Proofs.YtllkimdlmnjoiaaGreatDoor
namespace Go.Proofs.YtllkimdlmnjoiaaGreatDoor
set_option maxRecDepth 100000
set_option maxRecDepth 100000
set_option maxRecDepth 100000
set_option maxRecDepth 100000
open Go.RowKit

/-- What trim answers: the sign, if anything is left, and the row without its noughts behind. -/
def TrimPost (m : Bool) (A : Option Addr) (n c : Nat) (l : List Int) (e : Ending) : Prop :=
  ∃ k, e = .returned (.agg #[.bool (m && decide (0 < k)), .slice A k c]) ∧ k ≤ n ∧ valD (l.take k) = valD l ∧ Norm (l.take k)

set_option maxHeartbeats 800000 in
theorem trim_any (m : Bool) (A : Option Addr) (B n c : Nat) (l : List Int) (w : World) (h : Ints w B A n l) (hB : B ≤ w.heap.size) (hc : n ≤ c) (hcm : c ≤ maxLen) :
    Calls Tryz.prog 73 #[.bool m, .slice A n c] w fun e w' => TrimPost m A n c l e ∧ Below w.heap.size w w' := by
  have HI := Lib.hid h
  have hn := h.2.1
  unfold maxLen at hcm
  clear h
  go_enter Tryz.func73, Tryz.ntmps73
  go_wp2
  go_loop [5] (fun i => ∃ k : Nat, k ≤ n ∧ i = .int .i64 k ∧ Hid (∀ j, k ≤ j → j < l.length → l.getD j 0 = 0)) (fun i => (intOf i).toNat)
  case atStart => exact ⟨n, Nat.le_refl _, rfl, Lib.hid (fun j h1 h2 => absurd h1 (by have := HI.out.1; omega))⟩
  case round =>
    obtain ⟨k, hk, rfl, hz⟩ := hrel
    by_cases h0 : 0 < k
    · have h0' : (0 : Int) < (k : Int) := by omega
      obtain ⟨b, off, rfl, hb, hc'⟩ := HI.out.2.2.2 (by omega)
      obtain ⟨j, rfl⟩ : ∃ j, k = j + 1 := ⟨k - 1, by omega⟩
      have hck : w.cell? ⟨b, off + j, none⟩ = some (.int .i64 (l.getD j 0)) := hc' j (by omega)
      clear hc'
      have hca : (w.alloc (.cells #[.bool false, .slice none 0 0] 129)).cell? ⟨b, off + j, none⟩ = some (.int .i64 (l.getD j 0)) := by
        rw [World.cell?_alloc_past _ _ _ (by show b < _; omega)]; exact hck
      clear hck
      by_cases hx : l.getD j 0 = 0
      · have HX : Hid (∀ i, j ≤ i → i < l.length → l.getD i 0 = 0) := Lib.hid (fun i h1 h2 => by
          by_cases e : i = j
          · subst e; exact hx
          · exact hz.out i (by omega) h2)
        rw [hx] at hca
        clear hx hz
        go_wp2
        go_round
        case rel => exact ⟨j, by omega, rfl, HX⟩
        case measure => simp [intOf]
      · have hxb : (l.getD j 0 == 0) = false := by rw [beq_eq_false_iff_ne]; exact hx
        have HP : Hid (valD (l.take (j + 1)) = valD l ∧ Norm (l.take (j + 1))) := Lib.hid ⟨valD_noughts l _ hz.out, norm_take l _ (by have := HI.out.1; omega) (.inr hx)⟩
        clear hx hz
        generalize l.getD j 0 = x at hca hxb
        have h1 : (j : Int) + 1 ≤ (c : Int) := by omega
        cases m
        · go_wp2
          exact bodyPost_ret (v := .agg #[.bool false, .slice (some ⟨b, off, none⟩) (j + 1) c]) (by simp [results, Tryz.results73, go_sem]) rfl ⟨⟨j + 1, rfl, hk, HP.out.1, HP.out.2⟩, below_new _ _⟩
        · go_wp2
          exact bodyPost_ret (v := .agg #[.bool true, .slice (some ⟨b, off, none⟩) (j + 1) c]) (by simp [results, Tryz.results73, go_sem]) rfl ⟨⟨j + 1, by simp, hk, HP.out.1, HP.out.2⟩, below_new _ _⟩
    · obtain rfl : k = 0 := by omega
      have HP : Hid (valD (l.take 0) = valD l ∧ Norm (l.take 0)) := Lib.hid ⟨valD_noughts l _ hz.out, norm_take l _ (by omega) (.inl rfl)⟩
      clear hz
      cases m
      all_goals
        go_wp2
        exact bodyPost_ret (v := .agg #[.bool false, .slice A 0 c]) (by simp [results, Tryz.results73, go_sem]) rfl ⟨⟨0, by simp, hk, HP.out.1, HP.out.2⟩, below_new _ _⟩

/-- A number of any greatness, as the document's own arithmetic keeps it: its sign, its digits, at most k of them. -/
def NumV (w : World) (k : Nat) (v : Value) (x : Int) : Prop :=
  ∃ (m : Bool) (A : Option Addr) (n c : Nat) (ds : List Int), v = .agg #[.bool m, .slice A n c] ∧ Ints w w.heap.size A n ds ∧ n ≤ c ∧ c ≤ maxLen ∧ n ≤ k ∧ Digs ds ∧ Norm ds ∧ (m = true → 0 < n) ∧ x = (if m then -valD ds else valD ds)
def SomeNum (w : World) (k : Nat) (e : Ending) (x : Int) : Prop := ∃ v, e = .returned v ∧ NumV w k v x

theorem digs_fits {l : List Int} (h : Digs l) : ∀ x ∈ l, fitsB x = true := fun x hx => by have := h x hx; rw [fits_iff]; omega
theorem OwnInts.form {w : World} {base : Nat} {v : Value} {l : List Int} (h : OwnInts w base v l) (hl : l.length ≤ 140737488355328) (hf : ∀ x ∈ l, fitsB x = true) :
    ∃ A c, v = .slice A l.length c ∧ l.length ≤ c ∧ c ≤ maxLen ∧ Ints w w.heap.size A l.length l ∧ (A = none → c = 0) := by
  rcases Nat.eq_zero_or_pos l.length with h0 | h0
  · have e : l = [] := List.eq_nil_of_length_eq_zero h0
    subst e
    rcases h.2 with ⟨rfl, _⟩ | ⟨g, cap, cur, rfl, _, _, hnc, hcm, _⟩
    · exact ⟨none, 0, rfl, Nat.le_refl _, by unfold maxLen; omega, ⟨rfl, by simp, by simp, fun h => absurd h (by simp)⟩, fun _ => rfl⟩
    · exact ⟨_, cap, rfl, hnc, hcm, ⟨rfl, by simp, by simp, fun h => absurd h (by simp)⟩, fun e => by cases e⟩
  · obtain ⟨g, cap, rfl, h1, h2, _, h3⟩ := h.ints h0 hl hf
    exact ⟨_, cap, rfl, h1, h2, h3, fun e => by cases e⟩
theorem OwnInts.alloc {w : World} {base : Nat} {v : Value} {l : List Int} (h : OwnInts w base v l) (o : Obj) : OwnInts (w.alloc o) base v l := World.ownsRow.alloc h o
theorem Ints.one (w : World) (x : Int) (hx : fitsB x = true) : Ints (w.alloc (.cells #[.int .i64 x] 3)) (w.heap.size + 1) (some ⟨w.heap.size, 0, none⟩) 1 [x] := by
  refine ⟨rfl, by omega, ?_, fun _ => ⟨_, _, rfl, by omega, ?_⟩⟩
  · intro u hu; simp at hu; subst hu; exact hx
  · intro j hj
    rw [World.cell?_alloc_at _ _ _ _ rfl]
    obtain rfl : j = 0 := by omega
    rfl
theorem Ints.store {w : World} {B n : Nat} {A : Option Addr} {l : List Int} (h : Ints w B A n l) {p : Addr} {v : Value} (hp : w.cell? p = some v) (hv : ∀ k z, v ≠ .int k z) (u : Value) : Ints (w.setCell p u) B A n l :=
  ⟨h.1, h.2.1, h.2.2.1, fun h0 => by
    obtain ⟨b, off, e, hb, hc⟩ := h.2.2.2 h0
    refine ⟨b, off, e, hb, fun j hj => ?_⟩
    rw [World.cell?_setCell_other]
    · exact hc j hj
    · intro e2
      have := hc j hj
      rw [← e2, hp] at this
      injection this with this
      exact hv _ _ this⟩

/-- A number stored into a struct of its own: it is that number there. -/
theorem num_store {w1 : World} {g : Nat} {b0 : Bool} {a1 : Option Addr} {l1 k1 : Nat} (m : Bool) {A : Option Addr} {k c K : Nat} {ds : List Int} {x : Int}
    (c0 : w1.cell? ⟨g, 0, none⟩ = some (.bool b0)) (c1 : w1.cell? ⟨g, 1, none⟩ = some (.slice a1 l1 k1)) (hI : Ints w1 w1.heap.size A k ds) (hkc : k ≤ c) (hcm : c ≤ maxLen) (hK : k ≤ K) (hd : Digs ds) (hn : Norm ds)
    (hm : m = true → 0 < k) (hx : x = if m then -valD ds else valD ds) :
    NumV ((w1.setCell ⟨g, 0, none⟩ (.bool m)).setCell ⟨g, 1, none⟩ (.slice A k c)) K (.agg #[.bool m, .slice A k c]) x := by
  refine ⟨m, A, k, c, ds, rfl, ?_, hkc, hcm, hK, hd, hn, hm, hx⟩
  have h1 := hI.store c0 (by intro k z e; cases e) (.bool m)
  have e1 : (w1.setCell ⟨g, 0, none⟩ (.bool m)).cell? ⟨g, 1, none⟩ = some (.slice a1 l1 k1) := by
    rw [World.cell?_setCell_other]
    · exact c1
    · intro e; injection e with _ e; cases e
  have h2 := h1.store e1 (by intro k z e; cases e) (.slice A k c)
  simpa using h2

end Go.Proofs.YtllkimdlmnjoiaaGreatDoor

namespace Go.Proofs.YtllkimdlmnjoiaaGreatDoor
set_option maxRecDepth 100000
set_option maxRecDepth 100000
set_option maxRecDepth 100000
set_option maxRecDepth 100000
open Go.RowKit

end Go.Proofs.YtllkimdlmnjoiaaGreatDoor
namespace Go.Proofs.YtllkimdlmnjoiaaGreatDoor
set_option maxRecDepth 100000
set_option maxRecDepth 100000
set_option maxRecDepth 100000
set_option maxRecDepth 100000
open Go.RowKit

theorem cell_kept {B : Nat} {w w' : World} (h : Below B w w') {p : Addr} {v : Value} (hp : p.block < B) (hc : w.cell? p = some v) : w'.cell? p = some v := (h.cell hp).trans hc
end Go.Proofs.YtllkimdlmnjoiaaGreatDoor

namespace Go.Proofs.YtllkimdlmnjoiaaGreatDoor
set_option maxRecDepth 100000
set_option maxRecDepth 100000
set_option maxRecDepth 100000
set_option maxRecDepth 100000
open Go.RowKit

theorem NumV.below {w w' : World} {K : Nat} {v : Value} {x : Int} (h : NumV w K v x) (hb : Below w.heap.size w w') : NumV w' K v x := by
  obtain ⟨m, A, n, c, ds, rfl, hI, h1, h2, h3, h4, h5, h6, h7⟩ := h
  exact ⟨m, A, n, c, ds, rfl, (hI.below hb (Nat.le_refl _)).more hb.size, h1, h2, h3, h4, h5, h6, h7⟩
end Go.Proofs.YtllkimdlmnjoiaaGreatDoor

namespace Go.Proofs.YtllkimdlmnjoiaaGreatDoor
set_option maxRecDepth 100000
set_option maxRecDepth 100000
set_option maxRecDepth 100000
set_option maxRecDepth 100000
open Go.RowKit

def byteD (d : Int) : UInt8 := UInt8.ofNat (48 + d).toNat
/-- The digits, the highest first, as bytes. -/
def highL (ds : List Int) : List UInt8 := ds.reverse.map byteD
theorem highL_snoc (ds : List Int) (d : Int) : highL (ds ++ [d]) = byteD d :: highL ds := by simp [highL]
def textL (m : Bool) (ds : List Int) : List UInt8 := if ds = [] then [48] else (if m then [45] else []) ++ highL ds

theorem cons_bytes (c : UInt8) (bs : List UInt8) : (⟨#[c]⟩ : ByteArray) ++ ⟨bs.toArray⟩ = ⟨(c :: bs).toArray⟩ := by
  apply ByteArray.ext; simp

theorem byte_string (W : World) (d : Int) : (convert 31 9 (.slice (some ⟨W.heap.size, 0, none⟩) 1 1)).run Tryz.prog (W.alloc (.cells #[.int .u8 (48 + d)] 5)) = .ok (.string ⟨#[byteD d]⟩) (W.alloc (.cells #[.int .u8 (48 + d)] 5)) := by
  rw [run_convert_bytes_string _ 31 9 5 _ _ _ Tryz.underlying31 Tryz.underlying5 Tryz.underlying9]
  have h : (loadCells (⟨W.heap.size, 0, none⟩ : Addr) 1).run Tryz.prog (W.alloc (.cells #[.int .u8 (48 + d)] 5)) = .ok (([48 + d] : List Int).map (Value.int .u8)).toArray (W.alloc (.cells #[.int .u8 (48 + d)] 5)) := by
    rw [run_loadCells _ _ 1 (fun _ => .int .u8 (48 + d)) (fun j hj => by
      obtain rfl : j = 0 := by omega
      rw [show (⟨W.heap.size, 0, none⟩ : Addr).add 0 = ⟨W.heap.size, 0, none⟩ from by simp [Addr.add], World.cell?_alloc_at _ _ _ _ rfl]
      rfl)]
    rfl
  rw [run_bytesToString _ _ 1 1 [48 + d] h]
  rfl

set_option maxHeartbeats 800000 in
theorem text_core (m : Bool) (A : Option Addr) (n c : Nat) (ds : List Int) (w : World) (hI : Ints w w.heap.size A n ds) (hn : n ≤ 1000) (hd : Digs ds) :
    Calls Tryz.prog 74 #[.agg #[.bool m, .slice A n c]] w fun e w' => e = .returned (.string ⟨(textL m ds).toArray⟩) ∧ Below w.heap.size w w' := by
  have HI := Lib.hid hI
  have HD := Lib.hid hd
  clear hI hd
  by_cases h0 : n = 0
  · subst h0
    have HT : Hid (textL m ds = [48]) := Lib.hid (by unfold textL; rw [if_pos (List.eq_nil_of_length_eq_zero HI.out.1)])
    go_enter Tryz.func74, Tryz.ntmps74
    go_wp2
    go_ret
    exact ⟨ret_str (by rw [HT.out]), below_new _ _⟩
  · have hne : ((n : Int) == 0) = false := by rw [beq_eq_false_iff_ne]; omega
    go_enter Tryz.func74, Tryz.ntmps74
    go_wp2
    go_loopw [3, 4] (fun v i wr => ∃ (k : Nat) (bs : List UInt8), k ≤ n ∧ i = .int .i64 k ∧ v = .string ⟨bs.toArray⟩ ∧ Hid (bs = highL (ds.take k)) ∧ Hid (bs.length = k) ∧ Hid (Below (w.heap.size + 1) (w.alloc (.cells #[.bool m, .slice A n c] 129)) wr)) (fun _ i _ => n - (intOf i).toNat)
    case atStart => exact ⟨0, [], by omega, rfl, rfl, Lib.hid rfl, Lib.hid rfl, Lib.hid (Below.refl _ _)⟩
    case round =>
      obtain ⟨k, bs, hk, rfl, rfl, hv, hl, hbel⟩ := hrel
      have hz : w.heap.size < wr.heap.size := by have := hbel.out.size; simp at this; omega
      have p0 : wr.cell? ⟨w.heap.size, 0, none⟩ = some (.bool m) := cell_kept hbel.out (by show w.heap.size < _; omega) (World.cell?_alloc_at _ _ _ _ rfl)
      have p1 : wr.cell? ⟨w.heap.size, 1, none⟩ = some (.slice A n c) := cell_kept hbel.out (by show w.heap.size < _; omega) (World.cell?_alloc_at _ _ _ _ rfl)
      by_cases hT : k < n
      · obtain ⟨b, off, rfl, hb, hc⟩ := ((HI.out.below (below_new _ _) (Nat.le_refl _)).below hbel.out (by omega)).2.2.2 (by omega)
        have ck := hc k hT
        clear hc
        have d1 := digs_getD HD.out k
        have HS : Hid (byteD (ds.getD k 0) :: bs = highL (ds.take (k + 1))) := Lib.hid (by
          have hlt : k < ds.length := by have := HI.out.1; omega
          rw [List.take_succ_eq_append_getElem hlt, highL_snoc, hv.out]
          congr 1
          simp [hlt])
        generalize ds.getD k 0 = d at ck d1 HS
        have hkn : (k : Int) < (n : Int) := by omega
        have hbl : bs.length ≤ 1000 := by have := hl.out; omega
        have hcv := byte_string wr d
        have hsz : 1 + bs.length ≤ 9223372036854775807 := by omega
        go_wp2
        go_roundw
        case rel => exact ⟨k + 1, byteD d :: bs, by omega, by go_num, congrArg Value.string (cons_bytes _ _), HS, Lib.hid (by have := hl.out; simp; omega), Lib.hid (hbel.out.alloc (by omega) _)⟩
        case measure => simp [intOf]; omega
      · obtain rfl : k = n := by omega
        have HE : Hid (bs = highL ds) := Lib.hid (by rw [hv.out, List.take_of_length_le (by have := HI.out.1; omega)])
        have HNE : Hid (ds ≠ []) := Lib.hid (by intro e; have := HI.out.1; rw [e] at this; simp at this; omega)
        have hbl : bs.length ≤ 1000 := by have := hl.out; omega
        have hsz : 1 + bs.length ≤ 9223372036854775807 := by omega
        have HB : Hid (Below w.heap.size w wr) := Lib.hid ((below_new _ _).trans (hbel.out.mono (by omega)))
        cases m
        · go_wp2
          go_ret
          exact ⟨ret_str (by rw [HE.out]; simp [textL, HNE.out]), HB.out⟩
        · go_wp2
          go_ret
          exact ⟨ret_str (by rw [cons_bytes, HE.out]; simp [textL, HNE.out]), HB.out⟩

theorem text_any (K : Nat) (m : Bool) (A : Option Addr) (n c : Nat) (ds : List Int) (w : World) (hI : Ints w w.heap.size A n ds) (hn : n ≤ K) (hK : K ≤ 1000) (hd : Digs ds) :
    Calls Tryz.prog 74 #[.agg #[.bool m, .slice A n c]] w fun e w' => e = .returned (.string ⟨(textL m ds).toArray⟩) ∧ Below w.heap.size w w' :=
  text_core m A n c ds w hI (by omega) hd
end Go.Proofs.YtllkimdlmnjoiaaGreatDoor
namespace Go.Proofs.YtllkimdlmnjoiaaGreatDoor
set_option maxRecDepth 100000
set_option maxRecDepth 100000
set_option maxRecDepth 100000
set_option maxRecDepth 100000
open Go.RowKit

theorem norm_cons {d : Int} {r : List Int} (h : Norm (d :: r)) : (r = [] ∧ d ≠ 0) ∨ (r ≠ [] ∧ Norm r) := by
  cases r with
  | nil => exact .inl ⟨rfl, by simpa [Norm] using h⟩
  | cons e t => exact .inr ⟨by simp, by simpa [Norm] using h⟩
theorem norm_pos {l : List Int} (h : Digs l) (hn : Norm l) (hne : l ≠ []) : 0 < valD l := by
  have h1 := norm_ge h hn hne
  have := ten_pos (l.length - 1)
  omega
theorem lows_of : ∀ (ds : List Int), Digs ds → Norm ds → lows (valD ds).toNat = ds.map (48 + ·)
  | [], _, _ => by simp [valD, lows_zero]
  | d :: r, hd, hn => by
    have h1 := digs_cons hd
    have hp := norm_pos hd hn (by simp)
    have h0 := valD_nonneg h1.2
    have e : valD (d :: r) = d + 10 * valD r := rfl
    rw [lows_pos _ (by omega)]
    have e1 : ((valD (d :: r)).toNat : Int) % 10 = d := by rw [e]; omega
    have e2 : (valD (d :: r)).toNat / 10 = (valD r).toNat := by rw [e]; omega
    rw [e1, e2]
    rcases norm_cons hn with ⟨rfl, _⟩ | ⟨_, hr⟩
    · simp [valD, lows_zero]
    · rw [lows_of r h1.2 hr]; rfl
theorem lowsAll_of (ds : List Int) (hd : Digs ds) (hn : Norm ds) (hne : ds ≠ []) : lowsAll (valD ds).toNat = ds.map (48 + ·) := by
  have hp := norm_pos hd hn hne
  rw [← lows_of ds hd hn, lows_pos _ (by omega)]
  rfl
/-- The document's text of a number is what the program's digits are. -/
theorem text_digL (m : Bool) (ds : List Int) (x : Int) (hd : Digs ds) (hn : Norm ds) (hm : m = true → ds ≠ []) (hx : x = if m then -valD ds else valD ds) : textL m ds = digL x := by
  unfold textL digL
  by_cases hne : ds = []
  · subst hne
    have : m = false := by cases m; rfl; exact absurd rfl (hm rfl)
    subst this
    simp [valD] at hx
    subst hx
    rw [if_pos rfl, show lowsAll (0 : Int).natAbs = [48] from by simp [lowsAll, lows_zero]]
    decide
  · have hp := norm_pos hd hn hne
    have ha : x.natAbs = (valD ds).toNat := by cases m <;> simp at hx <;> omega
    rw [if_neg hne, ha, lowsAll_of ds hd hn hne]
    congr 1
    · cases m <;> simp at hx <;> simp <;> omega
    · simp [highL, byteD, Function.comp_def]

/-- The values of digits, the last one first. -/
def dvals (bs : List UInt8) : List Int := bs.reverse.map fun c => (c.toNat : Int) - 48
theorem dig_of {c : UInt8} (h : digB c = true) : 48 ≤ c.toNat ∧ c.toNat ≤ 57 := by simpa [digB] using h
theorem valL_snoc (bs : List UInt8) (c : UInt8) : valL (bs ++ [c]) = valL bs * 10 + (c.toNat - 48) := by simp [valL, valStep]
theorem valD_rev : ∀ rs : List UInt8, rs.all digB = true → valD (rs.map fun c => (c.toNat : Int) - 48) = valL rs.reverse
  | [], _ => rfl
  | c :: r, h => by
    simp only [List.all_cons, Bool.and_eq_true] at h
    have h1 := dig_of h.1
    have ih := valD_rev r h.2
    rw [List.reverse_cons, valL_snoc, List.map_cons]
    simp only [valD, ih]
    omega
theorem valD_dvals (bs : List UInt8) (h : bs.all digB = true) : valD (dvals bs) = valL bs := by
  unfold dvals
  rw [valD_rev bs.reverse (by simpa using h), List.reverse_reverse]

end Go.Proofs.YtllkimdlmnjoiaaGreatDoor
namespace Go.Proofs.YtllkimdlmnjoiaaGreatDoor
set_option maxRecDepth 100000
set_option maxRecDepth 100000
set_option maxRecDepth 100000
set_option maxRecDepth 100000
open Go.RowKit

end Go.Proofs.YtllkimdlmnjoiaaGreatDoor
namespace Go.Proofs.YtllkimdlmnjoiaaGreatDoor
set_option maxRecDepth 100000
set_option maxRecDepth 100000
set_option maxRecDepth 100000
set_option maxRecDepth 100000
open Go.RowKit

end Go.Proofs.YtllkimdlmnjoiaaGreatDoor
namespace Go.Proofs.YtllkimdlmnjoiaaGreatDoor
set_option maxRecDepth 100000
set_option maxRecDepth 100000
set_option maxRecDepth 100000
set_option maxRecDepth 100000
open Go.RowKit

theorem dig_exist : ∀ (b N : Nat), N < b → ∃ ds, Digs ds ∧ Norm ds ∧ valD ds = N
  | 0, _, h => absurd h (by omega)
  | b + 1, N, h => by
    by_cases h0 : N = 0
    · exact ⟨[], digs_nil, by simp [Norm], by simp [valD, h0]⟩
    · obtain ⟨ds, h1, h2, h3⟩ := dig_exist b (N / 10) (by omega)
      refine ⟨((N : Int) % 10) :: ds, ?_, ?_, ?_⟩
      · intro x hx
        rcases List.mem_cons.1 hx with rfl | hx
        · omega
        · exact h1 x hx
      · cases ds with
        | nil => simp [valD] at h3; simp [Norm]; omega
        | cons e t => simpa [Norm] using h2
      · simp only [valD, h3]; omega

theorem byteD_nat (d : Int) (h0 : 0 ≤ d) (h9 : d ≤ 9) : ((byteD d).toNat : Int) = 48 + d := by
  unfold byteD
  rw [UInt8.toNat_ofNat']
  omega
theorem high_all (ds : List Int) (h : Digs ds) : (highL ds).all digB = true := by
  rw [List.all_eq_true]
  intro c hc
  obtain ⟨d, hd, rfl⟩ := List.mem_map.1 hc
  have h1 := h d (by simpa using hd)
  have := byteD_nat d h1.1 h1.2
  simp [digB]; omega
theorem dvals_high (ds : List Int) (h : Digs ds) : dvals (highL ds) = ds := by
  unfold dvals highL
  rw [← List.map_reverse, List.reverse_reverse, List.map_map]
  conv => rhs; rw [← List.map_id ds]
  apply List.map_congr_left
  intro d hd
  have h1 := h d hd
  have := byteD_nat d h1.1 h1.2
  simp only [Function.comp_def, id]
  omega
theorem head_digit (l : List UInt8) (h : l.all digB = true) : minusB l = false := by
  cases l with
  | nil => rfl
  | cons c r =>
    have := dig_of (List.all_eq_true.1 h c (by simp))
    have hc : c ≠ 45 := by intro e; subst e; revert this; decide
    simp [minusB, hc]

/-- Digits are read as their number. -/
theorem parse_digL (x : Int) (hf : fitsB x = true) : parseV (digL x) = x ∧ parseE (digL x) = 0 := by
  obtain ⟨ds, hd, hn, hv⟩ := dig_exist (x.natAbs + 1) x.natAbs (by omega)
  have ht : textL (decide (x < 0)) ds = digL x := by
    refine text_digL _ ds x hd hn ?_ ?_
    · intro e he
      subst he
      simp [valD] at hv
      simp at e
      omega
    · by_cases h : x < 0
      · simp [h]; omega
      · simp [h]; omega
  by_cases hne : ds = []
  · subst hne
    simp [valD] at hv
    have : x = 0 := by omega
    subst this
    rw [← ht]
    decide
  · have hb : digsOf (digL x) = highL ds ∧ minusB (digL x) = decide (x < 0) := by
      rw [← ht]
      unfold textL
      rw [if_neg hne]
      by_cases h : x < 0
      · simp [h, digsOf, minusB]
      · simp only [h, decide_false, Bool.false_eq_true, if_false, List.nil_append]
        have := head_digit _ (high_all ds hd)
        exact ⟨by simp [digsOf, this], this⟩
    have hw : wholeL (highL ds) = true := by
      unfold wholeL
      rw [high_all ds hd]
      have : highL ds ≠ [] := by simp [highL, hne]
      have hh : (highL ds).headD 0 ≠ 48 := by
        intro e
        obtain ⟨i, d, rfl⟩ : ∃ i d, ds = i ++ [d] := ⟨ds.dropLast, ds.getLast hne, (List.dropLast_concat_getLast hne).symm⟩
        rw [highL_snoc] at e
        simp at e
        have h9 := hd d (by simp)
        have := byteD_nat d h9.1 h9.2
        rw [e] at this
        have hl := hn
        unfold Norm at hl
        rw [last_snoc] at hl
        apply hl
        have e48 : ((48 : UInt8).toNat : Int) = 48 := rfl
        omega
      simp [this]
      exact .inr (by simpa using hh)
    have hz : (highL ds == ([48] : List UInt8)) = false ∨ minusB (digL x) = false := by
      by_cases h : highL ds = [48]
      · have h1 := dvals_high ds hd
        rw [h] at h1
        have : ds = [0] := by rw [← h1]; decide
        subst this
        exact absurd hn (by simp [Norm])
      · exact .inl (by simp [h])
    have hpa : parseArg (digL x) = false := by
      unfold parseArg
      rw [hb.1, hw]
      rcases hz with h | h <;> simp [h]
    have hpn : parseN (minusB (digL x)) (digsOf (digL x)) = x := by
      rw [hb.1, hb.2]
      unfold parseN
      have h2 := valD_dvals (highL ds) (high_all ds hd)
      rw [dvals_high ds hd, hv] at h2
      rw [← h2]
      by_cases h : x < 0
      · simp [h]; omega
      · simp [h]; omega
    unfold parseV parseE
    rw [hpa, hpn]
    simp [hf, room_ok hf]

end Go.Proofs.YtllkimdlmnjoiaaGreatDoor




