/- Carried over from an earlier seat. -/
import Derived.Test.YthjbmlgjlndihaaRIA
import Derived.Test.YthjbmlgjlndihaaLN
import Derived.Lib.Hide
import Derived.Laws.ResultCell
import Derived.Deep.RegionWith
import Derived.Laws.BytesString
import Derived.StillTailTactics
namespace Go.Proofs.Ythjbmlgjlndihaa
set_option maxRecDepth 100000
set_option maxRecDepth 100000

def valD : List Int → Int
  | [] => 0
  | d :: r => d + 10 * valD r
def Digs (l : List Int) : Prop := ∀ d ∈ l, 0 ≤ d ∧ d ≤ 9
/-- No nought behind. -/
def Norm (l : List Int) : Prop := l.getLastD 1 ≠ 0
def ten (n : Nat) : Int := 10 ^ n
theorem ten_zero : ten 0 = 1 := rfl
theorem ten_succ (n : Nat) : ten (n + 1) = 10 * ten n := by unfold ten; rw [Int.pow_succ, Int.mul_comm]
theorem ten_pos : ∀ n, 0 < ten n
  | 0 => by decide
  | n + 1 => by have := ten_pos n; rw [ten_succ]; omega
theorem ten_mono {a b : Nat} (h : a ≤ b) : ten a ≤ ten b := by
  induction b with
  | zero => obtain rfl : a = 0 := by omega
            exact Int.le_refl _
  | succ b ih =>
    by_cases e : a = b + 1
    · subst e; exact Int.le_refl _
    · have := ih (by omega); have := ten_pos b; rw [ten_succ]; omega

theorem digs_nil : Digs [] := fun _ h => by cases h
theorem digs_cons {d : Int} {r : List Int} (h : Digs (d :: r)) : (0 ≤ d ∧ d ≤ 9) ∧ Digs r := ⟨h d (by simp), fun x hx => h x (by simp [hx])⟩
theorem digs_take {l : List Int} (h : Digs l) (k : Nat) : Digs (l.take k) := fun x hx => h x (List.mem_of_mem_take hx)
theorem digs_getD {l : List Int} (h : Digs l) (k : Nat) : 0 ≤ l.getD k 0 ∧ l.getD k 0 ≤ 9 := by
  rcases Nat.lt_or_ge k l.length with hk | hk
  · have e : l.getD k 0 = l[k] := by simp [hk]
    rw [e]; exact h _ (List.getElem_mem hk)
  · have e : l.getD k 0 = 0 := by simp [hk]
    rw [e]; omega

theorem valD_nonneg : ∀ {l : List Int}, Digs l → 0 ≤ valD l
  | [], _ => Int.le_refl _
  | d :: r, h => by
    have := digs_cons h
    have := valD_nonneg this.2
    simp only [valD]; omega
theorem valD_lt : ∀ {l : List Int}, Digs l → valD l < ten l.length
  | [], _ => by decide
  | d :: r, h => by
    have := digs_cons h
    have := valD_lt this.2
    simp only [valD, List.length_cons, ten_succ]; omega
theorem valD_append : ∀ (a b : List Int), valD (a ++ b) = valD a + ten a.length * valD b
  | [], b => by simp [valD, ten_zero]
  | d :: r, b => by
    simp only [List.cons_append, valD, valD_append r b, List.length_cons, ten_succ]
    rw [Int.mul_add, Int.mul_assoc, Int.add_assoc]
theorem valD_snoc (a : List Int) (d : Int) : valD (a ++ [d]) = valD a + ten a.length * d := by
  rw [valD_append]; simp [valD]
theorem valD_take (l : List Int) (k : Nat) : valD (l.take (k + 1)) = valD (l.take k) + ten k * l.getD k 0 := by
  rcases Nat.lt_or_ge k l.length with hk | hk
  · rw [List.take_succ_eq_append_getElem hk, valD_snoc, List.length_take, Nat.min_eq_left (by omega)]
    simp [hk]
  · rw [List.take_of_length_le (by omega), List.take_of_length_le hk]
    simp [hk]
theorem valD_all {l : List Int} {k : Nat} (h : l.length ≤ k) : valD (l.take k) = valD l := by rw [List.take_of_length_le h]

theorem norm_ge : ∀ {l : List Int}, Digs l → Norm l → l ≠ [] → ten (l.length - 1) ≤ valD l
  | [], _, _, h => absurd rfl h
  | [d], h, hn, _ => by
    have := digs_cons h
    have h1 : d ≠ 0 := by simpa [Norm] using hn
    simp [valD, ten_zero]; omega
  | d :: e :: r, h, hn, _ => by
    have h1 := digs_cons h
    have h2 := norm_ge h1.2 (by simpa [Norm] using hn) (by simp)
    have e2 : (d :: e :: r).length - 1 = ((e :: r).length - 1) + 1 := by simp
    have e1 : valD (d :: e :: r) = d + 10 * valD (e :: r) := rfl
    rw [e1, e2, ten_succ]
    omega
theorem norm_short {l : List Int} (h : Digs l) (hn : Norm l) {j : Nat} (hv : valD l < ten j) : l.length ≤ j := by
  rcases Nat.lt_or_ge j l.length with hj | hj
  · have h1 := norm_ge h hn (by intro e; subst e; simp at hj)
    have := ten_mono (show j ≤ l.length - 1 by omega)
    omega
  · exact hj
theorem norm_zero {l : List Int} (h : Digs l) (hn : Norm l) (hv : valD l = 0) : l = [] := by
  have := norm_short h hn (j := 0) (by rw [hv]; decide)
  exact List.eq_nil_of_length_eq_zero (by omega)
/-- Without its noughts behind. -/
theorem valD_noughts (l : List Int) (k : Nat) (h : ∀ j, k ≤ j → j < l.length → l.getD j 0 = 0) : valD (l.take k) = valD l := by
  have key : ∀ m, valD (l.take (k + m)) = valD (l.take k) := by
    intro m
    induction m with
    | zero => rfl
    | succ m ih =>
      rw [← Nat.add_assoc, valD_take, ih]
      have : l.getD (k + m) 0 = 0 := by
        rcases Nat.lt_or_ge (k + m) l.length with hk | hk
        · exact h _ (by omega) hk
        · simp [hk]
      rw [this]; omega
  have := key l.length
  rw [valD_all (by omega)] at this
  exact this.symm
theorem last_snoc (m : List Int) (x : Int) : (m ++ [x]).getLastD 1 = x := by rw [List.getLastD_eq_getLast?]; simp
theorem norm_take (l : List Int) (k : Nat) (hk : k ≤ l.length) (h : k = 0 ∨ l.getD (k - 1) 0 ≠ 0) : Norm (l.take k) := by
  unfold Norm
  rcases h with rfl | h
  · simp
  · cases k with
    | zero => simp
    | succ k =>
      have e : (l.take k ++ [l[k]'(by omega)]).getLastD 1 = l[k]'(by omega) := last_snoc _ _
      rw [List.take_succ_eq_append_getElem (by omega), e]
      have e2 : l.getD (k + 1 - 1) 0 = l[k]'(by omega) := by simp [show k < l.length by omega]
      rwa [e2] at h
end Go.Proofs.Ythjbmlgjlndihaa
namespace Go.Proofs.Ythjbmlgjlndihaa
set_option maxRecDepth 100000
set_option maxRecDepth 100000
open Go.RowKit

/-- What trim answers: the sign, if anything is left, and the row without its noughts behind. -/
def TrimPost (m : Bool) (A : Option Addr) (n c : Nat) (l : List Int) (e : Ending) : Prop :=
  ∃ k, e = .returned (.agg #[.bool (m && decide (0 < k)), .slice A k c]) ∧ k ≤ n ∧ valD (l.take k) = valD l ∧ Norm (l.take k)

set_option maxHeartbeats 800000 in
theorem trim_any (m : Bool) (A : Option Addr) (B n c : Nat) (l : List Int) (w : World) (h : Ints w B A n l) (hB : B ≤ w.heap.size) (hc : n ≤ c) (hcm : c ≤ maxLen) :
    Calls Try.prog 25 #[.bool m, .slice A n c] w fun e w' => TrimPost m A n c l e ∧ Below w.heap.size w w' := by
  have HI := Lib.hid h
  have hn := h.2.1
  unfold maxLen at hcm
  clear h
  go_enter Try.func25, Try.ntmps25
  go_wp2
  go_loop [5] (fun i => ∃ k : Nat, k ≤ n ∧ i = .int .i64 k ∧ Hid (∀ j, k ≤ j → j < l.length → l.getD j 0 = 0)) (fun i => (intOf i).toNat)
  case atStart => exact ⟨n, Nat.le_refl _, rfl, Lib.hid (fun j h1 h2 => absurd h1 (by have := HI.out.1; omega))⟩
  case round =>
    obtain ⟨k, hk, rfl, hz⟩ := hrel
    by_cases h0 : 0 < k
    · have h0' : (0 : Int) < (k : Int) := by omega
      obtain ⟨b, off, rfl, hb, hc'⟩ := HI.out.2.2.2 (by omega)
      obtain ⟨j, rfl⟩ : ∃ j, k = j + 1 := ⟨k - 1, by omega⟩
      have hck : w.cell? ⟨b, off + j, none⟩ = some (.int .i64 (l.getD j 0)) := hc' j (by omega)
      clear hc'
      have hca : (w.alloc (.cells #[.bool false, .slice none 0 0] 61)).cell? ⟨b, off + j, none⟩ = some (.int .i64 (l.getD j 0)) := by
        rw [World.cell?_alloc_past _ _ _ (by show b < _; omega)]; exact hck
      clear hck
      by_cases hx : l.getD j 0 = 0
      · have HX : Hid (∀ i, j ≤ i → i < l.length → l.getD i 0 = 0) := Lib.hid (fun i h1 h2 => by
          by_cases e : i = j
          · subst e; exact hx
          · exact hz.out i (by omega) h2)
        rw [hx] at hca
        clear hx hz
        go_wp2
        go_round
        case rel => exact ⟨j, by omega, rfl, HX⟩
        case measure => simp [intOf]
      · have hxb : (l.getD j 0 == 0) = false := by rw [beq_eq_false_iff_ne]; exact hx
        have HP : Hid (valD (l.take (j + 1)) = valD l ∧ Norm (l.take (j + 1))) := Lib.hid ⟨valD_noughts l _ hz.out, norm_take l _ (by have := HI.out.1; omega) (.inr hx)⟩
        clear hx hz
        generalize l.getD j 0 = x at hca hxb
        have h1 : (j : Int) + 1 ≤ (c : Int) := by omega
        cases m
        · go_wp2
          exact bodyPost_ret (v := .agg #[.bool false, .slice (some ⟨b, off, none⟩) (j + 1) c]) (by simp [results, Try.results25, go_sem]) rfl ⟨⟨j + 1, rfl, hk, HP.out.1, HP.out.2⟩, below_new _ _⟩
        · go_wp2
          exact bodyPost_ret (v := .agg #[.bool true, .slice (some ⟨b, off, none⟩) (j + 1) c]) (by simp [results, Try.results25, go_sem]) rfl ⟨⟨j + 1, by simp, hk, HP.out.1, HP.out.2⟩, below_new _ _⟩
    · obtain rfl : k = 0 := by omega
      have HP : Hid (valD (l.take 0) = valD l ∧ Norm (l.take 0)) := Lib.hid ⟨valD_noughts l _ hz.out, norm_take l _ (by omega) (.inl rfl)⟩
      clear hz
      cases m
      all_goals
        go_wp2
        exact bodyPost_ret (v := .agg #[.bool false, .slice A 0 c]) (by simp [results, Try.results25, go_sem]) rfl ⟨⟨0, by simp, hk, HP.out.1, HP.out.2⟩, below_new _ _⟩

/-- A number of any greatness, as the document's own arithmetic keeps it: its sign, its digits, at most k of them. -/
def NumV (w : World) (k : Nat) (v : Value) (x : Int) : Prop :=
  ∃ (m : Bool) (A : Option Addr) (n c : Nat) (ds : List Int), v = .agg #[.bool m, .slice A n c] ∧ Ints w w.heap.size A n ds ∧ n ≤ c ∧ c ≤ maxLen ∧ n ≤ k ∧ Digs ds ∧ Norm ds ∧ (m = true → 0 < n) ∧ x = (if m then -valD ds else valD ds)
theorem OwnInts.form {w : World} {base : Nat} {v : Value} {l : List Int} (h : OwnInts w base v l) (hl : l.length ≤ 140737488355328) (hf : ∀ x ∈ l, fitsB x = true) :
    ∃ A c, v = .slice A l.length c ∧ l.length ≤ c ∧ c ≤ maxLen ∧ Ints w w.heap.size A l.length l ∧ (A = none → c = 0) := by
  rcases Nat.eq_zero_or_pos l.length with h0 | h0
  · have e : l = [] := List.eq_nil_of_length_eq_zero h0
    subst e
    rcases h.2 with ⟨rfl, _⟩ | ⟨g, cap, cur, rfl, _, _, hnc, hcm, _⟩
    · exact ⟨none, 0, rfl, Nat.le_refl _, by unfold maxLen; omega, ⟨rfl, by simp, by simp, fun h => absurd h (by simp)⟩, fun _ => rfl⟩
    · exact ⟨_, cap, rfl, hnc, hcm, ⟨rfl, by simp, by simp, fun h => absurd h (by simp)⟩, fun e => by cases e⟩
  · obtain ⟨g, cap, rfl, h1, h2, _, h3⟩ := h.ints h0 hl hf
    exact ⟨_, cap, rfl, h1, h2, h3, fun e => by cases e⟩
theorem OwnInts.alloc {w : World} {base : Nat} {v : Value} {l : List Int} (h : OwnInts w base v l) (o : Obj) : OwnInts (w.alloc o) base v l := World.ownsRow.alloc h o
theorem Ints.store {w : World} {B n : Nat} {A : Option Addr} {l : List Int} (h : Ints w B A n l) {p : Addr} {v : Value} (hp : w.cell? p = some v) (hv : ∀ k z, v ≠ .int k z) (u : Value) : Ints (w.setCell p u) B A n l :=
  ⟨h.1, h.2.1, h.2.2.1, fun h0 => by
    obtain ⟨b, off, e, hb, hc⟩ := h.2.2.2 h0
    refine ⟨b, off, e, hb, fun j hj => ?_⟩
    rw [World.cell?_setCell_other]
    · exact hc j hj
    · intro e2
      have := hc j hj
      rw [← e2, hp] at this
      injection this with this
      exact hv _ _ this⟩

/-- A number stored into a struct of its own: it is that number there. -/
theorem num_store {w1 : World} {g : Nat} {b0 : Bool} {a1 : Option Addr} {l1 k1 : Nat} (m : Bool) {A : Option Addr} {k c K : Nat} {ds : List Int} {x : Int}
    (c0 : w1.cell? ⟨g, 0, none⟩ = some (.bool b0)) (c1 : w1.cell? ⟨g, 1, none⟩ = some (.slice a1 l1 k1)) (hI : Ints w1 w1.heap.size A k ds) (hkc : k ≤ c) (hcm : c ≤ maxLen) (hK : k ≤ K) (hd : Digs ds) (hn : Norm ds)
    (hm : m = true → 0 < k) (hx : x = if m then -valD ds else valD ds) :
    NumV ((w1.setCell ⟨g, 0, none⟩ (.bool m)).setCell ⟨g, 1, none⟩ (.slice A k c)) K (.agg #[.bool m, .slice A k c]) x := by
  refine ⟨m, A, k, c, ds, rfl, ?_, hkc, hcm, hK, hd, hn, hm, hx⟩
  have h1 := hI.store c0 (by intro k z e; cases e) (.bool m)
  have e1 : (w1.setCell ⟨g, 0, none⟩ (.bool m)).cell? ⟨g, 1, none⟩ = some (.slice a1 l1 k1) := by
    rw [World.cell?_setCell_other]
    · exact c1
    · intro e; injection e with _ e; cases e
  have h2 := h1.store e1 (by intro k z e; cases e) (.slice A k c)
  simpa using h2

end Go.Proofs.Ythjbmlgjlndihaa

namespace Go.Proofs.Ythjbmlgjlndihaa
set_option maxRecDepth 100000
set_option maxRecDepth 100000
open Go.RowKit

theorem valD_drop_le {l : List Int} (h : Digs l) (k : Nat) : valD (l.drop k) ≤ valD l := by
  have e : valD l = valD (l.take k) + ten (l.take k).length * valD (l.drop k) := by rw [← valD_append, List.take_append_drop]
  have h1 := valD_nonneg (digs_take h k)
  have h2 : 0 ≤ valD (l.drop k) := valD_nonneg (fun x hx => h x (List.mem_of_mem_drop hx))
  have h3 := Int.mul_le_mul_of_nonneg_right (show (1 : Int) ≤ ten (l.take k).length by have := ten_pos (l.take k).length; omega) h2
  rw [Int.one_mul] at h3
  omega
theorem valD_drop_step (l : List Int) (j : Nat) (h : j < l.length) : valD (l.drop j) = l.getD j 0 + 10 * valD (l.drop (j + 1)) := by
  rw [drop_cons l j h]; rfl

theorem no_fit {x : Int} (h : x < -9223372036854775808 ∨ 9223372036854775807 < x) : room x = 0 ∧ fitsB x = false := by
  have : fitsB x = false := by rw [fits_not]; omega
  exact ⟨room_no this, this⟩
theorem ret_two {a b c d : Int} (h1 : a = c) (h2 : b = d) : Ending.returned (.tuple #[.int .i64 a, .int .i64 b]) = .returned (.tuple #[.int .i64 c, .int .i64 d]) := by rw [h1, h2]
theorem ret_no {x : Int} (h1 : room x = 0) (h2 : fitsB x = false) : Ending.returned (.tuple #[.int .i64 0, .bool false]) = .returned (.tuple #[.int .i64 (room x), .bool (fitsB x)]) := by rw [h1, h2]
theorem ret_yes {x v : Int} (h1 : x = v) (h2 : fitsB x = true) : Ending.returned (.tuple #[.int .i64 v, .bool true]) = .returned (.tuple #[.int .i64 (room x), .bool (fitsB x)]) := by rw [room_ok h2, h2, h1]

/-- The two cells of a struct that a value parameter is laid into, and what lay there before. -/
theorem box_old (w : World) (o : Obj) {p : Addr} {v : Value} (h : p.block < w.heap.size) (hc : w.cell? p = some v) : (w.alloc o).cell? p = some v := by
  rw [World.cell?_alloc_lt w o p h]; exact hc

set_option maxHeartbeats 1600000 in
theorem int_core (m : Bool) (A : Option Addr) (n c : Nat) (ds : List Int) (w : World) (hI : Ints w w.heap.size A n ds) (_hnc : n ≤ c) (hn : n ≤ 100000) (hd : Digs ds) (x : Int) (hx : x = if m then -valD ds else valD ds) :
    Calls Try.prog 34 #[.agg #[.bool m, .slice A n c]] w fun e w' => e = .returned (.tuple #[.int .i64 (room x), .bool (fitsB x)]) ∧ Below w.heap.size w w' := by
  have HI := Lib.hid hI
  have HD := Lib.hid hd
  have HX := Lib.hid hx
  clear hI hd hx
  go_enter Try.func34, Try.ntmps34
  go_wp2
  go_loop [4, 5] (fun y i => ∃ (k : Nat) (v : Int), k ≤ n ∧ i = .int .i64 ((k : Int) - 1) ∧ y = .int .i64 (-v) ∧ Hid (v = valD (ds.drop k)) ∧ Hid (0 ≤ v) ∧ Hid (v ≤ 9223372036854775808)) (fun _ i => (intOf i + 1).toNat)
  case atStart =>
    exact ⟨n, 0, Nat.le_refl _, rfl, rfl, Lib.hid (by rw [List.drop_eq_nil_of_le (by have := HI.out.1; omega)]; rfl), Lib.hid (by omega), Lib.hid (by omega)⟩
  case round =>
    obtain ⟨k, v, hk, rfl, rfl, hv, hv0, hv1⟩ := hrel
    have v0 := hv0.out
    have v1 := hv1.out
    by_cases h0 : 0 < k
    · obtain ⟨j, rfl⟩ : ∃ j, k = j + 1 := ⟨k - 1, by omega⟩
      obtain ⟨b, off, rfl, hb, hc'⟩ := HI.out.2.2.2 (by omega)
      have hca := box_old w (.cells #[.bool m, .slice (some ⟨b, off, none⟩) n c] 61) hb (hc' j (by omega))
      clear hc'
      have hdj := digs_getD HD.out j
      have HS : Hid (ds.getD j 0 + 10 * v = valD (ds.drop j)) := Lib.hid (by rw [hv.out, valD_drop_step ds j (by have := HI.out.1; omega)])
      have HL := Lib.hid (valD_drop_le HD.out j)
      generalize ds.getD j 0 = d at hca hdj HS
      have hji : ((j + 1 : Nat) : Int) - 1 = (j : Int) := by omega
      rw [hji]
      clear hji
      by_cases t1 : 922337203685477580 < v
      · have NF : Hid (room x = 0 ∧ fitsB x = false) := Lib.hid (no_fit (by have hh := HX.out; have := HS.out; have := HL.out; split at hh <;> omega))
        go_wp2
        go_ret2
        exact ⟨ret_no NF.out.1 NF.out.2, below_new _ _⟩
      · by_cases t2 : v = 922337203685477580
        · have b2 : (-v == -922337203685477580) = true := by rw [beq_iff_eq]; omega
          have b4 : ¬ v < 922337203685477580 := by omega
          by_cases t3 : 8 < d
          · have NF : Hid (room x = 0 ∧ fitsB x = false) := Lib.hid (no_fit (by have hh := HX.out; have := HS.out; have := HL.out; split at hh <;> omega))
            clear t2
            go_wp2
            go_ret2
            exact ⟨ret_no NF.out.1 NF.out.2, below_new _ _⟩
          · have b5 : v ≤ 922337203685477580 := by omega
            clear t2
            go_wp2
            go_round
            case rel => exact ⟨j, d + 10 * v, by omega, rfl, by congr 1; omega, HS, Lib.hid (by omega), Lib.hid (by omega)⟩
            case measure => simp [intOf]
        · have b2 : (-v == -922337203685477580) = false := by rw [beq_eq_false_iff_ne]; omega
          have b3 : v < 922337203685477580 := by omega
          clear t1 t2
          go_wp2
          go_round
          case rel => exact ⟨j, d + 10 * v, by omega, rfl, by congr 1; omega, HS, Lib.hid (by omega), Lib.hid (by omega)⟩
          case measure => simp [intOf]
    · obtain rfl : k = 0 := by omega
      have HV : Hid (v = valD ds) := Lib.hid (by rw [hv.out, List.drop_zero])
      clear hv
      cases m
      · by_cases t : v = 9223372036854775808
        · have b2 : (-v == -9223372036854775808) = true := by rw [beq_iff_eq]; omega
          have NF : Hid (room x = 0 ∧ fitsB x = false) := Lib.hid (no_fit (by have := HX.out; simp at this; have := HV.out; omega))
          clear t
          go_wp2
          go_ret2
          exact ⟨ret_no NF.out.1 NF.out.2, below_new _ _⟩
        · have b2 : (-v == -9223372036854775808) = false := by rw [beq_eq_false_iff_ne]; omega
          have v2 : v ≤ 9223372036854775807 := by omega
          have YF : Hid (x = v ∧ fitsB x = true) := Lib.hid (by have h1 := HX.out; simp at h1; have h2 := HV.out; exact ⟨by omega, by rw [fits_iff]; omega⟩)
          clear t
          go_wp2
          go_ret2
          exact ⟨ret_yes YF.out.1 YF.out.2, below_new _ _⟩
      · have YF : Hid (x = -v ∧ fitsB x = true) := Lib.hid (by have h1 := HX.out; simp at h1; have h2 := HV.out; exact ⟨by omega, by rw [fits_iff]; omega⟩)
        go_wp2
        go_ret2
        exact ⟨ret_yes YF.out.1 YF.out.2, below_new _ _⟩

set_option maxHeartbeats 800000 in
theorem told_any (K : Nat) (v : Value) (x : Int) (w : World) (h : NumV w K v x) (hK : K ≤ 100000) :
    Calls Try.prog 27 #[v] w fun e w' => e = .returned (.tuple #[.int .i64 (room x), .int .i64 (errB x)]) ∧ Below w.heap.size w w' := by
  obtain ⟨m, A, n, c, ds, rfl, hI, hnc, hcm, hk, hd, hno, hm, hx⟩ := h
  have HI := Lib.hid (fun o => int_core m A n c ds (w.alloc o) ((hI.below (below_new w o) (Nat.le_refl _)).more (by simp)) hnc (by omega) hd x hx)
  clear hI hd hno hm hx hcm
  cases hf : fitsB x
  · have e1 := errB_no hf
    have e2 := room_no hf
    go_enter Try.func27, Try.ntmps27
    go_wp2_with fail
    refine (HI.out _).mono ?_
    rintro e w1 ⟨rfl, hb⟩
    have B1 := Lib.hid hb
    clear hb
    go_wp2
    go_ret2
    exact ⟨ret_two e2.symm e1.symm, bnext (below_new _ _) B1.out⟩
  · have e1 := errB_ok hf
    go_enter Try.func27, Try.ntmps27
    go_wp2_with fail
    refine (HI.out _).mono ?_
    rintro e w1 ⟨rfl, hb⟩
    have B1 := Lib.hid hb
    clear hb
    go_wp2
    go_ret2
    exact ⟨ret_two rfl e1.symm, bnext (below_new _ _) B1.out⟩
end Go.Proofs.Ythjbmlgjlndihaa
namespace Go.Proofs.Ythjbmlgjlndihaa
set_option maxRecDepth 100000
set_option maxRecDepth 100000
open Go.RowKit

theorem cell_kept {B : Nat} {w w' : World} (h : Below B w w') {p : Addr} {v : Value} (hp : p.block < B) (hc : w.cell? p = some v) : w'.cell? p = some v := (h.cell hp).trans hc
theorem frozen_kept {B : Nat} {w w' : World} (h : Below B w w') {p : Addr} {v : Bool} (hp : p.block < B) (hc : w.frozen? p = v) : w'.frozen? p = v := (h.frozen hp).trans hc

end Go.Proofs.Ythjbmlgjlndihaa

namespace Go.Proofs.Ythjbmlgjlndihaa
set_option maxRecDepth 100000
set_option maxRecDepth 100000
open Go.RowKit

theorem NumV.below {w w' : World} {K : Nat} {v : Value} {x : Int} (h : NumV w K v x) (hb : Below w.heap.size w w') : NumV w' K v x := by
  obtain ⟨m, A, n, c, ds, rfl, hI, h1, h2, h3, h4, h5, h6, h7⟩ := h
  exact ⟨m, A, n, c, ds, rfl, (hI.below hb (Nat.le_refl _)).more hb.size, h1, h2, h3, h4, h5, h6, h7⟩
theorem NumV.more {w : World} {K K' : Nat} {v : Value} {x : Int} (h : NumV w K v x) (hk : K ≤ K') : NumV w K' v x := by
  obtain ⟨m, A, n, c, ds, rfl, hI, h1, h2, h3, h4, h5, h6, h7⟩ := h
  exact ⟨m, A, n, c, ds, rfl, hI, h1, h2, by omega, h4, h5, h6, h7⟩

theorem store_cells {w : World} {g : Nat} {x0 x1 : Value} (c0 : w.cell? ⟨g, 0, none⟩ = some x0) (c1 : w.cell? ⟨g, 1, none⟩ = some x1) (f0 : w.frozen? ⟨g, 0, none⟩ = false) (f1 : w.frozen? ⟨g, 1, none⟩ = false) (u0 u1 : Value) :
    ((w.setCell ⟨g, 0, none⟩ u0).setCell ⟨g, 1, none⟩ u1).cell? ⟨g, 0, none⟩ = some u0 ∧ ((w.setCell ⟨g, 0, none⟩ u0).setCell ⟨g, 1, none⟩ u1).cell? ⟨g, 1, none⟩ = some u1 ∧
    ((w.setCell ⟨g, 0, none⟩ u0).setCell ⟨g, 1, none⟩ u1).frozen? ⟨g, 0, none⟩ = false ∧ ((w.setCell ⟨g, 0, none⟩ u0).setCell ⟨g, 1, none⟩ u1).frozen? ⟨g, 1, none⟩ = false := by
  refine ⟨?_, ?_, ?_, ?_⟩ <;> simp [go_sem, c0, c1, f0, f1]

end Go.Proofs.Ythjbmlgjlndihaa

namespace Go.Proofs.Ythjbmlgjlndihaa
set_option maxRecDepth 100000
set_option maxRecDepth 100000
open Go.RowKit

def byteD (d : Int) : UInt8 := UInt8.ofNat (48 + d).toNat
/-- The digits, the highest first, as bytes. -/
def highL (ds : List Int) : List UInt8 := ds.reverse.map byteD
theorem highL_snoc (ds : List Int) (d : Int) : highL (ds ++ [d]) = byteD d :: highL ds := by simp [highL]
def textL (m : Bool) (ds : List Int) : List UInt8 := if ds = [] then [48] else (if m then [45] else []) ++ highL ds

theorem cons_bytes (c : UInt8) (bs : List UInt8) : (⟨#[c]⟩ : ByteArray) ++ ⟨bs.toArray⟩ = ⟨(c :: bs).toArray⟩ := by
  apply ByteArray.ext; simp

theorem byte_string (W : World) (d : Int) : (convert 22 9 (.slice (some ⟨W.heap.size, 0, none⟩) 1 1)).run Try.prog (W.alloc (.cells #[.int .u8 (48 + d)] 5)) = .ok (.string ⟨#[byteD d]⟩) (W.alloc (.cells #[.int .u8 (48 + d)] 5)) := by
  rw [run_convert_bytes_string _ 22 9 5 _ _ _ Try.underlying22 Try.underlying5 Try.underlying9]
  have h : (loadCells (⟨W.heap.size, 0, none⟩ : Addr) 1).run Try.prog (W.alloc (.cells #[.int .u8 (48 + d)] 5)) = .ok (([48 + d] : List Int).map (Value.int .u8)).toArray (W.alloc (.cells #[.int .u8 (48 + d)] 5)) := by
    rw [run_loadCells _ _ 1 (fun _ => .int .u8 (48 + d)) (fun j hj => by
      obtain rfl : j = 0 := by omega
      rw [show (⟨W.heap.size, 0, none⟩ : Addr).add 0 = ⟨W.heap.size, 0, none⟩ from by simp [Addr.add], World.cell?_alloc_at _ _ _ _ rfl]
      rfl)]
    rfl
  rw [run_bytesToString _ _ 1 1 [48 + d] h]
  rfl

end Go.Proofs.Ythjbmlgjlndihaa
namespace Go.Proofs.Ythjbmlgjlndihaa
set_option maxRecDepth 100000
set_option maxRecDepth 100000
open Go.RowKit

/-- The values of digits, the last one first. -/
def dvals (bs : List UInt8) : List Int := bs.reverse.map fun c => (c.toNat : Int) - 48
theorem dvals_snoc (bs : List UInt8) (c : UInt8) : dvals (bs ++ [c]) = ((c.toNat : Int) - 48) :: dvals bs := by simp [dvals]
theorem dig_of {c : UInt8} (h : digB c = true) : 48 ≤ c.toNat ∧ c.toNat ≤ 57 := by simpa [digB] using h
theorem dvals_digs (bs : List UInt8) (h : bs.all digB = true) : Digs (dvals bs) := by
  intro d hd
  obtain ⟨c, hc, rfl⟩ := List.mem_map.1 hd
  have := dig_of (List.all_eq_true.1 h c (by simpa using hc))
  omega
theorem high_dvals (bs : List UInt8) (h : bs.all digB = true) : highL (dvals bs) = bs := by
  unfold highL dvals
  rw [← List.map_reverse, List.reverse_reverse, List.map_map]
  conv => rhs; rw [← List.map_id bs]
  apply List.map_congr_left
  intro c hc
  have := dig_of (List.all_eq_true.1 h c hc)
  simp only [Function.comp_def, byteD, id]
  rw [show (48 + ((c.toNat : Int) - 48)).toNat = c.toNat from by omega]
  simp
theorem valL_snoc (bs : List UInt8) (c : UInt8) : valL (bs ++ [c]) = valL bs * 10 + (c.toNat - 48) := by simp [valL, valStep]
theorem valD_rev : ∀ rs : List UInt8, rs.all digB = true → valD (rs.map fun c => (c.toNat : Int) - 48) = valL rs.reverse
  | [], _ => rfl
  | c :: r, h => by
    simp only [List.all_cons, Bool.and_eq_true] at h
    have h1 := dig_of h.1
    have ih := valD_rev r h.2
    rw [List.reverse_cons, valL_snoc, List.map_cons]
    simp only [valD, ih]
    omega
theorem valD_dvals (bs : List UInt8) (h : bs.all digB = true) : valD (dvals bs) = valL bs := by
  unfold dvals
  rw [valD_rev bs.reverse (by simpa using h), List.reverse_reverse]

/-- What has been read behind k bytes: without a minus ahead. -/
def procL (l : List UInt8) (k : Nat) : List UInt8 := if minusB l then (l.take k).drop 1 else l.take k
theorem procL_zero (l : List UInt8) : procL l 0 = [] := by unfold procL; split <;> simp
theorem procL_all (l : List UInt8) (k : Nat) (h : l.length ≤ k) : procL l k = digsOf l := by
  unfold procL digsOf; rw [List.take_of_length_le h]
theorem minus_cons (l : List UInt8) : minusB l = true ↔ ∃ r, l = 45 :: r := by
  unfold minusB
  cases l with
  | nil => simp
  | cons c r => simp
theorem procL_skip (l : List UInt8) (h : minusB l = true) : procL l 1 = [] := by
  unfold procL; rw [if_pos h]
  obtain ⟨r, rfl⟩ := (minus_cons l).1 h
  simp
theorem procL_next (l : List UInt8) (k : Nat) (hk : k < l.length) (h : ¬ (k = 0 ∧ minusB l = true)) : procL l (k + 1) = procL l k ++ [l[k]] := by
  unfold procL
  rw [List.take_succ_eq_append_getElem hk]
  split
  · rename_i hm
    have h0 : k ≠ 0 := fun e => h ⟨e, hm⟩
    rw [List.drop_append_of_le_length (by rw [List.length_take]; omega)]
  · rfl
theorem procL_mem (l : List UInt8) (k : Nat) (hk : k < l.length) (h : ¬ (k = 0 ∧ minusB l = true)) : l[k] ∈ digsOf l := by
  have e1 : digsOf l = procL l l.length := (procL_all l _ (Nat.le_refl _)).symm
  have e2 : ∀ m, procL l (k + 1) <+: procL l (k + 1 + m) := by
    intro m
    unfold procL
    split
    · rw [show l.take (k + 1 + m) = l.take (k + 1) ++ (l.drop (k + 1)).take m from by rw [← List.take_add], List.drop_append]
      exact List.prefix_append _ _
    · rw [show l.take (k + 1 + m) = l.take (k + 1) ++ (l.drop (k + 1)).take m from by rw [← List.take_add]]
      exact List.prefix_append _ _
  have e3 := e2 (l.length - (k + 1))
  rw [show k + 1 + (l.length - (k + 1)) = l.length from by omega, ← e1] at e3
  apply e3.subset
  rw [procL_next l k hk h]
  simp
theorem arg_of_bad (l : List UInt8) (k : Nat) (hk : k < l.length) (h : ¬ (k = 0 ∧ minusB l = true)) (hb : digB l[k] = false) : parseArg l = true := by
  unfold parseArg
  have : (digsOf l).all digB = false := by
    rw [List.all_eq_false]
    exact ⟨_, procL_mem l k hk h, by simp [hb]⟩
  simp [wholeL, this]
end Go.Proofs.Ythjbmlgjlndihaa
namespace Go.Proofs.Ythjbmlgjlndihaa
set_option maxRecDepth 100000
set_option maxRecDepth 100000
open Go.RowKit

def sgnL (m : Bool) : List UInt8 := if m then [45] else []
theorem split_sgn (l : List UInt8) : l = sgnL (minusB l) ++ digsOf l := by
  unfold sgnL digsOf
  cases h : minusB l
  · simp
  · obtain ⟨r, rfl⟩ := (minus_cons l).1 h
    simp
theorem dvals_cons (c : UInt8) (r : List UInt8) : dvals (c :: r) = (dvals r) ++ [(c.toNat : Int) - 48] := by simp [dvals]
theorem dvals_len (bs : List UInt8) : (dvals bs).length = bs.length := by simp [dvals]
theorem high_len (ds : List Int) : (highL ds).length = ds.length := by simp [highL]

theorem text_is (l : List UInt8) (k : Nat) (ha : (digsOf l).all digB = true) (hk : k ≤ (dvals (digsOf l)).length) (hv : valD ((dvals (digsOf l)).take k) = valD (dvals (digsOf l))) (hn : Norm ((dvals (digsOf l)).take k)) :
    (textL (minusB l && decide (0 < k)) ((dvals (digsOf l)).take k) = l ↔ parseArg l = false) := by
  have hl := split_sgn l
  have hD := dvals_digs _ ha
  unfold parseArg
  generalize digsOf l = body at *
  generalize minusB l = m at *
  rw [dvals_len] at hk
  cases body with
  | nil =>
    have h0 : k = 0 := by simpa using hk
    subst h0
    rw [hl]
    cases m <;> simp [textL, dvals, sgnL, wholeL]
  | cons c r =>
    have hc := dig_of (List.all_eq_true.1 ha c (by simp))
    by_cases hz : c = 48
    · subst hz
      cases r with
      | nil =>
        have h0 : valD ((dvals [48]).take k) = 0 := by rw [hv]; decide
        have h1 := norm_zero (digs_take hD k) hn h0
        have h2 : ∀ mm, textL mm ((dvals [48]).take k) = [48] := by intro mm; rw [h1]; rfl
        rw [h2, hl]
        cases m <;> decide
      | cons e t =>
        have hw : wholeL (48 :: e :: t) = false := by simp [wholeL]
        rw [hw]
        simp only [Bool.not_false, Bool.true_or, Bool.true_eq_false, iff_false]
        intro he
        have hlen := congrArg List.length he
        conv at hlen => rhs; rw [hl]
        by_cases h1 : (dvals (48 :: e :: t)).take k = []
        · rw [h1] at hlen
          simp [textL] at hlen
          omega
        · have hkl : k < (48 :: e :: t).length := by
            rcases Nat.lt_or_ge k (48 :: e :: t).length with h | h
            · exact h
            · rw [List.take_of_length_le (by rw [dvals_len]; exact h), dvals_cons] at hn
              exfalso
              apply hn
              rw [last_snoc]
              decide
          unfold textL at hlen
          rw [if_neg h1, List.length_append, List.length_append, high_len, List.length_take] at hlen
          have : (if (m && decide (0 < k)) = true then ([45] : List UInt8) else []).length ≤ (sgnL m).length := by
            cases m <;> simp [sgnL]
            split <;> simp
          omega
    · have hcn : (c.toNat : Int) - 48 ≠ 0 := by
        intro e
        apply hz
        apply UInt8.toNat_inj.1
        show c.toNat = 48
        omega
      have hN : Norm (dvals (c :: r)) := by unfold Norm; rw [dvals_cons, last_snoc]; exact hcn
      have hne : dvals (c :: r) ≠ [] := by rw [dvals_cons]; simp
      have hkl : k = (c :: r).length := by
        rcases Nat.lt_or_ge k (c :: r).length with h | h
        · have e1 := valD_lt (digs_take hD k)
          have e2 := norm_ge hD hN hne
          rw [dvals_len] at e2
          have e3 := ten_mono (show ((dvals (c :: r)).take k).length ≤ (c :: r).length - 1 by rw [List.length_take]; omega)
          omega
        · omega
      rw [List.take_of_length_le (by rw [dvals_len]; omega)]
      have hk0 : decide (0 < k) = true := by rw [hkl]; simp
      have ht : textL (m && decide (0 < k)) (dvals (c :: r)) = l := by
        unfold textL
        rw [if_neg hne, high_dvals _ ha, hk0, Bool.and_true]
        rw [hl]
        rfl
      have hw : wholeL (c :: r) = true := by
        unfold wholeL
        rw [ha]
        simp [hz]
      have hb : ((c :: r) == ([48] : List UInt8)) = false := by simp [hz]
      rw [ht, hw, hb]
      simp

theorem text_val (l : List UInt8) (k : Nat) (ha : (digsOf l).all digB = true) (hv : valD ((dvals (digsOf l)).take k) = valD (dvals (digsOf l))) :
    (if (minusB l && decide (0 < k)) then -valD ((dvals (digsOf l)).take k) else valD ((dvals (digsOf l)).take k)) = parseN (minusB l) (digsOf l) := by
  unfold parseN
  rw [← valD_dvals _ ha, hv]
  cases minusB l
  · simp
  · rcases Nat.eq_zero_or_pos k with h | h
    · subst h
      simp [valD] at hv
      rw [← hv]
      simp
    · simp [h]
end Go.Proofs.Ythjbmlgjlndihaa
namespace Go.Proofs.Ythjbmlgjlndihaa
set_option maxRecDepth 100000
set_option maxRecDepth 100000
open Go.RowKit

theorem byte_at (s : ByteArray) (k : Nat) (hk : k < s.size) : ∃ h : k < s.toList.length, s.toList[k]'h = s[k]'hk := by
  have hl : k < s.toList.length := by rw [toList_len]; exact hk
  exact ⟨hl, by simp only [ByteArray.toList_eq]; simp; rfl⟩
theorem first_is (l : List UInt8) (h : 0 < l.length) : minusB l = true ↔ (l[0]'h).toNat = 45 := by
  rw [minus_cons]
  cases l with
  | nil => simp at h
  | cons x r =>
    simp only [List.getElem_cons_zero, List.cons.injEq]
    constructor
    · rintro ⟨_, rfl, _⟩; rfl
    · intro h; exact ⟨r, UInt8.toNat_inj.1 h, rfl⟩
theorem minus_first (s : ByteArray) (h0 : 0 < s.size) : minusB s.toList = true ↔ (s[0]'h0).toNat = 45 := by
  obtain ⟨hl, he⟩ := byte_at s 0 h0
  rw [first_is _ hl, he]

/-- What the loop has laid at block g: a row of digits, in a struct with no sign. -/
def RowAt (w : World) (g : Nat) (ds : List Int) : Prop :=
  ∃ (A : Option Addr) (n c : Nat), n = ds.length ∧ w.cell? ⟨g, 0, none⟩ = some (.bool false) ∧ w.cell? ⟨g, 1, none⟩ = some (.slice A n c) ∧ w.frozen? ⟨g, 0, none⟩ = false ∧ w.frozen? ⟨g, 1, none⟩ = false ∧ Ints w w.heap.size A n ds ∧ n ≤ c ∧ c ≤ maxLen ∧ (A = none → c = 0)

theorem Ints.stores {w : World} {B n : Nat} {A : Option Addr} {l : List Int} (h : Ints w B A n l) {g : Nat} {b0 : Bool} {a1 : Option Addr} {l1 k1 : Nat} (c0 : w.cell? ⟨g, 0, none⟩ = some (.bool b0)) (c1 : w.cell? ⟨g, 1, none⟩ = some (.slice a1 l1 k1)) (u0 u1 : Value) : Ints ((w.setCell ⟨g, 0, none⟩ u0).setCell ⟨g, 1, none⟩ u1) B A n l := by
  have h1 := h.store c0 (by intro k z e; cases e) u0
  have e1 : (w.setCell ⟨g, 0, none⟩ u0).cell? ⟨g, 1, none⟩ = some (.slice a1 l1 k1) := by
    rw [World.cell?_setCell_other]
    · exact c1
    · intro e; injection e with _ e; cases e
  exact h1.store e1 (by intro k z e; cases e) u1
theorem own_int1 (w : World) (z : Int) : OwnInts (w.alloc (.cells #[.int .i64 z] 3)) w.heap.size (.slice (some ⟨w.heap.size, 0, none⟩) 1 1) [z] :=
  ⟨by simp, .inr ⟨w.heap.size, 1, _, rfl, Nat.le_refl _, heap_alloc_new w _, by simp, by unfold maxLen; omega, by simp, by simp⟩⟩
/-- A row stored into its struct. -/
theorem row_store {w : World} {g : Nat} {b0 : Bool} {a1 : Option Addr} {l1 k1 : Nat} {A : Option Addr} {n c : Nat} {ds : List Int} (c0 : w.cell? ⟨g, 0, none⟩ = some (.bool b0)) (c1 : w.cell? ⟨g, 1, none⟩ = some (.slice a1 l1 k1)) (f0 : w.frozen? ⟨g, 0, none⟩ = false) (f1 : w.frozen? ⟨g, 1, none⟩ = false)
    (hn : n = ds.length) (hI : Ints w w.heap.size A n ds) (hc : n ≤ c) (hcm : c ≤ maxLen) (hnil : A = none → c = 0) : RowAt ((w.setCell ⟨g, 0, none⟩ (.bool false)).setCell ⟨g, 1, none⟩ (.slice A n c)) g ds := by
  have cs := store_cells c0 c1 f0 f1 (.bool false) (.slice A n c)
  exact ⟨A, n, c, hn, cs.1, cs.2.1, cs.2.2.1, cs.2.2.2, by simpa using hI.stores c0 c1 (.bool false) (.slice A n c), hc, hcm, hnil⟩
theorem row_empty (w : World) : RowAt (w.alloc (.cells #[.bool false, .slice none 0 0] 61)) w.heap.size [] :=
  ⟨none, 0, 0, rfl, World.cell?_alloc_at _ _ _ _ rfl, World.cell?_alloc_at _ _ _ _ rfl, World.frozen?_alloc_at _ _ _ _ rfl, World.frozen?_alloc_at _ _ _ _ rfl, ⟨rfl, by omega, by simp, fun h => absurd h (by omega)⟩, Nat.le_refl _, by unfold maxLen; omega, fun _ => rfl⟩
theorem ret_arg {l : List UInt8} (h : parseArg l = true) : Ending.returned (.tuple #[.int .i64 0, .int .i64 2]) = .returned (.tuple #[.int .i64 (parseV l), .int .i64 (parseE l)]) := by
  unfold parseV parseE; rw [if_pos h, if_pos h]
theorem ret_told {l : List UInt8} {x : Int} (h : parseArg l = false) (hx : x = parseN (minusB l) (digsOf l)) : Ending.returned (.tuple #[.int .i64 (room x), .int .i64 (errB x)]) = .returned (.tuple #[.int .i64 (parseV l), .int .i64 (parseE l)]) := by
  unfold parseV parseE errB; rw [hx, h]; rfl

end Go.Proofs.Ythjbmlgjlndihaa
namespace Go.Proofs.Ythjbmlgjlndihaa
set_option maxRecDepth 100000
set_option maxRecDepth 100000
open Go.RowKit

end Go.Proofs.Ythjbmlgjlndihaa

