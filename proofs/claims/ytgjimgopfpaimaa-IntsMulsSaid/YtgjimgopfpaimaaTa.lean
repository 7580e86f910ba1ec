/- The document's product of two numbers of any greatness: its plain arithmetic, and a row of numbers that is written place by place. -/
import Derived.Test.YtgjimgopfpaimaaY
namespace Go.Proofs.Ytgjimgopfpaimaa
open Go.RowKit

theorem ten_add (a b : Nat) : ten (a + b) = ten a * ten b := by unfold ten; rw [Int.pow_add]
theorem getD_set_same (l : List Int) (p : Nat) (v : Int) (h : p < l.length) : (l.set p v).getD p 0 = v := by simp [h]
theorem getD_set_other (l : List Int) (p q : Nat) (v : Int) (h : p ≠ q) : (l.set p v).getD q 0 = l.getD q 0 := by simp [h]
theorem valD_set : ∀ (l : List Int) (p : Nat) (v : Int), p < l.length → valD (l.set p v) = valD l - ten p * l.getD p 0 + ten p * v
  | [], _, _, h => absurd h (by simp)
  | d :: r, 0, v, _ => by simp [valD, ten_zero]; omega
  | d :: r, p + 1, v, h => by
    have ih := valD_set r p v (by simpa using h)
    have e : (d :: r).getD (p + 1) 0 = r.getD p 0 := by simp
    rw [List.set_cons_succ, e]
    simp only [valD, ih, ten_succ]
    rw [Int.mul_add, Int.mul_sub, Int.mul_assoc, Int.mul_assoc]
    omega
theorem digs_set {l : List Int} (h : Digs l) (p : Nat) (v : Int) (h0 : 0 ≤ v) (h9 : v ≤ 9) : Digs (l.set p v) := by
  intro x hx
  rcases List.mem_or_eq_of_mem_set hx with hx | rfl
  · exact h x hx
  · exact ⟨h0, h9⟩

/-- One step of a row of a product. -/
theorem mul_step (D m : List Int) (i k : Nat) (V ni c x : Int) (hp : i + k < D.length) (hinv : valD D + ten (i + k) * c = V + ten i * (ni * valD (m.take k))) (hx : x = D.getD (i + k) 0 + ni * m.getD k 0 + c) :
    valD (D.set (i + k) (x % 10)) + ten (i + (k + 1)) * (x / 10) = V + ten i * (ni * valD (m.take (k + 1))) := by
  rw [valD_set _ _ _ hp, valD_take, ← Nat.add_assoc, ten_succ]
  have h := split_ten (ten (i + k)) x
  have h2 : ten (i + k) * x = ten (i + k) * D.getD (i + k) 0 + ten (i + k) * (ni * m.getD k 0) + ten (i + k) * c := by rw [hx, Int.mul_add, Int.mul_add]
  have h3 : ten i * (ni * (valD (m.take k) + ten k * m.getD k 0)) = ten i * (ni * valD (m.take k)) + ten (i + k) * (ni * m.getD k 0) := by
    rw [Int.mul_add, Int.mul_add, ten_add, Int.mul_assoc]
    congr 1
    rw [Int.mul_left_comm ni (ten k)]
  omega
/-- A whole row. -/
theorem mul_row (n m : List Int) (i : Nat) : valD (n.take i) * valD m + ten i * (n.getD i 0 * valD m) = valD (n.take (i + 1)) * valD m := by
  rw [valD_take, Int.add_mul, Int.mul_assoc]

/-- Block g is a row of numbers of the call's own. -/
def Blk (w : World) (g : Nat) (ds : List Int) : Prop := w.heap[g]? = some (.cells (ds.map (Value.int .i64)).toArray 3 (0, 0))
theorem Blk.lt {w : World} {g : Nat} {ds : List Int} (h : Blk w g ds) : g < w.heap.size := (Array.getElem?_eq_some_iff.1 h).1
theorem Blk.cell {w : World} {g : Nat} {ds : List Int} (h : Blk w g ds) (i : Nat) (hi : i < ds.length) : w.cell? ⟨g, i, none⟩ = some (.int .i64 (ds.getD i 0)) := by
  unfold Blk at h
  simp [World.cell?, h, hi]
theorem Blk.frozen {w : World} {g : Nat} {ds : List Int} (h : Blk w g ds) (i : Nat) : w.frozen? ⟨g, i, none⟩ = false := by
  unfold Blk at h
  simp [World.frozen?, h]
theorem Blk.set {w : World} {g : Nat} {ds : List Int} (h : Blk w g ds) (i : Nat) (v : Int) : Blk (w.setCell ⟨g, i, none⟩ (.int .i64 v)) g (ds.set i v) := by
  unfold Blk at h ⊢
  simp [World.setCell, Array.getElem?_modify, h, List.map_set]
theorem Blk.drewN {w : World} {g : Nat} {ds : List Int} (h : Blk w g ds) (q : Nat) : Blk (w.drewN q) g ds := h
theorem Blk.ints {w : World} {g : Nat} {ds : List Int} (h : Blk w g ds) (hl : ds.length ≤ 140737488355328) (hd : Digs ds) : Ints w w.heap.size (some ⟨g, 0, none⟩) ds.length ds :=
  ⟨rfl, hl, digs_fits hd, fun _ => ⟨g, 0, rfl, h.lt, fun j hj => by rw [Nat.zero_add]; exact h.cell j hj⟩⟩
end Go.Proofs.Ytgjimgopfpaimaa
