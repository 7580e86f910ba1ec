/- Carried over from an earlier seat. -/
import Derived.Test.YtiiopbcihieblaaDoorTX
import Derived.Test.YtiiopbcihieblaaDoorTC
import Derived.Test.YtiiopbcihieblaaDoorTM
namespace Go.Proofs.YtiiopbcihieblaaDoor
set_option maxRecDepth 100000
set_option maxRecDepth 100000
set_option maxRecDepth 100000
open Go.RowKit Go.Sort

theorem cntP_append (r : Nat) (a b : List C) : cntP (r + 1) (a ++ b) = cntP (r + 1) a + cntP (r + 1) b := sumL_append _ _ _
theorem nestV_append (r : Nat) (a b : List C) : nestV r (a ++ b) = max (nestV r a) (nestV r b) := by
  rw [nestV_eq, nestV_eq, nestV_eq, topL_append]
  omega
theorem chOk_append (r : Nat) (a b : List C) (ha : chOk (r + 1) a = true) (hb : chOk (r + 1) b = true) : chOk (r + 1) (a ++ b) = true := by
  simp only [chOk, Bool.and_eq_true, List.all_eq_true, decide_eq_true_eq, List.length_append] at ha hb ⊢
  refine ⟨by omega, fun x hx => ?_⟩
  rcases List.mem_append.1 hx with h | h
  · exact ha.2 x h
  · exact hb.2 x h
theorem txC_append (r : Nat) (s : Bs) (a b : List C) : txC (r + 1) s (a ++ b) = txC (r + 1) s a ++ b.flatMap (txCall (txC r [95, 95])) := by
  show s ++ (a ++ b).flatMap _ = (s ++ a.flatMap _) ++ _
  rw [List.flatMap_append, List.append_assoc]
theorem txC_drop (r : Nat) (u : UInt8) (b : List C) : (txC (r + 1) [u] b).drop 1 = b.flatMap (txCall (txC r [95, 95])) := rfl
theorem sumL_eqS {α : Type} {f g : α → Nat} : ∀ (l : List α), (∀ x ∈ l, f x = g x) → sumL f l = sumL g l
  | [], _ => rfl
  | x :: l, h => by simp only [sumL]; rw [h x (by simp), sumL_eqS l (fun y hy => h y (by simp [hy]))]
theorem cntP_nil (r : Nat) : cntP r [] = 0 := by cases r <;> rfl
/-- A chain that may be has no calls that lie too deep to be counted. -/
theorem cntP_ch : ∀ (r e : Nat) (l : List C), chOk r l = true → cntP (r + e) l = cntP r l
  | 0, _, _, h => by cases h
  | r + 1, e, l, h => by
    simp only [chOk, Bool.and_eq_true, List.all_eq_true] at h
    rw [show r + 1 + e = (r + e) + 1 by omega]
    simp only [cntP]
    refine sumL_eqS l fun x hx => ?_
    have hc := h.2 x hx
    unfold callOk at hc
    simp only [Bool.and_eq_true, List.all_eq_true] at hc
    congr 1
    refine sumL_eqS x.a fun g hg => ?_
    obtain ⟨_, h3, h0⟩ := argOk_parts _ _ (hc.2 g hg)
    by_cases hk : g.k = 3
    · exact cntP_ch r e g.c (h3 hk)
    · rw [h0 hk, cntP_nil, cntP_nil]
theorem qOk_parts {l : List C} (h : qOk l = true) : cntP 10 l ≤ 200 ∧ cntP 11 l = cntP 10 l ∧ chOk 10 l = true := by
  unfold qOk at h
  rw [Bool.and_eq_true, decide_eq_true_eq] at h
  have : cntP 11 l = cntP 10 l := cntP_ch 10 1 l h.2
  exact ⟨by omega, this, h.2⟩
/-- One behind the other: a query, if both together are not too many calls. -/
theorem qOk_append (a b : List C) (ha : qOk a = true) (hb : qOk b = true) : qOk (a ++ b) = decide (cntP 10 a + cntP 10 b ≤ 200) := by
  obtain ⟨_, a1, a2⟩ := qOk_parts ha
  obtain ⟨_, b1, b2⟩ := qOk_parts hb
  unfold qOk
  rw [chOk_append 9 a b a2 b2, cntP_append 10 a b, a1, b1, Bool.and_true]
/-- A call whose one argument is a chain. -/
def wrapC (n : ByteArray) (a : List C) : List C := [.mk n [⟨3, v0, p0, a, ⟨#[]⟩⟩]]
theorem wrap_fits (a : List C) : fitsA ⟨3, v0, p0, a, ⟨#[]⟩⟩ = true := by
  have e1 : (cmpV 12 v0 zeroV == 0) = true := by kernel_rfl
  show ((((3 : Int) == 1) || (cmpV 12 v0 zeroV == 0)) && (((3 : Int) == 2) || isZeroP p0) && (((3 : Int) == 3) || a.length == 0) && (((3 : Int) == 4) || (⟨#[]⟩ : ByteArray).toList.isEmpty)) = true
  rw [e1]
  kernel_rfl
theorem wrap_ch (r : Nat) (n : ByteArray) (a : List C) (hn : nameB n = true) (hu : (n.toList == [95, 95]) = false) : chOk (r + 1) (wrapC n a) = chOk r a := by
  have e : argOk (chOk r) ⟨3, v0, p0, a, ⟨#[]⟩⟩ = chOk r a := by
    unfold argOk
    rw [wrap_fits]
    rfl
  simp only [wrapC, chOk, callOk, C.n, C.a, List.all_cons, List.all_nil, hn, hu, e, Bool.and_true, Bool.not_false, Bool.true_and, List.length_cons, List.length_nil]
  simp
theorem wrap_cnt (r : Nat) (n : ByteArray) (a : List C) : cntP (r + 1) (wrapC n a) = cntP r a + 1 := by
  simp only [wrapC, cntP, sumL, C.a]
  omega
theorem wrap_txt (r : Nat) (s : Bs) (n : ByteArray) (a : List C) : txC (r + 2) s (wrapC n a) = s ++ ([46] ++ (n.toList ++ ([40] ++ (([95, 95] ++ a.flatMap (txCall (txC r [95, 95]))) ++ [41])))) := by
  have e : itemsT (txG (txC (r + 1) [95, 95])) 0 [(⟨3, v0, p0, a, ⟨#[]⟩⟩ : Ag)] = [95, 95] ++ a.flatMap (txCall (txC r [95, 95])) := by
    simp only [itemsT, List.append_nil]
    rfl
  show s ++ ([46] ++ (n.toList ++ ([40] ++ (itemsT (txG (txC (r + 1) [95, 95])) 0 [(⟨3, v0, p0, a, ⟨#[]⟩⟩ : Ag)] ++ [41]))) ++ []) = _
  rw [List.append_nil, e]
theorem wrap_nest (r : Nat) (n : ByteArray) (a : List C) (ha : 0 < a.length) : nestV (r + 1) (wrapC n a) = 1 + nestV r a := by
  have e : nestA (nestV r) ⟨3, v0, p0, a, ⟨#[]⟩⟩ = nestV r a := by
    unfold nestA
    rw [if_neg (by cases a <;> simp_all)]
  simp only [wrapC, nestV, topL, C.a, e]
  omega
end Go.Proofs.YtiiopbcihieblaaDoor


