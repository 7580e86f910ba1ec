/- What is looked at; the chapter's example: 'known' answers true. -/
import Derived.Test.YtebkkjfeikpfgaaSM
import Derived.Test.YtebkkjfeikpfgaaSJ
import Derived.Test.YtebkkjfeikpfgaaBNP
namespace Go.Proofs.Ytebkkjfeikpfgaa
open Go.RowKit Go.Sort
set_option maxRecDepth 100000
attribute [local go_sem ↓] Go.wp_at_zero Go.wp_at_succ

def BoolPost (w : World) (e : Ending) (w' : World) : Prop := ∃ b : Bool, e = .returned (.bool b) ∧ Below w.heap.size w w'
set_option maxHeartbeats 3200000 in
theorem much_any (w : World) (d : Nat) (g : GA) (hg : g.In w d) : Calls Try.prog 10 #[g.v] w (BoolPost w) := by
  have HG := Lib.hid hg
  clear hg
  go_enter Try.func10, Try.ntmps10
  go_upto_region 1 with fail
  generalize hW : World.alloc w _ = W
  obtain ⟨z0, z1, hbW, hsW⟩ := box24 w _ _ W hW
  have HBW := Lib.hid hbW
  have CN := Lib.hid (gcount_any W d g ⟨HG.out.v.next hbW, HG.out.e.next hbW, HG.out.fv, HG.out.fe⟩ 4000 (by unfold InI; omega))
  clear hW hbW hsW
  by_cases h1 : (60 : Int) < (g.vs.length : Int)
  all_goals by_cases h2 : (g.vs.length : Int) ≤ 500
  all_goals by_cases h3 : (600 : Int) < (g.vs.length : Int)
  all_goals by_cases h4 : (100 : Int) < (g.es.length : Int)
  all_goals by_cases h5 : (g.es.length : Int) ≤ 2000
  all_goals by_cases h6 : (2200 : Int) < (g.es.length : Int)
  all_goals first | (exfalso; omega) | skip
  all_goals
    first
      | (go_wp2
         go_ret
         exact ⟨_, rfl, HBW.out⟩)
      | (go_wp2_with fail
         refine CN.out.mono ?_
         rintro e w1 ⟨c, rfl, c0, c1, hb1⟩
         have B1 := Lib.hid (bnext HBW.out hb1)
         clear hb1 CN
         go_wp2
         go_ret
         exact ⟨_, rfl, B1.out⟩)

def kt (id : Int) (l : ByteArray) (o i : Int) : TA := ⟨id, l, o, i, none, 0, []⟩
theorem trow_two (w : World) (i1 o1 n1 i2 o2 n2 : Int) (l1 l2 : ByteArray) : TRow (w.alloc (.cells #[.int .i64 i1, .string l1, .int .i64 o1, .int .i64 n1, .slice none 0 0, .int .i64 i2, .string l2, .int .i64 o2, .int .i64 n2, .slice none 0 0] 42)) 13 (some ⟨w.heap.size, 0, none⟩) 2 [kt i1 l1 o1 n1, kt i2 l2 o2 n2] :=
  ⟨by simp, by simp, fun _ => ⟨w.heap.size, 0, rfl, by simp, fun j t hj => by
    match j, hj with
    | 0, hj => injection hj with hj; subst hj; refine ⟨?_, ?_, ?_, ?_, ?_⟩ <;> (rw [World.cell?_alloc_at _ _ _ _ rfl]; rfl)
    | 1, hj => injection hj with hj; subst hj; refine ⟨?_, ?_, ?_, ?_, ?_⟩ <;> (rw [World.cell?_alloc_at _ _ _ _ rfl]; rfl)⟩, fun t ht => by
    simp at ht
    rcases ht with rfl | rfl <;> exact prow_nil _ _ _⟩
theorem irow_lit (w : World) (l : List Int) (hl : l.length ≤ 1000) : IRow (w.alloc (.cells (l.map (Value.int .i64)).toArray 3)) (some ⟨w.heap.size, 0, none⟩) l.length l :=
  ⟨Nat.le_refl _, by omega, fun _ => ⟨w.heap.size, 0, rfl, by simp, fun j x hj => by
    rw [World.cell?_alloc_at _ _ _ _ rfl]
    simp [hj]⟩⟩
theorem lrow_one (w : World) (b : ByteArray) (hb : b.size ≤ maxLen) : LRow (w.alloc (.cells #[.string b] 9)) (some ⟨w.heap.size, 0, none⟩) 1 [b] :=
  ⟨by simp, by simp, fun s hs => by simp at hs; subst hs; exact hb, fun _ => ⟨w.heap.size, 0, rfl, by simp, fun j x hj => by
    match j, hj with
    | 0, hj => injection hj with hj; subst hj; rw [World.cell?_alloc_at _ _ _ _ rfl]; rfl⟩⟩
def kV : List TV := [⟨0, ⟨#[97]⟩, 0, 0, []⟩, ⟨1, ⟨#[97]⟩, 0, 0, []⟩]
def kE : List TV := [⟨1, ⟨#[120]⟩, 0, 1, []⟩, ⟨2, ⟨#[121]⟩, 1, 1, []⟩]
theorem k_ok : okGV kV kE = true := by decide
theorem k_no : okGV [] kE = false := by decide
theorem k_1 : (seenS (spk kE) 1 3 []).map (fun s => s.e) = [2, 1, 2] := by decide
theorem k_2 : (seenS (spk kE) 1 3 []).map (fun s => s.o) = [1, 0, 1] := by decide
theorem k_3 : (seenS (spk kE) 1 3 [⟨#[120]⟩]).map (fun s => s.e) = [1] := by decide
end Go.Proofs.Ytebkkjfeikpfgaa
