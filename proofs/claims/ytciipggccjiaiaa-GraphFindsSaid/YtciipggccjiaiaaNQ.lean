/- Contract of the law's much: it tells, whatever. -/
import Derived.Test.YtciipggccjiaiaaNP
namespace Go.Proofs.Ytciipggccjiaiaa
open Go.RowKit Go.Sort
set_option maxRecDepth 100000

def BoolPost (w : World) (e : Ending) (w' : World) : Prop := ∃ b : Bool, e = .returned (.bool b) ∧ Below w.heap.size w w'
set_option maxHeartbeats 3200000 in
theorem much_any (w : World) (d : Nat) (g : GA) (hg : g.In w d) : Calls Try.prog 9 #[g.v] w (BoolPost w) := by
  have HG := Lib.hid hg
  clear hg
  go_enter Try.func9, Try.ntmps9
  go_upto_region 1 with fail
  generalize hW : World.alloc w _ = W
  obtain ⟨z0, z1, hbW, hsW⟩ := box24 w _ _ W hW
  have HBW := Lib.hid hbW
  have CN := Lib.hid (gcount_any W d g ⟨HG.out.v.next hbW, HG.out.e.next hbW, HG.out.fv, HG.out.fe⟩ 4000 (by unfold InI; omega))
  clear hW hbW hsW
  by_cases h1 : (60 : Int) < (g.vs.length : Int)
  all_goals by_cases h2 : (g.vs.length : Int) ≤ 500
  all_goals by_cases h3 : (600 : Int) < (g.vs.length : Int)
  all_goals by_cases h4 : (100 : Int) < (g.es.length : Int)
  all_goals by_cases h5 : (g.es.length : Int) ≤ 2000
  all_goals by_cases h6 : (2200 : Int) < (g.es.length : Int)
  all_goals first | (exfalso; omega) | skip
  all_goals
    first
      | (go_wp2
         go_ret
         exact ⟨_, rfl, HBW.out⟩)
      | (go_wp2_with fail
         refine CN.out.mono ?_
         rintro e w1 ⟨c, rfl, c0, c1, hb1⟩
         have B1 := Lib.hid (bnext HBW.out hb1)
         clear hb1 CN
         go_wp2
         go_ret
         exact ⟨_, rfl, B1.out⟩)
end Go.Proofs.Ytciipggccjiaiaa
