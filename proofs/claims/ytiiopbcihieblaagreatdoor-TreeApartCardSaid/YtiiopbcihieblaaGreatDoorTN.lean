/- The tied variable: what the laid array of names gives the walks. -/
import Derived.Test.YtiiopbcihieblaaGreatDoorTie
import Derived.Test.YtiiopbcihieblaaGreatDoorTD
import Derived.ProofKit
import Derived.LaidMore
import Derived.OpenShut
import Derived.Stop.Joined
namespace Go.Proofs.YtiiopbcihieblaaGreatDoor
open Go.ChangeShapes Go.WideShapes Go.ChangeAt Go.RowKit
set_option maxRecDepth 100000

abbrev laidN : List (String × DataW Unit) := [("wayfarer/tree.names", Rows.laid_wayfarer_tree_names)]
theorem gNames : Tryz.prog.globalNamed "wayfarer/tree.names" = some 0 := by kernel_rfl
theorem tNames : (Tryz.prog.globals[0]?).map (·.type) = some 120 := by kernel_rfl
theorem uNames : Tryz.prog.underlying 120 = some (.array 15 9) := by kernel_rfl
theorem door_met (os : Os) (args : Array Value) : laidMetH Tryz.prog laidN ((World.doorLaid Tryz.prog 14 os).forCall (fun _ _ => 0) ⟨#[], args, []⟩).memory :=
  laidMetH_of_parts3 (fuel := 8) (laidMet_of_run' 8 (by kernel_rfl) (by kernel_rfl)) (by kernel_rfl) (by kernel_rfl)
def namesD : List (List UInt8) := namesL.map fun s => s.data.toList
theorem namesD_eq : (Rows.laid_wayfarer_tree_names : DataW Unit) = .agg (namesD.map fun s => .lit (.string s)) := rfl
/-- The names lie where they are looked for. -/
theorem of_laid {W : World} (h : laidMetH Tryz.prog laidN W) : NM W := by
  rw [MakeChecks.laidMetH_plain _ _ _ (by kernel_rfl)] at h
  obtain ⟨ps, ⟨g0, t0, cs0, f0, p0, q0, hg0, ht0, hv0, hd0, _⟩, _, _⟩ := h
  obtain rfl := Option.some.inj (gNames.symm.trans hg0)
  obtain rfl := Option.some.inj (tNames.symm.trans ht0)
  obtain ⟨xs, m1, rfl, hx1, hlen, hn, hel⟩ := DataW.trod_array uNames hd0
  have c9 : Tryz.prog.cellsOf 9 = 1 := by kernel_rfl
  simp only [Prod.mk.injEq] at hx1
  have hx := hx1.1
  rw [namesD_eq] at hx
  injection hx with hx
  intro i s hi
  have hi15 : i < 15 := (List.getElem?_eq_some_iff.1 hi).1
  have h0 := hel i hi15
  rw [c9, Nat.mul_one] at h0
  have hxi : (xs.map (·.1))[i]? = some (.lit (.string s.data.toList)) := by
    rw [← hx, List.getElem?_map, namesD, List.getElem?_map, hi]
    rfl
  rw [List.getElem?_map] at hxi
  obtain ⟨x, hx2, hx3⟩ := Option.map_eq_some_iff.1 hxi
  rw [hx2] at h0
  obtain ⟨s', e1, e2, _⟩ := DataW.trod_string (Tryz.underlying9) h0
  have hcell := World.var?_cell hg0 hv0 i
  have hc : cs0.toList[i]? = some (.string s') := by
    have := congrArg (fun l => l[0]?) e1
    simpa using this
  rw [hcell, ← Array.getElem?_toList, hc]
  rw [e2] at hx3
  have : s'.data.toList = s.data.toList := by simpa using hx3
  congr 2
  obtain ⟨a⟩ := s'
  obtain ⟨b⟩ := s
  congr 1
  exact Array.toList_inj.1 this
end Go.Proofs.YtiiopbcihieblaaGreatDoor
