/- Carried over from an earlier seat. -/
import Derived.Test.YtebkkjfeikpfgaaBPg
namespace Go.Proofs.Ytebkkjfeikpfgaa
set_option maxRecDepth 100000
open Go.RowKit Go.Sort
set_option maxRecDepth 100000

theorem okTVs_parts {most : Nat} {ts : List TV} (h : okTVs most ts = true) : ts.length ≤ most ∧ ts.all okTV = true ∧ risG idLtV ts = true := by
  unfold okTVs at h
  simp only [Bool.and_eq_true, decide_eq_true_eq] at h
  exact ⟨h.1, h.2.1, h.2.2⟩
theorem okGV_parts {V E : List TV} (h : okGV V E = true) : okTVs 500 V = true ∧ V.any endTV = false ∧ okTVs 2000 E = true ∧ E.any (looseV V) = false := by
  unfold okGV at h
  simpa using h
theorem errG_tv {vs es : List TA} {b : Bool} (h : okGV (vs.map TA.tv') (es.map TA.tv') = b) : errG vs es = if b = true then 0 else 50 := by
  unfold errG
  rw [okG_tv, h]
/-- A copy of a graph that may be. -/
theorem copy_ok {g q : GA} (h : okG g.vs g.es = true) (h1 : q.vs.map TA.tv' = g.vs.map TA.ctv) (h2 : q.es.map TA.tv' = g.es.map TA.ctv) : q.vs.map TA.tv' = g.vs.map TA.tv' ∧ q.es.map TA.tv' = g.es.map TA.tv' := by
  rw [okG_tv] at h
  obtain ⟨k1, _, k3, _⟩ := okGV_parts h
  exact ⟨by rw [h1, ctvs_ok (okTVs_parts k1).2.1], by rw [h2, ctvs_ok (okTVs_parts k3).2.1]⟩
end Go.Proofs.Ytebkkjfeikpfgaa

