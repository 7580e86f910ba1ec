/- Carried over from an earlier seat. -/
import Derived.Test.YtebkkjfeikpfgaaBNV
namespace Go.Proofs.Ytebkkjfeikpfgaa
set_option maxRecDepth 100000
open Go.RowKit Go.Sort
set_option maxRecDepth 100000

theorem find_step {α : Type} (p : α → Bool) (l : List α) (k : Nat) {x : α} (hx : l[k]? = some x) : (l.drop k).find? p = if p x = true then some x else (l.drop (k + 1)).find? p := by
  obtain ⟨h1, e1⟩ := List.getElem?_eq_some_iff.1 hx
  rw [List.drop_eq_getElem_cons h1, e1]
  by_cases h : p x = true
  · rw [if_pos h, List.find?_cons_of_pos h]
  · rw [if_neg h, List.find?_cons_of_neg h]
/-- What the document's At comes to. -/
def RAtPost (w : World) (d : Nat) (ts : List TA) (id : Int) (e : Ending) (w' : World) : Prop := ∃ (q : TA) (b : Bool), e = .returned (.tuple #[q.v, .bool b]) ∧ PRow w' 0 d q.A q.c q.l ∧ ((b = true ∧ ts.find? (idB id) = some q) ∨ (b = false ∧ ts.find? (idB id) = none ∧ q.tv' = zeroTV)) ∧ Below w.heap.size w w'
set_option maxHeartbeats 3200000 in
theorem refAt_any (w : World) (d : Nat) (A : Option Addr) (c : Nat) (ts : List TA) (h : TRow w d A c ts) (id : Int) : Calls Try.prog 20 #[.slice A ts.length c, .int .i64 id] w (RAtPost w d ts id) := by
  have H := Lib.hid h
  have hbig := h.big
  clear h
  go_enter Try.func20, Try.ntmps20
  go_upto_region 1 with fail
  have k1 := CellT.new w (.int .i64 0) (.string ⟨#[]⟩) (.int .i64 0) (.int .i64 0) (.slice none 0 0)
  generalize hW : World.alloc w _ = W at k1
  have HB : Hid (Below w.heap.size w W) := Lib.hid (by rw [← hW]; exact below_new _ _)
  clear hW
  have K1 := Lib.hid k1
  obtain ⟨y0, y1, y2, y3, y4, z0, z1, z2, z3, z4, _⟩ := k1
  go_wp2_with fail
  go_loopw [6] (fun i wr => ∃ k : Nat, k ≤ ts.length ∧ i = .int .i64 k ∧ wr = W ∧ Hid ((ts.drop k).find? (idB id) = ts.find? (idB id))) (fun i _ => ts.length - (intOf i).toNat)
  case atStart => exact ⟨0, by omega, rfl, rfl, Lib.hid (by simp)⟩
  case round =>
    obtain ⟨k, hk, rfl, rfl, hr⟩ := hrel
    by_cases hlt : k < ts.length
    · obtain ⟨b, off, t, rfl, hb, ht, ⟨q0, q1, q2, q3, q4⟩, rx⟩ := (H.out.next HB.out).elem hlt
      have HS := Lib.hid (find_step (idB id) ts k ht)
      have RX := Lib.hid rx
      have k0 : (0 : Int) ≤ (k : Int) := by omega
      have ka : (k : Int) < (ts.length : Int) := by omega
      clear ht rx
      by_cases he : t.id = id
      · have be : (t.id == id) = true := by simp [he]
        have HV := Lib.hid (show ts.find? (idB id) = some t by rw [← hr.out, HS.out, if_pos (by unfold idB; exact be)])
        have HR := Lib.hid (retT_box K1.out.blk (.int .i64 t.id) (.string t.label) (.int .i64 t.o) (.int .i64 t.i) (.slice t.A t.l.length t.c))
        have PW := Lib.hid (H.out.vals t (List.mem_of_find?_eq_some HV.out))
        clear he
        go_wp2
        obtain ⟨F, hF, ⟨r0', r1', r2', r3', r4', _⟩, hkk, hsz, hbel⟩ := HR.out
        rw [← hF]
        clear hF
        have bF := hbel w.heap.size _ (Nat.le_refl _) HB.out
        exact bodyPost_ret (v := .tuple #[t.v, .bool true]) (by simp [results, Try.results20, go_sem, r0', r1', r2', r3', r4']) rfl ⟨t, true, rfl, PW.out.next bF, .inl ⟨rfl, HV.out⟩, bF⟩
      · have be : (t.id == id) = false := by simp [he]
        have HN := Lib.hid (show (ts.drop (k + 1)).find? (idB id) = ts.find? (idB id) by rw [← hr.out, HS.out, if_neg (by unfold idB; rw [be]; simp)])
        clear he
        go_wp2
        go_roundw
        case rel => exact ⟨k + 1, by omega, by go_num, trivial, HN⟩
        case measure => simp [intOf]; omega
    · have HV := Lib.hid (show ts.find? (idB id) = none by rw [← hr.out, List.drop_eq_nil_of_le (by omega)]; rfl)
      have HR := Lib.hid (retT_box K1.out.blk (.int .i64 0) (.string ⟨#[]⟩) (.int .i64 0) (.int .i64 0) (.slice none 0 0))
      go_wp2
      obtain ⟨F, hF, ⟨r0', r1', r2', r3', r4', _⟩, hkk, hsz, hbel⟩ := HR.out
      rw [← hF]
      clear hF
      have bF := hbel w.heap.size _ (Nat.le_refl _) HB.out
      exact bodyPost_ret (v := .tuple #[tv 0 ⟨#[]⟩ 0 0 none 0 0, .bool false]) (by simp [results, Try.results20, go_sem, r0', r1', r2', r3', r4']) rfl ⟨⟨0, ⟨#[]⟩, 0, 0, none, 0, []⟩, false, rfl, prow_nil _ _ _, .inr ⟨rfl, HV.out, rfl⟩, bF⟩

end Go.Proofs.Ytebkkjfeikpfgaa
namespace Go.Proofs.Ytebkkjfeikpfgaa
set_option maxRecDepth 100000
open Go.RowKit Go.Sort
set_option maxRecDepth 100000

end Go.Proofs.Ytebkkjfeikpfgaa

