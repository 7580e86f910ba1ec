/- The document's Print and Rows. -/
import Derived.Test.YtmgjiipooffggaaRt
import Derived.Test.YtmgjiipooffggaaNd
namespace Go.Proofs.Ytmgjiipooffggaa
set_option maxRecDepth 100000
open Go.RowKit Go.Sort

def PrtPost (w : World) (t : V) (e : Ending) (w' : World) : Prop := ∃ S : ByteArray, e = .returned (.tuple #[.string S, .int .i64 (prtE t)]) ∧ S.toList = prtS t ∧ Below w.heap.size w w'
set_option maxHeartbeats 1600000 in
theorem refPrint_any (w : World) (d : Nat) (x : At) (hx : x.In w d) (hl : okV 12 x.t = true → (txt 12 x.t).length ≤ 1000000000000) :
    Calls Try.prog 13 #[x.v] w (PrtPost w x.t) := by
  have b0 := below_new w (.cells #[.int .i64 x.t.k, .int .i64 x.t.n, .string x.t.s, .slice x.A x.t.l.length x.c, .slice x.A' x.t.m.length x.c'] 24)
  have hbx := Bx.new w x
  have HX := Lib.hid hx
  have HL := Lib.hid hl
  clear hx hl
  unfold At.v
  go_enter Try.func13, Try.ntmps13
  go_upto_region 1 with fail
  generalize hW : World.alloc w _ = W at b0 hbx ⊢
  clear hW
  have X0 := Lib.hid (HX.out.next b0)
  have B0 := Lib.hid b0
  have HBX := Lib.hid hbx
  clear b0 hbx
  obtain ⟨q0, q1, q2, q3, q4, _⟩ := HBX.out
  go_wp2_with fail
  refine (refCheck_at W d x X0.out).mono ?_
  rintro e w1 ⟨rfl, hb⟩
  have X1 := Lib.hid (X0.out.next hb)
  have B1 := Lib.hid (bnext B0.out hb)
  have HBX1 := Lib.hid (HBX.out.next hb)
  clear hb q0 q1 q2 q3 q4 X0 B0 HBX
  cases hok : okV 12 x.t with
  | false =>
    have PE : Hid (prtE x.t = 2) := Lib.hid (by simp [prtE, hok])
    have PS : Hid (prtS x.t = []) := Lib.hid (by simp [prtS, hok])
    rw [show errI false = 2 from rfl]
    clear hok
    go_wp2
    go_ret2
    exact ⟨_, by rw [PE.out]; rfl, by rw [PS.out]; exact lit_list [], B1.out⟩
  | true =>
    have HT := vtext_any 12 w1 d x X1.out hok (HL.out hok)
    unfold At.v at HT
    replace HT := Lib.hid HT
    have PE : Hid (prtE x.t = 0) := Lib.hid (by simp [prtE, hok])
    have PS : Hid (prtS x.t = txt 12 x.t) := Lib.hid (by simp [prtS, hok])
    rw [show errI true = 0 from rfl]
    clear hok
    obtain ⟨q0, q1, q2, q3, q4, _⟩ := HBX1.out
    go_wp2_with fail
    refine HT.out.mono ?_
    rintro e w2 ⟨S, rfl, hS, hb⟩
    have B2 := Lib.hid (bnext B1.out hb)
    have HS := Lib.hid hS
    clear hb hS q0 q1 q2 q3 q4
    go_wp2
    go_ret2
    exact ⟨S, by rw [PE.out]; rfl, by rw [PS.out]; exact HS.out, B2.out⟩

/-- What Rows answers. -/
def rowsS (l : List V) : Bs := if l.all (okV 12) then rowsT l else []
def rowsE (l : List V) : Int := if l.all (okV 12) then 0 else 2
theorem rowsT_len : ∀ l : List V, (∀ z ∈ l, (txt 12 z).length ≤ 30000) → (rowsT l).length ≤ 30001 * l.length
  | [], _ => by simp [rowsT]
  | x :: r, h => by
    have h1 := rowsT_len r (fun z hz => h z (by simp [hz]))
    have h2 := h x (by simp)
    simp only [rowsT, List.length_append, List.length_cons]
    omega
set_option maxHeartbeats 1600000 in
theorem refRows_any (w : World) (d : Nat) (A : Option Addr) (c : Nat) (l : List V) (h : Rw w 0 w.heap.size d A c l) (hl : l.length ≤ 300) (ht : ∀ z ∈ l, okV 12 z = true → (txt 12 z).length ≤ 30000) :
    Calls Try.prog 15 #[.slice A l.length c] w fun e w' => ∃ S : ByteArray, e = .returned (.tuple #[.string S, .int .i64 (rowsE l)]) ∧ S.toList = rowsS l ∧ Below w.heap.size w w' := by
  have HR := Lib.hid h
  have HT := Lib.hid ht
  clear h ht
  go_enter Try.func15, Try.ntmps15
  go_wp2
  go_loopw [4, 5] (fun o i wr => ∃ (k : Nat) (O : ByteArray), o = .string O ∧ i = .int .i64 k ∧ k ≤ l.length ∧ Hid (Below w.heap.size w wr) ∧ Hid (O.toList = rowsT (l.take k)) ∧ Hid (∀ z ∈ l.take k, okV 12 z = true)) (fun _ i _ => l.length - (RowKit.intOf i).toNat)
  case atStart => exact ⟨0, _, rfl, rfl, by omega, Lib.hid (Below.refl _ _), Lib.hid (by rw [show (⟨#[]⟩ : ByteArray).toList = [] from lit_list []]; simp [rowsT]), Lib.hid (fun z hz => by simp at hz)⟩
  case round =>
    obtain ⟨k, O, rfl, rfl, hk, hbel, hO, hok⟩ := hrel
    have hOs : O.size ≤ 9000300 := by
      rw [size_list hO.out]
      have h1 := rowsT_len (l.take k) (fun z hz => HT.out z (List.mem_of_mem_take hz) (hok.out z hz))
      rw [List.length_take] at h1
      omega
    by_cases hlt : k < l.length
    · obtain ⟨b, off, z, A1, e1, A2, e2, rfl, _, hb, hzz, q, rz⟩ := (HR.out.next hbel.out).elem hlt
      obtain ⟨q0, q1, q2, q3, q4⟩ := q
      have HM := Lib.hid (List.mem_of_getElem? hzz)
      have CA := refPrint_any wr d ⟨z, A1, e1, A2, e2⟩ rz (fun ho => by have := HT.out z HM.out ho; show (txt 12 z).length ≤ _; omega)
      replace CA := Lib.hid CA
      have TN := Lib.hid (take_next l k hzz)
      have RN := Lib.hid (rowsT_next l k hzz)
      have k0 : (0 : Int) ≤ (k : Int) := by omega
      have k1 : (k : Int) < (l.length : Int) := by omega
      clear rz hzz
      go_wp2_with fail
      refine CA.out.mono ?_
      rintro e w2 ⟨S, rfl, hS, hb2⟩
      have BB := Lib.hid (bnext hbel.out hb2)
      clear hb2 q0 q1 q2 q3 q4 CA
      cases ho : okV 12 z with
      | false =>
        have PE : prtE z = 2 := by simp [prtE, ho]
        have RA : l.all (okV 12) = false := by rw [List.all_eq_false]; exact ⟨z, HM.out, by rw [ho]; simp⟩
        have RE : Hid (rowsE l = 2) := Lib.hid (by simp only [rowsE, RA]; rfl)
        have RS : Hid (rowsS l = []) := Lib.hid (by simp only [rowsS, RA]; rfl)
        clear ho RA hS
        (try rw [PE])
        clear PE
        go_wp2
        go_ret2
        exact ⟨_, by rw [RE.out]; rfl, by rw [RS.out]; exact lit_list [], BB.out⟩
      | true =>
        have PE : prtE z = 0 := by simp [prtE, ho]
        have HS : Hid (S.toList = txt 12 z) := Lib.hid (by rw [hS]; show prtS z = _; simp [prtS, ho])
        have HO := Lib.hid ho
        have hSs : S.size ≤ 30000 := by rw [size_list HS.out]; exact HT.out z HM.out ho
        clear ho hS
        (try rw [PE])
        clear PE
        go_wp2
        go_roundw
        case rel => exact ⟨k + 1, _, rfl, by go_num, by omega, BB, Lib.hid (by rw [list_app, list_app, hO.out, RN.out, HS.out, show (⟨#[10]⟩ : ByteArray).toList = [10] from lit_list [10]]; simp), Lib.hid (fun u hu => by
          rw [TN.out, List.mem_append] at hu
          rcases hu with hu | hu
          · exact hok.out u hu
          · have : u = z := by simpa using hu
            subst this; exact HO.out)⟩
        case measure => simp [RowKit.intOf]; omega
    · have HE : Hid (O.toList = rowsT l) := Lib.hid (by rw [hO.out, List.take_of_length_le (by omega)])
      have RA : l.all (okV 12) = true := by rw [List.all_eq_true]; intro z hz; exact hok.out z (by rw [List.take_of_length_le (by omega)]; exact hz)
      have RE : Hid (rowsE l = 0) := Lib.hid (by simp only [rowsE, RA]; rfl)
      have RS : Hid (rowsS l = rowsT l) := Lib.hid (by simp only [rowsS, RA]; rfl)
      clear RA
      go_wp2
      go_ret2
      exact ⟨O, by rw [RE.out]; rfl, by rw [RS.out]; exact HE.out, hbel.out⟩

/-- code.Rows, whatever the values are. -/
theorem rows_any (w : World) (d : Nat) (A : Option Addr) (c : Nat) (l : List V) (h : Rw w 0 w.heap.size d A c l) (hl : l.length ≤ 300) (ht : ∀ z ∈ l, okV 12 z = true → (txt 12 z).length ≤ 30000) :
    Calls Try.prog 14 #[.slice A l.length c] w fun e w' => ∃ S : ByteArray, e = .returned (.tuple #[.string S, .int .i64 (rowsE l)]) ∧ S.toList = rowsS l ∧ Below w.heap.size w w' := by
  cases hno : l.all (okV 12) with
  | false =>
    have h1 : (l.any fun x => !okV 12 x) = true := by rw [List.any_eq_not_all_not]; simp [hno]
    refine (rows_bad w d A c l h h1).mono ?_
    rintro e w' ⟨rfl, hb⟩
    exact ⟨_, by simp only [rowsE, hno]; rfl, by simp only [rowsS, hno]; exact lit_list [], hb⟩
  | true =>
    have h1 : ∀ z ∈ l, okV 12 z = true := List.all_eq_true.1 hno
    have h2 := rowsT_len l (fun z hz => ht z hz (h1 z hz))
    refine (rows_good w d A c l h h1 (by omega)).mono ?_
    rintro e w' ⟨rfl, hb⟩
    exact ⟨_, by simp only [rowsE, hno]; rfl, by simp only [rowsS, hno]; exact lit_list _, hb⟩
end Go.Proofs.Ytmgjiipooffggaa
