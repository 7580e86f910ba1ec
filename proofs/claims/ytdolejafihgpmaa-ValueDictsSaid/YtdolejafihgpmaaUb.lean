/- The chapter's examples, call by call. -/
import Derived.Test.YtdolejafihgpmaaUa
import Derived.Test.YtdolejafihgpmaaK
namespace Go.Proofs.Ytdolejafihgpmaa
open Go.RowKit Go.Sort

abbrev ag (k n : Int) (s : ByteArray) (A : Option Addr) (l c : Nat) (A' : Option Addr) (l' c' : Nat) : Value := .agg #[.int .i64 k, .int .i64 n, .string s, .slice A l c, .slice A' l' c']
theorem dict6 (w : World) (g : Nat) (h : RowAt w g [wrdB, numV 1, wrdA, numV 2, wrdB, numV 3]) :
    Calls Try.prog 22 #[.slice (some ⟨g, 0, none⟩) 6 6] w fun e w' => ∃ A c A' c', e = .returned (.tuple #[ag 7 0 ⟨#[]⟩ A 2 c A' 2 c', .int .i64 0]) ∧ Rd w' w.heap.size w'.heap.size 13 mapK A c A' c' ∧ Below w.heap.size w w' :=
  (dict_even w 1 _ 6 [wrdB, numV 1, wrdA, numV 2, wrdB, numV 3] h rfl (stable_small 3 (by omega)) (by decide)).mono fun e w' ⟨ps, ps', hk, hs, hf, A, c, A', c', he, rd, hb⟩ => by
    rw [known_dict hk hs hf] at he rd
    have h1 : okCopy mapK = mapK := by unfold okCopy; rw [ok_mapK, if_pos rfl, copy_mapK]
    have h2 : errI (okV 12 mapK) = 0 := by rw [ok_mapK]; rfl
    rw [h1] at he rd
    rw [h2] at he
    exact ⟨A, c, A', c', he, rd, hb⟩
theorem dict1 (w : World) (g : Nat) (_ : RowAt w g [numV 1]) :
    Calls Try.prog 22 #[.slice (some ⟨g, 0, none⟩) 1 1] w fun e w' => ∃ A c A' c', e = .returned (.tuple #[ag 0 0 ⟨#[]⟩ A 0 c A' 0 c', .int .i64 2]) ∧ Below w.heap.size w w' :=
  (dict_odd w _ 1 [numV 1] (by decide) rfl).mono fun e w' ⟨A, c, A', c', he, _, hb⟩ => ⟨A, c, A', c', he, hb⟩
theorem rd_lit (w : World) (k n : Int) (s : ByteArray) (hF : Fld (.mk k n s [] [])) : Rd w 0 w.heap.size 1 (.mk k n s [] []) none 0 none 0 := rd_plain w _ 0 k n s hF
theorem find_mapK : findV mapK wrdB = some (numV 3) := by
  have h1 : (cmpV 12 wrdA wrdB == 0) = false := by rw [cmp_ab]; decide
  have h2 : (cmpV 12 wrdB wrdB == 0) = true := by rw [cmp_bb]; decide
  have hi : idxP (fun k => cmpV 12 k wrdB == 0) [wrdA, wrdB] 0 = 1 := by simp [idxP, h1, h2]
  show (if (7 : Int) = 7 then _ else _) = _
  rw [if_pos rfl]
  show (if idxP (fun k => cmpV 12 k wrdB == 0) [wrdA, wrdB] 0 < 0 then none else ([numV 2, numV 3][(idxP (fun k => cmpV 12 k wrdB == 0) [wrdA, wrdB] 0).toNat]?).map (copyV 12)) = _
  rw [hi, if_neg (by decide)]
  rfl
theorem find_b (w : World) (A : Option Addr) (c : Nat) (A' : Option Addr) (c' : Nat) (rm : Rd w 0 w.heap.size 13 mapK A c A' c') :
    Calls Try.prog 24 #[ag 7 0 ⟨#[]⟩ A 2 c A' 2 c', ag 3 0 ⟨#[98]⟩ none 0 0 none 0 0] w fun e w' => ∃ A c A' c', e = .returned (.tuple #[ag 2 3 ⟨#[]⟩ A 0 c A' 0 c', .bool true]) ∧ Below w.heap.size w w' :=
  (find_any w 13 1 mapK wrdB A c A' c' none 0 none 0 rm (rd_lit w _ _ _ fB.1)).mono fun e w' ⟨A, c, A', c', he, _, hb⟩ => by
    rw [find_mapK] at he
    exact ⟨A, c, A', c', he, hb⟩
theorem cmp7 (w : World) : Calls Try.prog 12 #[ag 2 7 ⟨#[]⟩ none 0 0 none 0 0, ag 3 0 ⟨#[97]⟩ none 0 0 none 0 0] w fun e w' => e = .returned (.int .i64 (-1)) ∧ Below w.heap.size w w' :=
  (cmp_any w 1 1 (numV 7) wrdA none 0 none 0 none 0 none 0 (rd_lit w _ _ _ (fld_num 7 (by decide) (by decide))) (rd_lit w _ _ _ fA.1)).mono fun e w' ⟨he, hb⟩ => by
    rw [cmp_7a] at he
    exact ⟨he, hb⟩
theorem row1c (w : World) (g : Nat) (h : RowAt w g [numV 1]) :
    Calls Try.prog 29 #[.slice (some ⟨g, 0, none⟩) 1 1] w fun e w' => ∃ A c A' c', e = .returned (ag 6 0 ⟨#[]⟩ A 1 c A' 0 c') ∧ Rd w' 0 w'.heap.size 14 row1K A c A' c' ∧ Below w.heap.size w w' :=
  (row_any w 1 [numV 1] _ 1 h).mono fun _e _w' ⟨A, c, A', c', he, rd, _, _, hb⟩ => ⟨A, c, A', c', he, rd.more (Nat.zero_le _) (Nat.le_refl _) (Nat.le_refl _), hb⟩
theorem row2c (w : World) (g : Nat) (h : RowAt w g [numV 1, numV 2]) :
    Calls Try.prog 29 #[.slice (some ⟨g, 0, none⟩) 2 2] w fun e w' => ∃ A c A' c', e = .returned (ag 6 0 ⟨#[]⟩ A 2 c A' 0 c') ∧ Rd w' 0 w'.heap.size 14 row2K A c A' c' ∧ Below w.heap.size w w' :=
  (row_any w 1 [numV 1, numV 2] _ 2 h).mono fun _e _w' ⟨A, c, A', c', he, rd, _, _, hb⟩ => ⟨A, c, A', c', he, rd.more (Nat.zero_le _) (Nat.le_refl _) (Nat.le_refl _), hb⟩
theorem cmp12 (w : World) (A : Option Addr) (c : Nat) (A' : Option Addr) (c' : Nat) (D : Option Addr) (e : Nat) (D' : Option Addr) (e' : Nat) (h1 : Rd w 0 w.heap.size 14 row1K A c A' c') (h2 : Rd w 0 w.heap.size 14 row2K D e D' e') :
    Calls Try.prog 12 #[ag 6 0 ⟨#[]⟩ A 1 c A' 0 c', ag 6 0 ⟨#[]⟩ D 2 e D' 0 e'] w fun x w' => x = .returned (.int .i64 (-1)) ∧ Below w.heap.size w w' :=
  (cmp_any w 14 14 row1K row2K A c A' c' D e D' e' h1 h2).mono fun x w' ⟨he, hb⟩ => by
    rw [cmp_rows] at he
    exact ⟨he, hb⟩
theorem check_t (w : World) : Calls Try.prog 16 #[ag 1 1 ⟨#[]⟩ none 0 0 none 0 0] w fun e w' => e = .returned (.int .i64 0) ∧ Below w.heap.size w w' :=
  (check_any w 1 (.mk 1 1 ⟨#[]⟩ [] []) none 0 none 0 (rd_lit w _ _ _ (fld_mk _ _ (by decide) (by decide) (by decide) (by decide) (by decide)))).mono fun e w' ⟨he, hb⟩ => by
    have h : okV 12 (.mk 1 1 ⟨#[]⟩ [] []) = true := by simp [okV, fitsV, noItems, V.k, V.n, V.s, V.l, V.m, ByteArray.toList_eq]
    rw [h] at he
    exact ⟨he, hb⟩
theorem check_0 (w : World) : Calls Try.prog 16 #[ag 0 0 ⟨#[]⟩ none 0 0 none 0 0] w fun e w' => e = .returned (.int .i64 2) ∧ Below w.heap.size w w' :=
  (check_any w 1 zeroV none 0 none 0 (rd_zero w _ _ _)).mono fun e w' ⟨he, hb⟩ => by
    have h : okV 12 zeroV = false := by simp [okV, fitsV, zeroV, V.k]
    rw [h] at he
    exact ⟨he, hb⟩
theorem depth1 (w : World) (A : Option Addr) (c : Nat) (A' : Option Addr) (c' : Nat) (h1 : Rd w 0 w.heap.size 14 row1K A c A' c') :
    Calls Try.prog 18 #[ag 6 0 ⟨#[]⟩ A 1 c A' 0 c'] w fun e w' => e = .returned (.int .i64 2) ∧ Below w.heap.size w w' :=
  (depth_any w 14 row1K A c A' c' h1).mono fun e w' ⟨he, hb⟩ => by
    have h : depV 12 row1K = 2 := by simp [depV, maxL, row1K, numV, V.l, V.m]
    rw [h] at he
    exact ⟨he, hb⟩
end Go.Proofs.Ytdolejafihgpmaa
