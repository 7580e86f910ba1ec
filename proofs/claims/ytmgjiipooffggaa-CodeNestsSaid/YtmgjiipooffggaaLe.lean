/- What is in a row, and rows: the law of CodeNests. -/
import Derived.Test.YtmgjiipooffggaaNe
import Derived.Test.YtmgjiipooffggaaLc
namespace Go.Proofs.Ytmgjiipooffggaa
set_option maxRecDepth 100000
open Go.RowKit Go.Sort

theorem Bxs.box {w0 w : World} {d : Nat} {l : List (Nat × At)} (h : Bxs w0 w d l) (g : Nat) (x : At) (hm : (g, x) ∈ l) : Bx w g x := (h.at_ _ hm).1
theorem Bxs.in_ {w0 w : World} {d : Nat} {l : List (Nat × At)} (h : Bxs w0 w d l) (g : Nat) (x : At) (hm : (g, x) ∈ l) : x.In w d := (h.at_ _ hm).2
theorem rows_pair_bad (w : World) (d : Nat) (x y : At) (hx : x.In w d) (hy : y.In w d) (hno : okV 12 x.t = false ∨ okV 12 y.t = false) : Calls Try.prog 14 #[.slice (some ⟨w.heap.size, 0, none⟩) 2 2] (w.alloc (.cells #[.int .i64 x.t.k, .int .i64 x.t.n, .string x.t.s, .slice x.A x.t.l.length x.c, .slice x.A' x.t.m.length x.c', .int .i64 y.t.k, .int .i64 y.t.n, .string y.t.s, .slice y.A y.t.l.length y.c, .slice y.A' y.t.m.length y.c'] 24)) fun e w' => e = .returned (.tuple #[.string ⟨#[]⟩, .int .i64 2]) ∧ Below w.heap.size w w' := by
  have := rows_bad (w.alloc (.cells (flatA [x, y]).toArray 24)) d _ 2 _ (row_lay w d [x, y] (by intro q hq; have : q = x ∨ q = y := (by simpa using hq); rcases this with rfl | rfl; exact hx; exact hy) (by simp)) (by rcases hno with h | h <;> simp [h])
  rw [List.length_map] at this
  exact Calls.mono this fun e w' ⟨he, hb⟩ => ⟨he, bnext (below_new _ _) hb⟩
theorem rows_pair_good (w : World) (d : Nat) (x y : At) (hx : x.In w d) (hy : y.In w d) (ox : okV 12 x.t = true) (oy : okV 12 y.t = true) (S Z : ByteArray) (hS : S.toList = txt 12 x.t) (hZ : Z.toList = txt 12 y.t) (bS : S.size ≤ 30000) (bZ : Z.size ≤ 30000) : Calls Try.prog 14 #[.slice (some ⟨w.heap.size, 0, none⟩) 2 2] (w.alloc (.cells #[.int .i64 x.t.k, .int .i64 x.t.n, .string x.t.s, .slice x.A x.t.l.length x.c, .slice x.A' x.t.m.length x.c', .int .i64 y.t.k, .int .i64 y.t.n, .string y.t.s, .slice y.A y.t.l.length y.c, .slice y.A' y.t.m.length y.c'] 24)) fun e w' => e = .returned (.tuple #[.string (S ++ (⟨#[10]⟩ : ByteArray) ++ Z ++ (⟨#[10]⟩ : ByteArray)), .int .i64 0]) ∧ Below w.heap.size w w' := by
  have e : rowsT [x.t, y.t] = S.toList ++ [10] ++ Z.toList ++ [10] := by rw [hS, hZ]; simp [rowsT]
  have := rows_good (w.alloc (.cells (flatA [x, y]).toArray 24)) d _ 2 _ (row_lay w d [x, y] (by intro q hq; have : q = x ∨ q = y := (by simpa using hq); rcases this with rfl | rfl; exact hx; exact hy) (by simp)) (by intro z hz; have : z = x.t ∨ z = y.t := (by simpa using hz); rcases this with rfl | rfl; exact ox; exact oy) (by show (rowsT [x.t, y.t]).length ≤ _; rw [e]; simp only [List.length_append, toList_size, List.length_singleton]; omega)
  rw [List.length_map] at this
  refine Calls.mono this fun e' w' ⟨he, hb⟩ => ⟨?_, bnext (below_new _ _) hb⟩
  have e2 : (⟨(rowsT [x.t, y.t]).toArray⟩ : ByteArray) = S ++ (⟨#[10]⟩ : ByteArray) ++ Z ++ (⟨#[10]⟩ : ByteArray) := by
    rw [← str_eta (S ++ (⟨#[10]⟩ : ByteArray) ++ Z ++ (⟨#[10]⟩ : ByteArray)), list_app, list_app, list_app, show (⟨#[10]⟩ : ByteArray).toList = [10] from lit_list [10], ← e]
  rw [he, ← e2]; rfl
theorem path_in (w : World) (d : Nat) (x : At) (hx : x.In w d) : (⟨.mk 8 0 ⟨#[]⟩ [x.t] [], some ⟨w.heap.size, 0, none⟩, 1, none, 0⟩ : At).In (w.alloc (.cells #[.int .i64 x.t.k, .int .i64 x.t.n, .string x.t.s, .slice x.A x.t.l.length x.c, .slice x.A' x.t.m.length x.c'] 24)) (d + 1) := by
  have := row_lay w d [x] (by intro q hq; have : q = x := (by simpa using hq); subst this; exact hx) (by simp)
  exact ⟨⟨(by decide : (-9223372036854775808 : Int) ≤ 8), (by decide : (8 : Int) ≤ 9223372036854775807), (by decide : (-9223372036854775808 : Int) ≤ 0), (by decide : (0 : Int) ≤ 9223372036854775807), (by decide : (0 : Nat) ≤ 140737488355328)⟩, this, rw_nil _ _ _ _⟩
theorem cat_size (a b : ByteArray) : (a ++ b).size = a.size + b.size := ByteArray.size_append
/-- The text of a row of two. -/
theorem print_row2 (w : World) (d : Nat) (r : At) (x y : V) (S Z : ByteArray) (hr : r.In w d) (hrt : r.t = rowV [x, y]) (ox : okV 12 x = true) (oy : okV 12 y = true) (hS : S.toList = txt 12 x) (hZ : Z.toList = txt 12 y) (bS : S.size ≤ 30000) (bZ : Z.size ≤ 30000) (hd : max (depV 12 x) (depV 12 y) < 12) :
    Calls Try.prog 12 #[r.v] w fun e w' => e = .returned (.tuple #[.string ((⟨#[91]⟩ : ByteArray) ++ S ++ (⟨#[44, 32]⟩ : ByteArray) ++ Z ++ (⟨#[93]⟩ : ByteArray)), .int .i64 0]) ∧ Below w.heap.size w w' := by
  have ho : okV 12 r.t = true := by rw [hrt, row_two_ok x y ox oy]; exact decide_eq_true hd
  have e : txt 12 r.t = [91] ++ S.toList ++ [44, 32] ++ Z.toList ++ [93] := by rw [hrt, row_two_txt x y ox oy hd, hS, hZ]
  have := print_any w d r hr (fun _ => by rw [e]; simp only [List.length_append, toList_size, List.length_cons, List.length_nil]; omega)
  rw [show prtS r.t = txt 12 r.t by unfold prtS; rw [ho]; rfl, show prtE r.t = 0 by unfold prtE; rw [ho]; rfl] at this
  have e2 : (⟨(txt 12 r.t).toArray⟩ : ByteArray) = (⟨#[91]⟩ : ByteArray) ++ S ++ (⟨#[44, 32]⟩ : ByteArray) ++ Z ++ (⟨#[93]⟩ : ByteArray) := by
    rw [← str_eta ((⟨#[91]⟩ : ByteArray) ++ S ++ (⟨#[44, 32]⟩ : ByteArray) ++ Z ++ (⟨#[93]⟩ : ByteArray)), list_app, list_app, list_app, list_app, show (⟨#[91]⟩ : ByteArray).toList = [91] from lit_list [91], show (⟨#[44, 32]⟩ : ByteArray).toList = [44, 32] from lit_list [44, 32], show (⟨#[93]⟩ : ByteArray).toList = [93] from lit_list [93], ← e]
  rw [e2] at this
  exact this
theorem print_path1 (w : World) (d : Nat) (r : At) (x : V) (S : ByteArray) (hr : r.In w d) (hrt : r.t = .mk 8 0 ⟨#[]⟩ [x] []) (ox : okV 12 x = true) (hS : S.toList = txt 12 x) (bS : S.size ≤ 30000) (hd : depV 12 x < 12) :
    Calls Try.prog 12 #[r.v] w fun e w' => e = .returned (.tuple #[.string ((⟨#[112, 97, 116, 104, 91]⟩ : ByteArray) ++ S ++ (⟨#[93]⟩ : ByteArray)), .int .i64 0]) ∧ Below w.heap.size w w' := by
  have ho : okV 12 r.t = true := by rw [hrt, path_one_ok x ox]; exact decide_eq_true hd
  have e : txt 12 r.t = [112, 97, 116, 104, 91] ++ S.toList ++ [93] := by rw [hrt, path_one_txt x ox hd, hS]
  have := print_any w d r hr (fun _ => by rw [e]; simp only [List.length_append, toList_size, List.length_cons, List.length_nil]; omega)
  rw [show prtS r.t = txt 12 r.t by unfold prtS; rw [ho]; rfl, show prtE r.t = 0 by unfold prtE; rw [ho]; rfl] at this
  have e2 : (⟨(txt 12 r.t).toArray⟩ : ByteArray) = (⟨#[112, 97, 116, 104, 91]⟩ : ByteArray) ++ S ++ (⟨#[93]⟩ : ByteArray) := by
    rw [← str_eta ((⟨#[112, 97, 116, 104, 91]⟩ : ByteArray) ++ S ++ (⟨#[93]⟩ : ByteArray)), list_app, list_app, show (⟨#[112, 97, 116, 104, 91]⟩ : ByteArray).toList = [112, 97, 116, 104, 91] from lit_list [112, 97, 116, 104, 91], show (⟨#[93]⟩ : ByteArray).toList = [93] from lit_list [93], ← e]
  rw [e2] at this
  exact this
theorem print_some (w : World) (d : Nat) (r : At) (x : V) (S : ByteArray) (hr : r.In w d) (hrt : r.t = .mk 8 0 ⟨#[]⟩ [x] []) (ox : okV 12 x = true) (hS : S.toList = txt 12 x) (bS : S.size ≤ 30000) :
    Calls Try.prog 12 #[r.v] w fun e w' => ∃ (P : ByteArray) (n : Int), e = .returned (.tuple #[.string P, .int .i64 n]) ∧ Below w.heap.size w w' := by
  have hl : okV 12 r.t = true → (txt 12 r.t).length ≤ 140737488355328 := fun ho => by
    rw [hrt, path_one_ok x ox] at ho
    rw [hrt, path_one_txt x ox (of_decide_eq_true ho), ← hS]
    simp only [List.length_append, toList_size, List.length_cons, List.length_nil]; omega
  exact (print_any w d r hr hl).mono fun _ _ ⟨he, hb⟩ => ⟨_, _, he, hb⟩
def n10D : Nat → Tmp := fun j => [68, 69, 70, 71, 72, 73, 15].getD j 0
def n10E : Nat → List Nat := fun j => [[], [0], [], [2], [1, 3], [4], [5]].getD j []
set_option maxHeartbeats 6400000 in
theorem nests_law3 (w : World) (d : Nat) (x y : At) (hx : x.In w d) (hy : y.In w d) : Calls Try.prog 9 #[x.v, y.v] w fun e w' => e = .returned (.bool true) ∧ Below w.heap.size w w' := by
  have HX := Lib.hid hx
  have HY := Lib.hid hy
  clear hx hy
  unfold At.v
  go_enter Try.func9, Try.ntmps9
  go_upto_region 1 with fail
  have b0 := below_new w (.cells #[.int .i64 x.t.k, .int .i64 x.t.n, .string x.t.s, .slice x.A x.t.l.length x.c, .slice x.A' x.t.m.length x.c'] 24)
  have hbx := Bx.new w x
  generalize hW : World.alloc w _ = Wa at b0 hbx ⊢
  have hgl : w.heap.size < Wa.heap.size := by rw [← hW]; simp
  have hgs : w.heap.size + 1 = Wa.heap.size := by rw [← hW]; simp
  clear hW
  obtain ⟨g2, hg2⟩ : ∃ g : Nat, g = w.heap.size := ⟨_, rfl⟩
  rw [← hg2] at hbx hgl hgs ⊢
  try rw [hgs]
  clear hgs hg2
  have Xa := Lib.hid (HX.out.next b0)
  have Ya := Lib.hid (HY.out.next b0)
  have Ba := Lib.hid b0
  have BXa := Lib.hid hbx
  clear b0 hbx HX HY
  have b0 := below_new Wa (.cells #[.int .i64 y.t.k, .int .i64 y.t.n, .string y.t.s, .slice y.A y.t.l.length y.c, .slice y.A' y.t.m.length y.c'] 24)
  have hby := Bx.new Wa y
  generalize hW : World.alloc Wa _ = W at b0 hby ⊢
  have hgl' : Wa.heap.size < W.heap.size := by rw [← hW]; simp
  clear hW
  obtain ⟨g3, hg3⟩ : ∃ g : Nat, g = Wa.heap.size := ⟨_, rfl⟩
  rw [← hg3] at hby hgl' ⊢
  clear hg3
  have X0 := Lib.hid (Xa.out.next b0)
  have Y0 := Lib.hid (Ya.out.next b0)
  have B0 := Lib.hid (bnext Ba.out b0)
  have BX := Lib.hid (BXa.out.next b0)
  have BY := Lib.hid hby
  have LO := Lib.hid (lots_pair W d x y X0.out Y0.out)
  clear b0 hby Xa Ya Ba BXa
  obtain ⟨q0, q1, q2, q3, q4, _⟩ := BX.out
  obtain ⟨p0, p1, p2, p3, p4, _⟩ := BY.out
  go_wp2_with fail
  refine LO.out.mono ?_
  rintro e w1 ⟨b, rfl, hb, hc⟩
  have HC := Lib.hid hc
  have X1 := Lib.hid (X0.out.next hb)
  have Y1 := Lib.hid (Y0.out.next hb)
  have B1 := Lib.hid (bnext B0.out hb)
  have BX1 := Lib.hid (BX.out.next hb)
  have BY1 := Lib.hid (BY.out.next hb)
  clear hb hc LO X0 Y0 B0 BX BY q0 q1 q2 q3 q4 p0 p1 p2 p3 p4
  cases b with
  | true =>
    go_wp2_with fail
    refine (known_any w1).mono ?_
    rintro e wk ⟨rfl, hb⟩
    have HK := Lib.hid (bnext B1.out hb)
    clear hb
    go_wp2
    go_ret
    exact ⟨rfl, HK.out⟩
  | false =>
    have HCC := Lib.hid (HC.out rfl)
    clear HC
    cases hok : okV 12 x.t with
    | false =>
      have PR := Lib.hid (print_bad w1 d x X1.out hok)
      have PR2 := Lib.hid (fun w (h : y.In w d) => print_any w d y h (fun h2 => by have := HCC.out.2 h2; omega))
      have RP := Lib.hid (fun w hx hy => rows_pair_bad w d x y hx hy (.inl hok))
      clear hok
      obtain ⟨q0, q1, q2, q3, q4, _⟩ := BX1.out
      obtain ⟨p0, p1, p2, p3, p4, _⟩ := BY1.out
      go_wp2_with fail
      refine PR.out.mono ?_
      rintro e w2 ⟨rfl, hb⟩
      have B2 := Lib.hid (bnext B1.out hb)
      have X2 := Lib.hid (X1.out.next hb)
      have Y2 := Lib.hid (Y1.out.next hb)
      have BX2 := Lib.hid (BX1.out.next hb)
      have BY2 := Lib.hid (BY1.out.next hb)
      clear hb PR q0 q1 q2 q3 q4 p0 p1 p2 p3 p4
      obtain ⟨p0, p1, p2, p3, p4, _⟩ := BY2.out
      have PR3 := Lib.hid (PR2.out w2 Y2.out)
      obtain ⟨PS, hPS⟩ : ∃ s : ByteArray, s = ⟨(prtS y.t).toArray⟩ := ⟨_, rfl⟩
      obtain ⟨PE, hPE⟩ : ∃ n : Int, n = prtE y.t := ⟨_, rfl⟩
      rw [← hPS, ← hPE] at PR3
      clear hPS hPE PR2
      go_wp2_with fail
      refine PR3.out.mono ?_
      rintro e w3 ⟨rfl, hb⟩
      have B3 := Lib.hid (bnext B2.out hb)
      have X3 := Lib.hid (X2.out.next hb)
      have Y3 := Lib.hid (Y2.out.next hb)
      have BX3 := Lib.hid (BX2.out.next hb)
      have BY3 := Lib.hid (BY2.out.next hb)
      clear hb PR3 p0 p1 p2 p3 p4
      obtain ⟨q0, q1, q2, q3, q4, _⟩ := BX3.out
      obtain ⟨p0, p1, p2, p3, p4, _⟩ := BY3.out
      have RP3 := Lib.hid (RP.out w3 X3.out Y3.out)
      go_wp2_with fail
      refine RP3.out.mono ?_
      rintro e w4 ⟨rfl, hb⟩
      have B4 := Lib.hid (bnext B3.out hb)
      clear hb RP3 RP q0 q1 q2 q3 q4 p0 p1 p2 p3 p4
      go_wp2_with fail
      refine (known_any w4).mono ?_
      rintro e wk ⟨rfl, hb⟩
      have HK := Lib.hid (bnext B4.out hb)
      clear hb
      go_wp2
      go_ret
      exact ⟨rfl, HK.out⟩
    | true =>
      obtain ⟨S, hlS, hsS, prS⟩ := print_good w1 d x X1.out hok (HCC.out.1 hok)
      have PR := Lib.hid prS
      have HLS := Lib.hid hlS
      have OX := Lib.hid hok
      clear hlS prS hok
      obtain ⟨q0, q1, q2, q3, q4, _⟩ := BX1.out
      obtain ⟨p0, p1, p2, p3, p4, _⟩ := BY1.out
      go_wp2_with fail
      refine PR.out.mono ?_
      rintro e w2 ⟨rfl, hb⟩
      have B2 := Lib.hid (bnext B1.out hb)
      have X2 := Lib.hid (X1.out.next hb)
      have Y2 := Lib.hid (Y1.out.next hb)
      have BX2 := Lib.hid (BX1.out.next hb)
      have BY2 := Lib.hid (BY1.out.next hb)
      clear hb PR q0 q1 q2 q3 q4 p0 p1 p2 p3 p4 X1 Y1 B1 BX1 BY1
      cases hok : okV 12 y.t with
      | false =>
        have PR3 := Lib.hid (print_bad w2 d y Y2.out hok)
        have RP := Lib.hid (fun w hx hy => rows_pair_bad w d x y hx hy (.inr hok))
        clear hok
        obtain ⟨p0, p1, p2, p3, p4, _⟩ := BY2.out
        go_wp2_with fail
        refine PR3.out.mono ?_
        rintro e w3 ⟨rfl, hb⟩
        have B3 := Lib.hid (bnext B2.out hb)
        have X3 := Lib.hid (X2.out.next hb)
        have Y3 := Lib.hid (Y2.out.next hb)
        have BX3 := Lib.hid (BX2.out.next hb)
        have BY3 := Lib.hid (BY2.out.next hb)
        clear hb PR3 p0 p1 p2 p3 p4
        obtain ⟨q0, q1, q2, q3, q4, _⟩ := BX3.out
        obtain ⟨p0, p1, p2, p3, p4, _⟩ := BY3.out
        have RP3 := Lib.hid (RP.out w3 X3.out Y3.out)
        go_wp2_with fail
        refine RP3.out.mono ?_
        rintro e w4 ⟨rfl, hb⟩
        have B4 := Lib.hid (bnext B3.out hb)
        clear hb RP3 RP q0 q1 q2 q3 q4 p0 p1 p2 p3 p4
        go_wp2_with fail
        refine (known_any w4).mono ?_
        rintro e wk ⟨rfl, hb⟩
        have HK := Lib.hid (bnext B4.out hb)
        clear hb
        go_wp2
        go_ret
        exact ⟨rfl, HK.out⟩
      | true =>
        obtain ⟨Z, hlZ, hsZ, prZ⟩ := print_good w2 d y Y2.out hok (HCC.out.2 hok)
        have PR3 := Lib.hid prZ
        have HLZ := Lib.hid hlZ
        have OY := Lib.hid hok
        clear hlZ prZ hok
        obtain ⟨p0, p1, p2, p3, p4, _⟩ := BY2.out
        go_wp2_with fail
        refine PR3.out.mono ?_
        rintro e w3 ⟨rfl, hb⟩
        have B3 := Lib.hid (bnext B2.out hb)
        have X3 := Lib.hid (X2.out.next hb)
        have Y3 := Lib.hid (Y2.out.next hb)
        have BX3 := Lib.hid (BX2.out.next hb)
        have BY3 := Lib.hid (BY2.out.next hb)
        clear hb PR3 p0 p1 p2 p3 p4 X2 Y2 B2 BX2 BY2
        have RP3 := Lib.hid (rows_pair_good w3 d x y X3.out Y3.out OX.out OY.out S Z HLS.out HLZ.out hsS hsZ)
        obtain ⟨U, hU⟩ : ∃ U : ByteArray, U = S ++ (⟨#[10]⟩ : ByteArray) ++ Z ++ (⟨#[10]⟩ : ByteArray) := ⟨_, rfl⟩
        rw [← hU] at RP3
        have HU := Lib.hid hU
        clear hU
        obtain ⟨q0, q1, q2, q3, q4, _⟩ := BX3.out
        obtain ⟨p0, p1, p2, p3, p4, _⟩ := BY3.out
        go_wp2_with fail
        refine RP3.out.mono ?_
        rintro e w4 ⟨rfl, hb⟩
        have B4 := Lib.hid (bnext B3.out hb)
        have X4 := Lib.hid (X3.out.next hb)
        have Y4 := Lib.hid (Y3.out.next hb)
        have BX4 := Lib.hid (BX3.out.next hb)
        have BY4 := Lib.hid (BY3.out.next hb)
        clear hb RP3 q0 q1 q2 q3 q4 p0 p1 p2 p3 p4 X3 Y3 B3 BX3 BY3
        have RW := Lib.hid (row_two w4 d x y X4.out Y4.out)
        obtain ⟨q0, q1, q2, q3, q4, _⟩ := BX4.out
        obtain ⟨p0, p1, p2, p3, p4, _⟩ := BY4.out
        go_wp2_with fail
        refine RW.out.mono ?_
        rintro e w5 ⟨r, hrt, rfl, hri, hb⟩
        have HRT := Lib.hid hrt
        have R5 := Lib.hid hri
        have B5 := Lib.hid (bnext B4.out hb)
        have X5 := Lib.hid (X4.out.next hb)
        have Y5 := Lib.hid (Y4.out.next hb)
        have BX5 := Lib.hid (BX4.out.next hb)
        have BY5 := Lib.hid (BY4.out.next hb)
        clear hb hrt hri RW q0 q1 q2 q3 q4 p0 p1 p2 p3 p4 X4 Y4 B4 BX4 BY4
        by_cases hd : max (depV 12 x.t) (depV 12 y.t) < 12
        · have hd1 : depV 12 x.t < 12 := by omega
          have PRW := Lib.hid (print_row2 w5 14 r x.t y.t S Z R5.out HRT.out OX.out OY.out HLS.out HLZ.out hsS hsZ hd)
          obtain ⟨VS, hV⟩ : ∃ V : ByteArray, V = (⟨#[91]⟩ : ByteArray) ++ S ++ (⟨#[44, 32]⟩ : ByteArray) ++ Z ++ (⟨#[93]⟩ : ByteArray) := ⟨_, rfl⟩
          rw [← hV] at PRW
          have HV := Lib.hid hV
          clear hV
          go_wp2_with fail
          refine PRW.out.mono ?_
          rintro e w6 ⟨rfl, hb⟩
          have B6 := Lib.hid (bnext B5.out hb)
          have X6 := Lib.hid (X5.out.next hb)
          have Y6 := Lib.hid (Y5.out.next hb)
          have BX6 := Lib.hid (BX5.out.next hb)
          have BY6 := Lib.hid (BY5.out.next hb)
          clear hb PRW X5 Y5 B5 BX5 BY5
          have z6 := below_new w6 (.cells #[.int .i64 x.t.k, .int .i64 x.t.n, .string x.t.s, .slice x.A x.t.l.length x.c, .slice x.A' x.t.m.length x.c'] 24)
          have PP := Lib.hid (print_path1 _ _ _ x.t S (path_in w6 d x X6.out) rfl OX.out HLS.out hsS hd1)
          obtain ⟨PT, hPT⟩ : ∃ V : ByteArray, V = (⟨#[112, 97, 116, 104, 91]⟩ : ByteArray) ++ S ++ (⟨#[93]⟩ : ByteArray) := ⟨_, rfl⟩
          rw [← hPT] at PP
          have HPT := Lib.hid hPT
          have C6 := Lib.hid (bnext B6.out z6)
          have X7 := Lib.hid (X6.out.next z6)
          have Y7 := Lib.hid (Y6.out.next z6)
          have BX7 := Lib.hid (BX6.out.next z6)
          have BY7 := Lib.hid (BY6.out.next z6)
          clear hPT z6
          obtain ⟨q0, q1, q2, q3, q4, _⟩ := BX6.out
          go_wp2_with fail
          refine PP.out.mono ?_
          rintro e w8 ⟨rfl, hb⟩
          have B8 := Lib.hid (bnext C6.out hb)
          have X8 := Lib.hid (X7.out.next hb)
          have Y8 := Lib.hid (Y7.out.next hb)
          have BX8 := Lib.hid (BX7.out.next hb)
          have BY8 := Lib.hid (BY7.out.next hb)
          clear hb PP q0 q1 q2 q3 q4 X6 Y6 B6 BX6 BY6 X7 Y7 C6 BX7 BY7
          have JB : Hid (Bxs w w8 d [(g3, y), (g2, x)]) := Lib.hid ⟨fun p hp => by
            rcases List.mem_cons.1 hp with rfl | hp
            · exact ⟨BY8.out, Y8.out⟩
            · have : p = (g2, x) := by simpa using hp
              subst this
              exact ⟨BX8.out, X8.out⟩, B8.out⟩
          clear BX8 BY8 X8 Y8 B8
          go_wp2_with fail
          refine region_phase_all [0, 1, 2, 3, 4, 5, 6] n10D n10E (fun w' => Bxs w w' d [(g3, y), (g2, x)]) (saidOf [Is x.v, Is (.int .i64 (depV 12 x.t)), Is y.v, Is (.int .i64 (depV 12 y.t)), Is (.int .i64 (max (depV 12 x.t : Int) (depV 12 y.t : Int))), Is (.bool false), Is (.bool false)]) 119 rfl (by kernel_rfl) (by kernel_rfl) (by kernel_rfl) (fun _ _ h hb => h.next hb) (stays_said _ (stays_cons (Is.stays _) (stays_cons (Is.stays _) (stays_cons (Is.stays _) (stays_cons (Is.stays _) (stays_cons (Is.stays _) (stays_cons (Is.stays _) (stays_cons (Is.stays _) stays_nil)))))))) (JB.out.next (below_drewN _ _ 1)) (by kernel_rfl) ?_ ?_
          · skip
            refine owes_cons (Owes.mk (o := ({ dst := some 68, op := .load 24 (.tmp 2), type := 24, pos := "more.go:22", after := #[], guard := none } : Oper)) rfl (fun v wk hj hD K hK => ?_)) ?_
            · simp only [n10D, n10E, putAll, Act.put, List.getD_cons_zero, List.setIfInBounds_toArray, List.set_cons_zero, List.set_cons_succ] at hK ⊢
              obtain ⟨q0, q1, q2, q3, q4, _⟩ := hj.box g2 x (by simp)
              go_simp
              exact hK.out _ _ (Below.refl _ _) rfl
            refine owes_cons (Owes.mk (o := ({ dst := some 69, op := .call { callee := .value (.func 23), args := #[.tmp 68], argTypes := #[24] }, type := 3, pos := "more.go:22", after := #[{ on := 0, ground := .data }], guard := none } : Oper)) rfl (fun v wk hj hD K hK => ?_)) ?_
            · have h0 : v 0 = x.v := hD 0 (by decide)
              simp only [n10D, n10E, putAll, Act.put, List.getD_cons_succ, List.getD_cons_zero, List.setIfInBounds_toArray, List.set_cons_zero, List.set_cons_succ, h0] at hK ⊢
              go_simp
              refine (depth_at _ _ x (hj.in_ g2 x (by simp))).mono ?_
              rintro e w2 ⟨rfl, hb⟩
              exact hK.out _ _ hb rfl
            refine owes_cons (Owes.mk (o := ({ dst := some 70, op := .load 24 (.tmp 3), type := 24, pos := "more.go:22", after := #[], guard := none } : Oper)) rfl (fun v wk hj hD K hK => ?_)) ?_
            · simp only [n10D, n10E, putAll, Act.put, List.getD_cons_succ, List.getD_cons_zero, List.setIfInBounds_toArray, List.set_cons_zero, List.set_cons_succ] at hK ⊢
              obtain ⟨q0, q1, q2, q3, q4, _⟩ := hj.box g3 y (by simp)
              go_simp
              exact hK.out _ _ (Below.refl _ _) rfl
            refine owes_cons (Owes.mk (o := ({ dst := some 71, op := .call { callee := .value (.func 23), args := #[.tmp 70], argTypes := #[24] }, type := 3, pos := "more.go:22", after := #[{ on := 2, ground := .data }, { on := 1, ground := .chain }], guard := none } : Oper)) rfl (fun v wk hj hD K hK => ?_)) ?_
            · have h2 : v 2 = y.v := hD 2 (by decide)
              simp only [n10D, n10E, putAll, Act.put, List.getD_cons_succ, List.getD_cons_zero, List.setIfInBounds_toArray, List.set_cons_zero, List.set_cons_succ, h2] at hK ⊢
              go_simp
              refine (depth_at _ _ y (hj.in_ g3 y (by simp))).mono ?_
              rintro e w2 ⟨rfl, hb⟩
              exact hK.out _ _ hb rfl
            refine owes_cons (Owes.mk (o := ({ dst := some 72, op := .call { callee := .builtin .max, args := #[.tmp 69, .tmp 71], argTypes := #[3, 3] }, type := 3, pos := "more.go:22", after := #[{ on := 1, ground := .data }, { on := 3, ground := .data }], guard := none } : Oper)) rfl (fun v wk hj hD K hK => ?_)) ?_
            · have h1 : v 1 = (.int .i64 (depV 12 x.t)) := hD 1 (by decide)
              have h3 : v 3 = (.int .i64 (depV 12 y.t)) := hD 3 (by decide)
              simp only [n10D, n10E, putAll, Act.put, List.getD_cons_succ, List.getD_cons_zero, List.setIfInBounds_toArray, List.set_cons_zero, List.set_cons_succ, h1, h3] at hK ⊢
              go_simp
              exact hK.out _ _ (Below.refl _ _) rfl
            refine owes_cons (Owes.mk (o := ({ dst := some 73, op := .binOp .geq 3 (.tmp 72) (.const (.int .i64 12)) 3, type := 4, pos := "more.go:22", after := #[{ on := 4, ground := .data }], guard := none } : Oper)) rfl (fun v wk hj hD K hK => ?_)) ?_
            · have h4 : v 4 = (.int .i64 (max (depV 12 x.t : Int) (depV 12 y.t : Int))) := hD 4 (by decide)
              simp only [n10D, n10E, putAll, Act.put, List.getD_cons_succ, List.getD_cons_zero, List.setIfInBounds_toArray, List.set_cons_zero, List.set_cons_succ, h4] at hK ⊢
              have hg : decide ((12 : Int) ≤ max (depV 12 x.t : Int) (depV 12 y.t : Int)) = false := decide_eq_false (by omega)
              go_simp
              exact hK.out _ _ (Below.refl _ _) rfl
            refine owes_cons (Owes.mk (o := ({ dst := some 15, op := .assign (.tmp 73), type := 4, pos := "more.go:22", after := #[{ on := 5, ground := .data }, { on := 3, ground := .chain }, { on := 0, ground := .phase }, { on := 1, ground := .phase }, { on := 2, ground := .phase }, { on := 3, ground := .phase }, { on := 4, ground := .phase }, { on := 5, ground := .phase }], guard := none } : Oper)) rfl (fun v wk hj hD K hK => ?_)) ?_
            · have h5 : v 5 = (.bool false) := hD 5 (by decide)
              simp only [n10D, n10E, putAll, Act.put, List.getD_cons_succ, List.getD_cons_zero, List.setIfInBounds_toArray, List.set_cons_zero, List.set_cons_succ, h5] at hK ⊢
              go_simp
              exact hK.out _ _ (Below.refl _ _) rfl
            exact owes_nil
          · intro v wf hj hr
            have hl : v 6 = (.bool false) := hr 6 (by decide)
            simp only [n10D, putAll, Act.put, List.getD_cons_succ, List.getD_cons_zero, List.setIfInBounds_toArray, List.set_cons_zero, List.set_cons_succ, hl]
            clear hl hr
            have BF := Lib.hid hj.bel
            clear hj
            have e1 : VS = (⟨#[91]⟩ : ByteArray) ++ S ++ (⟨#[44, 32]⟩ : ByteArray) ++ Z ++ (⟨#[93]⟩ : ByteArray) := HV.out
            have e2 : PT = (⟨#[112, 97, 116, 104, 91]⟩ : ByteArray) ++ S ++ (⟨#[93]⟩ : ByteArray) := HPT.out
            have e3 : U = S ++ (⟨#[10]⟩ : ByteArray) ++ Z ++ (⟨#[10]⟩ : ByteArray) := HU.out
            clear HV HPT HU
            subst e1 e2 e3
            go_wp2_with fail
            refine (known_any wf).mono ?_
            rintro e wk ⟨rfl, hb⟩
            have HK := Lib.hid (bnext BF.out hb)
            clear hb
            go_wp2
            go_ret
            exact ⟨rfl, HK.out⟩
        · have PRW := Lib.hid (print_bad w5 14 r R5.out (by rw [HRT.out, row_two_ok x.t y.t OX.out OY.out]; exact decide_eq_false hd))
          go_wp2_with fail
          refine PRW.out.mono ?_
          rintro e w6 ⟨rfl, hb⟩
          have B6 := Lib.hid (bnext B5.out hb)
          have X6 := Lib.hid (X5.out.next hb)
          have Y6 := Lib.hid (Y5.out.next hb)
          have BX6 := Lib.hid (BX5.out.next hb)
          have BY6 := Lib.hid (BY5.out.next hb)
          clear hb PRW X5 Y5 B5 BX5 BY5
          have z6 := below_new w6 (.cells #[.int .i64 x.t.k, .int .i64 x.t.n, .string x.t.s, .slice x.A x.t.l.length x.c, .slice x.A' x.t.m.length x.c'] 24)
          have PP := Lib.hid (print_some _ _ _ x.t S (path_in w6 d x X6.out) rfl OX.out HLS.out hsS)
          have C6 := Lib.hid (bnext B6.out z6)
          have X7 := Lib.hid (X6.out.next z6)
          have Y7 := Lib.hid (Y6.out.next z6)
          have BX7 := Lib.hid (BX6.out.next z6)
          have BY7 := Lib.hid (BY6.out.next z6)
          clear z6
          obtain ⟨q0, q1, q2, q3, q4, _⟩ := BX6.out
          go_wp2_with fail
          refine PP.out.mono ?_
          rintro e w8 ⟨PT, PN, rfl, hb⟩
          have B8 := Lib.hid (bnext C6.out hb)
          have X8 := Lib.hid (X7.out.next hb)
          have Y8 := Lib.hid (Y7.out.next hb)
          have BX8 := Lib.hid (BX7.out.next hb)
          have BY8 := Lib.hid (BY7.out.next hb)
          clear hb PP q0 q1 q2 q3 q4 X6 Y6 B6 BX6 BY6 X7 Y7 C6 BX7 BY7
          have JB : Hid (Bxs w w8 d [(g3, y), (g2, x)]) := Lib.hid ⟨fun p hp => by
            rcases List.mem_cons.1 hp with rfl | hp
            · exact ⟨BY8.out, Y8.out⟩
            · have : p = (g2, x) := by simpa using hp
              subst this
              exact ⟨BX8.out, X8.out⟩, B8.out⟩
          clear BX8 BY8 X8 Y8 B8
          go_wp2_with fail
          refine region_phase_all [0, 1, 2, 3, 4, 5, 6] n10D n10E (fun w' => Bxs w w' d [(g3, y), (g2, x)]) (saidOf [Is x.v, Is (.int .i64 (depV 12 x.t)), Is y.v, Is (.int .i64 (depV 12 y.t)), Is (.int .i64 (max (depV 12 x.t : Int) (depV 12 y.t : Int))), Is (.bool true), Is (.bool true)]) 119 rfl (by kernel_rfl) (by kernel_rfl) (by kernel_rfl) (fun _ _ h hb => h.next hb) (stays_said _ (stays_cons (Is.stays _) (stays_cons (Is.stays _) (stays_cons (Is.stays _) (stays_cons (Is.stays _) (stays_cons (Is.stays _) (stays_cons (Is.stays _) (stays_cons (Is.stays _) stays_nil)))))))) (JB.out.next (below_drewN _ _ 1)) (by kernel_rfl) ?_ ?_
          · skip
            refine owes_cons (Owes.mk (o := ({ dst := some 68, op := .load 24 (.tmp 2), type := 24, pos := "more.go:22", after := #[], guard := none } : Oper)) rfl (fun v wk hj hD K hK => ?_)) ?_
            · simp only [n10D, n10E, putAll, Act.put, List.getD_cons_zero, List.setIfInBounds_toArray, List.set_cons_zero, List.set_cons_succ] at hK ⊢
              obtain ⟨q0, q1, q2, q3, q4, _⟩ := hj.box g2 x (by simp)
              go_simp
              exact hK.out _ _ (Below.refl _ _) rfl
            refine owes_cons (Owes.mk (o := ({ dst := some 69, op := .call { callee := .value (.func 23), args := #[.tmp 68], argTypes := #[24] }, type := 3, pos := "more.go:22", after := #[{ on := 0, ground := .data }], guard := none } : Oper)) rfl (fun v wk hj hD K hK => ?_)) ?_
            · have h0 : v 0 = x.v := hD 0 (by decide)
              simp only [n10D, n10E, putAll, Act.put, List.getD_cons_succ, List.getD_cons_zero, List.setIfInBounds_toArray, List.set_cons_zero, List.set_cons_succ, h0] at hK ⊢
              go_simp
              refine (depth_at _ _ x (hj.in_ g2 x (by simp))).mono ?_
              rintro e w2 ⟨rfl, hb⟩
              exact hK.out _ _ hb rfl
            refine owes_cons (Owes.mk (o := ({ dst := some 70, op := .load 24 (.tmp 3), type := 24, pos := "more.go:22", after := #[], guard := none } : Oper)) rfl (fun v wk hj hD K hK => ?_)) ?_
            · simp only [n10D, n10E, putAll, Act.put, List.getD_cons_succ, List.getD_cons_zero, List.setIfInBounds_toArray, List.set_cons_zero, List.set_cons_succ] at hK ⊢
              obtain ⟨q0, q1, q2, q3, q4, _⟩ := hj.box g3 y (by simp)
              go_simp
              exact hK.out _ _ (Below.refl _ _) rfl
            refine owes_cons (Owes.mk (o := ({ dst := some 71, op := .call { callee := .value (.func 23), args := #[.tmp 70], argTypes := #[24] }, type := 3, pos := "more.go:22", after := #[{ on := 2, ground := .data }, { on := 1, ground := .chain }], guard := none } : Oper)) rfl (fun v wk hj hD K hK => ?_)) ?_
            · have h2 : v 2 = y.v := hD 2 (by decide)
              simp only [n10D, n10E, putAll, Act.put, List.getD_cons_succ, List.getD_cons_zero, List.setIfInBounds_toArray, List.set_cons_zero, List.set_cons_succ, h2] at hK ⊢
              go_simp
              refine (depth_at _ _ y (hj.in_ g3 y (by simp))).mono ?_
              rintro e w2 ⟨rfl, hb⟩
              exact hK.out _ _ hb rfl
            refine owes_cons (Owes.mk (o := ({ dst := some 72, op := .call { callee := .builtin .max, args := #[.tmp 69, .tmp 71], argTypes := #[3, 3] }, type := 3, pos := "more.go:22", after := #[{ on := 1, ground := .data }, { on := 3, ground := .data }], guard := none } : Oper)) rfl (fun v wk hj hD K hK => ?_)) ?_
            · have h1 : v 1 = (.int .i64 (depV 12 x.t)) := hD 1 (by decide)
              have h3 : v 3 = (.int .i64 (depV 12 y.t)) := hD 3 (by decide)
              simp only [n10D, n10E, putAll, Act.put, List.getD_cons_succ, List.getD_cons_zero, List.setIfInBounds_toArray, List.set_cons_zero, List.set_cons_succ, h1, h3] at hK ⊢
              go_simp
              exact hK.out _ _ (Below.refl _ _) rfl
            refine owes_cons (Owes.mk (o := ({ dst := some 73, op := .binOp .geq 3 (.tmp 72) (.const (.int .i64 12)) 3, type := 4, pos := "more.go:22", after := #[{ on := 4, ground := .data }], guard := none } : Oper)) rfl (fun v wk hj hD K hK => ?_)) ?_
            · have h4 : v 4 = (.int .i64 (max (depV 12 x.t : Int) (depV 12 y.t : Int))) := hD 4 (by decide)
              simp only [n10D, n10E, putAll, Act.put, List.getD_cons_succ, List.getD_cons_zero, List.setIfInBounds_toArray, List.set_cons_zero, List.set_cons_succ, h4] at hK ⊢
              have hg : decide ((12 : Int) ≤ max (depV 12 x.t : Int) (depV 12 y.t : Int)) = true := decide_eq_true (by omega)
              go_simp
              exact hK.out _ _ (Below.refl _ _) rfl
            refine owes_cons (Owes.mk (o := ({ dst := some 15, op := .assign (.tmp 73), type := 4, pos := "more.go:22", after := #[{ on := 5, ground := .data }, { on := 3, ground := .chain }, { on := 0, ground := .phase }, { on := 1, ground := .phase }, { on := 2, ground := .phase }, { on := 3, ground := .phase }, { on := 4, ground := .phase }, { on := 5, ground := .phase }], guard := none } : Oper)) rfl (fun v wk hj hD K hK => ?_)) ?_
            · have h5 : v 5 = (.bool true) := hD 5 (by decide)
              simp only [n10D, n10E, putAll, Act.put, List.getD_cons_succ, List.getD_cons_zero, List.setIfInBounds_toArray, List.set_cons_zero, List.set_cons_succ, h5] at hK ⊢
              go_simp
              exact hK.out _ _ (Below.refl _ _) rfl
            exact owes_nil
          · intro v wf hj hr
            have hl : v 6 = (.bool true) := hr 6 (by decide)
            simp only [n10D, putAll, Act.put, List.getD_cons_succ, List.getD_cons_zero, List.setIfInBounds_toArray, List.set_cons_zero, List.set_cons_succ, hl]
            clear hl hr
            have BF := Lib.hid hj.bel
            clear hj
            go_wp2_with fail
            refine (known_any wf).mono ?_
            rintro e wk ⟨rfl, hb⟩
            have HK := Lib.hid (bnext BF.out hb)
            clear hb
            go_wp2
            go_ret
            exact ⟨rfl, HK.out⟩
end Go.Proofs.Ytmgjiipooffggaa
