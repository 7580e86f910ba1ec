/- Rows of predicates that are laid; the chapter's examples: known answers true. -/
import Derived.Test.YtiiccefnfepccaaPH
import Derived.Test.YtiiccefnfepccaaPI
import Derived.Test.YtiiccefnfepccaaVRc
import Derived.Test.YtiiccefnfepccaaVPh
namespace Go.Proofs.Ytiiccefnfepccaa
set_option maxRecDepth 100000
open Go.RowKit Go.Sort

def flatP (l : List Pt) : List Value := l.flatMap Pt.cs
theorem flatP_len : ∀ l : List Pt, (flatP l).length = l.length * 3
  | [] => rfl
  | p :: r => by
    have := flatP_len r
    unfold flatP at *
    rw [List.flatMap_cons, List.length_append, this, List.length_cons]; simp [Pt.cs]; omega
theorem flatP_app (a b : List Pt) : flatP (a ++ b) = flatP a ++ flatP b := List.flatMap_append
theorem flatP_at : ∀ (l : List Pt) (j : Nat) (x : Pt), l[j]? = some x → ∀ c, c < 3 → (flatP l)[j * 3 + c]? = x.cs[c]?
  | [], _, _, h => by simp at h
  | t :: l, 0, u, h => fun c hc => by
    simp at h
    subst h
    unfold flatP
    rw [List.flatMap_cons, List.getElem?_append_left (by simp [Pt.cs]; omega)]
    simp
  | t :: l, j + 1, u, h => fun c hc => by
    have ih := flatP_at l j u (by simpa using h) c hc
    unfold flatP at *
    rw [List.flatMap_cons, List.getElem?_append_right (by simp [Pt.cs]; omega), ← ih]
    congr 1
    simp [Pt.cs]; omega
theorem rowP_lay (w : World) (d : Nat) (l : List Pt) (hF : ∀ x ∈ l, x.In w d) (hl : l.length ≤ 1000) : Pw (w.alloc (.cells (flatP l).toArray 25)) 0 (w.alloc (.cells (flatP l).toArray 25)).heap.size d (some ⟨w.heap.size, 0, none⟩) l.length (l.map (·.t)) := by
  refine ⟨by simp, by unfold maxLen; omega, by simp; omega, (fun e => by cases e), fun h0 => ⟨w.heap.size, 0, rfl, Nat.zero_le _, by simp, fun j t hj => ?_⟩⟩
  rw [List.getElem?_map] at hj
  obtain ⟨x, hx, rfl⟩ := Option.map_eq_some_iff.1 hj
  refine ⟨x.A, x.c, x.A', x.c', ?_, (hF x (List.mem_of_getElem? hx)).next (below_new _ _)⟩
  have hc := flatP_at l j x hx
  have hw : ∀ o, (w.alloc (.cells (flatP l).toArray 25)).cell? ⟨w.heap.size, o, none⟩ = (flatP l)[o]? := fun o => by rw [World.cell?_alloc_at _ _ _ _ rfl]; simp
  constructor
  all_goals rw [hw]
  · rw [show 0 + j * 3 = j * 3 + 0 by omega, hc 0 (by omega)]; rfl
  · rw [show 0 + j * 3 + 1 = j * 3 + 1 by omega, hc 1 (by omega)]; rfl
  · rw [show 0 + j * 3 + 2 = j * 3 + 2 by omega, hc 2 (by omega)]; rfl

/-- A predicate, with that tree; a row of predicates, with these. -/
def IsPt (d : Nat) (t : P) : Value → World → Prop := fun v w => ∃ q : Pt, v = q.val ∧ q.t = t ∧ q.In w d
theorem IsPt.stays (d : Nat) (t : P) : Stays (IsPt d t) := fun _ _ _ ⟨q, e, h, hi⟩ hb => ⟨q, e, h, hi.next hb⟩
def IsPw (d n : Nat) (l : List P) : Value → World → Prop := fun v w => ∃ A c, v = .slice A n c ∧ l.length = n ∧ Pw w 0 w.heap.size d A c l
theorem IsPw.stays (d n : Nat) (l : List P) : Stays (IsPw d n l) := fun _ _ _ ⟨A, c, e, h, hi⟩ hb => ⟨A, c, e, h, hi.next hb⟩

theorem e_list : (⟨#[]⟩ : ByteArray).toList = [] := List.eq_nil_of_length_eq_zero (by rw [toList_size]; rfl)
theorem ok_num (r : Nat) (n : Int) : okV (r + 1) (numT n) = true := by simp [okV, numT, fitsV, noItems, V.k, V.s, V.l, V.m]
theorem ok_one (r : Nat) (k n : Int) (h : 1 ≤ k ∧ k ≤ 6) : okP (r + 1) (.mk k [numT n] []) = true := by
  show (fitsN k 1 0 && (okV 12 (numT n) && true) && true) = true
  rw [ok_num]
  unfold fitsN
  rw [if_pos h]; rfl
def eq1 : P := .mk 1 [numT 1] []
def gtT (n : Int) : P := .mk 5 [numT n] []
def andT : P := .mk 13 [] [eq1, gtT 2]
def notT (n : Int) : P := .mk 12 [] [gtT n]
def wantT : P := .mk 14 [] [.mk 2 [numT 1] [], notT 2]
theorem ok_gt (r : Nat) (n : Int) : okP (r + 1) (gtT n) = true := ok_one r 5 n (by omega)
theorem ok_and : okP 12 andT = true := by
  show (fitsN 13 0 2 && true && (okP 11 eq1 && (okP 11 (gtT 2) && true))) = true
  rw [show okP 11 eq1 = true from ok_one 10 1 1 (by omega), ok_gt 10]; rfl
theorem ok_not : okP 12 (notT 3) = true := by
  show (fitsN 12 0 1 && true && (okP 11 (gtT 3) && true)) = true
  rw [ok_gt 10]; rfl
theorem join_known : joinP 13 [eq1, gtT 2] = andT := by
  unfold joinP
  rw [if_pos (show okP 12 (.mk 13 [] [eq1, gtT 2]) = true from ok_and)]; rfl
theorem neg_known : ngP andT = wantT := by
  unfold ngP
  rw [if_pos ok_and]; rfl
def wordX : V := .mk 3 0 ⟨#[120]⟩ [] []
def wordA : At := ⟨wordX, none, 0, none, 0⟩
theorem word_in (w : World) : wordA.In w 1 :=
  ⟨⟨by show (-9223372036854775808 : Int) ≤ 3; omega, by show (3 : Int) ≤ 9223372036854775807; omega, by show (-9223372036854775808 : Int) ≤ 0; omega, by show (0 : Int) ≤ 9223372036854775807; omega, by show (1 : Nat) ≤ _; omega⟩, rw_nil _ _ _ _, rw_nil _ _ _ _⟩
theorem t_gt4 : testV (gtT 3) (numT 4) = true := by unfold testV; rw [ok_gt 11]; rfl
theorem t_gtx : testV (gtT 3) wordX = false := by unfold testV; rw [ok_gt 11]; rfl
theorem t_notx : testV (notT 3) wordX = true := by unfold testV; rw [ok_not]; rfl
theorem ok_zero : okP 12 zeroP = false := rfl

/-- What lies in memory behind the examples. -/
structure KJ (w0 : World) (g1 : Nat) (G : Pt) (g2 g3 : Nat) (A : Pt) (g4 : Nat) (X : Pt) (w : World) : Prop where
  b1 : BP w g1 G
  i1 : G.In w 1
  b2 : Bx w g2 wordA
  b3 : BP w g3 A
  i3 : A.In w 13
  b4 : BP w g4 X
  i4 : X.In w 3
  bel : Below w0.heap.size w0 w
theorem KJ.next {w0 : World} {g1 : Nat} {G : Pt} {g2 g3 : Nat} {A : Pt} {g4 : Nat} {X : Pt} {a b : World} (h : KJ w0 g1 G g2 g3 A g4 X a) (hb : Below a.heap.size a b) : KJ w0 g1 G g2 g3 A g4 X b :=
  ⟨h.b1.next hb, h.i1.next hb, h.b2.next hb, h.b3.next hb, h.i3.next hb, h.b4.next hb, h.i4.next hb, bnext h.bel hb⟩

def knD : Nat → Tmp := fun j => [22, 23, 24, 25, 26, 27, 28, 29, 30, 31, 32, 33, 34, 35, 36, 37, 38, 39, 40, 41, 42, 43, 44, 45, 46, 47, 48, 49, 50, 51, 52, 53, 0].getD j 0
def knE : Nat → List Nat := fun j => [[], [], [0, 1], [2], [3], [3], [3, 4, 5], [3, 6], [3, 7], [8], [9], [9, 10], [9, 11], [9], [9, 12, 13], [9, 14], [15], [16], [16, 17], [16], [16, 18, 19], [16, 20], [21], [22], [22, 23], [22, 24], [22, 25], [26], [27], [27, 28], [27, 29], [27, 30], [31]].getD j []
theorem k_test (w : World) (d e : Nat) (x : Pt) (y : At) (hx : x.In w d) (hy : y.In w e) (b : Bool) (h : testV x.t y.t = b) :
    Calls Try.prog 14 #[x.val, y.v] w fun a w' => a = .returned (.bool b) ∧ Below w.heap.size w w' := by
  subst h; exact test_any w d e x y hx hy
theorem k_check (w : World) (d : Nat) (x : Pt) (hx : x.In w d) (n : Int) (h : errI (okP 12 x.t) = n) : Calls Try.prog 12 #[x.val] w fun a w' => a = .returned (.int .i64 n) ∧ Below w.heap.size w w' := by
  subst h; exact pcheck_any w d x hx
theorem k_neg (w : World) (d : Nat) (x : Pt) (hx : x.In w d) (h : x.t = andT) : Calls Try.prog 16 #[x.val] w fun e w' => ∃ q : Pt, e = .returned q.val ∧ q.t = wantT ∧ q.In w' 26 ∧ Below w.heap.size w w' := by
  refine (negate_any w d x hx).mono ?_
  intro e w' hn
  obtain ⟨q, h1, h2, h3, h4⟩ := hn.one
  exact ⟨q, h1, by rw [h2, h, neg_known], h3, h4⟩
theorem zeroP_in (w : World) : Pt.In ⟨zeroP, none, 0, none, 0⟩ w 1 := ⟨⟨by show (-9223372036854775808 : Int) ≤ 0; omega, by show (0 : Int) ≤ 9223372036854775807; omega⟩, ⟨0, rw_nil _ _ _ _⟩, pw_nil _ _ _ _⟩
theorem knd_lit (k : Int) (h : -9223372036854775808 ≤ k ∧ k ≤ 9223372036854775807) (v : List V) (p : List P) : Knd (.mk k v p) := ⟨h.1, h.2⟩
theorem k_not {w : World} {A : Option Addr} {c : Nat} (h : Pw w 0 w.heap.size 1 A c [gtT 3]) : IsPt 2 (notT 3) (.agg #[.int .i64 12, .slice none 0 0, .slice A 1 c]) w :=
  ⟨⟨notT 3, none, 0, A, c⟩, rfl, rfl, ⟨knd_lit 12 (by omega) _ _, ⟨0, rw_nil _ _ _ _⟩, h⟩⟩
theorem want_lay (w : World) (E F : Pt) (hE : E.t = .mk 2 [numT 1] []) (hF : F.t = gtT 2) (iE : E.In w 1) (iF : F.In w 1) :
    ∃ X : Pt, X.t = wantT ∧ X.In (((w.alloc (.cells #[.int .i64 F.t.k, .slice F.A F.t.v.length F.c, .slice F.A' F.t.p.length F.c'] 25)).alloc (.cells #[.int .i64 E.t.k, .slice E.A E.t.v.length E.c, .slice E.A' E.t.p.length E.c', .int .i64 12, .slice none 0 0, .slice (some ⟨w.heap.size, 0, none⟩) 1 1] 25)).alloc (.cells #[.int .i64 14, .slice none 0 0, .slice (some ⟨w.heap.size + 1, 0, none⟩) 2 2] 25)) 3 ∧
      BP (((w.alloc (.cells #[.int .i64 F.t.k, .slice F.A F.t.v.length F.c, .slice F.A' F.t.p.length F.c'] 25)).alloc (.cells #[.int .i64 E.t.k, .slice E.A E.t.v.length E.c, .slice E.A' E.t.p.length E.c', .int .i64 12, .slice none 0 0, .slice (some ⟨w.heap.size, 0, none⟩) 1 1] 25)).alloc (.cells #[.int .i64 14, .slice none 0 0, .slice (some ⟨w.heap.size + 1, 0, none⟩) 2 2] 25)) (w.heap.size + 1 + 1) X ∧
      Below w.heap.size w (((w.alloc (.cells #[.int .i64 F.t.k, .slice F.A F.t.v.length F.c, .slice F.A' F.t.p.length F.c'] 25)).alloc (.cells #[.int .i64 E.t.k, .slice E.A E.t.v.length E.c, .slice E.A' E.t.p.length E.c', .int .i64 12, .slice none 0 0, .slice (some ⟨w.heap.size, 0, none⟩) 1 1] 25)).alloc (.cells #[.int .i64 14, .slice none 0 0, .slice (some ⟨w.heap.size + 1, 0, none⟩) 2 2] 25)) := by
  have r1 : Pw (w.alloc (.cells #[.int .i64 F.t.k, .slice F.A F.t.v.length F.c, .slice F.A' F.t.p.length F.c'] 25)) 0 (w.alloc (.cells #[.int .i64 F.t.k, .slice F.A F.t.v.length F.c, .slice F.A' F.t.p.length F.c'] 25)).heap.size 1 (some ⟨w.heap.size, 0, none⟩) 1 [F.t] := rowP_lay w 1 [F] (by intro x hx; rw [List.mem_singleton.1 hx]; exact iF) (by simp)
  have z1 := below_new w (.cells #[.int .i64 F.t.k, .slice F.A F.t.v.length F.c, .slice F.A' F.t.p.length F.c'] 25)
  have s1 := size_alloc w (.cells #[.int .i64 F.t.k, .slice F.A F.t.v.length F.c, .slice F.A' F.t.p.length F.c'] 25)
  generalize World.alloc w (.cells #[.int .i64 F.t.k, .slice F.A F.t.v.length F.c, .slice F.A' F.t.p.length F.c'] 25) = w1 at *
  rw [hF] at r1
  have iN : Pt.In ⟨notT 2, none, 0, some ⟨w.heap.size, 0, none⟩, 1⟩ w1 2 := ⟨knd_lit 12 (by omega) _ _, ⟨0, rw_nil _ _ _ _⟩, r1⟩
  have iE1 := iE.next z1
  have r2 : Pw (w1.alloc (.cells #[.int .i64 E.t.k, .slice E.A E.t.v.length E.c, .slice E.A' E.t.p.length E.c', .int .i64 12, .slice none 0 0, .slice (some ⟨w.heap.size, 0, none⟩) 1 1] 25)) 0 (w1.alloc (.cells #[.int .i64 E.t.k, .slice E.A E.t.v.length E.c, .slice E.A' E.t.p.length E.c', .int .i64 12, .slice none 0 0, .slice (some ⟨w.heap.size, 0, none⟩) 1 1] 25)).heap.size 2 (some ⟨w1.heap.size, 0, none⟩) 2 [E.t, notT 2] :=
    rowP_lay w1 2 [E, ⟨notT 2, none, 0, some ⟨w.heap.size, 0, none⟩, 1⟩] (by intro x hx; rcases (by simpa using hx : x = E ∨ x = ⟨notT 2, none, 0, some ⟨w.heap.size, 0, none⟩, 1⟩) with rfl | rfl; exact iE1.up (by omega); exact iN) (by simp)
  have z2 := below_new w1 (.cells #[.int .i64 E.t.k, .slice E.A E.t.v.length E.c, .slice E.A' E.t.p.length E.c', .int .i64 12, .slice none 0 0, .slice (some ⟨w.heap.size, 0, none⟩) 1 1] 25)
  have s2 := size_alloc w1 (.cells #[.int .i64 E.t.k, .slice E.A E.t.v.length E.c, .slice E.A' E.t.p.length E.c', .int .i64 12, .slice none 0 0, .slice (some ⟨w.heap.size, 0, none⟩) 1 1] 25)
  generalize World.alloc w1 _ = w2 at *
  rw [hE, s1] at r2
  have iX : Pt.In ⟨wantT, none, 0, some ⟨w.heap.size + 1, 0, none⟩, 2⟩ w2 3 := ⟨knd_lit 14 (by omega) _ _, ⟨0, rw_nil _ _ _ _⟩, r2⟩
  have z3 := below_new w2 (.cells #[.int .i64 14, .slice none 0 0, .slice (some ⟨w.heap.size + 1, 0, none⟩) 2 2] 25)
  have b3 := BP.new w2 ⟨wantT, none, 0, some ⟨w.heap.size + 1, 0, none⟩, 2⟩
  rw [s2, s1] at b3
  exact ⟨⟨wantT, none, 0, some ⟨w.heap.size + 1, 0, none⟩, 2⟩, rfl, iX.next z3, b3, bnext (bnext z1 z2) z3⟩
set_option maxHeartbeats 8000000 in
theorem known_any (w : World) : Calls Try.prog 11 #[] w fun e w' => e = .returned (.bool true) ∧ Below w.heap.size w w' := by
  go_enter Try.func11, Try.ntmps11
  have B := Lib.hid (Below.refl w.heap.size w)
  go_wp2_with fail
  refine (number_any w 3).mono ?_
  rintro e w1 ⟨rfl, hb⟩
  replace B := Lib.hid (bnext B.out hb)
  clear hb
  go_wp2_with fail
  refine (one_any w1 1 5 (by omega) (numA 3) (num_in _ 3 (by omega))).mono ?_
  rintro e w2 ⟨G, rfl, hG, iG, hb⟩
  replace B := Lib.hid (bnext B.out hb)
  clear hb
  have HG := Lib.hid (show G.t = gtT 3 from hG)
  have IG := Lib.hid iG
  clear hG iG
  go_upto_region 2 with fail
  have hb := below_new w2 (.cells #[.int .i64 G.t.k, .slice G.A G.t.v.length G.c, .slice G.A' G.t.p.length G.c'] 25)
  have bG := BP.new w2 G
  generalize hW : World.alloc w2 _ = w3 at hb bG ⊢
  clear hW
  replace IG := Lib.hid (IG.out.next hb)
  replace B := Lib.hid (bnext B.out hb)
  clear hb
  have BG := Lib.hid bG
  clear bG
  generalize w2.heap.size = gG at *
  go_upto_region 3 with fail
  have hb := below_new w3 (.cells #[.int .i64 3, .int .i64 0, .string ⟨#[120]⟩, .slice none 0 0, .slice none 0 0] 27)
  have bX := (show Bx (w3.alloc (.cells #[.int .i64 3, .int .i64 0, .string ⟨#[120]⟩, .slice none 0 0, .slice none 0 0] 27)) w3.heap.size wordA from Bx.new w3 wordA)
  generalize hW : World.alloc w3 _ = w4 at hb bX ⊢
  clear hW
  replace IG := Lib.hid (IG.out.next hb)
  replace BG := Lib.hid (BG.out.next hb)
  replace B := Lib.hid (bnext B.out hb)
  clear hb
  have BX := Lib.hid bX
  clear bX
  generalize w3.heap.size = gX at *
  go_wp2_with fail
  refine (number_any w4 1).mono ?_
  rintro e w5 ⟨rfl, hb⟩
  replace IG := Lib.hid (IG.out.next hb)
  replace BG := Lib.hid (BG.out.next hb)
  replace BX := Lib.hid (BX.out.next hb)
  replace B := Lib.hid (bnext B.out hb)
  clear hb
  go_wp2_with fail
  refine (one_any w5 1 1 (by omega) (numA 1) (num_in _ 1 (by omega))).mono ?_
  rintro e w6 ⟨E, rfl, hE, iE, hb⟩
  replace IG := Lib.hid (IG.out.next hb)
  replace BG := Lib.hid (BG.out.next hb)
  replace BX := Lib.hid (BX.out.next hb)
  replace B := Lib.hid (bnext B.out hb)
  clear hb
  have HE := Lib.hid (show E.t = eq1 from hE)
  have IE := Lib.hid iE
  clear hE iE
  go_wp2_with fail
  refine (number_any w6 2).mono ?_
  rintro e w7 ⟨rfl, hb⟩
  replace IG := Lib.hid (IG.out.next hb)
  replace BG := Lib.hid (BG.out.next hb)
  replace BX := Lib.hid (BX.out.next hb)
  replace IE := Lib.hid (IE.out.next hb)
  replace B := Lib.hid (bnext B.out hb)
  clear hb
  go_wp2_with fail
  refine (one_any w7 1 5 (by omega) (numA 2) (num_in _ 2 (by omega))).mono ?_
  rintro e w8 ⟨F, rfl, hF, iF, hb⟩
  replace IG := Lib.hid (IG.out.next hb)
  replace BG := Lib.hid (BG.out.next hb)
  replace BX := Lib.hid (BX.out.next hb)
  replace IE := Lib.hid (IE.out.next hb)
  replace B := Lib.hid (bnext B.out hb)
  clear hb
  have HF := Lib.hid (show F.t = gtT 2 from hF)
  have IF := Lib.hid iF
  clear hF iF
  go_wp2_with fail
  have rl : Pw (w8.alloc (.cells #[.int .i64 E.t.k, .slice E.A E.t.v.length E.c, .slice E.A' E.t.p.length E.c', .int .i64 F.t.k, .slice F.A F.t.v.length F.c, .slice F.A' F.t.p.length F.c'] 25)) 0 (w8.alloc (.cells #[.int .i64 E.t.k, .slice E.A E.t.v.length E.c, .slice E.A' E.t.p.length E.c', .int .i64 F.t.k, .slice F.A F.t.v.length F.c, .slice F.A' F.t.p.length F.c'] 25)).heap.size 1 (some ⟨w8.heap.size, 0, none⟩) 2 [E.t, F.t] := rowP_lay w8 1 [E, F] (by intro x hx; rcases (by simpa using hx : x = E ∨ x = F) with rfl | rfl; exact IE.out; exact IF.out) (by simp)
  have hb := below_new w8 (.cells #[.int .i64 E.t.k, .slice E.A E.t.v.length E.c, .slice E.A' E.t.p.length E.c', .int .i64 F.t.k, .slice F.A F.t.v.length F.c, .slice F.A' F.t.p.length F.c'] 25)
  generalize hW : World.alloc w8 _ = w9 at rl hb ⊢
  clear hW
  have RL := Lib.hid (show Pw w9 0 w9.heap.size 1 (some ⟨w8.heap.size, 0, none⟩) 2 [eq1, gtT 2] by rw [← HE.out, ← HF.out]; exact rl)
  clear rl
  replace IG := Lib.hid (IG.out.next hb)
  replace BG := Lib.hid (BG.out.next hb)
  replace BX := Lib.hid (BX.out.next hb)
  replace IE := Lib.hid (IE.out.next hb)
  replace IF := Lib.hid (IF.out.next hb)
  replace B := Lib.hid (bnext B.out hb)
  clear hb
  generalize w8.heap.size = gr at *
  refine (join_any w9 1 13 (by omega) (some ⟨gr, 0, none⟩) 2 [eq1, gtT 2] RL.out).mono ?_
  rw [join_known]
  rintro e w10 ⟨A1, c1, A2, c2, rfl, rd, _, _, hb⟩
  obtain ⟨A, hA⟩ : ∃ A : Pt, A = ⟨andT, A1, c1, A2, c2⟩ := ⟨_, rfl⟩
  have HA := Lib.hid (show A.t = andT by rw [hA])
  have IA : Hid (A.In w10 13) := Lib.hid (by rw [hA]; exact rd.more (Nat.zero_le _) (Nat.le_refl _) (Nat.le_refl _))
  rw [show pl andT A1 c1 A2 c2 = A.val by rw [hA]]
  clear rd hA RL IE IF HE HF
  replace IG := Lib.hid (IG.out.next hb)
  replace BG := Lib.hid (BG.out.next hb)
  replace BX := Lib.hid (BX.out.next hb)
  replace B := Lib.hid (bnext B.out hb)
  clear hb
  go_upto_region 4 with fail
  have hb := below_new w10 (.cells #[.int .i64 A.t.k, .slice A.A A.t.v.length A.c, .slice A.A' A.t.p.length A.c'] 25)
  have bA := BP.new w10 A
  generalize hW : World.alloc w10 _ = w11 at hb bA ⊢
  clear hW
  replace IG := Lib.hid (IG.out.next hb)
  replace BG := Lib.hid (BG.out.next hb)
  replace BX := Lib.hid (BX.out.next hb)
  replace IA := Lib.hid (IA.out.next hb)
  replace B := Lib.hid (bnext B.out hb)
  clear hb
  have BA := Lib.hid bA
  clear bA
  generalize w10.heap.size = gA at *
  go_wp2_with fail
  refine (number_any w11 1).mono ?_
  rintro e w12 ⟨rfl, hb⟩
  replace IG := Lib.hid (IG.out.next hb)
  replace BG := Lib.hid (BG.out.next hb)
  replace BX := Lib.hid (BX.out.next hb)
  replace IA := Lib.hid (IA.out.next hb)
  replace BA := Lib.hid (BA.out.next hb)
  replace B := Lib.hid (bnext B.out hb)
  clear hb
  go_wp2_with fail
  refine (one_any w12 1 2 (by omega) (numA 1) (num_in _ 1 (by omega))).mono ?_
  rintro e w13 ⟨E, rfl, hE, iE, hb⟩
  replace IG := Lib.hid (IG.out.next hb)
  replace BG := Lib.hid (BG.out.next hb)
  replace BX := Lib.hid (BX.out.next hb)
  replace IA := Lib.hid (IA.out.next hb)
  replace BA := Lib.hid (BA.out.next hb)
  replace B := Lib.hid (bnext B.out hb)
  clear hb
  have HE := Lib.hid (show E.t = .mk 2 [numT 1] [] from hE)
  have IE := Lib.hid iE
  clear hE iE
  go_wp2_with fail
  refine (number_any w13 2).mono ?_
  rintro e w14 ⟨rfl, hb⟩
  replace IG := Lib.hid (IG.out.next hb)
  replace BG := Lib.hid (BG.out.next hb)
  replace BX := Lib.hid (BX.out.next hb)
  replace IA := Lib.hid (IA.out.next hb)
  replace BA := Lib.hid (BA.out.next hb)
  replace IE := Lib.hid (IE.out.next hb)
  replace B := Lib.hid (bnext B.out hb)
  clear hb
  go_wp2_with fail
  refine (one_any w14 1 5 (by omega) (numA 2) (num_in _ 2 (by omega))).mono ?_
  rintro e w15 ⟨F, rfl, hF, iF, hb⟩
  replace IG := Lib.hid (IG.out.next hb)
  replace BG := Lib.hid (BG.out.next hb)
  replace BX := Lib.hid (BX.out.next hb)
  replace IA := Lib.hid (IA.out.next hb)
  replace BA := Lib.hid (BA.out.next hb)
  replace IE := Lib.hid (IE.out.next hb)
  replace B := Lib.hid (bnext B.out hb)
  clear hb
  have HF := Lib.hid (show F.t = gtT 2 from hF)
  have IF := Lib.hid iF
  clear hF iF
  go_upto_region 5 with fail
  obtain ⟨X, hX, iX, bX, hb⟩ := want_lay w15 E F HE.out HF.out IE.out IF.out
  generalize hW : World.alloc (World.alloc (World.alloc w15 _) _) _ = w16 at iX bX hb ⊢
  clear hW
  have HX := Lib.hid hX
  replace IG := Lib.hid (IG.out.next hb)
  replace BG := Lib.hid (BG.out.next hb)
  replace BX := Lib.hid (BX.out.next hb)
  replace IA := Lib.hid (IA.out.next hb)
  replace BA := Lib.hid (BA.out.next hb)
  replace B := Lib.hid (bnext B.out hb)
  clear hb
  generalize w15.heap.size + 1 + 1 = gW at *
  have KK := Lib.hid (show KJ w gG G gX gA A gW X w16 from ⟨BG.out, IG.out, BX.out, BA.out, IA.out, bX, iX, B.out⟩)
  clear iX bX hX HE HF IE IF BG IG BX BA IA
  refine region_phase_all [0, 1, 2, 3, 4, 5, 6, 7, 8, 9, 10, 11, 12, 13, 14, 15, 16, 17, 18, 19, 20, 21, 22, 23, 24, 25, 26, 27, 28, 29, 30, 31, 32] knD knE (fun w' => KJ w gG G gX gA A gW X w') (saidOf [Is (G.val), Is ((numA 4).v), Is (.bool true), Is (.bool true), Is (G.val), Is (wordA.v), Is (.bool false), Is (.bool true), Is (.bool true), Is (.bool true), Is (G.val), IsPw 1 1 [G.t], IsPt 2 (notT 3), Is (wordA.v), Is (.bool true), Is (.bool true), Is (.bool true), Is (A.val), IsPt 26 wantT, Is (X.val), Is (.bool true), Is (.bool true), Is (.bool true), Is (.agg #[.int .i64 0, .slice none 0 0, .slice none 0 0]), Is (.int .i64 2), Is (.bool true), Is (.bool true), Is (.bool true), Is (A.val), Is (.int .i64 0), Is (.bool true), Is (.bool true), Is (.bool true)]) 54 (by rfl) (by kernel_rfl) (by kernel_rfl) (by kernel_rfl) (fun _ _ h hb => h.next hb) (stays_said _ (stays_cons (Is.stays _) (stays_cons (Is.stays _) (stays_cons (Is.stays _) (stays_cons (Is.stays _) (stays_cons (Is.stays _) (stays_cons (Is.stays _) (stays_cons (Is.stays _) (stays_cons (Is.stays _) (stays_cons (Is.stays _) (stays_cons (Is.stays _) (stays_cons (Is.stays _) (stays_cons (IsPw.stays _ _ _) (stays_cons (IsPt.stays _ _) (stays_cons (Is.stays _) (stays_cons (Is.stays _) (stays_cons (Is.stays _) (stays_cons (Is.stays _) (stays_cons (Is.stays _) (stays_cons (IsPt.stays _ _) (stays_cons (Is.stays _) (stays_cons (Is.stays _) (stays_cons (Is.stays _) (stays_cons (Is.stays _) (stays_cons (Is.stays _) (stays_cons (Is.stays _) (stays_cons (Is.stays _) (stays_cons (Is.stays _) (stays_cons (Is.stays _) (stays_cons (Is.stays _) (stays_cons (Is.stays _) (stays_cons (Is.stays _) (stays_cons (Is.stays _) (stays_cons (Is.stays _) stays_nil)))))))))))))))))))))))))))))))))) (KK.out.next (below_drewN _ _ 1)) (by kernel_rfl) ?_ ?_
  · skip
    refine owes_cons (Owes.mk (o := ({ dst := some 22, op := .load 25 (.tmp 1), type := 25, pos := "law.go:23", after := #[], guard := none } : Oper)) rfl (fun v wk hj hD K hK => ?_)) ?_
    · simp only [knD, knE, putAll, Act.put, List.getD_cons_zero, List.setIfInBounds_toArray, List.set_cons_zero, List.set_cons_succ] at hK ⊢
      obtain ⟨a0, a1, a2, _⟩ := hj.b1
      go_simp
      exact hK.out _ _ (Below.refl _ _) rfl
    refine owes_cons (Owes.mk (o := ({ dst := some 23, op := .call { callee := .value (.func 26), args := #[.const (.int .i64 4)], argTypes := #[3] }, type := 27, pos := "law.go:23", after := #[], guard := none } : Oper)) rfl (fun v wk hj hD K hK => ?_)) ?_
    · simp only [knD, knE, putAll, Act.put, List.getD_cons_succ, List.getD_cons_zero, List.setIfInBounds_toArray, List.set_cons_zero, List.set_cons_succ] at hK ⊢
      go_simp
      refine (number_any wk 4).mono ?_
      rintro e w2 ⟨rfl, hb⟩
      exact hK.out _ _ hb rfl
    refine owes_cons (Owes.mk (o := ({ dst := some 24, op := .call { callee := .value (.func 14), args := #[.tmp 22, .tmp 23], argTypes := #[25, 27] }, type := 4, pos := "law.go:23", after := #[{ on := 0, ground := .data }, { on := 1, ground := .data }, { on := 1, ground := .chain }], guard := none } : Oper)) rfl (fun v wk hj hD K hK => ?_)) ?_
    · have h0 : v 0 = (G.val) := hD 0 (by decide)
      have h1 : v 1 = ((numA 4).v) := hD 1 (by decide)
      simp only [knD, knE, putAll, Act.put, List.getD_cons_succ, List.getD_cons_zero, List.setIfInBounds_toArray, List.set_cons_zero, List.set_cons_succ, h0, h1] at hK ⊢
      go_simp
      refine (k_test wk 1 1 G (numA 4) hj.i1 (num_in _ 4 (by omega)) true (by rw [HG.out]; exact t_gt4)).mono ?_
      rintro e w2 ⟨rfl, hb⟩
      exact hK.out _ _ hb rfl
    refine owes_cons (Owes.mk (o := ({ dst := some 25, op := .move (.tmp 24), type := 4, pos := "law.go:23", after := #[{ on := 2, ground := .data }, { on := 2, ground := .chain }], guard := none } : Oper)) rfl (fun v wk hj hD K hK => ?_)) ?_
    · have h2 : v 2 = (.bool true) := hD 2 (by decide)
      simp only [knD, knE, putAll, Act.put, List.getD_cons_succ, List.getD_cons_zero, List.setIfInBounds_toArray, List.set_cons_zero, List.set_cons_succ, h2] at hK ⊢
      go_simp
      exact hK.out _ _ (Below.refl _ _) rfl
    refine owes_cons (Owes.mk (o := ({ dst := some 26, op := .load 25 (.tmp 1), type := 25, pos := "law.go:23", after := #[{ on := 3, ground := .guard }], guard := some (3, true) } : Oper)) rfl (fun v wk hj hD K hK => ?_)) ?_
    · have h3 : v 3 = (.bool true) := hD 3 (by decide)
      simp only [knD, knE, putAll, Act.put, List.getD_cons_succ, List.getD_cons_zero, List.setIfInBounds_toArray, List.set_cons_zero, List.set_cons_succ, h3] at hK ⊢
      obtain ⟨a0, a1, a2, _⟩ := hj.b1
      go_simp
      exact hK.out _ _ (Below.refl _ _) rfl
    refine owes_cons (Owes.mk (o := ({ dst := some 27, op := .load 27 (.tmp 2), type := 27, pos := "law.go:23", after := #[{ on := 3, ground := .guard }], guard := some (3, true) } : Oper)) rfl (fun v wk hj hD K hK => ?_)) ?_
    · have h3 : v 3 = (.bool true) := hD 3 (by decide)
      simp only [knD, knE, putAll, Act.put, List.getD_cons_succ, List.getD_cons_zero, List.setIfInBounds_toArray, List.set_cons_zero, List.set_cons_succ, h3] at hK ⊢
      obtain ⟨a0, a1, a2, a3, a4, _⟩ := hj.b2
      go_simp
      exact hK.out _ _ (Below.refl _ _) rfl
    refine owes_cons (Owes.mk (o := ({ dst := some 28, op := .call { callee := .value (.func 14), args := #[.tmp 26, .tmp 27], argTypes := #[25, 27] }, type := 4, pos := "law.go:23", after := #[{ on := 4, ground := .data }, { on := 5, ground := .data }, { on := 3, ground := .chain }, { on := 3, ground := .guard }], guard := some (3, true) } : Oper)) rfl (fun v wk hj hD K hK => ?_)) ?_
    · have h3 : v 3 = (.bool true) := hD 3 (by decide)
      have h4 : v 4 = (G.val) := hD 4 (by decide)
      have h5 : v 5 = (wordA.v) := hD 5 (by decide)
      simp only [knD, knE, putAll, Act.put, List.getD_cons_succ, List.getD_cons_zero, List.setIfInBounds_toArray, List.set_cons_zero, List.set_cons_succ, h3, h4, h5] at hK ⊢
      go_simp
      refine (k_test wk 1 1 G wordA hj.i1 (word_in _) false (by rw [HG.out]; exact t_gtx)).mono ?_
      rintro e w2 ⟨rfl, hb⟩
      exact hK.out _ _ hb rfl
    refine owes_cons (Owes.mk (o := ({ dst := some 29, op := .unOp Go.UnOp.not 4 (.tmp 28), type := 4, pos := "law.go:23", after := #[{ on := 6, ground := .data }, { on := 3, ground := .guard }], guard := some (3, true) } : Oper)) rfl (fun v wk hj hD K hK => ?_)) ?_
    · have h3 : v 3 = (.bool true) := hD 3 (by decide)
      have h6 : v 6 = (.bool false) := hD 6 (by decide)
      simp only [knD, knE, putAll, Act.put, List.getD_cons_succ, List.getD_cons_zero, List.setIfInBounds_toArray, List.set_cons_zero, List.set_cons_succ, h3, h6] at hK ⊢
      go_simp
      exact hK.out _ _ (Below.refl _ _) rfl
    refine owes_cons (Owes.mk (o := ({ dst := some 30, op := .pick (.tmp 25) (.tmp 29) (.const (.bool false)), type := 4, pos := "law.go:23", after := #[{ on := 3, ground := .data }, { on := 7, ground := .data }], guard := none } : Oper)) rfl (fun v wk hj hD K hK => ?_)) ?_
    · have h3 : v 3 = (.bool true) := hD 3 (by decide)
      have h7 : v 7 = (.bool true) := hD 7 (by decide)
      simp only [knD, knE, putAll, Act.put, List.getD_cons_succ, List.getD_cons_zero, List.setIfInBounds_toArray, List.set_cons_zero, List.set_cons_succ, h3, h7] at hK ⊢
      go_simp
      exact hK.out _ _ (Below.refl _ _) rfl
    refine owes_cons (Owes.mk (o := ({ dst := some 31, op := .move (.tmp 30), type := 4, pos := "law.go:23", after := #[{ on := 8, ground := .data }, { on := 6, ground := .chain }], guard := none } : Oper)) rfl (fun v wk hj hD K hK => ?_)) ?_
    · have h8 : v 8 = (.bool true) := hD 8 (by decide)
      simp only [knD, knE, putAll, Act.put, List.getD_cons_succ, List.getD_cons_zero, List.setIfInBounds_toArray, List.set_cons_zero, List.set_cons_succ, h8] at hK ⊢
      go_simp
      exact hK.out _ _ (Below.refl _ _) rfl
    refine owes_cons (Owes.mk (o := ({ dst := some 32, op := .load 25 (.tmp 1), type := 25, pos := "law.go:23", after := #[{ on := 9, ground := .guard }], guard := some (9, true) } : Oper)) rfl (fun v wk hj hD K hK => ?_)) ?_
    · have h9 : v 9 = (.bool true) := hD 9 (by decide)
      simp only [knD, knE, putAll, Act.put, List.getD_cons_succ, List.getD_cons_zero, List.setIfInBounds_toArray, List.set_cons_zero, List.set_cons_succ, h9] at hK ⊢
      obtain ⟨a0, a1, a2, _⟩ := hj.b1
      go_simp
      exact hK.out _ _ (Below.refl _ _) rfl
    refine owes_cons (Owes.mk (o := ({ dst := some 33, op := .buildSlice 23 1 #[(0, .tmp 32)], type := 23, pos := "law.go:23", after := #[{ on := 10, ground := .data }, { on := 9, ground := .guard }], guard := some (9, true) } : Oper)) rfl (fun v wk hj hD K hK => ?_)) ?_
    · have h9 : v 9 = (.bool true) := hD 9 (by decide)
      have h10 : v 10 = (G.val) := hD 10 (by decide)
      simp only [knD, knE, putAll, Act.put, List.getD_cons_succ, List.getD_cons_zero, List.setIfInBounds_toArray, List.set_cons_zero, List.set_cons_succ, h9, h10] at hK ⊢
      go_simp
      exact hK.out _ _ (below_new _ _) ⟨_, _, rfl, rfl, rowP_lay wk 1 [G] (by intro x hx; rw [List.mem_singleton.1 hx]; exact hj.i1) (by simp)⟩
    refine owes_cons (Owes.mk (o := ({ dst := some 34, op := .build 25 #[(0, .const (.int .i64 12)), (2, .tmp 33)], type := 25, pos := "law.go:23", after := #[{ on := 11, ground := .data }, { on := 9, ground := .guard }], guard := some (9, true) } : Oper)) rfl (fun v wk hj hD K hK => ?_)) ?_
    · have h9 : v 9 = (.bool true) := hD 9 (by decide)
      obtain ⟨A11, c11, h11, l11, r11⟩ : IsPw 1 1 [G.t] (v 11) wk := hD 11 (by decide)
      simp only [knD, knE, putAll, Act.put, List.getD_cons_succ, List.getD_cons_zero, List.setIfInBounds_toArray, List.set_cons_zero, List.set_cons_succ, h9, h11] at hK ⊢
      go_simp
      exact hK.out _ _ (Below.refl _ _) (k_not (by rw [← HG.out]; exact r11))
    refine owes_cons (Owes.mk (o := ({ dst := some 35, op := .load 27 (.tmp 2), type := 27, pos := "law.go:23", after := #[{ on := 9, ground := .guard }], guard := some (9, true) } : Oper)) rfl (fun v wk hj hD K hK => ?_)) ?_
    · have h9 : v 9 = (.bool true) := hD 9 (by decide)
      simp only [knD, knE, putAll, Act.put, List.getD_cons_succ, List.getD_cons_zero, List.setIfInBounds_toArray, List.set_cons_zero, List.set_cons_succ, h9] at hK ⊢
      obtain ⟨a0, a1, a2, a3, a4, _⟩ := hj.b2
      go_simp
      exact hK.out _ _ (Below.refl _ _) rfl
    refine owes_cons (Owes.mk (o := ({ dst := some 36, op := .call { callee := .value (.func 14), args := #[.tmp 34, .tmp 35], argTypes := #[25, 27] }, type := 4, pos := "law.go:23", after := #[{ on := 12, ground := .data }, { on := 13, ground := .data }, { on := 9, ground := .chain }, { on := 9, ground := .guard }], guard := some (9, true) } : Oper)) rfl (fun v wk hj hD K hK => ?_)) ?_
    · have h9 : v 9 = (.bool true) := hD 9 (by decide)
      obtain ⟨q12, h12, t12, r12⟩ : IsPt 2 (notT 3) (v 12) wk := hD 12 (by decide)
      have h13 : v 13 = (wordA.v) := hD 13 (by decide)
      simp only [knD, knE, putAll, Act.put, List.getD_cons_succ, List.getD_cons_zero, List.setIfInBounds_toArray, List.set_cons_zero, List.set_cons_succ, h9, h12, h13] at hK ⊢
      go_simp
      refine (k_test wk 2 1 q12 wordA r12 (word_in _) true (by rw [t12]; exact t_notx)).mono ?_
      rintro e w2 ⟨rfl, hb⟩
      exact hK.out _ _ hb rfl
    refine owes_cons (Owes.mk (o := ({ dst := some 37, op := .pick (.tmp 31) (.tmp 36) (.const (.bool false)), type := 4, pos := "law.go:23", after := #[{ on := 9, ground := .data }, { on := 14, ground := .data }], guard := none } : Oper)) rfl (fun v wk hj hD K hK => ?_)) ?_
    · have h9 : v 9 = (.bool true) := hD 9 (by decide)
      have h14 : v 14 = (.bool true) := hD 14 (by decide)
      simp only [knD, knE, putAll, Act.put, List.getD_cons_succ, List.getD_cons_zero, List.setIfInBounds_toArray, List.set_cons_zero, List.set_cons_succ, h9, h14] at hK ⊢
      go_simp
      exact hK.out _ _ (Below.refl _ _) rfl
    refine owes_cons (Owes.mk (o := ({ dst := some 38, op := .move (.tmp 37), type := 4, pos := "law.go:23", after := #[{ on := 15, ground := .data }, { on := 14, ground := .chain }], guard := none } : Oper)) rfl (fun v wk hj hD K hK => ?_)) ?_
    · have h15 : v 15 = (.bool true) := hD 15 (by decide)
      simp only [knD, knE, putAll, Act.put, List.getD_cons_succ, List.getD_cons_zero, List.setIfInBounds_toArray, List.set_cons_zero, List.set_cons_succ, h15] at hK ⊢
      go_simp
      exact hK.out _ _ (Below.refl _ _) rfl
    refine owes_cons (Owes.mk (o := ({ dst := some 39, op := .load 25 (.tmp 3), type := 25, pos := "law.go:23", after := #[{ on := 16, ground := .guard }], guard := some (16, true) } : Oper)) rfl (fun v wk hj hD K hK => ?_)) ?_
    · have h16 : v 16 = (.bool true) := hD 16 (by decide)
      simp only [knD, knE, putAll, Act.put, List.getD_cons_succ, List.getD_cons_zero, List.setIfInBounds_toArray, List.set_cons_zero, List.set_cons_succ, h16] at hK ⊢
      obtain ⟨a0, a1, a2, _⟩ := hj.b3
      go_simp
      exact hK.out _ _ (Below.refl _ _) rfl
    refine owes_cons (Owes.mk (o := ({ dst := some 40, op := .call { callee := .value (.func 16), args := #[.tmp 39], argTypes := #[25] }, type := 25, pos := "law.go:23", after := #[{ on := 17, ground := .data }, { on := 16, ground := .chain }, { on := 16, ground := .guard }], guard := some (16, true) } : Oper)) rfl (fun v wk hj hD K hK => ?_)) ?_
    · have h16 : v 16 = (.bool true) := hD 16 (by decide)
      have h17 : v 17 = (A.val) := hD 17 (by decide)
      simp only [knD, knE, putAll, Act.put, List.getD_cons_succ, List.getD_cons_zero, List.setIfInBounds_toArray, List.set_cons_zero, List.set_cons_succ, h16, h17] at hK ⊢
      go_simp
      refine (k_neg wk 13 A hj.i3 HA.out).mono ?_
      rintro e w2 ⟨q, rfl, hq, iq, hb⟩
      exact hK.out _ _ hb ⟨_, rfl, hq, iq⟩
    refine owes_cons (Owes.mk (o := ({ dst := some 41, op := .load 25 (.tmp 4), type := 25, pos := "law.go:23", after := #[{ on := 16, ground := .guard }], guard := some (16, true) } : Oper)) rfl (fun v wk hj hD K hK => ?_)) ?_
    · have h16 : v 16 = (.bool true) := hD 16 (by decide)
      simp only [knD, knE, putAll, Act.put, List.getD_cons_succ, List.getD_cons_zero, List.setIfInBounds_toArray, List.set_cons_zero, List.set_cons_succ, h16] at hK ⊢
      obtain ⟨a0, a1, a2, _⟩ := hj.b4
      go_simp
      exact hK.out _ _ (Below.refl _ _) rfl
    refine owes_cons (Owes.mk (o := ({ dst := some 42, op := .call { callee := .value (.func 18), args := #[.tmp 40, .tmp 41], argTypes := #[25, 25] }, type := 4, pos := "law.go:23", after := #[{ on := 18, ground := .data }, { on := 19, ground := .data }, { on := 18, ground := .chain }, { on := 16, ground := .guard }], guard := some (16, true) } : Oper)) rfl (fun v wk hj hD K hK => ?_)) ?_
    · have h16 : v 16 = (.bool true) := hD 16 (by decide)
      obtain ⟨q18, h18, t18, r18⟩ : IsPt 26 wantT (v 18) wk := hD 18 (by decide)
      have h19 : v 19 = (X.val) := hD 19 (by decide)
      simp only [knD, knE, putAll, Act.put, List.getD_cons_succ, List.getD_cons_zero, List.setIfInBounds_toArray, List.set_cons_zero, List.set_cons_succ, h16, h18, h19] at hK ⊢
      go_simp
      refine (sameP_any 26 wk 3 q18 X (by rw [t18, HX.out]) r18 hj.i4).mono ?_
      rintro e w2 ⟨rfl, hb⟩
      exact hK.out _ _ hb rfl
    refine owes_cons (Owes.mk (o := ({ dst := some 43, op := .pick (.tmp 38) (.tmp 42) (.const (.bool false)), type := 4, pos := "law.go:23", after := #[{ on := 16, ground := .data }, { on := 20, ground := .data }], guard := none } : Oper)) rfl (fun v wk hj hD K hK => ?_)) ?_
    · have h16 : v 16 = (.bool true) := hD 16 (by decide)
      have h20 : v 20 = (.bool true) := hD 20 (by decide)
      simp only [knD, knE, putAll, Act.put, List.getD_cons_succ, List.getD_cons_zero, List.setIfInBounds_toArray, List.set_cons_zero, List.set_cons_succ, h16, h20] at hK ⊢
      go_simp
      exact hK.out _ _ (Below.refl _ _) rfl
    refine owes_cons (Owes.mk (o := ({ dst := some 44, op := .move (.tmp 43), type := 4, pos := "law.go:23", after := #[{ on := 21, ground := .data }, { on := 20, ground := .chain }], guard := none } : Oper)) rfl (fun v wk hj hD K hK => ?_)) ?_
    · have h21 : v 21 = (.bool true) := hD 21 (by decide)
      simp only [knD, knE, putAll, Act.put, List.getD_cons_succ, List.getD_cons_zero, List.setIfInBounds_toArray, List.set_cons_zero, List.set_cons_succ, h21] at hK ⊢
      go_simp
      exact hK.out _ _ (Below.refl _ _) rfl
    refine owes_cons (Owes.mk (o := ({ dst := some 45, op := .build 25 #[], type := 25, pos := "law.go:23", after := #[{ on := 22, ground := .guard }], guard := some (22, true) } : Oper)) rfl (fun v wk hj hD K hK => ?_)) ?_
    · have h22 : v 22 = (.bool true) := hD 22 (by decide)
      simp only [knD, knE, putAll, Act.put, List.getD_cons_succ, List.getD_cons_zero, List.setIfInBounds_toArray, List.set_cons_zero, List.set_cons_succ, h22] at hK ⊢
      go_simp
      exact hK.out _ _ (Below.refl _ _) rfl
    refine owes_cons (Owes.mk (o := ({ dst := some 46, op := .call { callee := .value (.func 12), args := #[.tmp 45], argTypes := #[25] }, type := 30, pos := "law.go:23", after := #[{ on := 23, ground := .data }, { on := 22, ground := .chain }, { on := 22, ground := .guard }], guard := some (22, true) } : Oper)) rfl (fun v wk hj hD K hK => ?_)) ?_
    · have h22 : v 22 = (.bool true) := hD 22 (by decide)
      have h23 : v 23 = (.agg #[.int .i64 0, .slice none 0 0, .slice none 0 0]) := hD 23 (by decide)
      simp only [knD, knE, putAll, Act.put, List.getD_cons_succ, List.getD_cons_zero, List.setIfInBounds_toArray, List.set_cons_zero, List.set_cons_succ, h22, h23] at hK ⊢
      go_simp
      refine (k_check wk 1 ⟨zeroP, none, 0, none, 0⟩ (zeroP_in wk) 2 (by rw [show okP 12 zeroP = false from ok_zero]; rfl)).mono ?_
      rintro e w2 ⟨rfl, hb⟩
      exact hK.out _ _ hb rfl
    refine owes_cons (Owes.mk (o := ({ dst := some 47, op := .binOp .eql 30 (.tmp 46) (.const (.int .i64 2)) 30, type := 4, pos := "law.go:23", after := #[{ on := 24, ground := .data }, { on := 22, ground := .guard }], guard := some (22, true) } : Oper)) rfl (fun v wk hj hD K hK => ?_)) ?_
    · have h22 : v 22 = (.bool true) := hD 22 (by decide)
      have h24 : v 24 = (.int .i64 2) := hD 24 (by decide)
      simp only [knD, knE, putAll, Act.put, List.getD_cons_succ, List.getD_cons_zero, List.setIfInBounds_toArray, List.set_cons_zero, List.set_cons_succ, h22, h24] at hK ⊢
      go_simp
      exact hK.out _ _ (Below.refl _ _) rfl
    refine owes_cons (Owes.mk (o := ({ dst := some 48, op := .pick (.tmp 44) (.tmp 47) (.const (.bool false)), type := 4, pos := "law.go:23", after := #[{ on := 22, ground := .data }, { on := 25, ground := .data }], guard := none } : Oper)) rfl (fun v wk hj hD K hK => ?_)) ?_
    · have h22 : v 22 = (.bool true) := hD 22 (by decide)
      have h25 : v 25 = (.bool true) := hD 25 (by decide)
      simp only [knD, knE, putAll, Act.put, List.getD_cons_succ, List.getD_cons_zero, List.setIfInBounds_toArray, List.set_cons_zero, List.set_cons_succ, h22, h25] at hK ⊢
      go_simp
      exact hK.out _ _ (Below.refl _ _) rfl
    refine owes_cons (Owes.mk (o := ({ dst := some 49, op := .move (.tmp 48), type := 4, pos := "law.go:23", after := #[{ on := 26, ground := .data }, { on := 24, ground := .chain }], guard := none } : Oper)) rfl (fun v wk hj hD K hK => ?_)) ?_
    · have h26 : v 26 = (.bool true) := hD 26 (by decide)
      simp only [knD, knE, putAll, Act.put, List.getD_cons_succ, List.getD_cons_zero, List.setIfInBounds_toArray, List.set_cons_zero, List.set_cons_succ, h26] at hK ⊢
      go_simp
      exact hK.out _ _ (Below.refl _ _) rfl
    refine owes_cons (Owes.mk (o := ({ dst := some 50, op := .load 25 (.tmp 3), type := 25, pos := "law.go:23", after := #[{ on := 27, ground := .guard }], guard := some (27, true) } : Oper)) rfl (fun v wk hj hD K hK => ?_)) ?_
    · have h27 : v 27 = (.bool true) := hD 27 (by decide)
      simp only [knD, knE, putAll, Act.put, List.getD_cons_succ, List.getD_cons_zero, List.setIfInBounds_toArray, List.set_cons_zero, List.set_cons_succ, h27] at hK ⊢
      obtain ⟨a0, a1, a2, _⟩ := hj.b3
      go_simp
      exact hK.out _ _ (Below.refl _ _) rfl
    refine owes_cons (Owes.mk (o := ({ dst := some 51, op := .call { callee := .value (.func 12), args := #[.tmp 50], argTypes := #[25] }, type := 30, pos := "law.go:23", after := #[{ on := 28, ground := .data }, { on := 27, ground := .chain }, { on := 27, ground := .guard }], guard := some (27, true) } : Oper)) rfl (fun v wk hj hD K hK => ?_)) ?_
    · have h27 : v 27 = (.bool true) := hD 27 (by decide)
      have h28 : v 28 = (A.val) := hD 28 (by decide)
      simp only [knD, knE, putAll, Act.put, List.getD_cons_succ, List.getD_cons_zero, List.setIfInBounds_toArray, List.set_cons_zero, List.set_cons_succ, h27, h28] at hK ⊢
      go_simp
      refine (k_check wk 13 A hj.i3 0 (by rw [HA.out, ok_and]; rfl)).mono ?_
      rintro e w2 ⟨rfl, hb⟩
      exact hK.out _ _ hb rfl
    refine owes_cons (Owes.mk (o := ({ dst := some 52, op := .binOp .eql 30 (.tmp 51) (.const (.int .i64 0)) 30, type := 4, pos := "law.go:23", after := #[{ on := 29, ground := .data }, { on := 27, ground := .guard }], guard := some (27, true) } : Oper)) rfl (fun v wk hj hD K hK => ?_)) ?_
    · have h27 : v 27 = (.bool true) := hD 27 (by decide)
      have h29 : v 29 = (.int .i64 0) := hD 29 (by decide)
      simp only [knD, knE, putAll, Act.put, List.getD_cons_succ, List.getD_cons_zero, List.setIfInBounds_toArray, List.set_cons_zero, List.set_cons_succ, h27, h29] at hK ⊢
      go_simp
      exact hK.out _ _ (Below.refl _ _) rfl
    refine owes_cons (Owes.mk (o := ({ dst := some 53, op := .pick (.tmp 49) (.tmp 52) (.const (.bool false)), type := 4, pos := "law.go:23", after := #[{ on := 27, ground := .data }, { on := 30, ground := .data }], guard := none } : Oper)) rfl (fun v wk hj hD K hK => ?_)) ?_
    · have h27 : v 27 = (.bool true) := hD 27 (by decide)
      have h30 : v 30 = (.bool true) := hD 30 (by decide)
      simp only [knD, knE, putAll, Act.put, List.getD_cons_succ, List.getD_cons_zero, List.setIfInBounds_toArray, List.set_cons_zero, List.set_cons_succ, h27, h30] at hK ⊢
      go_simp
      exact hK.out _ _ (Below.refl _ _) rfl
    refine owes_cons (Owes.mk (o := ({ dst := some 0, op := .assign (.tmp 53), type := 4, pos := "law.go:23", after := #[{ on := 31, ground := .data }, { on := 29, ground := .chain }, { on := 0, ground := .phase }, { on := 1, ground := .phase }, { on := 2, ground := .phase }, { on := 3, ground := .phase }, { on := 4, ground := .phase }, { on := 5, ground := .phase }, { on := 6, ground := .phase }, { on := 7, ground := .phase }, { on := 8, ground := .phase }, { on := 9, ground := .phase }, { on := 10, ground := .phase }, { on := 11, ground := .phase }, { on := 12, ground := .phase }, { on := 13, ground := .phase }, { on := 14, ground := .phase }, { on := 15, ground := .phase }, { on := 16, ground := .phase }, { on := 17, ground := .phase }, { on := 18, ground := .phase }, { on := 19, ground := .phase }, { on := 20, ground := .phase }, { on := 21, ground := .phase }, { on := 22, ground := .phase }, { on := 23, ground := .phase }, { on := 24, ground := .phase }, { on := 25, ground := .phase }, { on := 26, ground := .phase }, { on := 27, ground := .phase }, { on := 28, ground := .phase }, { on := 29, ground := .phase }, { on := 30, ground := .phase }, { on := 31, ground := .phase }], guard := none } : Oper)) rfl (fun v wk hj hD K hK => ?_)) ?_
    · have h31 : v 31 = (.bool true) := hD 31 (by decide)
      simp only [knD, knE, putAll, Act.put, List.getD_cons_succ, List.getD_cons_zero, List.setIfInBounds_toArray, List.set_cons_zero, List.set_cons_succ, h31] at hK ⊢
      go_simp
      exact hK.out _ _ (Below.refl _ _) rfl
    exact owes_nil
  · intro v wf hj hr
    have hl : v 32 = .bool true := hr 32 (by decide)
    simp only [knD, putAll, Act.put, List.getD_cons_succ, List.getD_cons_zero, List.setIfInBounds_toArray, List.set_cons_zero, List.set_cons_succ, hl]
    clear hl hr
    have HJ := Lib.hid hj
    clear hj
    go_wp2
    go_ret
    exact ⟨rfl, HJ.out.bel⟩
end Go.Proofs.Ytiiccefnfepccaa
