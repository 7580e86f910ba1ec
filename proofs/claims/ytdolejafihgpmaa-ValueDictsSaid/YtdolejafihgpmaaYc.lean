/- The law on keys: a map has each key once, rising, with the value that came last for it. -/
import Derived.Test.YtdolejafihgpmaaYa
import Derived.Test.YtdolejafihgpmaaVe
namespace Go.Proofs.Ytdolejafihgpmaa
open Go.RowKit Go.Sort
attribute [local go_sem ↓] Go.wp_at_zero Go.wp_at_succ

def FindAt (w : World) (o : Option V) (e : Ending) (w' : World) : Prop := ∃ q : At, e = .returned (.tuple #[q.v, .bool o.isSome]) ∧ q.t = o.getD zeroV ∧ q.In w' 13 ∧ Below w.heap.size w w'
theorem find_at (w : World) (d : Nat) (x y : At) (hx : x.In w d) (hy : y.In w d) : Calls Try.prog 24 #[x.v, y.v] w (FindAt w (findV x.t y.t)) :=
  (find_any w d d x.t y.t _ _ _ _ _ _ _ _ hx hy).mono fun _ _ ⟨A, c, A', c', he, rd, hb⟩ => ⟨⟨_, A, c, A', c'⟩, he, rfl, Rd.more rd (Nat.zero_le _) (Nat.le_refl _) (Nat.le_refl _), hb⟩
theorem same_two (w : World) (d d' : Nat) (x y : At) (hx : x.In w d) (hy : y.In w d') : Calls Try.prog 14 #[x.v, y.v] w fun e w' => e = .returned (.bool (cmpV 12 x.t y.t == 0)) ∧ Below w.heap.size w w' :=
  same_any w d d' x.t y.t _ _ _ _ _ _ _ _ hx hy
theorem same_grown {w : World} {d d' : Nat} {x y : At} (hx : x.In w d) (hy : y.In w d') (n : Nat) (os : Array Obj) : Calls Try.prog 14 #[x.v, y.v] (grow (redrawn w n) os) fun e w'' => e = .returned (.bool (cmpV 12 x.t y.t == 0)) ∧ ∃ p : Regrown, w'' = grow (redrawn w p.d) p.os :=
  Calls.regrown_of (same_two _ d d' x y (hx.next (below_regrown w n os)) (hy.next (below_regrown w n os)))
theorem cmp_grown {w : World} {d : Nat} {x y : At} (hx : x.In w d) (hy : y.In w d) (n : Nat) (os : Array Obj) : Calls Try.prog 12 #[x.v, y.v] (grow (redrawn w n) os) fun e w'' => e = .returned (.int .i64 (cmpV 12 x.t y.t)) ∧ ∃ p : Regrown, w'' = grow (redrawn w p.d) p.os :=
  Calls.regrown_of (cmp_at _ d x y (hx.next (below_regrown w n os)) (hy.next (below_regrown w n os)))
/-- What stands fast once the map is there. -/
structure KSt (w w5 : World) (d g3 g5 : Nat) (A : Option Addr) (c : Nat) (l : List V) (key M : At) : Prop where
  bel : Below w.heap.size w w5
  l3 : g3 < w5.heap.size
  l5 : g5 < w5.heap.size
  b3 : Bx w5 g3 key
  b5 : Bx w5 g5 M
  ik : key.In w5 d
  im : M.In w5 14
  rw_ : Rw w5 0 w5.heap.size d A c l
/-- An item of the row. -/
structure El (w : World) (d b off j : Nat) (l : List V) (x : At) : Prop where
  lt : b < w.heap.size
  get : l[j]? = some x.t
  in_ : x.In w d
  cells : cells5 w b (off + j * 5) x.t x.A x.c x.A' x.c'
theorem el_of {w : World} {d : Nat} {A : Option Addr} {c : Nat} {l : List V} (h : Rw w 0 w.heap.size d A c l) {j : Nat} (hj : j < l.length) : ∃ b off x, A = some ⟨b, off, none⟩ ∧ El w d b off j l x := by
  obtain ⟨b, off, t, A1, c1, A2, c2, e, _, h1, h2, h3, h4⟩ := h.elem hj
  exact ⟨b, off, ⟨t, A1, c1, A2, c2⟩, e, h1, h2, h4, h3⟩
theorem el_at {w : World} {d b off c : Nat} {l : List V} (h : Rw w 0 w.heap.size d (some ⟨b, off, none⟩) c l) {j : Nat} (hj : j < l.length) : ∃ x, El w d b off j l x := by
  obtain ⟨b', off', x, e, hx⟩ := el_of h hj
  injection e with e
  injection e with e1 e2
  subst e1 e2
  exact ⟨x, hx⟩
theorem El.now {w w' : World} {d b off j : Nat} {l : List V} {x : At} (h : El w d b off j l x) (hb : Below w.heap.size w w') : cells5 w' b (off + j * 5) x.t x.A x.c x.A' x.c' := h.cells.keep (lo := 0) (Kept.of_below hb (Nat.le_refl _)) (Nat.zero_le _) h.lt
theorem El.into {w w' : World} {d b off j : Nat} {l : List V} {x : At} (h : El w d b off j l x) (hb : Below w.heap.size w w') : x.In w' d := h.in_.next hb
/-- A world of the round in which what was found is laid into a box. -/
structure Rnd (w5 : World) (lo d g5 g9 b off i c : Nat) (l : List V) (M x z : At) (wr : World) : Prop where
  bel : Below w5.heap.size w5 wr
  h5 : w5.heap.size ≤ lo
  hlo : lo ≤ wr.heap.size
  h9 : g9 < lo
  l5 : g5 < w5.heap.size
  b5w : Bx w5 g5 M
  b9 : Bx wr g9 z
  imw : M.In w5 14
  ex : El w5 d b off i l x
theorem Rnd.next {w5 a a' : World} {lo d g5 g9 b off i c : Nat} {l : List V} {M x z : At} (h : Rnd w5 lo d g5 g9 b off i c l M x z a) (hb : Below a.heap.size a a') : Rnd w5 lo d g5 g9 b off i c l M x z a' :=
  ⟨bnext h.bel hb, h.h5, Nat.le_trans h.hlo hb.size, h.h9, h.l5, h.b5w, h.b9.next hb, h.imw, h.ex⟩
theorem Rnd.b5 {w5 a : World} {lo d g5 g9 b off i c : Nat} {l : List V} {M x z : At} (h : Rnd w5 lo d g5 g9 b off i c l M x z a) : Bx a g5 M := h.b5w.next h.bel
theorem Rnd.cx {w5 a : World} {lo d g5 g9 b off i c : Nat} {l : List V} {M x z : At} (h : Rnd w5 lo d g5 g9 b off i c l M x z a) : cells5 a b (off + i * 5) x.t x.A x.c x.A' x.c' := h.ex.now h.bel
theorem Rnd.im {w5 a : World} {lo d g5 g9 b off i c : Nat} {l : List V} {M x z : At} (h : Rnd w5 lo d g5 g9 b off i c l M x z a) : M.In a 14 := h.imw.next h.bel
theorem Rnd.ix {w5 a : World} {lo d g5 g9 b off i c : Nat} {l : List V} {M x z : At} (h : Rnd w5 lo d g5 g9 b off i c l M x z a) : x.In a d := h.ex.into h.bel
def IsFnd (vv : V) : Value → World → Prop := fun x w => ∃ q : At, x = .tuple #[q.v, .bool true] ∧ q.t = vv ∧ q.In w 13
theorem IsFnd.stays (vv : V) : Stays (IsFnd vv) := fun _ _ _ ⟨q, e, h, hi⟩ hb => ⟨q, e, h, hi.next hb⟩
def Cut18 (w5 : World) (g9 : Nat) (vv : V) (z : At) (p v : Value) (wx : World) : Prop := ∃ (g : Nat) (q : At), p = .pointer (some ⟨g, 0, none⟩) ∧ v = .bool true ∧ Bx wx g q ∧ q.t = vv ∧ q.In wx 13 ∧ Bx wx g9 z ∧ Below w5.heap.size w5 wx
theorem cut18_fin {w5 a : World} {lo d g5 g9 b off i c g : Nat} {l : List V} {M x z q : At} {vv : V} (hok : okV 11 vv = true) (h : Rnd w5 lo d g5 g9 b off i c l M x z a) (hl : lo ≤ g) (hk : Cell a g (.int .i64 0) (.int .i64 0) (.string ⟨#[]⟩) (.slice none 0 0) (.slice none 0 0)) (hq : q.In a 13) (e : q.t = vv) :
    Cut18 w5 g9 vv z (.pointer (some ⟨g, 0, none⟩)) (.bool true) (put5 a g 0 (.int .i64 q.t.k) (.int .i64 q.t.n) (.string q.t.s) (.slice q.A q.t.l.length q.c) (.slice q.A' q.t.m.length q.c')) := by
  have h9 := h.h9
  refine ⟨g, q, rfl, rfl, fin5 hk.blk _ _ _ _ _, e, ?_, Cell.kept h.b9 (put5_far _ _ _ _ _ _ _ _ _ (by omega)), h.bel.trans (put5_below _ _ _ _ _ _ _ _ _ (Nat.le_trans h.h5 hl))⟩
  unfold At.In
  rw [put5_size]
  exact rd_off hk _ _ _ _ _ 13 11 _ _ _ _ _ (by rw [e]; exact hok) hq

def y18D : Nat → Tmp := fun j => [88, 89, 90, 91, 92, 93, 87, 94, 95, 11, 0, 12].getD j 0
def y18E : Nat → List Nat := fun j => [[], [], [], [1, 2], [3], [0, 4], [5], [6], [6], [], [], []].getD j []

set_option maxHeartbeats 8000000 in
set_option maxRecDepth 100000 in
theorem keys_law (w : World) (d : Nat) (A : Option Addr) (c : Nat) (l : List V) (key : At) (h : Rw w 0 w.heap.size d A c l) (hkey : key.In w d) : Calls Try.prog 8 #[.slice A l.length c, key.v] w fun e w' => e = .returned (.bool true) ∧ Below w.heap.size w w' := by
  have H := Lib.hid h
  have HX := Lib.hid hkey
  have hbig := h.big
  clear h hkey
  go_enter Try.func8, Try.ntmps8
  go_upto_region 1 with fail
  have bx := Bx.new w key
  generalize hW : World.alloc w _ = W at bx
  have HB := Lib.hid (show Below w.heap.size w W by rw [← hW]; exact below_new _ _)
  have hgW : w.heap.size < W.heap.size := by rw [← hW]; simp
  clear hW
  generalize hg3 : w.heap.size = g3 at bx hgW
  have HG3 := Lib.hid hg3
  clear hg3
  have BX := Lib.hid bx
  clear bx
  go_wp2_with fail
  refine (lots_any W d A c l (H.out.next HB.out)).mono ?_
  rintro e w1 ⟨bb, rfl, hb1⟩
  have B1 := Lib.hid (bnext HB.out hb1)
  have BX1 := Lib.hid (BX.out.next hb1)
  have hg1 : g3 < w1.heap.size := Nat.lt_of_lt_of_le hgW hb1.size
  clear hb1 HB BX hgW
  cases bb
  · obtain ⟨a0, a1, a2, a3, a4, _⟩ := BX1.out
    go_wp2_with fail
    refine (lots1 w1 d key (HX.out.next B1.out)).mono ?_
    rintro e w2 ⟨bb, rfl, hb2⟩
    have bl := bnext (below_new w1 (.cells #[.int .i64 key.t.k, .int .i64 key.t.n, .string key.t.s, .slice key.A key.t.l.length key.c, .slice key.A' key.t.m.length key.c'] 24)) hb2
    have B2 := Lib.hid (bnext B1.out bl)
    have BX2 := Lib.hid (BX1.out.next bl)
    have hg2 : g3 < w2.heap.size := Nat.lt_of_lt_of_le hg1 bl.size
    clear hb2 bl a0 a1 a2 a3 a4 BX1 B1 hg1
    cases bb
    · by_cases hlen : l.length ≤ 60
      · have hlz : (l.length : Int) ≤ 60 := by omega
        go_wp2_with fail
        refine (dict_at w2 d A c l (H.out.next B2.out) (by omega)).mono ?_
        rintro e w3 ⟨M, err, rfl, hm, hb3, hcase⟩
        have CASE := Lib.hid hcase
        have nw := below_new w3 (.cells #[.int .i64 M.t.k, .int .i64 M.t.n, .string M.t.s, .slice M.A M.t.l.length M.c, .slice M.A' M.t.m.length M.c'] 24)
        have bl := bnext hb3 nw
        have b5 := Bx.new w3 M
        have ST := Lib.hid (show KSt w _ d g3 w3.heap.size A c l key M from ⟨bnext B2.out bl, Nat.lt_of_lt_of_le hg2 bl.size, by simp, BX2.out.next bl, b5, HX.out.next (bnext B2.out bl), hm.next nw, H.out.next (bnext B2.out bl)⟩)
        clear hm hb3 hcase nw bl b5 B2 BX2 hg2 H HX
        go_upto_region 4 with fail
        generalize World.alloc w3 _ = w5 at ST
        generalize w3.heap.size = g5 at ST
        have hbm := ST.out.im.2.1.big
        rcases CASE.out with ⟨rfl, hz⟩ | ⟨rfl, hev, hko⟩
        · clear CASE
          have hl0 : M.t.l.length = 0 := by rw [hz]; rfl
          have L0 := Lib.hid hl0
          clear hz hl0 hbm
          as_aux_lemma =>
            obtain ⟨q0, q1, q2, q3, q4, _⟩ := ST.out.b5
            rw [L0.out] at q3
            go_wp2_with fail
            refine (known_any _).mono ?_
            rintro e w6 ⟨rfl, hb6⟩
            go_wp2
            go_ret
            exact ⟨rfl, ST.out.bel.trans (hb6.mono ST.out.bel.size)⟩
        · clear CASE
          have KO := Lib.hid hko
          have EV := Lib.hid hev
          have hevz : (l.length : Int) % 2 = 0 := by omega
          have ERR : errI (okV 12 M.t) = 0 := by rw [hko.ok]; rfl
          clear hko hev
          obtain ⟨q0, q1, q2, q3, q4, _⟩ := ST.out.b5
          go_wp2_with fail
          refine (check_at w5 14 M ST.out.im).mono ?_
          rintro e w6 ⟨rfl, hb6⟩
          rw [ERR]
          have H6 := Lib.hid hb6
          clear hb6 q0 q1 q2 q3 q4 ERR
          go_wp2_with fail
          clear hevz
          go_loopw [7, 8] (fun vc vi wr => ∃ (i : Nat) (came : Bool), vc = .bool came ∧ vi = .int .i64 i ∧ i ≤ l.length ∧ Hid (i % 2 = 0) ∧ Hid (Below w5.heap.size w5 wr) ∧ Hid (∃ Q, pairUp l = Q ++ pairUp (l.drop i)) ∧ Hid ((came || (pairUp (l.drop i)).any (keyIs key.t)) = (pairUp l).any (keyIs key.t))) (fun _ vi _ => l.length - (intOf vi).toNat)
          case atStart => exact ⟨0, false, rfl, rfl, by omega, Lib.hid rfl, H6, Lib.hid ⟨[], by simp⟩, Lib.hid (by simp)⟩
          case round =>
            obtain ⟨i, came, rfl, rfl, hil, hie, hR, hQ, hC⟩ := hrel
            clear H6
            by_cases hlt : i + 1 < l.length
            · as_aux_lemma =>
                obtain ⟨b, off, x, hA, ex⟩ := el_of ST.out.rw_ (show i < l.length by omega)
                subst hA
                obtain ⟨y, ey⟩ := el_at ST.out.rw_ hlt
                have EX := Lib.hid ex
                have EY := Lib.hid ey
                obtain ⟨Q, hq⟩ := hQ.out
                have HQ := Lib.hid hq
                obtain ⟨v, hfv, hok, hcv⟩ := (leads_of KO.out Q i ex.get ey.get hq).val
                have HFV := Lib.hid hfv
                have HOK := Lib.hid hok
                have HCV := Lib.hid hcv
                clear ex ey hfv hok hcv hq hQ
                have i0 : (0 : Int) ≤ (i : Int) := by omega
                have i1 : (i : Int) < (l.length : Int) := by omega
                have i2 : (i : Int) + 1 < (l.length : Int) := by omega
                have i3 : (0 : Int) ≤ (i : Int) + 1 := by omega
                have i4 : ((i : Int) + 1).toNat = i + 1 := by omega
                obtain ⟨p0, p1, p2, p3, p4⟩ := EY.out.now hR.out
                have b9 := Bx.new wr y
                have nw := below_new wr (.cells #[.int .i64 y.t.k, .int .i64 y.t.n, .string y.t.s, .slice y.A y.t.l.length y.c, .slice y.A' y.t.m.length y.c'] 24)
                have BE9 := bnext hR.out nw
                have h59 : w5.heap.size ≤ wr.heap.size := hR.out.size
                go_upto_region 13 with fail
                generalize hX : World.alloc wr _ = W9 at b9 BE9
                have h99 : wr.heap.size < W9.heap.size := by rw [← hX]; simp
                clear hX nw p0 p1 p2 p3 p4 i2 i3 i4
                generalize wr.heap.size = g9 at b9 h59 h99
                have B9 := Lib.hid b9
                have BE := Lib.hid BE9
                clear b9 BE9 hR
                go_wp2_with fail
                go_loopw [10] (fun vk wx => ∃ (k : Nat) (z : At), vk = .int .i64 k ∧ k ≤ l.length ∧ Hid (k % 2 = 0) ∧ Hid (Bx wx g9 z) ∧ Hid (z.In w5 d) ∧ g9 < wx.heap.size ∧ Hid (Below w5.heap.size w5 wx) ∧ Hid (scan x.t (pairUp (l.drop k)) z.t = scan x.t (pairUp (l.drop (i + 2))) y.t)) (fun vk _ => l.length - (intOf vk).toNat)
                case atStart => exact ⟨i + 2, y, by go_num, by have := EV.out; have := hie.out; omega, Lib.hid (by have := hie.out; omega), B9, Lib.hid EY.out.in_, h99, BE, Lib.hid rfl⟩
                case round =>
                  obtain ⟨k, z, rfl, hkl, hke, hZ, hzi, h9x, hR, hS⟩ := hrel
                  clear B9 BE h99
                  by_cases hkt : k + 1 < l.length
                  · as_aux_lemma =>
                      obtain ⟨a, ea⟩ := el_at ST.out.rw_ (show k < l.length by omega)
                      obtain ⟨b2, eb⟩ := el_at ST.out.rw_ hkt
                      have EA := Lib.hid ea
                      have EB := Lib.hid eb
                      have NX := Lib.hid (scan_next x.t l k (y := z.t) ea.get eb.get)
                      clear ea eb
                      have k0 : (0 : Int) ≤ (k : Int) := by omega
                      have k1 : (k : Int) < (l.length : Int) := by omega
                      have k2 : (k : Int) + 1 < (l.length : Int) := by omega
                      have k3 : (0 : Int) ≤ (k : Int) + 1 := by omega
                      have k4 : ((k : Int) + 1).toNat = k + 1 := by omega
                      obtain ⟨q0, q1, q2, q3, q4⟩ := EX.out.now hR.out
                      obtain ⟨p0, p1, p2, p3, p4⟩ := EA.out.now hR.out
                      have cQ := Lib.hid (same_grown (EX.out.into hR.out) (EA.out.into hR.out))
                      replace q0 := cell_regrown q0
                      replace p0 := cell_regrown p0
                      replace q1 := cell_regrown q1
                      replace p1 := cell_regrown p1
                      replace q2 := cell_regrown q2
                      replace p2 := cell_regrown p2
                      replace q3 := cell_regrown q3
                      replace p3 := cell_regrown p3
                      replace q4 := cell_regrown q4
                      replace p4 := cell_regrown p4
                      go_wp2_with fail
                      refine wp_region_quiet_below (by kernel_rfl) (by kernel_rfl) ?_
                      repeat (first | go_big_quiet_step (exact cQ.out _ _) | quiet_step (exact cQ.out _ _))
                      refine wpQuiet_nil ?_
                      intro _ hw'
                      obtain ⟨⟨dq, osq⟩, hw''⟩ := hw'
                      subst hw''
                      have HNX := Lib.hid (below_regrown wr dq osq)
                      generalize grow (redrawn wr dq) osq = wq at HNX
                      have HR := Lib.hid (bnext hR.out HNX.out)
                      have HZ := Lib.hid (hZ.out.next HNX.out)
                      have h9q : g9 < wq.heap.size := Nat.lt_of_lt_of_le h9x HNX.out.size
                      clear q0 q1 q2 q3 q4 p0 p1 p2 p3 p4 cQ HNX hZ hR h9x
                      cases hne : (cmpV 12 x.t a.t == 0)
                      · have NE := Lib.hid hne
                        clear hne
                        go_wp2
                        go_roundw
                        case rel => exact ⟨k + 2, z, by go_num, by have := EV.out; have := hke.out; omega, Lib.hid (by have := hke.out; omega), HZ, hzi, h9q, HR, Lib.hid (by rw [← hS.out, NX.out, NE.out]; rfl)⟩
                        case measure => simp [intOf]; omega
                      · have NE := Lib.hid hne
                        clear hne
                        obtain ⟨p0, p1, p2, p3, p4⟩ := EB.out.now HR.out
                        obtain ⟨z0, z1, z2, z3, z4, f0, f1, f2, f3, f4, hblk⟩ := HZ.out
                        have BZ := Lib.hid (fin5 hblk (.int .i64 b2.t.k) (.int .i64 b2.t.n) (.string b2.t.s) (.slice b2.A b2.t.l.length b2.c) (.slice b2.A' b2.t.m.length b2.c'))
                        have BB := Lib.hid (HR.out.trans (put5_below w5.heap.size wq g9 0 (.int .i64 b2.t.k) (.int .i64 b2.t.n) (.string b2.t.s) (.slice b2.A b2.t.l.length b2.c) (.slice b2.A' b2.t.m.length b2.c') h59))
                        have SZ := put5_size wq g9 0 (.int .i64 b2.t.k) (.int .i64 b2.t.n) (.string b2.t.s) (.slice b2.A b2.t.l.length b2.c) (.slice b2.A' b2.t.m.length b2.c')
                        unfold put5 at BB SZ
                        have h9y := h9q
                        rw [← SZ] at h9y
                        clear SZ hblk
                        go_upto_region 15 with fail
                        generalize World.setCell (World.setCell (World.setCell (World.setCell (World.setCell _ _ _) _ _) _ _) _ _) _ _ = X at BZ BB h9y ⊢
                        clear p0 p1 p2 p3 p4 z0 z1 z2 z3 z4 f0 f1 f2 f3 f4
                        go_wp2
                        go_roundw
                        case rel => exact ⟨k + 2, b2, by go_num, by have := EV.out; have := hke.out; omega, Lib.hid (by have := hke.out; omega), BZ, Lib.hid EB.out.in_, h9y, BB, Lib.hid (by rw [← hS.out, NX.out, NE.out]; rfl)⟩
                        case measure => simp [intOf]; omega
                  · as_aux_lemma =>
                      obtain rfl : k = l.length := by have := EV.out; have := hke.out; omega
                      clear hke hkt hkl
                      have HSC : Hid (scan x.t (pairUp (l.drop (i + 2))) y.t = z.t) := Lib.hid (by rw [← hS.out, pair_end _ _ (by omega)]; rfl)
                      have HCZ : Hid (cmpV 12 v z.t = 0) := Lib.hid (by rw [← HSC.out]; exact HCV.out)
                      clear hS HCV HSC
                      have RN := Lib.hid (show Rnd w5 wr.heap.size d g5 g9 b off i c l M x z wr from ⟨hR.out, hR.out.size, Nat.le_refl _, h9x, ST.out.l5, ST.out.b5, hZ.out, ST.out.im, EX.out⟩)
                      generalize wr.heap.size = lo at RN h9x
                      clear hZ hR
                      generalize hvv : v = vv at HFV HOK HCZ
                      clear hvv
                      go_upto_region 18 with fail
                      go_cut [11, 12] (fun p q wy => Cut18 w5 g9 vv z p q wy)
                      case first =>
                          go_wp2_with fail
                          refine region_phase [0, 1, 2, 3, 4, 5, 6, 7, 8, 9] [8] y18D y18E 0 (fun w' => Rnd w5 lo d g5 g9 b off i c l M x z w') (saidOf [Is M.v, Is (.slice (some ⟨b, off, none⟩) l.length c), Is (.int .i64 (i : Int)), Is (.pointer (some ⟨b, off + i * 5, none⟩)), Is x.v, IsFnd vv, IsFnd vv, IsAt 13 vv, Is (.bool true), IsBox lo, fun _ _ => True, fun _ _ => True]) 154 rfl (by kernel_rfl) (by kernel_rfl) (fun _ _ h hb => h.next hb) (stays_said _ (stays_cons (Is.stays _) (stays_cons (Is.stays _) (stays_cons (Is.stays _) (stays_cons (Is.stays _) (stays_cons (Is.stays _) (stays_cons (IsFnd.stays _) (stays_cons (IsFnd.stays _) (stays_cons (IsAt.stays _ _) (stays_cons (Is.stays _) (stays_cons (IsBox.stays _) (stays_cons (fun _ _ _ _ _ => trivial) (stays_cons (fun _ _ _ _ _ => trivial) stays_nil))))))))))))) (RN.out.next (below_drewN _ _ 1)) (by kernel_rfl) ?_ ?_
                          · skip
                            refine owes_cons (Owes.mk (o := ({ dst := some 88, op := .load 24 (.tmp 5), type := 24, pos := "law.go:118", after := #[], guard := none } : Oper)) rfl (fun v wk hj hD K hK => ?_)) ?_
                            · simp only [y18D, y18E, putAll, Act.put, List.getD_cons_zero, List.setIfInBounds_toArray, List.set_cons_zero, List.set_cons_succ] at hK ⊢
                              obtain ⟨q0, q1, q2, q3, q4, _⟩ := hj.b5
                              go_simp
                              exact hK.out _ _ (Below.refl _ _) rfl
                            refine owes_cons (Owes.mk (o := ({ dst := some 89, op := .move (.tmp 0), type := 22, pos := "law.go:118", after := #[], guard := none } : Oper)) rfl (fun v wk hj hD K hK => ?_)) ?_
                            · simp only [y18D, y18E, putAll, Act.put, List.getD_cons_succ, List.getD_cons_zero, List.setIfInBounds_toArray, List.set_cons_zero, List.set_cons_succ] at hK ⊢
                              go_simp
                              exact hK.out _ _ (Below.refl _ _) rfl
                            refine owes_cons (Owes.mk (o := ({ dst := some 90, op := .move (.tmp 8), type := 3, pos := "law.go:118", after := #[], guard := none } : Oper)) rfl (fun v wk hj hD K hK => ?_)) ?_
                            · simp only [y18D, y18E, putAll, Act.put, List.getD_cons_succ, List.getD_cons_zero, List.setIfInBounds_toArray, List.set_cons_zero, List.set_cons_succ] at hK ⊢
                              go_simp
                              exact hK.out _ _ (Below.refl _ _) rfl
                            refine owes_cons (Owes.mk (o := ({ dst := some 91, op := .indexAddr 22 (.tmp 89) (.tmp 90), type := 0, pos := "law.go:118", after := #[{ on := 1, ground := .data }, { on := 2, ground := .data }], guard := none } : Oper)) rfl (fun v wk hj hD K hK => ?_)) ?_
                            · have h1 : v 1 = (.slice (some ⟨b, off, none⟩) l.length c) := hD 1 (by decide)
                              have h2 : v 2 = (.int .i64 (i : Int)) := hD 2 (by decide)
                              simp only [y18D, y18E, putAll, Act.put, List.getD_cons_succ, List.getD_cons_zero, List.setIfInBounds_toArray, List.set_cons_zero, List.set_cons_succ, h1, h2] at hK ⊢
                              go_simp
                              exact hK.out _ _ (Below.refl _ _) rfl
                            refine owes_cons (Owes.mk (o := ({ dst := some 92, op := .load 24 (.tmp 91), type := 24, pos := "law.go:118", after := #[{ on := 3, ground := .data }], guard := none } : Oper)) rfl (fun v wk hj hD K hK => ?_)) ?_
                            · have h3 : v 3 = (.pointer (some ⟨b, off + i * 5, none⟩)) := hD 3 (by decide)
                              simp only [y18D, y18E, putAll, Act.put, List.getD_cons_succ, List.getD_cons_zero, List.setIfInBounds_toArray, List.set_cons_zero, List.set_cons_succ, h3] at hK ⊢
                              obtain ⟨q0, q1, q2, q3, q4⟩ := hj.cx
                              go_simp
                              exact hK.out _ _ (Below.refl _ _) rfl
                            refine owes_cons (Owes.mk (o := ({ dst := some 93, op := .call { callee := .value (.func 24), args := #[.tmp 88, .tmp 92], argTypes := #[24, 24] }, type := 38, pos := "law.go:118", after := #[{ on := 0, ground := .data }, { on := 4, ground := .data }], guard := none } : Oper)) rfl (fun v wk hj hD K hK => ?_)) ?_
                            · have h0 : v 0 = M.v := hD 0 (by decide)
                              have h4 : v 4 = x.v := hD 4 (by decide)
                              simp only [y18D, y18E, putAll, Act.put, List.getD_cons_succ, List.getD_cons_zero, List.setIfInBounds_toArray, List.set_cons_zero, List.set_cons_succ, h0, h4] at hK ⊢
                              go_simp
                              refine (find_at _ (d + 14) M x (hj.im.up (by omega)) (hj.ix.up (by omega))).mono ?_
                              rintro e w2 ⟨q, rfl, hq, hin, hb⟩
                              rw [HFV.out] at hq ⊢
                              exact hK.out _ _ hb ⟨q, rfl, hq, hin⟩
                            refine owes_cons (Owes.mk (o := ({ dst := some 87, op := .move (.tmp 93), type := 38, pos := "law.go:118", after := #[{ on := 5, ground := .data }], guard := none } : Oper)) rfl (fun v wk hj hD K hK => ?_)) ?_
                            · obtain ⟨q5, h5, e5, r5⟩ : IsFnd vv (v 5) wk := hD 5 (by decide)
                              have E5 := Lib.hid e5
                              clear e5
                              simp only [y18D, y18E, putAll, Act.put, List.getD_cons_succ, List.getD_cons_zero, List.setIfInBounds_toArray, List.set_cons_zero, List.set_cons_succ, h5] at hK ⊢
                              go_simp
                              exact hK.out _ _ (Below.refl _ _) ⟨q5, rfl, E5.out, r5⟩
                            refine owes_cons (Owes.mk (o := ({ dst := some 94, op := .extract (.tmp 87) 0, type := 24, pos := "law.go:118", after := #[{ on := 6, ground := .data }], guard := none } : Oper)) rfl (fun v wk hj hD K hK => ?_)) ?_
                            · obtain ⟨q6, h6, e6, r6⟩ : IsFnd vv (v 6) wk := hD 6 (by decide)
                              have E6 := Lib.hid e6
                              clear e6
                              simp only [y18D, y18E, putAll, Act.put, List.getD_cons_succ, List.getD_cons_zero, List.setIfInBounds_toArray, List.set_cons_zero, List.set_cons_succ, h6] at hK ⊢
                              go_simp
                              exact hK.out _ _ (Below.refl _ _) ⟨q6, rfl, E6.out, r6⟩
                            refine owes_cons (Owes.mk (o := ({ dst := some 95, op := .extract (.tmp 87) 1, type := 4, pos := "law.go:118", after := #[{ on := 6, ground := .data }, { on := 10, ground := .gcOnly .lateStores }], guard := none } : Oper)) rfl (fun v wk hj hD K hK => ?_)) ?_
                            · obtain ⟨q6, h6, e6, r6⟩ : IsFnd vv (v 6) wk := hD 6 (by decide)
                              have E6 := Lib.hid e6
                              clear e6
                              simp only [y18D, y18E, putAll, Act.put, List.getD_cons_succ, List.getD_cons_zero, List.setIfInBounds_toArray, List.set_cons_zero, List.set_cons_succ, h6] at hK ⊢
                              go_simp
                              exact hK.out _ _ (Below.refl _ _) rfl
                            refine owes_cons (Owes.mk (o := ({ dst := some 11, op := .alloc 24, type := 0, pos := "law.go:118", after := #[], guard := none } : Oper)) rfl (fun v wk hj hD K hK => ?_)) ?_
                            · simp only [y18D, y18E, putAll, Act.put, List.getD_cons_succ, List.getD_cons_zero, List.setIfInBounds_toArray, List.set_cons_zero, List.set_cons_succ] at hK ⊢
                              go_simp
                              exact hK.out _ _ (below_new _ _) ⟨_, rfl, Cell.new _ _ _ _ _ _, hj.hlo⟩
                            exact owes_nil
                          · intro p v wf h1 h2 hj hr
                            by_cases hz : p 8 = true
                            · obtain rfl := marks_all h1 (fun m hm => by by_cases e : m = 8; rw [e]; exact hz; exact h2 m hm (by simpa using e))
                              obtain ⟨q7, h7, e7, r7⟩ : IsAt 13 vv (v 7) wf := hr 7 (by decide) (by decide)
                              have E7 := Lib.hid e7
                              clear e7
                              have h8 : v 8 = (.bool true) := hr 8 (by decide) (by decide)
                              obtain ⟨z9, h9, r9, l9⟩ : IsBox lo (v 9) wf := hr 9 (by decide) (by decide)
                              rw [show List.filter (fun k => [0, 1, 2, 3, 4, 5, 6, 7, 8, 9].contains k) [0, 1, 2, 3, 4, 5, 6, 7, 8, 9] = [0, 1, 2, 3, 4, 5, 6, 7, 8, 9] from rfl]
                              simp only [y18D, putAll, Act.put, List.getD_cons_succ, List.getD_cons_zero, List.setIfInBounds_toArray, List.set_cons_zero, List.set_cons_succ, h7, h8, h9]
                              obtain ⟨q0, q1, q2, q3, q4, p0, p1, p2, p3, p4, _⟩ := id r9
                              refine anyN_any (S := fun _ => True) (N := []) _ _ _ _ ?_
                              refine anyN_one (i := 10) (o := ({ dst := none, op := .store 24 (.tmp 11) (.tmp 94), type := 0, pos := "law.go:118", after := #[{ on := 9, ground := .data }, { on := 7, ground := .data }, { on := 5, ground := .chain }, { on := 0, ground := .phase }, { on := 1, ground := .phase }, { on := 2, ground := .phase }, { on := 3, ground := .phase }, { on := 4, ground := .phase }, { on := 5, ground := .phase }, { on := 6, ground := .phase }, { on := 7, ground := .phase }, { on := 8, ground := .textOnly .lateStores }, { on := 9, ground := .phase }], guard := none } : Oper)) (by kernel_rfl) rfl (fun K hK => ?_)
                              go_simp
                              refine hK.out _ _ (fun _ => trivial) ?_
                              clear hK K
                              try simp only [Act.put, List.setIfInBounds_toArray, List.set_cons_zero, List.set_cons_succ]
                              refine anyN_one (i := 11) (o := ({ dst := some 12, op := .assign (.tmp 95), type := 4, pos := "law.go:118", after := #[{ on := 8, ground := .data }, { on := 10, ground := .chain }, { on := 0, ground := .phase }, { on := 1, ground := .phase }, { on := 2, ground := .phase }, { on := 3, ground := .phase }, { on := 4, ground := .phase }, { on := 5, ground := .phase }, { on := 6, ground := .phase }, { on := 7, ground := .phase }, { on := 8, ground := .phase }, { on := 9, ground := .phase }, { on := 10, ground := .phase }], guard := none } : Oper)) (by kernel_rfl) rfl (fun K hK => ?_)
                              go_simp
                              refine hK.out _ _ (fun _ => trivial) ?_
                              clear hK K
                              try simp only [Act.put, List.setIfInBounds_toArray, List.set_cons_zero, List.set_cons_succ]
                              refine anyN_done (by kernel_rfl) ?_ _
                              go_wp2_with fail
                              go_meet
                              exact cut18_fin HOK.out hj l9 r9 r7 E7.out
                            · obtain rfl := but_one 8 h1 (fun m hm hne => h2 m hm (by simpa using hne)) (by simpa using hz)
                              obtain ⟨q7, h7, e7, r7⟩ : IsAt 13 vv (v 7) wf := hr 7 (by decide) (by decide)
                              have E7 := Lib.hid e7
                              clear e7
                              obtain ⟨z9, h9, r9, l9⟩ : IsBox lo (v 9) wf := hr 9 (by decide) (by decide)
                              obtain ⟨q6, h6, e6, r6⟩ : IsFnd vv (v 6) wf := hr 6 (by decide) (by decide)
                              have E6 := Lib.hid e6
                              clear e6
                              rw [show List.filter (fun k => [0, 1, 2, 3, 4, 5, 6, 7, 8, 9].contains k && k != 8) [0, 1, 2, 3, 4, 5, 6, 7, 8, 9] = [0, 1, 2, 3, 4, 5, 6, 7, 9] from rfl]
                              simp only [y18D, putAll, Act.put, List.getD_cons_succ, List.getD_cons_zero, List.setIfInBounds_toArray, List.set_cons_zero, List.set_cons_succ, h7, h9, h6]
                              obtain ⟨q0, q1, q2, q3, q4, p0, p1, p2, p3, p4, _⟩ := id r9
                              refine anyN_any (S := fun _ => True) (N := []) _ _ _ _ ?_
                              refine anyN_take (i := 8) (oi := ({ dst := some 95, op := .extract (.tmp 87) 1, type := 4, pos := "law.go:118", after := #[{ on := 6, ground := .data }, { on := 10, ground := .gcOnly .lateStores }], guard := none } : Oper)) (v := .bool true) [] rfl (by kernel_rfl) (by kernel_rfl) (by kernel_rfl) (by kernel_rfl) (fun _ _ _ h => h) (by rfl) (by intro _ _; go_simp) trivial ?_
                              try simp only [Act.put, List.setIfInBounds_toArray, List.set_cons_zero, List.set_cons_succ]
                              refine anyN_one (i := 10) (o := ({ dst := none, op := .store 24 (.tmp 11) (.tmp 94), type := 0, pos := "law.go:118", after := #[{ on := 9, ground := .data }, { on := 7, ground := .data }, { on := 5, ground := .chain }, { on := 0, ground := .phase }, { on := 1, ground := .phase }, { on := 2, ground := .phase }, { on := 3, ground := .phase }, { on := 4, ground := .phase }, { on := 5, ground := .phase }, { on := 6, ground := .phase }, { on := 7, ground := .phase }, { on := 8, ground := .textOnly .lateStores }, { on := 9, ground := .phase }], guard := none } : Oper)) (by kernel_rfl) rfl (fun K hK => ?_)
                              go_simp
                              refine hK.out _ _ (fun _ => trivial) ?_
                              clear hK K
                              try simp only [Act.put, List.setIfInBounds_toArray, List.set_cons_zero, List.set_cons_succ]
                              refine anyN_one (i := 11) (o := ({ dst := some 12, op := .assign (.tmp 95), type := 4, pos := "law.go:118", after := #[{ on := 8, ground := .data }, { on := 10, ground := .chain }, { on := 0, ground := .phase }, { on := 1, ground := .phase }, { on := 2, ground := .phase }, { on := 3, ground := .phase }, { on := 4, ground := .phase }, { on := 5, ground := .phase }, { on := 6, ground := .phase }, { on := 7, ground := .phase }, { on := 8, ground := .phase }, { on := 9, ground := .phase }, { on := 10, ground := .phase }], guard := none } : Oper)) (by kernel_rfl) rfl (fun K hK => ?_)
                              go_simp
                              refine hK.out _ _ (fun _ => trivial) ?_
                              clear hK K
                              try simp only [Act.put, List.setIfInBounds_toArray, List.set_cons_zero, List.set_cons_succ]
                              refine anyN_done (by kernel_rfl) ?_ _
                              go_wp2_with fail
                              go_meet
                              exact cut18_fin HOK.out hj l9 r9 r7 E7.out
                      case rest =>
                        obtain ⟨g11, q, rfl, rfl, hbq, hqt, hqi, hbz, hbe⟩ := hcut
                        have BQ := Lib.hid hbq
                        have BZ := Lib.hid hbz
                        have BE := Lib.hid hbe
                        have QI := Lib.hid hqi
                        have QS : (cmpV 12 q.t z.t == 0) = true := by rw [hqt, HCZ.out]; rfl
                        clear hbq hqt hqi hbz hbe RN HFV HOK HCZ
                        obtain ⟨q0, q1, q2, q3, q4, _⟩ := BQ.out
                        obtain ⟨p0, p1, p2, p3, p4, _⟩ := BZ.out
                        go_wp2_with fail
                        refine (same_two wc 13 d q z QI.out (hzi.out.next BE.out)).mono ?_
                        rintro e w7 ⟨rfl, hb7⟩
                        rw [QS]
                        have B7 := Lib.hid (bnext BE.out hb7)
                        clear q0 q1 q2 q3 q4 p0 p1 p2 p3 p4 hb7 QS BQ BZ BE QI
                        obtain ⟨q0, q1, q2, q3, q4⟩ := EX.out.now B7.out
                        obtain ⟨p0, p1, p2, p3, p4, _⟩ := ST.out.b3.next B7.out
                        have cQ := Lib.hid (same_grown (EX.out.into B7.out) (ST.out.ik.next B7.out))
                        replace q0 := cell_regrown q0
                        replace p0 := cell_regrown p0
                        replace q1 := cell_regrown q1
                        replace p1 := cell_regrown p1
                        replace q2 := cell_regrown q2
                        replace p2 := cell_regrown p2
                        replace q3 := cell_regrown q3
                        replace p3 := cell_regrown p3
                        replace q4 := cell_regrown q4
                        replace p4 := cell_regrown p4
                        have NXC := Lib.hid (pairUp_next l i EX.out.get EY.out.get)
                        go_upto_region 21 with fail
                        cases came
                        · go_wp2_with fail
                          refine wp_region_quiet_below (by kernel_rfl) (by kernel_rfl) ?_
                          repeat (first | go_big_quiet_step (exact cQ.out _ _) | quiet_step (exact cQ.out _ _))
                          refine wpQuiet_nil ?_
                          intro _ hw'
                          obtain ⟨⟨dq, osq⟩, hw''⟩ := hw'
                          subst hw''
                          have HNX := Lib.hid (below_regrown w7 dq osq)
                          generalize grow (redrawn w7 dq) osq = wq at HNX
                          have HR := Lib.hid (bnext B7.out HNX.out)
                          clear q0 q1 q2 q3 q4 p0 p1 p2 p3 p4 cQ HNX
                          go_wp2
                          go_roundw
                          case rel => exact ⟨i + 2, _, rfl, by go_num, by have := EV.out; have := hie.out; omega, Lib.hid (by have := hie.out; omega), HR, Lib.hid ⟨Q ++ [(x.t, y.t)], by rw [HQ.out, NXC.out]; simp⟩, Lib.hid (by rw [← hC.out, NXC.out]; rfl)⟩
                          case measure => simp [intOf]; omega
                        · go_wp2_with fail
                          refine wp_region_quiet_below (by kernel_rfl) (by kernel_rfl) ?_
                          repeat (first | go_big_quiet_step (exact cQ.out _ _) | quiet_step (exact cQ.out _ _))
                          refine wpQuiet_nil ?_
                          intro _ hw'
                          obtain ⟨⟨dq, osq⟩, hw''⟩ := hw'
                          subst hw''
                          have HNX := Lib.hid (below_regrown w7 dq osq)
                          generalize grow (redrawn w7 dq) osq = wq at HNX
                          have HR := Lib.hid (bnext B7.out HNX.out)
                          clear q0 q1 q2 q3 q4 p0 p1 p2 p3 p4 cQ HNX
                          go_wp2
                          go_roundw
                          case rel => exact ⟨i + 2, _, rfl, by go_num, by have := EV.out; have := hie.out; omega, Lib.hid (by have := hie.out; omega), HR, Lib.hid ⟨Q ++ [(x.t, y.t)], by rw [HQ.out, NXC.out]; simp⟩, Lib.hid (by rw [← hC.out, NXC.out]; simp)⟩
                          case measure => simp [intOf]; omega
            · obtain rfl : i = l.length := by have := EV.out; have := hie.out; omega
              have CM := Lib.hid (show came = (findV M.t key.t).isSome by rw [came_of KO.out, ← hC.out, pair_end _ _ (by omega)]; simp)
              clear hQ hC hie hlt
              as_aux_lemma =>
                obtain ⟨q0, q1, q2, q3, q4, _⟩ := ST.out.b5.next hR.out
                obtain ⟨p0, p1, p2, p3, p4, _⟩ := ST.out.b3.next hR.out
                go_wp2_with fail
                refine (find_at wr (d + 14) M key ((ST.out.im.next hR.out).up (by omega)) ((ST.out.ik.next hR.out).up (by omega))).mono ?_
                rintro e w7 ⟨q, rfl, -, -, hb7⟩
                rw [← CM.out]
                have nw := below_new w7 (.cells #[.int .i64 q.t.k, .int .i64 q.t.n, .string q.t.s, .slice q.A q.t.l.length q.c, .slice q.A' q.t.m.length q.c'] 24)
                have B7 := Lib.hid (bnext (bnext hR.out hb7) nw)
                clear q0 q1 q2 q3 q4 p0 p1 p2 p3 p4 hb7 nw CM hR
                go_upto_region 23 with fail
                generalize World.alloc w7 _ = W8 at B7
                go_wp2_with fail
                go_loopw [15] (fun vj wx => ∃ (j : Nat), vj = .int .i64 j ∧ 1 ≤ j ∧ Hid (Below w5.heap.size w5 wx)) (fun vj _ => M.t.l.length - (intOf vj).toNat)
                case atStart => exact ⟨1, by go_num, by omega, B7⟩
                case round =>
                  obtain ⟨j, rfl, hj1, hR⟩ := hrel
                  clear B7
                  obtain ⟨q0, q1, q2, q3, q4, _⟩ := ST.out.b5.next hR.out
                  by_cases hjt : j < M.t.l.length
                  · as_aux_lemma =>
                      obtain ⟨jp, rfl⟩ : ∃ jp, j = jp + 1 := ⟨j - 1, by omega⟩
                      obtain ⟨b, off, a, hA, ea⟩ := el_of ST.out.im.2.1 (show jp < M.t.l.length by omega)
                      obtain ⟨b', off', a2, hA2, ea2⟩ := el_of ST.out.im.2.1 hjt
                      rw [hA] at hA2 q3
                      injection hA2 with hA2
                      injection hA2 with e1 e2
                      subst e1 e2
                      have RS := KO.out.rises jp a.t a2.t ea.get ea2.get
                      have r1 : decide (0 ≤ cmpV 12 a.t a2.t) = false := decide_eq_false (by omega)
                      have r2 : ¬ 0 ≤ cmpV 12 a.t a2.t := by omega
                      have HA := Lib.hid hA
                      clear hA RS
                      obtain ⟨p0, p1, p2, p3, p4⟩ := ea.now hR.out
                      obtain ⟨s0, s1, s2, s3, s4⟩ := ea2.now hR.out
                      have cQ := Lib.hid (cmp_grown (ea.into hR.out) (ea2.into hR.out))
                      clear ea ea2
                      replace p0 := cell_regrown p0
                      replace s0 := cell_regrown s0
                      replace p1 := cell_regrown p1
                      replace s1 := cell_regrown s1
                      replace p2 := cell_regrown p2
                      replace s2 := cell_regrown s2
                      replace p3 := cell_regrown p3
                      replace s3 := cell_regrown s3
                      replace p4 := cell_regrown p4
                      replace s4 := cell_regrown s4
                      have j1 : IntKind.i64.wrap (jp : Int) = (jp : Int) := IntWalk.i64_in _ (by omega)
                      have j2 : (jp : Int) + 1 < (M.t.l.length : Int) := by omega
                      have j3 : (jp : Int) < (M.t.l.length : Int) := by omega
                      have j4 : (0 : Int) ≤ (jp : Int) + 1 := by omega
                      have j5 : ((jp : Int) + 1).toNat = jp + 1 := by omega
                      clear q0 q1 q2 q4
                      go_upto_region 26 with fail
                      replace q3 := cell_regrown q3
                      go_wp2_with fail
                      refine wp_region_quiet_below (by kernel_rfl) (by kernel_rfl) ?_
                      repeat (first | go_big_quiet_step (exact cQ.out _ _) | quiet_step (exact cQ.out _ _))
                      refine wpQuiet_nil ?_
                      intro _ hw'
                      obtain ⟨⟨dq, osq⟩, hw''⟩ := hw'
                      subst hw''
                      have HNX := Lib.hid (below_regrown wr dq osq)
                      generalize grow (redrawn wr dq) osq = wq at HNX
                      have HR := Lib.hid (bnext hR.out HNX.out)
                      clear p0 p1 p2 p3 p4 s0 s1 s2 s3 s4 q3 cQ HNX j1
                      go_wp2
                      go_roundw
                      case rel => exact ⟨jp + 1 + 1, by go_num, by omega, HR⟩
                      case measure => simp [intOf]; omega
                  · as_aux_lemma =>
                      have LE := Lib.hid KO.out.len
                      rw [← LE.out] at q4
                      go_wp2_with fail
                      refine (known_any _).mono ?_
                      rintro e w9 ⟨rfl, hb9⟩
                      go_wp2
                      go_ret
                      exact ⟨by rfl, ST.out.bel.trans ((bnext hR.out hb9).mono ST.out.bel.size)⟩
      · have hlz : ¬ (l.length : Int) ≤ 60 := by omega
        go_wp2_with fail
        refine (known_any _).mono ?_
        rintro e w3 ⟨rfl, hb3⟩
        go_wp2
        go_ret
        exact ⟨rfl, bnext B2.out hb3⟩
    · go_wp2_with fail
      refine (known_any _).mono ?_
      rintro e w3 ⟨rfl, hb3⟩
      go_wp2
      go_ret
      exact ⟨rfl, bnext B2.out hb3⟩
  · go_wp2_with fail
    refine (known_any _).mono ?_
    rintro e w2 ⟨rfl, hb2⟩
    go_wp2
    go_ret
    exact ⟨rfl, bnext B1.out hb2⟩
end Go.Proofs.Ytdolejafihgpmaa
