/- Contracts of the document's copied and Copy. -/
import Derived.Test.YtdolejafihgpmaaRo
import Derived.Test.YtdolejafihgpmaaOrd
namespace Go.Proofs.Ytdolejafihgpmaa
open Go.RowKit Go.Sort
attribute [local go_sem ↓] Go.wp_at_zero Go.wp_at_succ

def CopiedPost (w : World) (d : Nat) (t : V) (e : Ending) (w' : World) : Prop := ∃ q : At, q.t = t ∧ e = .returned q.v ∧ Rd w' w.heap.size w'.heap.size d q.t q.A q.c q.A' q.c' ∧ Below w.heap.size w w'
def RCopied (r : Nat) : Prop := ∀ (w : World) (d : Nat) (x : At) (lev : Int), lev = 13 - r → r ≤ 12 → x.In w d → Calls Try.prog 39 #[x.v, .int .i64 lev] w (CopiedPost w (r + 1) (copyV r x.t))
theorem rd_grow {a b : World} {lo d : Nat} {q : At} (h : Rd a lo a.heap.size d q.t q.A q.c q.A' q.c') (hb : Below a.heap.size a b) : Rd b lo b.heap.size d q.t q.A q.c q.A' q.c' :=
  Rd.imp (Kept.of_below hb (Nat.le_refl _)) (Nat.le_refl _) hb.size (Nat.le_refl _) h
def IsCop (lo r : Nat) (t : V) : Value → World → Prop := fun x w => ∃ q : At, x = q.v ∧ q.t = t ∧ Rd w lo w.heap.size (r + 1) q.t q.A q.c q.A' q.c'
theorem IsCop.stays (lo r : Nat) (t : V) : Stays (IsCop lo r t) := fun _ _ _ ⟨q, e, h, hr⟩ hb => ⟨q, e, h, rd_grow hr hb⟩
def IsOne (lo r : Nat) (t : V) : Value → World → Prop := fun x w => ∃ (g : Nat) (q : At), x = .slice (some ⟨g, 0, none⟩) 1 1 ∧ q.t = t ∧ Rd w lo w.heap.size (r + 1) q.t q.A q.c q.A' q.c' ∧ (∀ j u, q.pr.kc[j]? = some u → w.cell? ((⟨g, 0, none⟩ : Addr).add j) = some u) ∧ g < w.heap.size
theorem IsOne.stays (lo r : Nat) (t : V) : Stays (IsOne lo r t) := fun _ _ _ ⟨g, q, e, h, hr, hn, hg⟩ hb => ⟨g, q, e, h, rd_grow hr hb, fun j u hj => by
  have := hn j u hj
  have ad : (⟨g, 0, none⟩ : Addr).add j = ⟨g, j, none⟩ := by unfold Addr.add; split <;> simp_all
  rw [ad] at this ⊢
  exact (hb.cell (p := ⟨g, j, none⟩) hg).trans this, Nat.lt_of_lt_of_le hg hb.size⟩

def p5D : Nat → Tmp := fun j => [26, 27, 28, 29, 30, 31, 32, 33, 34, 35, 36, 37, 38, 0].getD j 0
def p5E : Nat → List Nat := fun j => [[], [0], [], [2], [], [3, 4], [5], [], [7], [6, 8], [9], [], [], []].getD j []
def p9D : Nat → Tmp := fun j => [50, 51, 52, 53, 54, 55, 56, 57, 58, 59, 60, 61, 62, 0].getD j 0
def p9E : Nat → List Nat := fun j => [[], [0], [], [2], [], [3, 4], [5], [], [7], [6, 8], [9], [], [], []].getD j []

theorem Cpy.start (w : World) (d : Nat) (x : At) (W : World) (hW : ((w.alloc (.cells #[.int .i64 x.t.k, .int .i64 x.t.n, .string x.t.s, .slice x.A x.t.l.length x.c, .slice x.A' x.t.m.length x.c'] 24)).alloc (.cells #[.int .i64 0, .int .i64 0, .string ⟨#[]⟩, .slice none 0 0, .slice none 0 0] 24)).alloc (.cells #[.int .i64 x.t.k, .int .i64 x.t.n, .string x.t.s, .slice none 0 0, .slice none 0 0] 24) = W) :
    Cpy w W d w.heap.size (w.heap.size + 1) (w.heap.size + 1 + 1) x [] [] none 0 none 0 := by
  obtain ⟨k1, k2, k3, hz, hb⟩ := cells3 _ _ _ _ _ _ _ _ _ _ _ _ _ _ _ _ _ hW
  exact ⟨hb, Nat.le_refl _, by omega, by omega, by omega, k1, k2.blk, k3, VG.nil _ _ _, VG.nil _ _ _, (fun b h => by cases h), (by simp)⟩

theorem cpy_end {w wr : World} {d g2 r0 gx : Nat} {x : At} {accL accM : List At} {AL : Option Addr} {cL : Nat} {AM : Option Addr} {cM : Nat} {t' : V} (hC : Cpy w wr d g2 r0 gx x accL accM AL cL AM cM) (ht : t' = .mk x.t.k x.t.n x.t.s (accL.map (·.t)) (accM.map (·.t))) (hf : Fld x.t) (b1 : accL.length ≤ 1759218604441) (b2 : accM.length ≤ 1759218604441)
    (F : World) (hk : ∀ lo B, r0 < lo → Kept lo B wr F) (hs : F.heap.size = wr.heap.size) (hbel : ∀ B w0, B ≤ r0 → Below B w0 wr → Below B w0 F) :
    CopiedPost w (d + 1) t' (.returned (.agg #[.int .i64 x.t.k, .int .i64 x.t.n, .string x.t.s, .slice AL accL.length cL, .slice AM accM.length cM])) F := by
  have hb0 := hbel r0 wr (Nat.le_refl _) (Below.refl _ _)
  have far : ∀ k, k ≠ r0 → F.heap[k]? = wr.heap[k]? := fun k hk0 => by
    rcases Nat.lt_or_ge k r0 with h | h
    · exact hb0.block k h
    · exact hk (r0 + 1) (k + 1) (by omega) k (by omega) (by omega)
  have l0 := hC.l0
  have l2 := hC.l2
  have lo := hC.lo
  have st : ∀ q ∈ accL ++ accM, Rd F w.heap.size F.heap.size d q.t q.A q.c q.A' q.c' := fun q hq => hC.st q hq F (by omega) (fun k _ _ hn => far k (fun e => hn (.inr (.inl e))))
  have vl := hC.vl.keep (w' := F) (fun b _ h1 _ => far b (by omega))
  have vm := hC.vm.keep (w' := F) (fun b _ h1 _ => far b (by omega))
  have rl := grown_rd (lo := w.heap.size) vl (by omega) b1 (fun q hq => st q (List.mem_append_left _ hq))
  have rm := grown_rd (lo := w.heap.size) vm (by omega) b2 (fun q hq => st q (List.mem_append_right _ hq))
  refine ⟨⟨t', AL, cL, AM, cM⟩, rfl, ?_, ?_, hbel _ _ (by omega) hC.bel⟩
  · subst ht
    simp [V.k, V.n, V.s, V.l, V.m]
  · subst ht
    exact ⟨⟨hf.k0, hf.k1, hf.n0, hf.n1, hf.s1⟩, rl, rm⟩

set_option maxHeartbeats 1600000 in
theorem rcopied_zero : RCopied 0 := by
  intro w d x lev hlev _ hx
  have hl : 12 < lev := by omega
  obtain ⟨d', rfl⟩ := hx.pos
  have RF := Lib.hid hx.1
  have hbig := hx.2.1.big
  have hbig2 := hx.2.2.big
  clear hlev hx
  go_enter Try.func39, Try.ntmps39
  go_upto_region 2 with fail
  generalize hW : World.alloc (World.alloc (World.alloc _ _) _) _ = W
  have C0 := Lib.hid (Cpy.start w 0 x W hW)
  clear hW
  generalize w.heap.size + 1 + 1 = gx at C0
  generalize w.heap.size + 1 = r0 at C0
  generalize hg2 : w.heap.size = g2 at C0
  clear hg2
  have FIN := Lib.hid (fun F => cpy_end (t' := copyV 0 x.t) C0.out rfl RF.out (by simp) (by simp) F)
  obtain ⟨b0, b1, b2, b3, b4, _⟩ := C0.out.bx
  go_wp2_with fail
  go_loopw [6] (fun u wr => u = .int .i64 0 ∧ W = wr) (fun _ _ => 0)
  case atStart => exact ⟨rfl, rfl⟩
  case round =>
    obtain ⟨rfl, rfl⟩ := hrel
    by_cases h0 : 0 < x.t.l.length
    all_goals
      go_wp2_with fail
      go_loopw [7] (fun u wr => u = .int .i64 0 ∧ W = wr) (fun _ _ => 0)
      case atStart => exact ⟨rfl, rfl⟩
      case round =>
        obtain ⟨rfl, rfl⟩ := hrel
        by_cases h1 : 0 < x.t.m.length
        all_goals
          obtain ⟨e0, e1, e2, e3, e4, _⟩ := C0.out.box
          have HR := Lib.hid (ret_box C0.out.res (.int .i64 x.t.k) (.int .i64 x.t.n) (.string x.t.s) (.slice none 0 0) (.slice none 0 0))
          have RES := Lib.hid C0.out.res
          obtain ⟨u0, hu0⟩ := RES.out.cell (i := 0) (by omega)
          obtain ⟨u1, hu1⟩ := RES.out.cell (i := 1) (by omega)
          obtain ⟨u2, hu2⟩ := RES.out.cell (i := 2) (by omega)
          obtain ⟨u3, hu3⟩ := RES.out.cell (i := 3) (by omega)
          obtain ⟨u4, hu4⟩ := RES.out.cell (i := 4) (by omega)
          have z0 := RES.out.frozen 0
          have z1 := RES.out.frozen 1
          have z2 := RES.out.frozen 2
          have z3 := RES.out.frozen 3
          have z4 := RES.out.frozen 4
          go_wp2
          obtain ⟨F, hF, ⟨r0', r1', r2', r3', r4', _⟩, hk', hs', hbel'⟩ := HR.out
          rw [← hF]
          clear hF
          exact bodyPost_ret (v := .agg #[.int .i64 x.t.k, .int .i64 x.t.n, .string x.t.s, .slice none 0 0, .slice none 0 0]) (by simp [results, Try.results39, go_sem, r0', r1', r2', r3', r4']) rfl (FIN.out F hk' hs' hbel')

set_option maxHeartbeats 8000000 in
set_option maxRecDepth 100000 in
theorem rcopied_succ (r : Nat) (ih : RCopied r) : RCopied (r + 1) := by
  intro w d x lev hlev hr hx
  have hl : lev ≤ 12 := by omega
  have hl0 : 0 ≤ lev := by omega
  have HL := Lib.hid (show lev + 1 = 13 - r by omega)
  obtain ⟨d', rfl⟩ := hx.pos
  have HX := Lib.hid hx
  have IH := Lib.hid ih
  have hbig := hx.2.1.big
  have hbig2 := hx.2.2.big
  clear hlev hx ih
  have i3 : IntKind.i64.wrap (lev + 1) = lev + 1 := IntWalk.i64_in _ (by omega)
  go_enter Try.func39, Try.ntmps39
  go_upto_region 2 with fail
  generalize hW : World.alloc (World.alloc (World.alloc _ _) _) _ = W
  have C0 := Lib.hid (Cpy.start w (r + 1) x W hW)
  clear hW
  generalize w.heap.size + 1 + 1 = gx at C0
  generalize w.heap.size + 1 = r0 at C0
  generalize hg2 : w.heap.size = g2 at C0
  clear hg2
  go_wp2_with fail
  go_loopw [6] (fun i wr => ∃ (k : Nat) (accL : List At) (AL : Option Addr) (cL : Nat), k ≤ x.t.l.length ∧ i = .int .i64 k ∧ Hid (accL.map (·.t) = (x.t.l.take k).map (copyV r)) ∧ Hid (accL.length = k) ∧ Hid (Cpy w wr (r + 1) g2 r0 gx x accL [] AL cL none 0)) (fun i _ => x.t.l.length - (intOf i).toNat)
  case atStart => exact ⟨0, [], none, 0, by omega, rfl, Lib.hid (by simp), Lib.hid rfl, C0⟩
  case round =>
    obtain ⟨k, accL, AL, cL, hk, rfl, HTS, HLEN, HC⟩ := hrel
    obtain ⟨b0, b1, b2, b3, b4, _⟩ := HC.out.bx
    by_cases hlt : k < x.t.l.length
    · obtain ⟨b, off, t, A1, c1, A2, c2, hA, _, hbl, ht, qq, rd⟩ := (HX.out.2.1.next HC.out.bel).elem hlt
      obtain ⟨y, hy⟩ : ∃ y : At, y = ⟨t, A1, c1, A2, c2⟩ := ⟨_, rfl⟩
      have CY : Hid (cells5 wr b (off + k * 5) y.t y.A y.c y.A' y.c') := Lib.hid (by rw [hy]; exact qq)
      have IY : Hid (y.In wr d') := Lib.hid (by rw [hy]; exact rd)
      have TY := Lib.hid (show x.t.l[k]? = some y.t by rw [hy]; exact ht)
      have EA := Lib.hid hA
      clear qq rd ht hy hA
      have k0 : (0 : Int) ≤ (k : Int) := by omega
      have k1 : (k : Int) < (x.t.l.length : Int) := by omega
      go_wp2_with fail
      clear b0 b1 b2 b3 b4
      refine region_phase [0, 1, 2, 3, 4, 5, 6, 7, 8, 9, 10] [] p5D p5E 4 (fun w' => Below wr.heap.size wr w') (saidOf [Is (.pointer (some ⟨gx, 3, none⟩)), Is (.slice AL accL.length cL), Is (.pointer (some ⟨g2, 3, none⟩)), Is (.slice (some ⟨b, off, none⟩) x.t.l.length x.c), Is (.int .i64 ((k : Int))), Is (.pointer (some ⟨b, off + k * 5, none⟩)), Is y.v, Is (.int .i64 (lev)), Is (.int .i64 (lev + 1)), IsCop wr.heap.size r (copyV r y.t), IsOne wr.heap.size r (copyV r y.t), fun _ _ => True, fun _ _ => True, fun _ _ => True]) 64 rfl (by kernel_rfl) (by kernel_rfl) (fun _ _ h hb => bnext h hb) (stays_said _ (stays_cons (Is.stays _) (stays_cons (Is.stays _) (stays_cons (Is.stays _) (stays_cons (Is.stays _) (stays_cons (Is.stays _) (stays_cons (Is.stays _) (stays_cons (Is.stays _) (stays_cons (Is.stays _) (stays_cons (Is.stays _) (stays_cons (IsCop.stays _ _ _) (stays_cons (IsOne.stays _ _ _) (stays_cons (fun _ _ _ _ _ => trivial) (stays_cons (fun _ _ _ _ _ => trivial) (stays_cons (fun _ _ _ _ _ => trivial) stays_nil))))))))))))))) (below_drewN _ _ 1) (by kernel_rfl) ?_ ?_
      · skip
        refine owes_cons (Owes.mk (o := ({ dst := some 26, op := .fieldAddr 24 (.tmp 5) 3, type := 0, pos := "ref.go:91", after := #[], guard := none } : Oper)) rfl (fun v wk hj hD K hK => ?_)) ?_
        · simp only [p5D, p5E, putAll, Act.put, List.getD_cons_zero, List.setIfInBounds_toArray, List.set_cons_zero, List.set_cons_succ] at hK ⊢
          go_simp
          exact hK.out _ _ (Below.refl _ _) rfl
        refine owes_cons (Owes.mk (o := ({ dst := some 27, op := .load 22 (.tmp 26), type := 22, pos := "ref.go:91", after := #[{ on := 0, ground := .data }], guard := none } : Oper)) rfl (fun v wk hj hD K hK => ?_)) ?_
        · have h0 : v 0 = (.pointer (some ⟨gx, 3, none⟩)) := hD 0 (by decide)
          simp only [p5D, p5E, putAll, Act.put, List.getD_cons_succ, List.getD_cons_zero, List.setIfInBounds_toArray, List.set_cons_zero, List.set_cons_succ, h0] at hK ⊢
          obtain ⟨q0, q1, q2, q3, q4, _⟩ := (HC.out.next hj).box
          go_simp
          exact hK.out _ _ (Below.refl _ _) rfl
        refine owes_cons (Owes.mk (o := ({ dst := some 28, op := .fieldAddr 24 (.tmp 2) 3, type := 0, pos := "ref.go:91", after := #[], guard := none } : Oper)) rfl (fun v wk hj hD K hK => ?_)) ?_
        · simp only [p5D, p5E, putAll, Act.put, List.getD_cons_succ, List.getD_cons_zero, List.setIfInBounds_toArray, List.set_cons_zero, List.set_cons_succ] at hK ⊢
          go_simp
          exact hK.out _ _ (Below.refl _ _) rfl
        refine owes_cons (Owes.mk (o := ({ dst := some 29, op := .load 22 (.tmp 28), type := 22, pos := "ref.go:91", after := #[{ on := 2, ground := .data }], guard := none } : Oper)) rfl (fun v wk hj hD K hK => ?_)) ?_
        · have h2 : v 2 = (.pointer (some ⟨g2, 3, none⟩)) := hD 2 (by decide)
          simp only [p5D, p5E, putAll, Act.put, List.getD_cons_succ, List.getD_cons_zero, List.setIfInBounds_toArray, List.set_cons_zero, List.set_cons_succ, h2] at hK ⊢
          obtain ⟨q0, q1, q2, q3, q4, _⟩ := (HC.out.next hj).bx
          rw [EA.out] at q3
          go_simp
          exact hK.out _ _ (Below.refl _ _) rfl
        refine owes_cons (Owes.mk (o := ({ dst := some 30, op := .move (.tmp 6), type := 3, pos := "ref.go:91", after := #[], guard := none } : Oper)) rfl (fun v wk hj hD K hK => ?_)) ?_
        · simp only [p5D, p5E, putAll, Act.put, List.getD_cons_succ, List.getD_cons_zero, List.setIfInBounds_toArray, List.set_cons_zero, List.set_cons_succ] at hK ⊢
          go_simp
          exact hK.out _ _ (Below.refl _ _) rfl
        refine owes_cons (Owes.mk (o := ({ dst := some 31, op := .indexAddr 22 (.tmp 29) (.tmp 30), type := 0, pos := "ref.go:91", after := #[{ on := 3, ground := .data }, { on := 4, ground := .data }], guard := none } : Oper)) rfl (fun v wk hj hD K hK => ?_)) ?_
        · have h3 : v 3 = (.slice (some ⟨b, off, none⟩) x.t.l.length x.c) := hD 3 (by decide)
          have h4 : v 4 = (.int .i64 ((k : Int))) := hD 4 (by decide)
          simp only [p5D, p5E, putAll, Act.put, List.getD_cons_succ, List.getD_cons_zero, List.setIfInBounds_toArray, List.set_cons_zero, List.set_cons_succ, h3, h4] at hK ⊢
          go_simp
          exact hK.out _ _ (Below.refl _ _) rfl
        refine owes_cons (Owes.mk (o := ({ dst := some 32, op := .load 24 (.tmp 31), type := 24, pos := "ref.go:91", after := #[{ on := 5, ground := .data }], guard := none } : Oper)) rfl (fun v wk hj hD K hK => ?_)) ?_
        · have h5 : v 5 = (.pointer (some ⟨b, off + k * 5, none⟩)) := hD 5 (by decide)
          simp only [p5D, p5E, putAll, Act.put, List.getD_cons_succ, List.getD_cons_zero, List.setIfInBounds_toArray, List.set_cons_zero, List.set_cons_succ, h5] at hK ⊢
          obtain ⟨q0, q1, q2, q3, q4⟩ := CY.out.keep (lo := 0) (Kept.of_below hj (Nat.le_refl _)) (Nat.zero_le _) hbl
          go_simp
          exact hK.out _ _ (Below.refl _ _) rfl
        refine owes_cons (Owes.mk (o := ({ dst := some 33, op := .move (.tmp 1), type := 3, pos := "ref.go:91", after := #[], guard := none } : Oper)) rfl (fun v wk hj hD K hK => ?_)) ?_
        · simp only [p5D, p5E, putAll, Act.put, List.getD_cons_succ, List.getD_cons_zero, List.setIfInBounds_toArray, List.set_cons_zero, List.set_cons_succ] at hK ⊢
          go_simp
          exact hK.out _ _ (Below.refl _ _) rfl
        refine owes_cons (Owes.mk (o := ({ dst := some 34, op := .binOp .add 3 (.tmp 33) (.const (.int .i64 1)) 3, type := 3, pos := "ref.go:91", after := #[{ on := 7, ground := .data }], guard := none } : Oper)) rfl (fun v wk hj hD K hK => ?_)) ?_
        · have h7 : v 7 = (.int .i64 (lev)) := hD 7 (by decide)
          simp only [p5D, p5E, putAll, Act.put, List.getD_cons_succ, List.getD_cons_zero, List.setIfInBounds_toArray, List.set_cons_zero, List.set_cons_succ, h7] at hK ⊢
          go_simp
          exact hK.out _ _ (Below.refl _ _) rfl
        refine owes_cons (Owes.mk (o := ({ dst := some 35, op := .call { callee := .value (.func 39), args := #[.tmp 32, .tmp 34], argTypes := #[24, 3] }, type := 24, pos := "ref.go:91", after := #[{ on := 6, ground := .data }, { on := 8, ground := .data }], guard := none } : Oper)) rfl (fun v wk hj hD K hK => ?_)) ?_
        · have h6 : v 6 = y.v := hD 6 (by decide)
          have h8 : v 8 = (.int .i64 (lev + 1)) := hD 8 (by decide)
          simp only [p5D, p5E, putAll, Act.put, List.getD_cons_succ, List.getD_cons_zero, List.setIfInBounds_toArray, List.set_cons_zero, List.set_cons_succ, h6, h8] at hK ⊢
          go_simp
          refine (IH.out wk d' y (lev + 1) HL.out (by omega) (IY.out.next hj)).mono ?_
          rintro e w2 ⟨q, hq, rfl, rq, hb⟩
          exact hK.out _ _ hb ⟨q, rfl, hq, rq.more hj.size (Nat.le_refl _) (Nat.le_refl _)⟩
        refine owes_cons (Owes.mk (o := ({ dst := some 36, op := .buildSlice 22 1 #[(0, .tmp 35)], type := 22, pos := "ref.go:91", after := #[{ on := 9, ground := .data }], guard := none } : Oper)) rfl (fun v wk hj hD K hK => ?_)) ?_
        · obtain ⟨q, h9, e9, r9⟩ : IsCop wr.heap.size r (copyV r y.t) (v 9) wk := hD 9 (by decide)
          have E9 := Lib.hid e9
          clear e9
          simp only [p5D, p5E, putAll, Act.put, List.getD_cons_succ, List.getD_cons_zero, List.setIfInBounds_toArray, List.set_cons_zero, List.set_cons_succ, h9] at hK ⊢
          go_simp
          exact hK.out _ _ (below_new _ _) ⟨_, q, rfl, E9.out, rd_grow r9 (below_new _ _), news1 wk 24 q.pr.kc, by simp⟩
        exact owes_nil
      · intro p v wf h1 h2 hj hr
        obtain rfl := marks_all h1 (fun m hm => h2 m hm (by simp))
        have hv1 : v 1 = .slice AL accL.length cL := hr 1 (by decide) (by decide)
        obtain ⟨z, q, hv10, hqt, rq, hnews, hz⟩ : IsOne wr.heap.size r (copyV r y.t) (v 10) wf := hr 10 (by decide) (by decide)
        rw [show List.filter (fun k => [0, 1, 2, 3, 4, 5, 6, 7, 8, 9, 10].contains k) [0, 1, 2, 3, 4, 5, 6, 7, 8, 9, 10] = [0, 1, 2, 3, 4, 5, 6, 7, 8, 9, 10] from rfl]
        simp only [p5D, putAll, Act.put, List.getD_cons_succ, List.getD_cons_zero, List.setIfInBounds_toArray, List.set_cons_zero, List.set_cons_succ, hv1, hv10]
        clear hv1 hv10 hr h1 h2
        have HJ := Lib.hid hj
        have HN := Lib.hid hnews
        have RQ := Lib.hid rq
        have HQT := Lib.hid hqt
        clear hj hnews rq hqt
        refine anyN_any (S := fun _ => True) (N := []) _ _ _ _ ?_
        refine anyN_one (i := 11) (o := ({ dst := some 37, op := .call { callee := .builtin .append, args := #[.tmp 27, .tmp 36], argTypes := #[22, 22] }, type := 22, pos := "ref.go:91", after := #[{ on := 1, ground := .data }, { on := 10, ground := .data }, { on := 9, ground := .chain }], guard := none } : Oper)) (by kernel_rfl) rfl (fun K hK => ?_)
        refine step_append_big (by rfl) (.tmp 27) (.tmp 36) (by rfl) (gx + 1) AL cL (accL.map At.pr) q.pr (by simp [Act.eval]) (by have := (HC.out.next HJ.out).vl; rw [← List.length_map (f := At.pr)] at this; exact this) ⟨z, 0, none⟩ (by simp [Act.eval]) HN.out (by rw [List.length_map]; have := HLEN.out; omega) (by have := (HC.out.next HJ.out).lx; omega) ?_
        intro gN cN wA hvA hgA hatA hltA
        rw [List.length_map] at hvA hgA hatA ⊢
        have PUSH := Lib.hid (Cpy.pushL HC.out HJ.out RQ.out hvA hgA hatA hltA)
        obtain ⟨y0, y1, y2, y3, y4, g0, g1, g2', g3, g4, _⟩ := (HC.out.next HJ.out).box.kept (hgA.block gx (HC.out.next HJ.out).lx (fun e => by have := ((HC.out.next HJ.out).vl.lt gx e.symm).1; omega))
        clear hvA hgA hatA hltA
        refine hK.out _ _ (fun _ => trivial) ?_
        clear hK K
        try simp only [Act.put, List.setIfInBounds_toArray, List.set_cons_zero, List.set_cons_succ]
        refine anyN_one (i := 12) (o := ({ dst := some 38, op := .fieldAddr 24 (.tmp 5) 3, type := 0, pos := "ref.go:91", after := #[{ on := 0, ground := .phase }, { on := 1, ground := .phase }, { on := 2, ground := .phase }, { on := 3, ground := .phase }, { on := 4, ground := .phase }, { on := 5, ground := .phase }, { on := 6, ground := .phase }, { on := 7, ground := .phase }, { on := 8, ground := .phase }, { on := 9, ground := .phase }, { on := 10, ground := .phase }, { on := 11, ground := .phase }], guard := none } : Oper)) (by kernel_rfl) rfl (fun K hK => ?_)
        go_simp
        refine hK.out _ _ (fun _ => trivial) ?_
        clear hK K
        try simp only [Act.put, List.setIfInBounds_toArray, List.set_cons_zero, List.set_cons_succ]
        refine anyN_one (i := 13) (o := ({ dst := none, op := .store 22 (.tmp 38) (.tmp 37), type := 0, pos := "ref.go:91", after := #[{ on := 12, ground := .data }, { on := 11, ground := .data }, { on := 11, ground := .chain }, { on := 0, ground := .phase }, { on := 1, ground := .phase }, { on := 2, ground := .phase }, { on := 3, ground := .phase }, { on := 4, ground := .phase }, { on := 5, ground := .phase }, { on := 6, ground := .phase }, { on := 7, ground := .phase }, { on := 8, ground := .phase }, { on := 9, ground := .phase }, { on := 10, ground := .phase }, { on := 11, ground := .phase }], guard := none } : Oper)) (by kernel_rfl) rfl (fun K hK => ?_)
        go_simp
        refine hK.out _ _ (fun _ => trivial) ?_
        clear hK K
        try simp only [Act.put, List.setIfInBounds_toArray, List.set_cons_zero, List.set_cons_succ]
        refine anyN_done (by kernel_rfl) ?_ _
        have LEN2 : Hid ((accL ++ [q]).length = k + 1) := Lib.hid (by have := HLEN.out; simp; omega)
        have TS2 : Hid ((accL ++ [q]).map (·.t) = (x.t.l.take (k + 1)).map (copyV r)) := Lib.hid (by rw [take_map_next (copyV r) _ k TY.out, List.map_append, HTS.out]; simp [HQT.out])
        go_wp2
        go_roundw
        case rel => exact ⟨k + 1, accL ++ [q], some ⟨gN, 0, none⟩, cN, by omega, by go_num, TS2, LEN2, PUSH⟩
        case measure => simp [intOf]; omega
    · obtain rfl : k = x.t.l.length := by omega
      have HTL : Hid (accL.map (·.t) = x.t.l.map (copyV r)) := Lib.hid (by rw [HTS.out, List.take_of_length_le (Nat.le_refl _)])
      have HLL := Lib.hid HLEN.out
      clear HTS HLEN
      go_wp2_with fail
      go_loopw [7] (fun i wr => ∃ (k : Nat) (accM : List At) (AM : Option Addr) (cM : Nat), k ≤ x.t.m.length ∧ i = .int .i64 k ∧ Hid (accM.map (·.t) = (x.t.m.take k).map (copyV r)) ∧ Hid (accM.length = k) ∧ Hid (Cpy w wr (r + 1) g2 r0 gx x accL accM AL cL AM cM)) (fun i _ => x.t.m.length - (intOf i).toNat)
      case atStart => exact ⟨0, [], none, 0, by omega, rfl, Lib.hid (by simp), Lib.hid rfl, HC⟩
      case round =>
        clear b0 b1 b2 b3 b4 HC
        obtain ⟨k, accM, AM, cM, hk, rfl, HTS, HLEN, HC⟩ := hrel
        obtain ⟨b0, b1, b2, b3, b4, _⟩ := HC.out.bx
        by_cases hlt : k < x.t.m.length
        · obtain ⟨b, off, t, A1, c1, A2, c2, hA, _, hbl, ht, qq, rd⟩ := (HX.out.2.2.next HC.out.bel).elem hlt
          obtain ⟨y, hy⟩ : ∃ y : At, y = ⟨t, A1, c1, A2, c2⟩ := ⟨_, rfl⟩
          have CY : Hid (cells5 wr b (off + k * 5) y.t y.A y.c y.A' y.c') := Lib.hid (by rw [hy]; exact qq)
          have IY : Hid (y.In wr d') := Lib.hid (by rw [hy]; exact rd)
          have TY := Lib.hid (show x.t.m[k]? = some y.t by rw [hy]; exact ht)
          have EA := Lib.hid hA
          clear qq rd ht hy hA
          have k0 : (0 : Int) ≤ (k : Int) := by omega
          have k1 : (k : Int) < (x.t.m.length : Int) := by omega
          go_wp2_with fail
          clear b0 b1 b2 b3 b4
          refine region_phase [0, 1, 2, 3, 4, 5, 6, 7, 8, 9, 10] [] p9D p9E 4 (fun w' => Below wr.heap.size wr w') (saidOf [Is (.pointer (some ⟨gx, 4, none⟩)), Is (.slice AM accM.length cM), Is (.pointer (some ⟨g2, 4, none⟩)), Is (.slice (some ⟨b, off, none⟩) x.t.m.length x.c'), Is (.int .i64 ((k : Int))), Is (.pointer (some ⟨b, off + k * 5, none⟩)), Is y.v, Is (.int .i64 (lev)), Is (.int .i64 (lev + 1)), IsCop wr.heap.size r (copyV r y.t), IsOne wr.heap.size r (copyV r y.t), fun _ _ => True, fun _ _ => True, fun _ _ => True]) 64 rfl (by kernel_rfl) (by kernel_rfl) (fun _ _ h hb => bnext h hb) (stays_said _ (stays_cons (Is.stays _) (stays_cons (Is.stays _) (stays_cons (Is.stays _) (stays_cons (Is.stays _) (stays_cons (Is.stays _) (stays_cons (Is.stays _) (stays_cons (Is.stays _) (stays_cons (Is.stays _) (stays_cons (Is.stays _) (stays_cons (IsCop.stays _ _ _) (stays_cons (IsOne.stays _ _ _) (stays_cons (fun _ _ _ _ _ => trivial) (stays_cons (fun _ _ _ _ _ => trivial) (stays_cons (fun _ _ _ _ _ => trivial) stays_nil))))))))))))))) (below_drewN _ _ 1) (by kernel_rfl) ?_ ?_
          · skip
            refine owes_cons (Owes.mk (o := ({ dst := some 50, op := .fieldAddr 24 (.tmp 5) 4, type := 0, pos := "ref.go:94", after := #[], guard := none } : Oper)) rfl (fun v wk hj hD K hK => ?_)) ?_
            · simp only [p9D, p9E, putAll, Act.put, List.getD_cons_zero, List.setIfInBounds_toArray, List.set_cons_zero, List.set_cons_succ] at hK ⊢
              go_simp
              exact hK.out _ _ (Below.refl _ _) rfl
            refine owes_cons (Owes.mk (o := ({ dst := some 51, op := .load 22 (.tmp 50), type := 22, pos := "ref.go:94", after := #[{ on := 0, ground := .data }], guard := none } : Oper)) rfl (fun v wk hj hD K hK => ?_)) ?_
            · have h0 : v 0 = (.pointer (some ⟨gx, 4, none⟩)) := hD 0 (by decide)
              simp only [p9D, p9E, putAll, Act.put, List.getD_cons_succ, List.getD_cons_zero, List.setIfInBounds_toArray, List.set_cons_zero, List.set_cons_succ, h0] at hK ⊢
              obtain ⟨q0, q1, q2, q3, q4, _⟩ := (HC.out.next hj).box
              go_simp
              exact hK.out _ _ (Below.refl _ _) rfl
            refine owes_cons (Owes.mk (o := ({ dst := some 52, op := .fieldAddr 24 (.tmp 2) 4, type := 0, pos := "ref.go:94", after := #[], guard := none } : Oper)) rfl (fun v wk hj hD K hK => ?_)) ?_
            · simp only [p9D, p9E, putAll, Act.put, List.getD_cons_succ, List.getD_cons_zero, List.setIfInBounds_toArray, List.set_cons_zero, List.set_cons_succ] at hK ⊢
              go_simp
              exact hK.out _ _ (Below.refl _ _) rfl
            refine owes_cons (Owes.mk (o := ({ dst := some 53, op := .load 22 (.tmp 52), type := 22, pos := "ref.go:94", after := #[{ on := 2, ground := .data }], guard := none } : Oper)) rfl (fun v wk hj hD K hK => ?_)) ?_
            · have h2 : v 2 = (.pointer (some ⟨g2, 4, none⟩)) := hD 2 (by decide)
              simp only [p9D, p9E, putAll, Act.put, List.getD_cons_succ, List.getD_cons_zero, List.setIfInBounds_toArray, List.set_cons_zero, List.set_cons_succ, h2] at hK ⊢
              obtain ⟨q0, q1, q2, q3, q4, _⟩ := (HC.out.next hj).bx
              rw [EA.out] at q4
              go_simp
              exact hK.out _ _ (Below.refl _ _) rfl
            refine owes_cons (Owes.mk (o := ({ dst := some 54, op := .move (.tmp 7), type := 3, pos := "ref.go:94", after := #[], guard := none } : Oper)) rfl (fun v wk hj hD K hK => ?_)) ?_
            · simp only [p9D, p9E, putAll, Act.put, List.getD_cons_succ, List.getD_cons_zero, List.setIfInBounds_toArray, List.set_cons_zero, List.set_cons_succ] at hK ⊢
              go_simp
              exact hK.out _ _ (Below.refl _ _) rfl
            refine owes_cons (Owes.mk (o := ({ dst := some 55, op := .indexAddr 22 (.tmp 53) (.tmp 54), type := 0, pos := "ref.go:94", after := #[{ on := 3, ground := .data }, { on := 4, ground := .data }], guard := none } : Oper)) rfl (fun v wk hj hD K hK => ?_)) ?_
            · have h3 : v 3 = (.slice (some ⟨b, off, none⟩) x.t.m.length x.c') := hD 3 (by decide)
              have h4 : v 4 = (.int .i64 ((k : Int))) := hD 4 (by decide)
              simp only [p9D, p9E, putAll, Act.put, List.getD_cons_succ, List.getD_cons_zero, List.setIfInBounds_toArray, List.set_cons_zero, List.set_cons_succ, h3, h4] at hK ⊢
              go_simp
              exact hK.out _ _ (Below.refl _ _) rfl
            refine owes_cons (Owes.mk (o := ({ dst := some 56, op := .load 24 (.tmp 55), type := 24, pos := "ref.go:94", after := #[{ on := 5, ground := .data }], guard := none } : Oper)) rfl (fun v wk hj hD K hK => ?_)) ?_
            · have h5 : v 5 = (.pointer (some ⟨b, off + k * 5, none⟩)) := hD 5 (by decide)
              simp only [p9D, p9E, putAll, Act.put, List.getD_cons_succ, List.getD_cons_zero, List.setIfInBounds_toArray, List.set_cons_zero, List.set_cons_succ, h5] at hK ⊢
              obtain ⟨q0, q1, q2, q3, q4⟩ := CY.out.keep (lo := 0) (Kept.of_below hj (Nat.le_refl _)) (Nat.zero_le _) hbl
              go_simp
              exact hK.out _ _ (Below.refl _ _) rfl
            refine owes_cons (Owes.mk (o := ({ dst := some 57, op := .move (.tmp 1), type := 3, pos := "ref.go:94", after := #[], guard := none } : Oper)) rfl (fun v wk hj hD K hK => ?_)) ?_
            · simp only [p9D, p9E, putAll, Act.put, List.getD_cons_succ, List.getD_cons_zero, List.setIfInBounds_toArray, List.set_cons_zero, List.set_cons_succ] at hK ⊢
              go_simp
              exact hK.out _ _ (Below.refl _ _) rfl
            refine owes_cons (Owes.mk (o := ({ dst := some 58, op := .binOp .add 3 (.tmp 57) (.const (.int .i64 1)) 3, type := 3, pos := "ref.go:94", after := #[{ on := 7, ground := .data }], guard := none } : Oper)) rfl (fun v wk hj hD K hK => ?_)) ?_
            · have h7 : v 7 = (.int .i64 (lev)) := hD 7 (by decide)
              simp only [p9D, p9E, putAll, Act.put, List.getD_cons_succ, List.getD_cons_zero, List.setIfInBounds_toArray, List.set_cons_zero, List.set_cons_succ, h7] at hK ⊢
              go_simp
              exact hK.out _ _ (Below.refl _ _) rfl
            refine owes_cons (Owes.mk (o := ({ dst := some 59, op := .call { callee := .value (.func 39), args := #[.tmp 56, .tmp 58], argTypes := #[24, 3] }, type := 24, pos := "ref.go:94", after := #[{ on := 6, ground := .data }, { on := 8, ground := .data }], guard := none } : Oper)) rfl (fun v wk hj hD K hK => ?_)) ?_
            · have h6 : v 6 = y.v := hD 6 (by decide)
              have h8 : v 8 = (.int .i64 (lev + 1)) := hD 8 (by decide)
              simp only [p9D, p9E, putAll, Act.put, List.getD_cons_succ, List.getD_cons_zero, List.setIfInBounds_toArray, List.set_cons_zero, List.set_cons_succ, h6, h8] at hK ⊢
              go_simp
              refine (IH.out wk d' y (lev + 1) HL.out (by omega) (IY.out.next hj)).mono ?_
              rintro e w2 ⟨q, hq, rfl, rq, hb⟩
              exact hK.out _ _ hb ⟨q, rfl, hq, rq.more hj.size (Nat.le_refl _) (Nat.le_refl _)⟩
            refine owes_cons (Owes.mk (o := ({ dst := some 60, op := .buildSlice 22 1 #[(0, .tmp 59)], type := 22, pos := "ref.go:94", after := #[{ on := 9, ground := .data }], guard := none } : Oper)) rfl (fun v wk hj hD K hK => ?_)) ?_
            · obtain ⟨q, h9, e9, r9⟩ : IsCop wr.heap.size r (copyV r y.t) (v 9) wk := hD 9 (by decide)
              have E9 := Lib.hid e9
              clear e9
              simp only [p9D, p9E, putAll, Act.put, List.getD_cons_succ, List.getD_cons_zero, List.setIfInBounds_toArray, List.set_cons_zero, List.set_cons_succ, h9] at hK ⊢
              go_simp
              exact hK.out _ _ (below_new _ _) ⟨_, q, rfl, E9.out, rd_grow r9 (below_new _ _), news1 wk 24 q.pr.kc, by simp⟩
            exact owes_nil
          · intro p v wf h1 h2 hj hr
            obtain rfl := marks_all h1 (fun m hm => h2 m hm (by simp))
            have hv1 : v 1 = .slice AM accM.length cM := hr 1 (by decide) (by decide)
            obtain ⟨z, q, hv10, hqt, rq, hnews, hz⟩ : IsOne wr.heap.size r (copyV r y.t) (v 10) wf := hr 10 (by decide) (by decide)
            rw [show List.filter (fun k => [0, 1, 2, 3, 4, 5, 6, 7, 8, 9, 10].contains k) [0, 1, 2, 3, 4, 5, 6, 7, 8, 9, 10] = [0, 1, 2, 3, 4, 5, 6, 7, 8, 9, 10] from rfl]
            simp only [p9D, putAll, Act.put, List.getD_cons_succ, List.getD_cons_zero, List.setIfInBounds_toArray, List.set_cons_zero, List.set_cons_succ, hv1, hv10]
            clear hv1 hv10 hr h1 h2
            have HJ := Lib.hid hj
            have HN := Lib.hid hnews
            have RQ := Lib.hid rq
            have HQT := Lib.hid hqt
            clear hj hnews rq hqt
            refine anyN_any (S := fun _ => True) (N := []) _ _ _ _ ?_
            refine anyN_one (i := 11) (o := ({ dst := some 61, op := .call { callee := .builtin .append, args := #[.tmp 51, .tmp 60], argTypes := #[22, 22] }, type := 22, pos := "ref.go:94", after := #[{ on := 1, ground := .data }, { on := 10, ground := .data }, { on := 9, ground := .chain }], guard := none } : Oper)) (by kernel_rfl) rfl (fun K hK => ?_)
            refine step_append_big (by rfl) (.tmp 51) (.tmp 60) (by rfl) (gx + 1) AM cM (accM.map At.pr) q.pr (by simp [Act.eval]) (by have := (HC.out.next HJ.out).vm; rw [← List.length_map (f := At.pr)] at this; exact this) ⟨z, 0, none⟩ (by simp [Act.eval]) HN.out (by rw [List.length_map]; have := HLEN.out; omega) (by have := (HC.out.next HJ.out).lx; omega) ?_
            intro gN cN wA hvA hgA hatA hltA
            rw [List.length_map] at hvA hgA hatA ⊢
            have PUSH := Lib.hid (Cpy.pushM HC.out HJ.out RQ.out hvA hgA hatA hltA)
            obtain ⟨y0, y1, y2, y3, y4, g0, g1, g2', g3, g4, _⟩ := (HC.out.next HJ.out).box.kept (hgA.block gx (HC.out.next HJ.out).lx (fun e => by have := ((HC.out.next HJ.out).vm.lt gx e.symm).1; omega))
            clear hvA hgA hatA hltA
            refine hK.out _ _ (fun _ => trivial) ?_
            clear hK K
            try simp only [Act.put, List.setIfInBounds_toArray, List.set_cons_zero, List.set_cons_succ]
            refine anyN_one (i := 12) (o := ({ dst := some 62, op := .fieldAddr 24 (.tmp 5) 4, type := 0, pos := "ref.go:94", after := #[{ on := 0, ground := .phase }, { on := 1, ground := .phase }, { on := 2, ground := .phase }, { on := 3, ground := .phase }, { on := 4, ground := .phase }, { on := 5, ground := .phase }, { on := 6, ground := .phase }, { on := 7, ground := .phase }, { on := 8, ground := .phase }, { on := 9, ground := .phase }, { on := 10, ground := .phase }, { on := 11, ground := .phase }], guard := none } : Oper)) (by kernel_rfl) rfl (fun K hK => ?_)
            go_simp
            refine hK.out _ _ (fun _ => trivial) ?_
            clear hK K
            try simp only [Act.put, List.setIfInBounds_toArray, List.set_cons_zero, List.set_cons_succ]
            refine anyN_one (i := 13) (o := ({ dst := none, op := .store 22 (.tmp 62) (.tmp 61), type := 0, pos := "ref.go:94", after := #[{ on := 12, ground := .data }, { on := 11, ground := .data }, { on := 11, ground := .chain }, { on := 0, ground := .phase }, { on := 1, ground := .phase }, { on := 2, ground := .phase }, { on := 3, ground := .phase }, { on := 4, ground := .phase }, { on := 5, ground := .phase }, { on := 6, ground := .phase }, { on := 7, ground := .phase }, { on := 8, ground := .phase }, { on := 9, ground := .phase }, { on := 10, ground := .phase }, { on := 11, ground := .phase }], guard := none } : Oper)) (by kernel_rfl) rfl (fun K hK => ?_)
            go_simp
            refine hK.out _ _ (fun _ => trivial) ?_
            clear hK K
            try simp only [Act.put, List.setIfInBounds_toArray, List.set_cons_zero, List.set_cons_succ]
            refine anyN_done (by kernel_rfl) ?_ _
            have LEN2 : Hid ((accM ++ [q]).length = k + 1) := Lib.hid (by have := HLEN.out; simp; omega)
            have TS2 : Hid ((accM ++ [q]).map (·.t) = (x.t.m.take (k + 1)).map (copyV r)) := Lib.hid (by rw [take_map_next (copyV r) _ k TY.out, List.map_append, HTS.out]; simp [HQT.out])
            go_wp2
            go_roundw
            case rel => exact ⟨k + 1, accM ++ [q], some ⟨gN, 0, none⟩, cN, by omega, by go_num, TS2, LEN2, PUSH⟩
            case measure => simp [intOf]; omega
        · obtain rfl : k = x.t.m.length := by omega
          have HTM : Hid (accM.map (·.t) = x.t.m.map (copyV r)) := Lib.hid (by rw [HTS.out, List.take_of_length_le (Nat.le_refl _)])
          have FIN := Lib.hid (fun F => cpy_end (t' := copyV (r + 1) x.t) HC.out (by rw [HTL.out, HTM.out]; rfl) HX.out.1 (by have := HLL.out; omega) (by have := HLEN.out; omega) F)
          obtain ⟨e0, e1, e2, e3, e4, _⟩ := HC.out.box
          have HR := Lib.hid (ret_box HC.out.res (.int .i64 x.t.k) (.int .i64 x.t.n) (.string x.t.s) (.slice AL accL.length cL) (.slice AM accM.length cM))
          have RES := Lib.hid HC.out.res
          obtain ⟨u0, hu0⟩ := RES.out.cell (i := 0) (by omega)
          obtain ⟨u1, hu1⟩ := RES.out.cell (i := 1) (by omega)
          obtain ⟨u2, hu2⟩ := RES.out.cell (i := 2) (by omega)
          obtain ⟨u3, hu3⟩ := RES.out.cell (i := 3) (by omega)
          obtain ⟨u4, hu4⟩ := RES.out.cell (i := 4) (by omega)
          have z0 := RES.out.frozen 0
          have z1 := RES.out.frozen 1
          have z2 := RES.out.frozen 2
          have z3 := RES.out.frozen 3
          have z4 := RES.out.frozen 4
          go_wp2
          obtain ⟨F, hF, ⟨r0', r1', r2', r3', r4', _⟩, hk', hs', hbel'⟩ := HR.out
          rw [← hF]
          clear hF
          exact bodyPost_ret (v := .agg #[.int .i64 x.t.k, .int .i64 x.t.n, .string x.t.s, .slice AL accL.length cL, .slice AM accM.length cM]) (by simp [results, Try.results39, go_sem, r0', r1', r2', r3', r4']) rfl (FIN.out F hk' hs' hbel')
theorem rcopied_any : ∀ r, RCopied r
  | 0 => rcopied_zero
  | r + 1 => rcopied_succ r (rcopied_any r)
end Go.Proofs.Ytdolejafihgpmaa
