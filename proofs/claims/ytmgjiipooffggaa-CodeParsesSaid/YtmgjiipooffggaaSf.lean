/- The document's reader of texts: rows and maps. -/
import Derived.Test.YtmgjiipooffggaaSe
namespace Go.Proofs.Ytmgjiipooffggaa
set_option maxRecDepth 100000
open Go.RowKit Go.Sort

def RefP (r : Nat) : Prop := ∀ (w : World) (s : ByteArray) (a : Nat) (lev : Int), lev = 13 - r → r ≤ 12 → s.size ≤ 3000 → a ≤ s.size → Calls Try.prog 34 #[.string s, .int .i64 (a : Int), .int .i64 lev] w (PPost s a (rd r (s.toList.drop a)) r w)
theorem i64_next (r : Nat) (lev : Int) (h : lev = 12 - r) (hr : r ≤ 11) : wrap64 (lev + 1) = lev + 1 := by unfold wrap64; omega
/-- How far it is to the end. -/
def mAt (z : Nat) : Value → Nat
  | .int _ n => if n < 0 then 0 else z + 1 - n.toNat
  | _ => 0
theorem mAt_dead (z : Nat) : mAt z (.int .i64 (-1)) = 0 := rfl
theorem mAt_k (z k : Nat) : mAt z (.int .i64 (k : Int)) = z + 1 - k := by
  show (if (k : Int) < 0 then 0 else z + 1 - (k : Int).toNat) = _
  rw [if_neg (by omega)]; rfl
theorem size_one (E : UInt8) : (⟨#[E]⟩ : ByteArray).size = 1 := rfl
theorem rd_up {a b : World} {lo d : Nat} {q : At} (h : Rd a lo a.heap.size d q.t q.A q.c q.A' q.c') (hb : Below a.heap.size a b) : Rd b lo b.heap.size d q.t q.A q.c q.A' q.c' :=
  Rd.imp (Kept.of_below hb (Nat.le_refl _)) (Nat.le_refl _) hb.size (Nat.le_refl _) h
theorem at_drop {p : Bs} {s : ByteArray} {k : Nat} (h : atL p s.toList k = true) : k + p.length ≤ s.size ∨ p = [] := by
  unfold atL at h
  have := (List.isPrefixOf_iff_prefix.1 h).length_le
  rw [List.length_drop, toList_size] at this
  cases p with
  | nil => exact .inr rfl
  | cons c t => left; simp at this ⊢; omega

set_option maxHeartbeats 12800000 in
theorem prest_row (r : Nat) (ih : RefP r) (hr : r ≤ 11) (w : World) (s : ByteArray) (a : Nat) (kk : Int) (hkk : 0 ≤ kk ∧ kk ≤ 8) (hk7 : (kk == 7) = false) (E : UInt8) (lev : Int) (hlev : lev = 12 - r) (hs : s.size ≤ 3000) (ha : a ≤ s.size) :
    Calls Try.prog 63 #[.string s, .int .i64 (a : Int), .int .i64 kk, .string ⟨#[E]⟩, .int .i64 lev] w (PPost s a (rowV' kk (rowR [E] (rd r) (s.toList.drop a))) (r + 1) w) := by
  have HKK : Hid ((0 : Int) ≤ kk ∧ (kk : Int) ≤ 8) := Lib.hid hkk
  have IH := Lib.hid (fun w2 k (hk : k ≤ s.size) => ih w2 s k (lev + 1) (by omega) (by omega) hs hk)
  have WL := Lib.hid (i64_next r lev hlev hr)
  have WE := Lib.hid (fun w2 k (hk : k ≤ 4000) => pword_any s ⟨#[E]⟩ k w2 hs hk (by rw [size_one]; omega) (by rw [size_one]; omega))
  have WC := Lib.hid (fun w2 k (hk : k ≤ 4000) => pword_any s ⟨#[44, 32]⟩ k w2 hs hk (by decide) (by decide))
  rw [show (⟨#[E]⟩ : ByteArray).toList = [E] from lit_list [E]] at WE
  rw [show (⟨#[44, 32]⟩ : ByteArray).toList = [44, 32] from lit_list [44, 32]] at WC
  have SE := Lib.hid (size_one E)
  obtain ⟨EE, hEE⟩ : ∃ y : ByteArray, y = (⟨#[E]⟩ : ByteArray) := ⟨_, rfl⟩
  rw [← hEE] at WE SE ⊢
  clear hEE
  generalize hG : rowR [E] (rd r) (s.toList.drop a) = G
  have G0 : Hid (∀ xs q, G = some (xs, q) → ∃ m : Nat, goL [E] (rd r) true m (([] : List At).map (·.t)) (s.toList.drop a) = some (xs, q)) := Lib.hid (fun xs q h => ⟨1000, by rw [← hG, goL_start] at h; exact h⟩)
  have HG := Lib.hid (show rowV' kk G = rowV' kk G from rfl)
  clear hG ih hlev
  generalize hRR : rowV' kk G = RR at *
  replace HG := Lib.hid (show RR = rowV' kk G from hRR.symm)
  clear hRR
  go_enter Try.func63, Try.ntmps63
  go_upto_region 2 with fail
  generalize hW : World.alloc (World.alloc _ _) _ = W
  have C0 := Lib.hid (Rst.start w (r + 1) kk W hW)
  clear hW
  obtain ⟨gx, hgx⟩ : ∃ g : Nat, g = w.heap.size + 1 := ⟨_, rfl⟩
  rw [← hgx] at C0 ⊢
  obtain ⟨r0, hr0⟩ : ∃ g : Nat, g = w.heap.size := ⟨_, rfl⟩
  rw [← hr0] at C0 ⊢
  clear hgx hr0
  go_wp2_with fail
  go_loopw [1, 13] (fun i f wr => ∃ (n : Int) (fst : Bool) (accL : List At) (AL : Option Addr) (cL : Nat), i = .int .i64 n ∧ f = .bool fst ∧ Hid (Rst w wr (r + 1) r0 gx kk accL ([] : List At) AL cL none 0) ∧ Hid (accL.length ≤ 3001) ∧ ((n = -1 ∧ Hid (∀ p, G ≠ some p)) ∨ ∃ k : Nat, n = (k : Int) ∧ a ≤ k ∧ k ≤ s.size ∧ Hid (accL.length + a ≤ k ∧ sumN (cntV r) (accL.map (·.t)) + a ≤ k) ∧ Hid (∀ xs q, G = some (xs, q) → ∃ m : Nat, goL [E] (rd r) fst m (accL.map (·.t)) (s.toList.drop k) = some (xs, q)))) (fun i _ _ => mAt s.size i)
  case atStart => exact ⟨(a : Int), true, [], none, 0, rfl, rfl, C0, Lib.hid (by simp), .inr ⟨a, rfl, Nat.le_refl _, ha, Lib.hid (by simp [sumN]), G0⟩⟩
  case round =>
    obtain ⟨n, fst, accL, AL, cL, rfl, rfl, CR, LENS, hinv⟩ := hrel
    rcases hinv with ⟨rfl, NO⟩ | ⟨k, rfl, hak, hks, HN, GH⟩
    · skip
      obtain ⟨y0, y1, y2, y3, y4, g0, g1, g2, g3, g4, _⟩ := CR.out.box
      have RES := Lib.hid CR.out.res
      obtain ⟨u0, hu0⟩ := RES.out.cell (i := 0) (by omega)
      obtain ⟨u1, hu1⟩ := RES.out.cell (i := 1) (by omega)
      obtain ⟨u2, hu2⟩ := RES.out.cell (i := 2) (by omega)
      obtain ⟨u3, hu3⟩ := RES.out.cell (i := 3) (by omega)
      obtain ⟨u4, hu4⟩ := RES.out.cell (i := 4) (by omega)
      have z0 := RES.out.frozen 0
      have z1 := RES.out.frozen 1
      have z2 := RES.out.frozen 2
      have z3 := RES.out.frozen 3
      have z4 := RES.out.frozen 4
      have HRB := Lib.hid (ret_box CR.out.res (.int .i64 kk) (.int .i64 0) (.string ⟨#[]⟩) (.slice AL accL.length cL) (.slice none 0 0))
      go_wp2
      obtain ⟨F, hF, ⟨r0', r1', r2', r3', r4', _⟩, hk', hs', hbel'⟩ := HRB.out
      rw [← hF]
      clear hF
      exact bodyPost_ret (v := .tuple #[.agg #[.int .i64 kk, .int .i64 0, .string ⟨#[]⟩, .slice AL accL.length cL, .slice none 0 0], .int .i64 (-1)]) (by simp [results, Try.results63, go_sem, r0', r1', r2', r3', r4']) rfl (rst_end CR.out HKK.out (by have := LENS.out; omega) (by simp) hk' hs' hbel' (.inl rfl) (fun t z h => by
        cases hGG : G with
        | none => rw [HG.out, hGG] at h; cases h
        | some p => exact absurd hGG (NO.out p)))
    · have k0 : (0 : Int) ≤ (k : Int) := by omega
      have k0' : ¬ (k : Int) < 0 := by omega
      have WD := WE.out wr k (by omega)
      generalize hb : atL [E] s.toList k = b at WD
      have HB := Lib.hid hb
      clear hb
      replace WD := Lib.hid WD
      go_wp2_with fail
      refine WD.out.mono ?_
      rintro e w2 ⟨rfl, rfl⟩
      clear WD
      cases b with
      | true =>
        have ATE : Hid ([E].isPrefixOf (s.toList.drop k) = true) := HB
        have hkE : Hid (k + 1 ≤ s.size) := Lib.hid (by
          rcases at_drop HB.out with h | h
          · exact h
          · cases h)
        have W1 : Hid (wrap64 ((k : Int) + 1) = (k : Int) + 1) := Lib.hid (w64_add k 1 (by omega) (by decide) (by decide))
        have se := SE.out
        obtain ⟨y0, y1, y2, y3, y4, g0, g1, g2, g3, g4, _⟩ := CR.out.box
        have RES := Lib.hid CR.out.res
        obtain ⟨u0, hu0⟩ := RES.out.cell (i := 0) (by omega)
        obtain ⟨u1, hu1⟩ := RES.out.cell (i := 1) (by omega)
        obtain ⟨u2, hu2⟩ := RES.out.cell (i := 2) (by omega)
        obtain ⟨u3, hu3⟩ := RES.out.cell (i := 3) (by omega)
        obtain ⟨u4, hu4⟩ := RES.out.cell (i := 4) (by omega)
        have z0 := RES.out.frozen 0
        have z1 := RES.out.frozen 1
        have z2 := RES.out.frozen 2
        have z3 := RES.out.frozen 3
        have z4 := RES.out.frozen 4
        have HRB := Lib.hid (ret_box CR.out.res (.int .i64 kk) (.int .i64 0) (.string ⟨#[]⟩) (.slice AL accL.length cL) (.slice none 0 0))
        have w1k := W1.out
        go_wp2
        obtain ⟨F, hF, ⟨r0', r1', r2', r3', r4', _⟩, hk', hs', hbel'⟩ := HRB.out
        rw [← hF]
        clear hF
        clear w1k
        exact bodyPost_ret (v := .tuple #[.agg #[.int .i64 kk, .int .i64 0, .string ⟨#[]⟩, .slice AL accL.length cL, .slice none 0 0], .int .i64 ((k : Int) + 1)]) (by simp [results, Try.results63, go_sem, r0', r1', r2', r3', r4']) rfl (rst_end CR.out HKK.out (by have := LENS.out; omega) (by simp) hk' hs' hbel' (.inr ⟨k + 1, by omega, by omega, by have := hkE.out; omega, by have := HN.out; simp only [sumN, List.map_nil] at *; omega⟩) (fun t z h => by
          cases hGG : G with
          | none => rw [HG.out, hGG] at h; cases h
          | some p =>
            obtain ⟨xs, q⟩ := p
            obtain ⟨m, hgo⟩ := GH.out xs q hGG
            obtain ⟨e1, e2⟩ := goL_end hgo ATE.out
            rw [HG.out, hGG] at h
            injection h with h
            injection h with h1 h2
            refine ⟨?_, k + 1, by omega, ?_⟩
            · rw [← h1, e1]; rfl
            · rw [← h2, e2, List.drop_drop]; rfl))
      | false =>
        have ATE : Hid ([E].isPrefixOf (s.toList.drop k) = false) := HB
        cases fst with
        | true =>
          have GI : Hid (∀ xs q, G = some (xs, q) → ∃ (x : V) (z : Bs) (m : Nat), rd r (s.toList.drop k) = some (x, z) ∧ goL [E] (rd r) false m (accL.map (·.t) ++ [x]) z = some (xs, q)) := Lib.hid (fun xs q h => by
            obtain ⟨m, hgo⟩ := GH.out xs q h
            exact items_go (goL_first hgo ATE.out))
          clear GH HB ATE
          obtain ⟨k', hk'⟩ : ∃ k' : Nat, k' = k := ⟨_, rfl⟩
          subst hk'
          have PA := Lib.hid (IH.out wr k' (by omega))
          unfold PPost at PA
          have wl := WL.out
          go_wp2_with fail
          clear wl
          refine PA.out.mono ?_
          rintro e w2 ⟨y, n, rfl, ry, hb, hn, hR⟩
          clear PA
          have RY := Lib.hid ry
          have HB2 := Lib.hid hb
          have HY := Lib.hid hR
          have HNN := Lib.hid hn
          clear ry hb hR hn
          go_upto_region 10 with fail
          have HBX := Lib.hid (Bx.new w2 y)
          have zb := below_new w2 (.cells #[.int .i64 y.t.k, .int .i64 y.t.n, .string y.t.s, .slice y.A y.t.l.length y.c, .slice y.A' y.t.m.length y.c'] 24)
          generalize hWb : World.alloc w2 _ = w3 at HBX zb ⊢
          have hzl : w2.heap.size < w3.heap.size := by rw [← hWb]; simp
          clear hWb
          have HB3 := Lib.hid (bnext HB2.out zb)
          have RY3 := Lib.hid (rd_up RY.out zb)
          have HLT := Lib.hid hzl
          clear zb hzl
          obtain ⟨gy, hgy⟩ : ∃ g : Nat, g = w2.heap.size := ⟨_, rfl⟩
          rw [← hgy] at HBX HLT ⊢
          clear hgy
          have C3 := Lib.hid (CR.out.next HB3.out)
          obtain ⟨e0, e1, e2, e3, e4, f0, f1, f2, f3, f4, _⟩ := C3.out.box
          obtain ⟨q0, q1, q2, q3, q4, _⟩ := HBX.out
          go_wp2_with (at_builtin; refine append_val rfl (.tmp 47) (.tmp 49) rfl (gx + 1) AL cL accL y rfl ((C3.out.vl.below (below_new w3 (.cells #[.int .i64 y.t.k, .int .i64 y.t.n, .string y.t.s, .slice y.A y.t.l.length y.c, .slice y.A' y.t.m.length y.c'] 24))) : VG _ _ _ _ _) ⟨w3.heap.size, 0, none⟩ rfl (news1 w3 24 y.pr.kc) (by have := LENS.out; omega) (by have := C3.out.lx; simp; omega) ?_)
          intro gL cL2 wA hvA hgA hatA hltA
          have zc := below_new w3 (.cells #[.int .i64 y.t.k, .int .i64 y.t.n, .string y.t.s, .slice y.A y.t.l.length y.c, .slice y.A' y.t.m.length y.c'] 24)
          have HB4 := Lib.hid (bnext HB3.out zc)
          have PUSH := Lib.hid (Rst.pushL CR.out HB4.out (rd_up RY3.out zc) hvA hgA (hatA.imp id (fun e => by rw [e]; simp)) hltA)
          have C4 := C3.out.next zc
          obtain ⟨y0, y1, y2, y3, y4, g0, g1, g2, g3, g4, _⟩ := C4.box.kept (hgA.block gx C4.lx (fun e => by have := (C4.vl.lt gx e.symm).1; omega))
          have LENP : Hid ((accL ++ [y]).length = accL.length + 1) := Lib.hid (by simp)
          clear hvA hgA hatA hltA zc C4 e0 e1 e2 e3 e4 f0 f1 f2 f3 f4 q0 q1 q2 q3 q4 C3 HBX HLT HB3 RY3 RY
          rcases HNN.out with rfl | ⟨j, rfl, hkj, hjs, hcnt⟩
          · have NO : Hid (∀ p, G ≠ some p) := Lib.hid (fun p hp => by
              obtain ⟨xs, q⟩ := p
              obtain ⟨x, z, m, h1, h2⟩ := GI.out xs q hp
              obtain ⟨_, j, hj, _⟩ := HY.out x z h1
              omega)
            go_wp2
            go_roundw
            case rel => exact ⟨-1, false, accL ++ [y], some ⟨gL, 0, none⟩, cL2, rfl, rfl, PUSH, Lib.hid (by have := HN.out; simp; omega), .inl ⟨rfl, NO⟩⟩
            case measure =>
              show mAt s.size (.int .i64 (-1)) < mAt s.size (.int .i64 (k' : Int))
              rw [mAt_dead, mAt_k]
              omega
          · have CN := Lib.hid hcnt
            have GN : Hid (∀ xs q, G = some (xs, q) → ∃ m : Nat, goL [E] (rd r) false m ((accL ++ [y]).map (·.t)) (s.toList.drop j) = some (xs, q)) := Lib.hid (fun xs q h => by
              obtain ⟨x, z, m, h1, h2⟩ := GI.out xs q h
              obtain ⟨e1, j', hj, hd⟩ := HY.out x z h1
              have : j' = j := by omega
              subst this
              exact ⟨m, by rw [List.map_append, hd, ← h2, ← e1]; rfl⟩)
            clear hcnt
            go_wp2
            go_roundw
            case rel => exact ⟨(j : Int), false, accL ++ [y], some ⟨gL, 0, none⟩, cL2, rfl, rfl, PUSH, Lib.hid (by have := HN.out; simp; omega), .inr ⟨j, rfl, by omega, hjs, Lib.hid ⟨by have := HN.out; simp; omega, by have := HN.out; have := CN.out; rw [List.map_append, sumN_append]; simp only [List.map_cons, List.map_nil, sumN]; omega⟩, GN⟩⟩
            case measure =>
              show mAt s.size (.int .i64 (j : Int)) < mAt s.size (.int .i64 (k' : Int))
              rw [mAt_k, mAt_k]
              omega
        | false =>
          have WD := WC.out wr k (by omega)
          generalize hb : atL [44, 32] s.toList k = b at WD
          have HC := Lib.hid hb
          clear hb
          replace WD := Lib.hid WD
          have W2 : Hid (wrap64 ((k : Int) + 2) = (k : Int) + 2) := Lib.hid (w64_add k 2 (by omega) (by decide) (by decide))
          go_wp2_with fail
          refine WD.out.mono ?_
          rintro e w2 ⟨rfl, rfl⟩
          clear WD
          cases b with
          | false =>
            have NO : Hid (∀ p, G ≠ some p) := Lib.hid (fun p hp => by
              obtain ⟨xs, q⟩ := p
              obtain ⟨m, hgo⟩ := GH.out xs q hp
              have h1 := (goL_comma hgo ATE.out).1
              have h2 : [44, 32].isPrefixOf (s.toList.drop k) = false := HC.out
              rw [h2] at h1; cases h1)
            obtain ⟨y0, y1, y2, y3, y4, g0, g1, g2, g3, g4, _⟩ := CR.out.box
            have RES := Lib.hid CR.out.res
            obtain ⟨u0, hu0⟩ := RES.out.cell (i := 0) (by omega)
            obtain ⟨u1, hu1⟩ := RES.out.cell (i := 1) (by omega)
            obtain ⟨u2, hu2⟩ := RES.out.cell (i := 2) (by omega)
            obtain ⟨u3, hu3⟩ := RES.out.cell (i := 3) (by omega)
            obtain ⟨u4, hu4⟩ := RES.out.cell (i := 4) (by omega)
            have z0 := RES.out.frozen 0
            have z1 := RES.out.frozen 1
            have z2 := RES.out.frozen 2
            have z3 := RES.out.frozen 3
            have z4 := RES.out.frozen 4
            have HRB := Lib.hid (ret_box CR.out.res (.int .i64 kk) (.int .i64 0) (.string ⟨#[]⟩) (.slice AL accL.length cL) (.slice none 0 0))
            go_wp2
            obtain ⟨F, hF, ⟨r0', r1', r2', r3', r4', _⟩, hk', hs', hbel'⟩ := HRB.out
            rw [← hF]
            clear hF
            exact bodyPost_ret (v := .tuple #[.agg #[.int .i64 kk, .int .i64 0, .string ⟨#[]⟩, .slice AL accL.length cL, .slice none 0 0], .int .i64 (-1)]) (by simp [results, Try.results63, go_sem, r0', r1', r2', r3', r4']) rfl (rst_end CR.out HKK.out (by have := LENS.out; omega) (by simp) hk' hs' hbel' (.inl rfl) (fun t z h => by
              cases hGG : G with
              | none => rw [HG.out, hGG] at h; cases h
              | some p => exact absurd hGG (NO.out p)))
          | true =>
            have hk2 : k + 2 ≤ s.size := by
              rcases at_drop HC.out with h | h
              · exact h
              · cases h
            have GI : Hid (∀ xs q, G = some (xs, q) → ∃ (x : V) (z : Bs) (m : Nat), rd r (s.toList.drop (k + 2)) = some (x, z) ∧ goL [E] (rd r) false m (accL.map (·.t) ++ [x]) z = some (xs, q)) := Lib.hid (fun xs q h => by
              obtain ⟨m, hgo⟩ := GH.out xs q h
              obtain ⟨x, z, m', h1, h2⟩ := items_go (goL_comma hgo ATE.out).2
              exact ⟨x, z, m', by rw [← h1, List.drop_drop], h2⟩)
            clear GH HB ATE HC
            obtain ⟨k', hk'⟩ : ∃ k' : Nat, k' = k + 2 := ⟨_, rfl⟩
            rw [← hk'] at GI
            have hkI : (k : Int) + 2 = (k' : Int) := by omega
            have HKI := Lib.hid hkI
            have hak' : a ≤ k' := by omega
            have hks' : k' ≤ s.size := by omega
            have hkk' : k ≤ k' := by omega
            replace HN : Hid (accL.length + a ≤ k' ∧ sumN (cntV r) (accL.map (·.t)) + a ≤ k') := Lib.hid (by have := HN.out; omega)
            clear hkI hk' hk2
            have PA := Lib.hid (IH.out wr k' (by omega))
            unfold PPost at PA
            have w2k := W2.out
            go_upto_region 8 with fail
            try clear w2k
            rw [HKI.out]
            have wl := WL.out
            go_wp2_with fail
            clear wl
            refine PA.out.mono ?_
            rintro e w2 ⟨y, n, rfl, ry, hb, hn, hR⟩
            clear PA
            have RY := Lib.hid ry
            have HB2 := Lib.hid hb
            have HY := Lib.hid hR
            have HNN := Lib.hid hn
            clear ry hb hR hn
            go_upto_region 10 with fail
            have HBX := Lib.hid (Bx.new w2 y)
            have zb := below_new w2 (.cells #[.int .i64 y.t.k, .int .i64 y.t.n, .string y.t.s, .slice y.A y.t.l.length y.c, .slice y.A' y.t.m.length y.c'] 24)
            generalize hWb : World.alloc w2 _ = w3 at HBX zb ⊢
            have hzl : w2.heap.size < w3.heap.size := by rw [← hWb]; simp
            clear hWb
            have HB3 := Lib.hid (bnext HB2.out zb)
            have RY3 := Lib.hid (rd_up RY.out zb)
            have HLT := Lib.hid hzl
            clear zb hzl
            obtain ⟨gy, hgy⟩ : ∃ g : Nat, g = w2.heap.size := ⟨_, rfl⟩
            rw [← hgy] at HBX HLT ⊢
            clear hgy
            have C3 := Lib.hid (CR.out.next HB3.out)
            obtain ⟨e0, e1, e2, e3, e4, f0, f1, f2, f3, f4, _⟩ := C3.out.box
            obtain ⟨q0, q1, q2, q3, q4, _⟩ := HBX.out
            go_wp2_with (at_builtin; refine append_val rfl (.tmp 47) (.tmp 49) rfl (gx + 1) AL cL accL y rfl ((C3.out.vl.below (below_new w3 (.cells #[.int .i64 y.t.k, .int .i64 y.t.n, .string y.t.s, .slice y.A y.t.l.length y.c, .slice y.A' y.t.m.length y.c'] 24))) : VG _ _ _ _ _) ⟨w3.heap.size, 0, none⟩ rfl (news1 w3 24 y.pr.kc) (by have := LENS.out; omega) (by have := C3.out.lx; simp; omega) ?_)
            intro gL cL2 wA hvA hgA hatA hltA
            have zc := below_new w3 (.cells #[.int .i64 y.t.k, .int .i64 y.t.n, .string y.t.s, .slice y.A y.t.l.length y.c, .slice y.A' y.t.m.length y.c'] 24)
            have HB4 := Lib.hid (bnext HB3.out zc)
            have PUSH := Lib.hid (Rst.pushL CR.out HB4.out (rd_up RY3.out zc) hvA hgA (hatA.imp id (fun e => by rw [e]; simp)) hltA)
            have C4 := C3.out.next zc
            obtain ⟨y0, y1, y2, y3, y4, g0, g1, g2, g3, g4, _⟩ := C4.box.kept (hgA.block gx C4.lx (fun e => by have := (C4.vl.lt gx e.symm).1; omega))
            have LENP : Hid ((accL ++ [y]).length = accL.length + 1) := Lib.hid (by simp)
            clear hvA hgA hatA hltA zc C4 e0 e1 e2 e3 e4 f0 f1 f2 f3 f4 q0 q1 q2 q3 q4 C3 HBX HLT HB3 RY3 RY
            rcases HNN.out with rfl | ⟨j, rfl, hkj, hjs, hcnt⟩
            · have NO : Hid (∀ p, G ≠ some p) := Lib.hid (fun p hp => by
                obtain ⟨xs, q⟩ := p
                obtain ⟨x, z, m, h1, h2⟩ := GI.out xs q hp
                obtain ⟨_, j, hj, _⟩ := HY.out x z h1
                omega)
              go_wp2
              go_roundw
              case rel => exact ⟨-1, false, accL ++ [y], some ⟨gL, 0, none⟩, cL2, rfl, rfl, PUSH, Lib.hid (by have := HN.out; simp; omega), .inl ⟨rfl, NO⟩⟩
              case measure =>
                show mAt s.size (.int .i64 (-1)) < mAt s.size (.int .i64 (k : Int))
                rw [mAt_dead, mAt_k]
                omega
            · have CN := Lib.hid hcnt
              have GN : Hid (∀ xs q, G = some (xs, q) → ∃ m : Nat, goL [E] (rd r) false m ((accL ++ [y]).map (·.t)) (s.toList.drop j) = some (xs, q)) := Lib.hid (fun xs q h => by
                obtain ⟨x, z, m, h1, h2⟩ := GI.out xs q h
                obtain ⟨e1, j', hj, hd⟩ := HY.out x z h1
                have : j' = j := by omega
                subst this
                exact ⟨m, by rw [List.map_append, hd, ← h2, ← e1]; rfl⟩)
              clear hcnt
              go_wp2
              go_roundw
              case rel => exact ⟨(j : Int), false, accL ++ [y], some ⟨gL, 0, none⟩, cL2, rfl, rfl, PUSH, Lib.hid (by have := HN.out; simp; omega), .inr ⟨j, rfl, by omega, hjs, Lib.hid ⟨by have := HN.out; simp; omega, by have := HN.out; have := CN.out; rw [List.map_append, sumN_append]; simp only [List.map_cons, List.map_nil, sumN]; omega⟩, GN⟩⟩
              case measure =>
                show mAt s.size (.int .i64 (j : Int)) < mAt s.size (.int .i64 (k : Int))
                rw [mAt_k, mAt_k]
                omega

set_option maxHeartbeats 12800000 in
theorem prest_dict (r : Nat) (ih : RefP r) (hr : r ≤ 11) (w : World) (s : ByteArray) (a : Nat) (E : UInt8) (lev : Int) (hlev : lev = 12 - r) (hs : s.size ≤ 3000) (ha : a ≤ s.size) :
    Calls Try.prog 63 #[.string s, .int .i64 (a : Int), .int .i64 7, .string ⟨#[E]⟩, .int .i64 lev] w (PPost s a (dictV' (rowR [E] (pairR (rd r)) (s.toList.drop a))) (r + 1) w) := by
  have HKK : Hid ((0 : Int) ≤ 7 ∧ (7 : Int) ≤ 8) := Lib.hid (by omega)
  have IH := Lib.hid (fun w2 k (hk : k ≤ s.size) => ih w2 s k (lev + 1) (by omega) (by omega) hs hk)
  have WL := Lib.hid (i64_next r lev hlev hr)
  have WE := Lib.hid (fun w2 k (hk : k ≤ 4000) => pword_any s ⟨#[E]⟩ k w2 hs hk (by rw [size_one]; omega) (by rw [size_one]; omega))
  have WC := Lib.hid (fun w2 k (hk : k ≤ 4000) => pword_any s ⟨#[44, 32]⟩ k w2 hs hk (by decide) (by decide))
  have WK := Lib.hid (fun w2 k (hk : k ≤ 4000) => pword_any s ⟨#[58, 32]⟩ k w2 hs hk (by decide) (by decide))
  rw [show (⟨#[58, 32]⟩ : ByteArray).toList = [58, 32] from lit_list [58, 32]] at WK
  rw [show (⟨#[E]⟩ : ByteArray).toList = [E] from lit_list [E]] at WE
  rw [show (⟨#[44, 32]⟩ : ByteArray).toList = [44, 32] from lit_list [44, 32]] at WC
  have SE := Lib.hid (size_one E)
  obtain ⟨EE, hEE⟩ : ∃ y : ByteArray, y = (⟨#[E]⟩ : ByteArray) := ⟨_, rfl⟩
  rw [← hEE] at WE SE ⊢
  clear hEE
  generalize hG : rowR [E] (pairR (rd r)) (s.toList.drop a) = G
  have G0 : Hid (∀ xs q, G = some (xs, q) → ∃ (m : Nat) (acc : List (V × V)), acc.map Prod.fst = ([] : List At).map (·.t) ∧ acc.map Prod.snd = ([] : List At).map (·.t) ∧ goL [E] (pairR (rd r)) true m acc (s.toList.drop a) = some (xs, q)) := Lib.hid (fun xs q h => ⟨1000, [], rfl, rfl, by rw [← hG, goL_start] at h; exact h⟩)
  have HG := Lib.hid (show dictV' G = dictV' G from rfl)
  clear hG ih hlev
  generalize hRR : dictV' G = RR at *
  replace HG := Lib.hid (show RR = dictV' G from hRR.symm)
  clear hRR
  go_enter Try.func63, Try.ntmps63
  go_upto_region 2 with fail
  generalize hW : World.alloc (World.alloc _ _) _ = W
  have C0 := Lib.hid (Rst.start w (r + 1) 7 W hW)
  clear hW
  obtain ⟨gx, hgx⟩ : ∃ g : Nat, g = w.heap.size + 1 := ⟨_, rfl⟩
  rw [← hgx] at C0 ⊢
  obtain ⟨r0, hr0⟩ : ∃ g : Nat, g = w.heap.size := ⟨_, rfl⟩
  rw [← hr0] at C0 ⊢
  clear hgx hr0
  go_wp2_with fail
  go_loopw [1, 13] (fun i f wr => ∃ (n : Int) (fst : Bool) (accL accM : List At) (AL : Option Addr) (cL : Nat) (AM : Option Addr) (cM : Nat), i = .int .i64 n ∧ f = .bool fst ∧ Hid (Rst w wr (r + 1) r0 gx 7 accL accM AL cL AM cM) ∧ Hid (accL.length ≤ 3001 ∧ accM.length ≤ 3001) ∧ ((n = -1 ∧ Hid (∀ p, G ≠ some p)) ∨ ∃ k : Nat, n = (k : Int) ∧ a ≤ k ∧ k ≤ s.size ∧ Hid (accL.length + a ≤ k ∧ accM.length ≤ accL.length ∧ sumN (cntV r) (accL.map (·.t)) + sumN (cntV r) (accM.map (·.t)) + a ≤ k) ∧ Hid (∀ xs q, G = some (xs, q) → ∃ (m : Nat) (acc : List (V × V)), acc.map Prod.fst = accL.map (·.t) ∧ acc.map Prod.snd = accM.map (·.t) ∧ goL [E] (pairR (rd r)) fst m acc (s.toList.drop k) = some (xs, q)))) (fun i _ _ => mAt s.size i)
  case atStart => exact ⟨(a : Int), true, [], [], none, 0, none, 0, rfl, rfl, C0, Lib.hid ⟨by simp, by simp⟩, .inr ⟨a, rfl, Nat.le_refl _, ha, Lib.hid (by simp [sumN]), G0⟩⟩
  case round =>
    obtain ⟨n, fst, accL, accM, AL, cL, AM, cM, rfl, rfl, CR, LENS, hinv⟩ := hrel
    rcases hinv with ⟨rfl, NO⟩ | ⟨k, rfl, hak, hks, HN, GH⟩
    · skip
      obtain ⟨y0, y1, y2, y3, y4, g0, g1, g2, g3, g4, _⟩ := CR.out.box
      have RES := Lib.hid CR.out.res
      obtain ⟨u0, hu0⟩ := RES.out.cell (i := 0) (by omega)
      obtain ⟨u1, hu1⟩ := RES.out.cell (i := 1) (by omega)
      obtain ⟨u2, hu2⟩ := RES.out.cell (i := 2) (by omega)
      obtain ⟨u3, hu3⟩ := RES.out.cell (i := 3) (by omega)
      obtain ⟨u4, hu4⟩ := RES.out.cell (i := 4) (by omega)
      have z0 := RES.out.frozen 0
      have z1 := RES.out.frozen 1
      have z2 := RES.out.frozen 2
      have z3 := RES.out.frozen 3
      have z4 := RES.out.frozen 4
      have HRB := Lib.hid (ret_box CR.out.res (.int .i64 7) (.int .i64 0) (.string ⟨#[]⟩) (.slice AL accL.length cL) (.slice AM accM.length cM))
      go_wp2
      obtain ⟨F, hF, ⟨r0', r1', r2', r3', r4', _⟩, hk', hs', hbel'⟩ := HRB.out
      rw [← hF]
      clear hF
      exact bodyPost_ret (v := .tuple #[.agg #[.int .i64 7, .int .i64 0, .string ⟨#[]⟩, .slice AL accL.length cL, .slice AM accM.length cM], .int .i64 (-1)]) (by simp [results, Try.results63, go_sem, r0', r1', r2', r3', r4']) rfl (rst_end CR.out HKK.out (by have := LENS.out; omega) (by have := LENS.out; omega) hk' hs' hbel' (.inl rfl) (fun t z h => by
        cases hGG : G with
        | none => rw [HG.out, hGG] at h; cases h
        | some p => exact absurd hGG (NO.out p)))
    · have k0 : (0 : Int) ≤ (k : Int) := by omega
      have k0' : ¬ (k : Int) < 0 := by omega
      have WD := WE.out wr k (by omega)
      generalize hb : atL [E] s.toList k = b at WD
      have HB := Lib.hid hb
      clear hb
      replace WD := Lib.hid WD
      go_wp2_with fail
      refine WD.out.mono ?_
      rintro e w2 ⟨rfl, rfl⟩
      clear WD
      cases b with
      | true =>
        have ATE : Hid ([E].isPrefixOf (s.toList.drop k) = true) := HB
        have hkE : Hid (k + 1 ≤ s.size) := Lib.hid (by
          rcases at_drop HB.out with h | h
          · exact h
          · cases h)
        have W1 : Hid (wrap64 ((k : Int) + 1) = (k : Int) + 1) := Lib.hid (w64_add k 1 (by omega) (by decide) (by decide))
        have se := SE.out
        obtain ⟨y0, y1, y2, y3, y4, g0, g1, g2, g3, g4, _⟩ := CR.out.box
        have RES := Lib.hid CR.out.res
        obtain ⟨u0, hu0⟩ := RES.out.cell (i := 0) (by omega)
        obtain ⟨u1, hu1⟩ := RES.out.cell (i := 1) (by omega)
        obtain ⟨u2, hu2⟩ := RES.out.cell (i := 2) (by omega)
        obtain ⟨u3, hu3⟩ := RES.out.cell (i := 3) (by omega)
        obtain ⟨u4, hu4⟩ := RES.out.cell (i := 4) (by omega)
        have z0 := RES.out.frozen 0
        have z1 := RES.out.frozen 1
        have z2 := RES.out.frozen 2
        have z3 := RES.out.frozen 3
        have z4 := RES.out.frozen 4
        have HRB := Lib.hid (ret_box CR.out.res (.int .i64 7) (.int .i64 0) (.string ⟨#[]⟩) (.slice AL accL.length cL) (.slice AM accM.length cM))
        have w1k := W1.out
        go_wp2
        obtain ⟨F, hF, ⟨r0', r1', r2', r3', r4', _⟩, hk', hs', hbel'⟩ := HRB.out
        rw [← hF]
        clear hF
        clear w1k
        exact bodyPost_ret (v := .tuple #[.agg #[.int .i64 7, .int .i64 0, .string ⟨#[]⟩, .slice AL accL.length cL, .slice AM accM.length cM], .int .i64 ((k : Int) + 1)]) (by simp [results, Try.results63, go_sem, r0', r1', r2', r3', r4']) rfl (rst_end CR.out HKK.out (by have := LENS.out; omega) (by have := LENS.out; omega) hk' hs' hbel' (.inr ⟨k + 1, by omega, by omega, by have := hkE.out; omega, by have := HN.out; omega⟩) (fun t z h => by
          cases hGG : G with
          | none => rw [HG.out, hGG] at h; cases h
          | some p =>
            obtain ⟨xs, q⟩ := p
            obtain ⟨m, acc, f1, f2, hgo⟩ := GH.out xs q hGG
            obtain ⟨e1, e2⟩ := goL_end hgo ATE.out
            rw [HG.out, hGG] at h
            injection h with h
            injection h with h1 h2
            refine ⟨?_, k + 1, by omega, ?_⟩
            · rw [← h1, ← f1, ← f2, e1]
            · rw [← h2, e2, List.drop_drop]; rfl))
      | false =>
        have ATE : Hid ([E].isPrefixOf (s.toList.drop k) = false) := HB
        cases fst with
        | true =>
          have GI : Hid (∀ xs q, G = some (xs, q) → ∃ (x : V × V) (z : Bs) (m : Nat) (acc : List (V × V)), acc.map Prod.fst = accL.map (·.t) ∧ acc.map Prod.snd = accM.map (·.t) ∧ pairR (rd r) (s.toList.drop k) = some (x, z) ∧ goL [E] (pairR (rd r)) false m (acc ++ [x]) z = some (xs, q)) := Lib.hid (fun xs q h => by
            obtain ⟨m, acc, f1, f2, hgo⟩ := GH.out xs q h
            obtain ⟨x, z, m', h1, h2⟩ := items_go (goL_first hgo ATE.out)
            exact ⟨x, z, m', acc, f1, f2, h1, h2⟩)
          clear GH HB ATE
          obtain ⟨k', hk'⟩ : ∃ k' : Nat, k' = k := ⟨_, rfl⟩
          subst hk'
          have PA := Lib.hid (IH.out wr k' (by omega))
          unfold PPost at PA
          have wl := WL.out
          go_wp2_with fail
          clear wl
          refine PA.out.mono ?_
          rintro e w2 ⟨y, n, rfl, ry, hb, hn, hR⟩
          clear PA
          have RY := Lib.hid ry
          have HB2 := Lib.hid hb
          have HY := Lib.hid hR
          have HNN := Lib.hid hn
          clear ry hb hR hn
          go_upto_region 10 with fail
          have HBX := Lib.hid (Bx.new w2 y)
          have zb := below_new w2 (.cells #[.int .i64 y.t.k, .int .i64 y.t.n, .string y.t.s, .slice y.A y.t.l.length y.c, .slice y.A' y.t.m.length y.c'] 24)
          generalize hWb : World.alloc w2 _ = w3 at HBX zb ⊢
          have hzl : w2.heap.size < w3.heap.size := by rw [← hWb]; simp
          clear hWb
          have HB3 := Lib.hid (bnext HB2.out zb)
          have RY3 := Lib.hid (rd_up RY.out zb)
          have HLT := Lib.hid hzl
          clear zb hzl
          obtain ⟨gy, hgy⟩ : ∃ g : Nat, g = w2.heap.size := ⟨_, rfl⟩
          rw [← hgy] at HBX HLT ⊢
          clear hgy
          have C3 := Lib.hid (CR.out.next HB3.out)
          obtain ⟨e0, e1, e2, e3, e4, f0, f1, f2, f3, f4, _⟩ := C3.out.box
          obtain ⟨q0, q1, q2, q3, q4, _⟩ := HBX.out
          go_wp2_with (at_builtin; refine append_val rfl (.tmp 47) (.tmp 49) rfl (gx + 1) AL cL accL y rfl ((C3.out.vl.below (below_new w3 (.cells #[.int .i64 y.t.k, .int .i64 y.t.n, .string y.t.s, .slice y.A y.t.l.length y.c, .slice y.A' y.t.m.length y.c'] 24))) : VG _ _ _ _ _) ⟨w3.heap.size, 0, none⟩ rfl (news1 w3 24 y.pr.kc) (by have := LENS.out; omega) (by have := C3.out.lx; simp; omega) ?_)
          intro gL cL2 wA hvA hgA hatA hltA
          have zc := below_new w3 (.cells #[.int .i64 y.t.k, .int .i64 y.t.n, .string y.t.s, .slice y.A y.t.l.length y.c, .slice y.A' y.t.m.length y.c'] 24)
          have HB4 := Lib.hid (bnext HB3.out zc)
          have PUSH := Lib.hid (Rst.pushL CR.out HB4.out (rd_up RY3.out zc) hvA hgA (hatA.imp id (fun e => by rw [e]; simp)) hltA)
          have C4 := C3.out.next zc
          obtain ⟨y0, y1, y2, y3, y4, g0, g1, g2, g3, g4, _⟩ := C4.box.kept (hgA.block gx C4.lx (fun e => by have := (C4.vl.lt gx e.symm).1; omega))
          have LENP : Hid ((accL ++ [y]).length = accL.length + 1) := Lib.hid (by simp)
          clear hvA hgA hatA hltA zc C4 e0 e1 e2 e3 e4 f0 f1 f2 f3 f4 q0 q1 q2 q3 q4 C3 HBX HLT HB3 RY3 RY
          go_upto_region 11 with fail
          obtain ⟨wZ, hwZ⟩ : ∃ x : World, x = wA.setCell ⟨gx, 3, none⟩ (.slice (some ⟨gL, 0, none⟩) (accL.length + 1) cL2) := ⟨_, rfl⟩
          rw [← hwZ] at PUSH ⊢
          clear hwZ y0 y1 y2 y3 y4 g0 g1 g2 g3 g4
          obtain ⟨LL, hLL⟩ : ∃ L : List At, L = accL ++ [y] := ⟨_, rfl⟩
          rw [← hLL] at PUSH LENP
          have LLE := Lib.hid hLL
          clear hLL
          rcases HNN.out with rfl | ⟨j, rfl, hkj, hjs, hcnt⟩
          · have NO : Hid (∀ p, G ≠ some p) := Lib.hid (fun p hp => by
              obtain ⟨xs, q⟩ := p
              obtain ⟨x, z, m, acc, _, _, h1, h2⟩ := GI.out xs q hp
              obtain ⟨rr, h3, _⟩ := pair_go h1
              obtain ⟨_, j, hj, _⟩ := HY.out _ _ h3
              omega)
            go_wp2
            go_roundw
            case rel => exact ⟨-1, false, LL, accM, some ⟨gL, 0, none⟩, cL2, AM, cM, rfl, rfl, PUSH, Lib.hid (by have := HN.out; have := LENP.out; omega), .inl ⟨rfl, NO⟩⟩
            case measure =>
              show mAt s.size (.int .i64 (-1)) < mAt s.size (.int .i64 (k' : Int))
              rw [mAt_dead, mAt_k]
              omega
          · have CN := Lib.hid hcnt
            clear hcnt
            have GJ : Hid (∀ xs q, G = some (xs, q) → ∃ (x : V × V) (z : Bs) (m : Nat) (acc : List (V × V)), acc.map Prod.fst = accL.map (·.t) ∧ acc.map Prod.snd = accM.map (·.t) ∧ y.t = x.1 ∧ [58, 32].isPrefixOf (s.toList.drop j) = true ∧ rd r (s.toList.drop (j + 2)) = some (x.2, z) ∧ goL [E] (pairR (rd r)) false m (acc ++ [x]) z = some (xs, q)) := Lib.hid (fun xs q h => by
              obtain ⟨x, z, m, acc, f1, f2, h1, h2⟩ := GI.out xs q h
              obtain ⟨rr, h3, h4, h5⟩ := pair_go h1
              obtain ⟨e1, j', hj, hd⟩ := HY.out _ _ h3
              have : j' = j := by omega
              subst this
              rw [← hd] at h4 h5
              exact ⟨x, z, m, acc, f1, f2, e1, h4, by rw [← h5, List.drop_drop], h2⟩)
            clear GI HY HNN
            have WD := WK.out wZ j (by omega)
            generalize hb : atL [58, 32] s.toList j = b at WD
            have HB := Lib.hid hb
            clear hb
            replace WD := Lib.hid WD
            have j0 : (0 : Int) ≤ (j : Int) := by omega
            have WJ : Hid (wrap64 ((j : Int) + 2) = (j : Int) + 2) := Lib.hid (w64_add j 2 (by omega) (by decide) (by decide))
            go_wp2_with fail
            refine WD.out.mono ?_
            rintro e w5 ⟨rfl, rfl⟩
            clear WD
            cases b with
            | false =>
              have NO : Hid (∀ p, G ≠ some p) := Lib.hid (fun p hp => by
                obtain ⟨xs, q⟩ := p
                obtain ⟨x, z, m, acc, _, _, _, h1, _⟩ := GJ.out xs q hp
                have h2 : [58, 32].isPrefixOf (s.toList.drop j) = false := HB.out
                rw [h2] at h1; cases h1)
              obtain ⟨y0, y1, y2, y3, y4, g0, g1, g2, g3, g4, _⟩ := PUSH.out.box
              have RES := Lib.hid PUSH.out.res
              obtain ⟨u0, hu0⟩ := RES.out.cell (i := 0) (by omega)
              obtain ⟨u1, hu1⟩ := RES.out.cell (i := 1) (by omega)
              obtain ⟨u2, hu2⟩ := RES.out.cell (i := 2) (by omega)
              obtain ⟨u3, hu3⟩ := RES.out.cell (i := 3) (by omega)
              obtain ⟨u4, hu4⟩ := RES.out.cell (i := 4) (by omega)
              have z0 := RES.out.frozen 0
              have z1 := RES.out.frozen 1
              have z2 := RES.out.frozen 2
              have z3 := RES.out.frozen 3
              have z4 := RES.out.frozen 4
              have HRB := Lib.hid (ret_box PUSH.out.res (.int .i64 7) (.int .i64 0) (.string ⟨#[]⟩) (.slice (some ⟨gL, 0, none⟩) LL.length cL2) (.slice AM accM.length cM))
              go_wp2
              obtain ⟨F, hF, ⟨r0', r1', r2', r3', r4', _⟩, hk', hs', hbel'⟩ := HRB.out
              rw [← hF]
              clear hF
              exact bodyPost_ret (v := .tuple #[.agg #[.int .i64 7, .int .i64 0, .string ⟨#[]⟩, .slice (some ⟨gL, 0, none⟩) LL.length cL2, .slice AM accM.length cM], .int .i64 (-1)]) (by simp [results, Try.results63, go_sem, r0', r1', r2', r3', r4']) rfl (rst_end PUSH.out HKK.out (by have := LENS.out; have := LENP.out; omega) (by have := LENS.out; omega) hk' hs' hbel' (.inl rfl) (fun t z h => by
                cases hGG : G with
                | none => rw [HG.out, hGG] at h; cases h
                | some p => exact absurd hGG (NO.out p)))
            | true =>
              have hj2 : j + 2 ≤ s.size := by
                rcases at_drop HB.out with h | h
                · exact h
                · cases h
              obtain ⟨j', hj'⟩ : ∃ j' : Nat, j' = j + 2 := ⟨_, rfl⟩
              rw [← hj'] at GJ
              have HJI : Hid ((j : Int) + 2 = (j' : Int)) := Lib.hid (by omega)
              have hjj : j ≤ j' := by omega
              have hjs' : j' ≤ s.size := by omega
              clear hj' hj2 HB
              have PB := Lib.hid (IH.out wZ j' (by omega))
              unfold PPost at PB
              have w2j := WJ.out
              have wl := WL.out
              go_wp2_with fail
              (try clear wl)
              (try clear w2j)
              rw [HJI.out]
              refine PB.out.mono ?_
              rintro e w4 ⟨v, n, rfl, ry, hb, hn, hR⟩
              clear PB
              have RV := Lib.hid ry
              have HBV := Lib.hid hb
              have HV := Lib.hid hR
              have HNV := Lib.hid hn
              clear ry hb hR hn
              go_upto_region 16 with fail
              have HBX := Lib.hid (Bx.new w4 v)
              have zb := below_new w4 (.cells #[.int .i64 v.t.k, .int .i64 v.t.n, .string v.t.s, .slice v.A v.t.l.length v.c, .slice v.A' v.t.m.length v.c'] 24)
              generalize hWb : World.alloc w4 _ = w6 at HBX zb ⊢
              clear hWb
              have HB6 := Lib.hid (bnext HBV.out zb)
              have RV6 := Lib.hid (rd_up RV.out zb)
              clear zb
              obtain ⟨gy, hgy⟩ : ∃ g : Nat, g = w4.heap.size := ⟨_, rfl⟩
              rw [← hgy] at HBX ⊢
              clear hgy
              have C6 := Lib.hid (PUSH.out.next HB6.out)
              obtain ⟨e0, e1, e2, e3, e4, f0, f1, f2, f3, f4, _⟩ := C6.out.box
              obtain ⟨q0, q1, q2, q3, q4, _⟩ := HBX.out
              go_wp2_with (at_builtin; refine append_val rfl (.tmp 74) (.tmp 76) rfl (gx + 1) AM cM accM v rfl ((C6.out.vm.below (below_new w6 (.cells #[.int .i64 v.t.k, .int .i64 v.t.n, .string v.t.s, .slice v.A v.t.l.length v.c, .slice v.A' v.t.m.length v.c'] 24))) : VG _ _ _ _ _) ⟨w6.heap.size, 0, none⟩ rfl (news1 w6 24 v.pr.kc) (by have := LENS.out; omega) (by have := C6.out.lx; simp; omega) ?_)
              intro gM cM2 wB hvA hgA hatA hltA
              have zc := below_new w6 (.cells #[.int .i64 v.t.k, .int .i64 v.t.n, .string v.t.s, .slice v.A v.t.l.length v.c, .slice v.A' v.t.m.length v.c'] 24)
              have HB7 := Lib.hid (bnext HB6.out zc)
              have PUSH2 := Lib.hid (Rst.pushM PUSH.out HB7.out (rd_up RV6.out zc) hvA hgA (hatA.imp id (fun e => by rw [e]; simp)) hltA)
              have C7 := C6.out.next zc
              obtain ⟨y0, y1, y2, y3, y4, g0, g1, g2, g3, g4, _⟩ := C7.box.kept (hgA.block gx C7.lx (fun e => by have := (C7.vm.lt gx e.symm).1; omega))
              clear hvA hgA hatA hltA zc C7 e0 e1 e2 e3 e4 f0 f1 f2 f3 f4 q0 q1 q2 q3 q4 C6 HBX RV6 RV
              rcases HNV.out with rfl | ⟨j2, rfl, hkj2, hjs2, hcnt⟩
              · have NO : Hid (∀ p, G ≠ some p) := Lib.hid (fun p hp => by
                  obtain ⟨xs, q⟩ := p
                  obtain ⟨x, z, m, acc, _, _, _, _, h1, _⟩ := GJ.out xs q hp
                  obtain ⟨_, j, hj, _⟩ := HV.out _ _ h1
                  omega)
                go_wp2
                go_roundw
                case rel => exact ⟨-1, false, LL, accM ++ [v], some ⟨gL, 0, none⟩, cL2, some ⟨gM, 0, none⟩, cM2, rfl, rfl, PUSH2, Lib.hid (by have := HN.out; have := LENP.out; simp; omega), .inl ⟨rfl, NO⟩⟩
                case measure =>
                  show mAt s.size (.int .i64 (-1)) < mAt s.size (.int .i64 (k' : Int))
                  rw [mAt_dead, mAt_k]
                  omega
              · have CN2 := Lib.hid hcnt
                clear hcnt
                have GN : Hid (∀ xs q, G = some (xs, q) → ∃ (m : Nat) (acc : List (V × V)), acc.map Prod.fst = LL.map (·.t) ∧ acc.map Prod.snd = (accM ++ [v]).map (·.t) ∧ goL [E] (pairR (rd r)) false m acc (s.toList.drop j2) = some (xs, q)) := Lib.hid (fun xs q h => by
                  obtain ⟨x, z, m, acc, f1, f2, e1, _, h1, h2⟩ := GJ.out xs q h
                  obtain ⟨e2, j3, hj, hd⟩ := HV.out _ _ h1
                  have : j3 = j2 := by omega
                  subst this
                  refine ⟨m, acc ++ [x], ?_, ?_, by rw [hd, ← h2]⟩
                  · rw [LLE.out, List.map_append, List.map_append, f1]
                    show _ ++ [x.1] = _ ++ [y.t]
                    rw [e1]
                  · rw [List.map_append, List.map_append, f2]
                    show _ ++ [x.2] = _ ++ [v.t]
                    rw [e2])
                have SML : Hid (sumN (cntV r) (LL.map (·.t)) = sumN (cntV r) (accL.map (·.t)) + cntV r y.t) := Lib.hid (by rw [LLE.out, List.map_append, sumN_append]; simp [sumN])
                have SMM : Hid (sumN (cntV r) ((accM ++ [v]).map (·.t)) = sumN (cntV r) (accM.map (·.t)) + cntV r v.t) := Lib.hid (by rw [List.map_append, sumN_append]; simp [sumN])
                go_wp2
                go_roundw
                case rel => exact ⟨(j2 : Int), false, LL, accM ++ [v], some ⟨gL, 0, none⟩, cL2, some ⟨gM, 0, none⟩, cM2, rfl, rfl, PUSH2, Lib.hid (by have := HN.out; have := LENP.out; simp; omega), .inr ⟨j2, rfl, by omega, hjs2, Lib.hid ⟨by have := HN.out; have := LENP.out; have := CN.out; have := CN2.out; omega, by have := HN.out; have := LENP.out; simp; omega, by have := HN.out; have := CN.out; have := CN2.out; rw [SML.out, SMM.out]; omega⟩, GN⟩⟩
                case measure =>
                  show mAt s.size (.int .i64 (j2 : Int)) < mAt s.size (.int .i64 (k' : Int))
                  rw [mAt_k, mAt_k]
                  omega
        | false =>
          have WD := WC.out wr k (by omega)
          generalize hb : atL [44, 32] s.toList k = b at WD
          have HC := Lib.hid hb
          clear hb
          replace WD := Lib.hid WD
          have W2 : Hid (wrap64 ((k : Int) + 2) = (k : Int) + 2) := Lib.hid (w64_add k 2 (by omega) (by decide) (by decide))
          go_wp2_with fail
          refine WD.out.mono ?_
          rintro e w2 ⟨rfl, rfl⟩
          clear WD
          cases b with
          | false =>
            have NO : Hid (∀ p, G ≠ some p) := Lib.hid (fun p hp => by
              obtain ⟨xs, q⟩ := p
              obtain ⟨m, acc, f1, f2, hgo⟩ := GH.out xs q hp
              have h1 := (goL_comma hgo ATE.out).1
              have h2 : [44, 32].isPrefixOf (s.toList.drop k) = false := HC.out
              rw [h2] at h1; cases h1)
            obtain ⟨y0, y1, y2, y3, y4, g0, g1, g2, g3, g4, _⟩ := CR.out.box
            have RES := Lib.hid CR.out.res
            obtain ⟨u0, hu0⟩ := RES.out.cell (i := 0) (by omega)
            obtain ⟨u1, hu1⟩ := RES.out.cell (i := 1) (by omega)
            obtain ⟨u2, hu2⟩ := RES.out.cell (i := 2) (by omega)
            obtain ⟨u3, hu3⟩ := RES.out.cell (i := 3) (by omega)
            obtain ⟨u4, hu4⟩ := RES.out.cell (i := 4) (by omega)
            have z0 := RES.out.frozen 0
            have z1 := RES.out.frozen 1
            have z2 := RES.out.frozen 2
            have z3 := RES.out.frozen 3
            have z4 := RES.out.frozen 4
            have HRB := Lib.hid (ret_box CR.out.res (.int .i64 7) (.int .i64 0) (.string ⟨#[]⟩) (.slice AL accL.length cL) (.slice AM accM.length cM))
            go_wp2
            obtain ⟨F, hF, ⟨r0', r1', r2', r3', r4', _⟩, hk', hs', hbel'⟩ := HRB.out
            rw [← hF]
            clear hF
            exact bodyPost_ret (v := .tuple #[.agg #[.int .i64 7, .int .i64 0, .string ⟨#[]⟩, .slice AL accL.length cL, .slice AM accM.length cM], .int .i64 (-1)]) (by simp [results, Try.results63, go_sem, r0', r1', r2', r3', r4']) rfl (rst_end CR.out HKK.out (by have := LENS.out; omega) (by have := LENS.out; omega) hk' hs' hbel' (.inl rfl) (fun t z h => by
              cases hGG : G with
              | none => rw [HG.out, hGG] at h; cases h
              | some p => exact absurd hGG (NO.out p)))
          | true =>
            have hk2 : k + 2 ≤ s.size := by
              rcases at_drop HC.out with h | h
              · exact h
              · cases h
            have GI : Hid (∀ xs q, G = some (xs, q) → ∃ (x : V × V) (z : Bs) (m : Nat) (acc : List (V × V)), acc.map Prod.fst = accL.map (·.t) ∧ acc.map Prod.snd = accM.map (·.t) ∧ pairR (rd r) (s.toList.drop (k + 2)) = some (x, z) ∧ goL [E] (pairR (rd r)) false m (acc ++ [x]) z = some (xs, q)) := Lib.hid (fun xs q h => by
              obtain ⟨m, acc, f1, f2, hgo⟩ := GH.out xs q h
              obtain ⟨x, z, m', h1, h2⟩ := items_go (goL_comma hgo ATE.out).2
              exact ⟨x, z, m', acc, f1, f2, by rw [← h1, List.drop_drop], h2⟩)
            clear GH HB ATE HC
            obtain ⟨k', hk'⟩ : ∃ k' : Nat, k' = k + 2 := ⟨_, rfl⟩
            rw [← hk'] at GI
            have hkI : (k : Int) + 2 = (k' : Int) := by omega
            have HKI := Lib.hid hkI
            have hak' : a ≤ k' := by omega
            have hks' : k' ≤ s.size := by omega
            have hkk' : k ≤ k' := by omega
            replace HN : Hid (accL.length + a ≤ k' ∧ accM.length ≤ accL.length ∧ sumN (cntV r) (accL.map (·.t)) + sumN (cntV r) (accM.map (·.t)) + a ≤ k') := Lib.hid (by have := HN.out; omega)
            clear hkI hk' hk2
            have PA := Lib.hid (IH.out wr k' (by omega))
            unfold PPost at PA
            have w2k := W2.out
            go_upto_region 8 with fail
            try clear w2k
            rw [HKI.out]
            have wl := WL.out
            go_wp2_with fail
            clear wl
            refine PA.out.mono ?_
            rintro e w2 ⟨y, n, rfl, ry, hb, hn, hR⟩
            clear PA
            have RY := Lib.hid ry
            have HB2 := Lib.hid hb
            have HY := Lib.hid hR
            have HNN := Lib.hid hn
            clear ry hb hR hn
            go_upto_region 10 with fail
            have HBX := Lib.hid (Bx.new w2 y)
            have zb := below_new w2 (.cells #[.int .i64 y.t.k, .int .i64 y.t.n, .string y.t.s, .slice y.A y.t.l.length y.c, .slice y.A' y.t.m.length y.c'] 24)
            generalize hWb : World.alloc w2 _ = w3 at HBX zb ⊢
            have hzl : w2.heap.size < w3.heap.size := by rw [← hWb]; simp
            clear hWb
            have HB3 := Lib.hid (bnext HB2.out zb)
            have RY3 := Lib.hid (rd_up RY.out zb)
            have HLT := Lib.hid hzl
            clear zb hzl
            obtain ⟨gy, hgy⟩ : ∃ g : Nat, g = w2.heap.size := ⟨_, rfl⟩
            rw [← hgy] at HBX HLT ⊢
            clear hgy
            have C3 := Lib.hid (CR.out.next HB3.out)
            obtain ⟨e0, e1, e2, e3, e4, f0, f1, f2, f3, f4, _⟩ := C3.out.box
            obtain ⟨q0, q1, q2, q3, q4, _⟩ := HBX.out
            go_wp2_with (at_builtin; refine append_val rfl (.tmp 47) (.tmp 49) rfl (gx + 1) AL cL accL y rfl ((C3.out.vl.below (below_new w3 (.cells #[.int .i64 y.t.k, .int .i64 y.t.n, .string y.t.s, .slice y.A y.t.l.length y.c, .slice y.A' y.t.m.length y.c'] 24))) : VG _ _ _ _ _) ⟨w3.heap.size, 0, none⟩ rfl (news1 w3 24 y.pr.kc) (by have := LENS.out; omega) (by have := C3.out.lx; simp; omega) ?_)
            intro gL cL2 wA hvA hgA hatA hltA
            have zc := below_new w3 (.cells #[.int .i64 y.t.k, .int .i64 y.t.n, .string y.t.s, .slice y.A y.t.l.length y.c, .slice y.A' y.t.m.length y.c'] 24)
            have HB4 := Lib.hid (bnext HB3.out zc)
            have PUSH := Lib.hid (Rst.pushL CR.out HB4.out (rd_up RY3.out zc) hvA hgA (hatA.imp id (fun e => by rw [e]; simp)) hltA)
            have C4 := C3.out.next zc
            obtain ⟨y0, y1, y2, y3, y4, g0, g1, g2, g3, g4, _⟩ := C4.box.kept (hgA.block gx C4.lx (fun e => by have := (C4.vl.lt gx e.symm).1; omega))
            have LENP : Hid ((accL ++ [y]).length = accL.length + 1) := Lib.hid (by simp)
            clear hvA hgA hatA hltA zc C4 e0 e1 e2 e3 e4 f0 f1 f2 f3 f4 q0 q1 q2 q3 q4 C3 HBX HLT HB3 RY3 RY
            go_upto_region 11 with fail
            obtain ⟨wZ, hwZ⟩ : ∃ x : World, x = wA.setCell ⟨gx, 3, none⟩ (.slice (some ⟨gL, 0, none⟩) (accL.length + 1) cL2) := ⟨_, rfl⟩
            rw [← hwZ] at PUSH ⊢
            clear hwZ y0 y1 y2 y3 y4 g0 g1 g2 g3 g4
            obtain ⟨LL, hLL⟩ : ∃ L : List At, L = accL ++ [y] := ⟨_, rfl⟩
            rw [← hLL] at PUSH LENP
            have LLE := Lib.hid hLL
            clear hLL
            rcases HNN.out with rfl | ⟨j, rfl, hkj, hjs, hcnt⟩
            · have NO : Hid (∀ p, G ≠ some p) := Lib.hid (fun p hp => by
                obtain ⟨xs, q⟩ := p
                obtain ⟨x, z, m, acc, _, _, h1, h2⟩ := GI.out xs q hp
                obtain ⟨rr, h3, _⟩ := pair_go h1
                obtain ⟨_, j, hj, _⟩ := HY.out _ _ h3
                omega)
              go_wp2
              go_roundw
              case rel => exact ⟨-1, false, LL, accM, some ⟨gL, 0, none⟩, cL2, AM, cM, rfl, rfl, PUSH, Lib.hid (by have := HN.out; have := LENP.out; omega), .inl ⟨rfl, NO⟩⟩
              case measure =>
                show mAt s.size (.int .i64 (-1)) < mAt s.size (.int .i64 (k : Int))
                rw [mAt_dead, mAt_k]
                omega
            · have CN := Lib.hid hcnt
              clear hcnt
              have GJ : Hid (∀ xs q, G = some (xs, q) → ∃ (x : V × V) (z : Bs) (m : Nat) (acc : List (V × V)), acc.map Prod.fst = accL.map (·.t) ∧ acc.map Prod.snd = accM.map (·.t) ∧ y.t = x.1 ∧ [58, 32].isPrefixOf (s.toList.drop j) = true ∧ rd r (s.toList.drop (j + 2)) = some (x.2, z) ∧ goL [E] (pairR (rd r)) false m (acc ++ [x]) z = some (xs, q)) := Lib.hid (fun xs q h => by
                obtain ⟨x, z, m, acc, f1, f2, h1, h2⟩ := GI.out xs q h
                obtain ⟨rr, h3, h4, h5⟩ := pair_go h1
                obtain ⟨e1, j', hj, hd⟩ := HY.out _ _ h3
                have : j' = j := by omega
                subst this
                rw [← hd] at h4 h5
                exact ⟨x, z, m, acc, f1, f2, e1, h4, by rw [← h5, List.drop_drop], h2⟩)
              clear GI HY HNN
              have WD := WK.out wZ j (by omega)
              generalize hb : atL [58, 32] s.toList j = b at WD
              have HB := Lib.hid hb
              clear hb
              replace WD := Lib.hid WD
              have j0 : (0 : Int) ≤ (j : Int) := by omega
              have WJ : Hid (wrap64 ((j : Int) + 2) = (j : Int) + 2) := Lib.hid (w64_add j 2 (by omega) (by decide) (by decide))
              go_wp2_with fail
              refine WD.out.mono ?_
              rintro e w5 ⟨rfl, rfl⟩
              clear WD
              cases b with
              | false =>
                have NO : Hid (∀ p, G ≠ some p) := Lib.hid (fun p hp => by
                  obtain ⟨xs, q⟩ := p
                  obtain ⟨x, z, m, acc, _, _, _, h1, _⟩ := GJ.out xs q hp
                  have h2 : [58, 32].isPrefixOf (s.toList.drop j) = false := HB.out
                  rw [h2] at h1; cases h1)
                obtain ⟨y0, y1, y2, y3, y4, g0, g1, g2, g3, g4, _⟩ := PUSH.out.box
                have RES := Lib.hid PUSH.out.res
                obtain ⟨u0, hu0⟩ := RES.out.cell (i := 0) (by omega)
                obtain ⟨u1, hu1⟩ := RES.out.cell (i := 1) (by omega)
                obtain ⟨u2, hu2⟩ := RES.out.cell (i := 2) (by omega)
                obtain ⟨u3, hu3⟩ := RES.out.cell (i := 3) (by omega)
                obtain ⟨u4, hu4⟩ := RES.out.cell (i := 4) (by omega)
                have z0 := RES.out.frozen 0
                have z1 := RES.out.frozen 1
                have z2 := RES.out.frozen 2
                have z3 := RES.out.frozen 3
                have z4 := RES.out.frozen 4
                have HRB := Lib.hid (ret_box PUSH.out.res (.int .i64 7) (.int .i64 0) (.string ⟨#[]⟩) (.slice (some ⟨gL, 0, none⟩) LL.length cL2) (.slice AM accM.length cM))
                go_wp2
                obtain ⟨F, hF, ⟨r0', r1', r2', r3', r4', _⟩, hk', hs', hbel'⟩ := HRB.out
                rw [← hF]
                clear hF
                exact bodyPost_ret (v := .tuple #[.agg #[.int .i64 7, .int .i64 0, .string ⟨#[]⟩, .slice (some ⟨gL, 0, none⟩) LL.length cL2, .slice AM accM.length cM], .int .i64 (-1)]) (by simp [results, Try.results63, go_sem, r0', r1', r2', r3', r4']) rfl (rst_end PUSH.out HKK.out (by have := LENS.out; have := LENP.out; omega) (by have := LENS.out; omega) hk' hs' hbel' (.inl rfl) (fun t z h => by
                  cases hGG : G with
                  | none => rw [HG.out, hGG] at h; cases h
                  | some p => exact absurd hGG (NO.out p)))
              | true =>
                have hj2 : j + 2 ≤ s.size := by
                  rcases at_drop HB.out with h | h
                  · exact h
                  · cases h
                obtain ⟨j', hj'⟩ : ∃ j' : Nat, j' = j + 2 := ⟨_, rfl⟩
                rw [← hj'] at GJ
                have HJI : Hid ((j : Int) + 2 = (j' : Int)) := Lib.hid (by omega)
                have hjj : j ≤ j' := by omega
                have hjs' : j' ≤ s.size := by omega
                clear hj' hj2 HB
                have PB := Lib.hid (IH.out wZ j' (by omega))
                unfold PPost at PB
                have w2j := WJ.out
                have wl := WL.out
                go_wp2_with fail
                (try clear wl)
                (try clear w2j)
                rw [HJI.out]
                refine PB.out.mono ?_
                rintro e w4 ⟨v, n, rfl, ry, hb, hn, hR⟩
                clear PB
                have RV := Lib.hid ry
                have HBV := Lib.hid hb
                have HV := Lib.hid hR
                have HNV := Lib.hid hn
                clear ry hb hR hn
                go_upto_region 16 with fail
                have HBX := Lib.hid (Bx.new w4 v)
                have zb := below_new w4 (.cells #[.int .i64 v.t.k, .int .i64 v.t.n, .string v.t.s, .slice v.A v.t.l.length v.c, .slice v.A' v.t.m.length v.c'] 24)
                generalize hWb : World.alloc w4 _ = w6 at HBX zb ⊢
                clear hWb
                have HB6 := Lib.hid (bnext HBV.out zb)
                have RV6 := Lib.hid (rd_up RV.out zb)
                clear zb
                obtain ⟨gy, hgy⟩ : ∃ g : Nat, g = w4.heap.size := ⟨_, rfl⟩
                rw [← hgy] at HBX ⊢
                clear hgy
                have C6 := Lib.hid (PUSH.out.next HB6.out)
                obtain ⟨e0, e1, e2, e3, e4, f0, f1, f2, f3, f4, _⟩ := C6.out.box
                obtain ⟨q0, q1, q2, q3, q4, _⟩ := HBX.out
                go_wp2_with (at_builtin; refine append_val rfl (.tmp 74) (.tmp 76) rfl (gx + 1) AM cM accM v rfl ((C6.out.vm.below (below_new w6 (.cells #[.int .i64 v.t.k, .int .i64 v.t.n, .string v.t.s, .slice v.A v.t.l.length v.c, .slice v.A' v.t.m.length v.c'] 24))) : VG _ _ _ _ _) ⟨w6.heap.size, 0, none⟩ rfl (news1 w6 24 v.pr.kc) (by have := LENS.out; omega) (by have := C6.out.lx; simp; omega) ?_)
                intro gM cM2 wB hvA hgA hatA hltA
                have zc := below_new w6 (.cells #[.int .i64 v.t.k, .int .i64 v.t.n, .string v.t.s, .slice v.A v.t.l.length v.c, .slice v.A' v.t.m.length v.c'] 24)
                have HB7 := Lib.hid (bnext HB6.out zc)
                have PUSH2 := Lib.hid (Rst.pushM PUSH.out HB7.out (rd_up RV6.out zc) hvA hgA (hatA.imp id (fun e => by rw [e]; simp)) hltA)
                have C7 := C6.out.next zc
                obtain ⟨y0, y1, y2, y3, y4, g0, g1, g2, g3, g4, _⟩ := C7.box.kept (hgA.block gx C7.lx (fun e => by have := (C7.vm.lt gx e.symm).1; omega))
                clear hvA hgA hatA hltA zc C7 e0 e1 e2 e3 e4 f0 f1 f2 f3 f4 q0 q1 q2 q3 q4 C6 HBX RV6 RV
                rcases HNV.out with rfl | ⟨j2, rfl, hkj2, hjs2, hcnt⟩
                · have NO : Hid (∀ p, G ≠ some p) := Lib.hid (fun p hp => by
                    obtain ⟨xs, q⟩ := p
                    obtain ⟨x, z, m, acc, _, _, _, _, h1, _⟩ := GJ.out xs q hp
                    obtain ⟨_, j, hj, _⟩ := HV.out _ _ h1
                    omega)
                  go_wp2
                  go_roundw
                  case rel => exact ⟨-1, false, LL, accM ++ [v], some ⟨gL, 0, none⟩, cL2, some ⟨gM, 0, none⟩, cM2, rfl, rfl, PUSH2, Lib.hid (by have := HN.out; have := LENP.out; simp; omega), .inl ⟨rfl, NO⟩⟩
                  case measure =>
                    show mAt s.size (.int .i64 (-1)) < mAt s.size (.int .i64 (k : Int))
                    rw [mAt_dead, mAt_k]
                    omega
                · have CN2 := Lib.hid hcnt
                  clear hcnt
                  have GN : Hid (∀ xs q, G = some (xs, q) → ∃ (m : Nat) (acc : List (V × V)), acc.map Prod.fst = LL.map (·.t) ∧ acc.map Prod.snd = (accM ++ [v]).map (·.t) ∧ goL [E] (pairR (rd r)) false m acc (s.toList.drop j2) = some (xs, q)) := Lib.hid (fun xs q h => by
                    obtain ⟨x, z, m, acc, f1, f2, e1, _, h1, h2⟩ := GJ.out xs q h
                    obtain ⟨e2, j3, hj, hd⟩ := HV.out _ _ h1
                    have : j3 = j2 := by omega
                    subst this
                    refine ⟨m, acc ++ [x], ?_, ?_, by rw [hd, ← h2]⟩
                    · rw [LLE.out, List.map_append, List.map_append, f1]
                      show _ ++ [x.1] = _ ++ [y.t]
                      rw [e1]
                    · rw [List.map_append, List.map_append, f2]
                      show _ ++ [x.2] = _ ++ [v.t]
                      rw [e2])
                  have SML : Hid (sumN (cntV r) (LL.map (·.t)) = sumN (cntV r) (accL.map (·.t)) + cntV r y.t) := Lib.hid (by rw [LLE.out, List.map_append, sumN_append]; simp [sumN])
                  have SMM : Hid (sumN (cntV r) ((accM ++ [v]).map (·.t)) = sumN (cntV r) (accM.map (·.t)) + cntV r v.t) := Lib.hid (by rw [List.map_append, sumN_append]; simp [sumN])
                  go_wp2
                  go_roundw
                  case rel => exact ⟨(j2 : Int), false, LL, accM ++ [v], some ⟨gL, 0, none⟩, cL2, some ⟨gM, 0, none⟩, cM2, rfl, rfl, PUSH2, Lib.hid (by have := HN.out; have := LENP.out; simp; omega), .inr ⟨j2, rfl, by omega, hjs2, Lib.hid ⟨by have := HN.out; have := LENP.out; have := CN.out; have := CN2.out; omega, by have := HN.out; have := LENP.out; simp; omega, by have := HN.out; have := CN.out; have := CN2.out; rw [SML.out, SMM.out]; omega⟩, GN⟩⟩
                  case measure =>
                    show mAt s.size (.int .i64 (j2 : Int)) < mAt s.size (.int .i64 (k : Int))
                    rw [mAt_k, mAt_k]
                    omega
end Go.Proofs.Ytmgjiipooffggaa
