/- The reader's row and dict. -/
import Derived.Test.YtmgjiipooffggaaKJ
namespace Go.Proofs.Ytmgjiipooffggaa
set_option maxRecDepth 100000
open Go.RowKit Go.Sort

/-- A value stored to the result's box. -/
theorem val_end {w w1 F : World} {g r0 lo d : Nat} {s : ByteArray} {l' : Bs} {q : At} {b : Bool} {o : Option (V × Bs)} (hg : g < w.heap.size) (hr : w.heap.size ≤ r0) (hk : ∀ lo B, r0 < lo → Kept lo B w1 F) (hs : F.heap.size = w1.heap.size) (hbel : ∀ B w0, B ≤ r0 → Below B w0 w1 → Below B w0 F)
    (k : RK g w w1) (R : RL w1 g s l') (hq : Rd w1 lo w1.heap.size d q.t q.A q.c q.A' q.c') (hlo : r0 < lo) (hx : ∀ t r, o = some (t, r) → b = true ∧ q.t = t ∧ l' = r) (hn : o = none → b = false) :
    ReadPost w g s d o (.returned (.tuple #[q.v, .bool b])) F := by
  have BE := box_end hg hr (hbel _ _ (Nat.le_refl _) (Below.refl _ _)) k
  exact ⟨q, b, l', rfl, Rd.imp (hk lo w1.heap.size hlo) (by omega) (by rw [hs]; exact Nat.le_refl _) (Nat.le_refl _) hq, BE.2 R, BE.1, hx, hn⟩
theorem rd_plain (w : World) (lo B d : Nat) (k n : Int) (s : ByteArray) (hF : Fld (.mk k n s [] [])) : Rd w lo B (d + 1) (.mk k n s [] []) none 0 none 0 := ⟨hF, rw_nil _ _ _ _, rw_nil _ _ _ _⟩

theorem Gr.start (w : World) (g d : Nat) (s : ByteArray) (l : Bs) (lev k : Int) (hR : RL w g s l) (W : World)
    (hW : (((w.alloc (.cells #[.pointer (some ⟨g, 0, none⟩)] 61)).alloc (.cells #[.int .i64 lev] 3)).alloc (.cells #[.int .i64 0, .int .i64 0, .string ⟨#[]⟩, .slice none 0 0, .slice none 0 0] 24)).alloc (.cells #[.int .i64 k, .int .i64 0, .string ⟨#[]⟩, .slice none 0 0, .slice none 0 0] 24) = W) :
    Gr w W g d w.heap.size (w.heap.size + 1) (w.heap.size + 1 + 1) (w.heap.size + 1 + 1 + 1) lev k [] [] none 0 none 0 ∧ RL W g s l := by
  have b1 := below_new w (.cells #[.pointer (some ⟨g, 0, none⟩)] 61)
  generalize h1 : w.alloc _ = w1 at hW b1
  have s1 : w1.heap.size = w.heap.size + 1 := by rw [← h1]; simp
  have b2 := below_new w1 (.cells #[.int .i64 lev] 3)
  generalize h2 : w1.alloc _ = w2 at hW b2
  have s2 : w2.heap.size = w.heap.size + 1 + 1 := by rw [← h2]; simp [s1]
  have b3 := below_new w2 (.cells #[.int .i64 0, .int .i64 0, .string ⟨#[]⟩, .slice none 0 0, .slice none 0 0] 24)
  have c3 := Cell.new w2 (.int .i64 0) (.int .i64 0) (.string ⟨#[]⟩) (.slice none 0 0) (.slice none 0 0)
  generalize h3 : w2.alloc _ = w3 at hW b3 c3
  have s3 : w3.heap.size = w.heap.size + 1 + 1 + 1 := by rw [← h3]; simp [s2]
  have b4 := below_new w3 (.cells #[.int .i64 k, .int .i64 0, .string ⟨#[]⟩, .slice none 0 0, .slice none 0 0] 24)
  have c4 := Cell.new w3 (.int .i64 k) (.int .i64 0) (.string ⟨#[]⟩) (.slice none 0 0) (.slice none 0 0)
  rw [hW] at b4 c4
  have s4 : W.heap.size = w.heap.size + 1 + 1 + 1 + 1 := by rw [← hW]; simp [s3]
  rw [s2] at c3
  rw [s3] at c4
  refine ⟨⟨RK.below (bnext (bnext (bnext b1 b2) b3) b4) hR.lt, hR.lt, Nat.le_refl _, by omega, by omega, by omega, by omega, ?_, ?_, c3.kept (b4.block _ (by omega)), c4, .inl ⟨rfl, rfl⟩, .inl ⟨rfl, rfl⟩, (fun b h => by cases h), by simp⟩, hR.next (bnext (bnext (bnext b1 b2) b3) b4)⟩
  · have : w1.cell? ⟨w.heap.size, 0, none⟩ = some (.pointer (some ⟨g, 0, none⟩)) := by rw [← h1]; exact World.cell?_alloc_at _ _ _ _ rfl
    rw [(bnext (bnext b2 b3) b4).cell (p := ⟨w.heap.size, 0, none⟩) (by simp; omega)]
    exact this
  · have : w2.cell? ⟨w.heap.size + 1, 0, none⟩ = some (.int .i64 lev) := by rw [← h2, ← s1]; exact World.cell?_alloc_at _ _ _ _ rfl
    rw [(bnext b3 b4).cell (p := ⟨w.heap.size + 1, 0, none⟩) (by simp; omega)]
    exact this

theorem gr_end {w wr F : World} {g d g3 g5 r0 gx : Nat} {lev k : Int} {accL accM : List At} {AL AM : Option Addr} {cL cM : Nat} {s : ByteArray} {l' : Bs} {b : Bool} {o : Option (V × Bs)} (h : Gr w wr g d g3 g5 r0 gx lev k accL accM AL cL AM cM) (R : RL wr g s l') (hk0 : -9223372036854775808 ≤ k) (hk1 : k ≤ 9223372036854775807)
    (b1 : accL.length ≤ 1001) (b2 : accM.length ≤ 1001)
    (hk : ∀ lo B, r0 < lo → Kept lo B wr F) (hs : F.heap.size = wr.heap.size) (hbel : ∀ B w0, B ≤ r0 → Below B w0 wr → Below B w0 F)
    (hx : ∀ t r, o = some (t, r) → b = true ∧ V.mk k 0 ⟨#[]⟩ (accL.map (fun x : At => x.t)) (accM.map (fun x : At => x.t)) = t ∧ l' = r) (hn : o = none → b = false) :
    ReadPost w g s (d + 1) o (.returned (.tuple #[.agg #[.int .i64 k, .int .i64 0, .string ⟨#[]⟩, .slice AL accL.length cL, .slice AM accM.length cM], .bool b])) F := by
  have k1 := h.gg; have k2 := h.l3; have k3 := h.l5; have k4 := h.l2; have k5 := h.l0
  have hb0 := hbel r0 wr (Nat.le_refl _) (Below.refl _ _)
  have far : ∀ i, i ≠ r0 → F.heap[i]? = wr.heap[i]? := fun i hi => by
    rcases Nat.lt_or_ge i r0 with h' | h'
    · exact hb0.block i h'
    · exact hk (r0 + 1) (i + 1) (by omega) i (by omega) (by omega)
  have st : ∀ q ∈ accL ++ accM, Rd F w.heap.size F.heap.size d q.t q.A q.c q.A' q.c' := fun q hq => h.st q hq F (by omega) (fun i _ _ hn => far i (fun e => hn (.inr (.inl e))))
  have vl := h.vl.keep (w' := F) (fun b _ h1 _ => far b (by omega))
  have vm := h.vm.keep (w' := F) (fun b _ h1 _ => far b (by omega))
  have rl := grown_rd (lo := w.heap.size) vl (by omega) (by omega) (fun q hq => st q (List.mem_append_left _ hq))
  have rm := grown_rd (lo := w.heap.size) vm (by omega) (by omega) (fun q hq => st q (List.mem_append_right _ hq))
  have BE := box_end k1 (by omega) hb0 h.rk
  refine ⟨⟨.mk k 0 ⟨#[]⟩ (accL.map (fun x : At => x.t)) (accM.map (fun x : At => x.t)), AL, cL, AM, cM⟩, b, l', ?_, ⟨fld_mk _ _ hk0 hk1 (by decide) (by decide) (by decide), rl, rm⟩, BE.2 R, BE.1, hx, hn⟩
  simp [At.v, V.k, V.n, V.s, V.l, V.m]

theorem rowV_parts (k : Int) (x : Option (List V × Bs)) : (∀ t r, rowV' k x = some (t, r) → ∃ xs, x = some (xs, r) ∧ t = .mk k 0 ⟨#[]⟩ xs []) ∧ (rowV' k x = none → x = none) := by
  cases x with
  | none => exact ⟨(fun t r h => by cases h), fun _ => rfl⟩
  | some p => exact ⟨(fun t r h => by injection h with h; injection h with h1 h2; exact ⟨p.1, by rw [← h2], h1.symm⟩), (fun h => by cases h)⟩
theorem dictV_parts (x : Option (List (V × V) × Bs)) : (∀ t r, dictV' x = some (t, r) → ∃ xs, x = some (xs, r) ∧ t = .mk 7 0 ⟨#[]⟩ (xs.map Prod.fst) (xs.map Prod.snd)) ∧ (dictV' x = none → x = none) := by
  cases x with
  | none => exact ⟨(fun t r h => by cases h), fun _ => rfl⟩
  | some p => exact ⟨(fun t r h => by injection h with h; injection h with h1 h2; exact ⟨p.1, by rw [← h2], h1.symm⟩), (fun h => by cases h)⟩

set_option maxHeartbeats 3200000 in
theorem row_read (r : Nat) (ih : ReadOk r) (hr : r ≤ 11) (w : World) (g : Nat) (s : ByteArray) (l : Bs) (k lev : Int) (hk0 : -9223372036854775808 ≤ k) (hk1 : k ≤ 9223372036854775807) (hlev : lev = 12 - r) (hR : RL w g s l) :
    Calls Try.prog 58 #[.pointer (some ⟨g, 0, none⟩), .int .i64 k, .int .i64 lev] w (ReadPost w g s (r + 2) (rowV' k (rowR [93] (rd r) l))) := by
  have HR := Lib.hid hR
  have IT := Lib.hid (fun (g3 g5 r0 gx : Nat) (W : World) (h : Gr w W g (r + 1) g3 g5 r0 gx lev k [] [] none 0 none 0) (hr' : RL W g s l) =>
    items86 (rd r) ⟨#[93]⟩ (.pointer (some ⟨g3, 0, none⟩)) (.pointer (some ⟨g5, 0, none⟩)) (.pointer (some ⟨gx, 0, none⟩)) g s
      (fun acc W => acc.length ≤ 1000 ∧ ∃ (accL : List At) (AL : Option Addr) (cL : Nat), accL.map (fun x : At => x.t) = acc ∧ Gr w W g (r + 1) g3 g5 r0 gx lev k accL [] AL cL none 0)
      (fun W => ∃ (accL : List At) (AL : Option Addr) (cL : Nat), accL.length ≤ 1000 ∧ Gr w W g (r + 1) g3 g5 r0 gx lev k accL [] AL cL none 0)
      (fun acc W ⟨h1, accL, AL, cL, h2, h3⟩ => ⟨accL, AL, cL, by have := congrArg List.length h2; simp at this; omega, h3⟩)
      (fun acc W W' ⟨h1, accL, AL, cL, h2, h3⟩ hk => ⟨h1, accL, AL, cL, h2, h3.next hk⟩)
      (fun W W' ⟨accL, AL, cL, h2, h3⟩ hk => ⟨accL, AL, cL, h2, h3.next hk⟩)
      (fun W acc l1 ⟨h1, accL, AL, cL, h2, h3⟩ hr1 hlt => by
        have hll : accL.length = acc.length := by have := congrArg List.length h2; simpa using this
        refine (rowOne_any r ih hr w W g s g3 g5 r0 gx lev k hlev accL AL cL h3 (by omega) l1 hr1).mono ?_
        rintro e w' ⟨q, b, l', AL', cL', rfl, hr2, hg2, hx, hn⟩
        exact ⟨b, l', rfl, hr2, ⟨_, AL', cL', by simp; omega, hg2⟩, fun x r' ho => by
          obtain ⟨e1, e2, e3⟩ := hx x r' ho
          exact ⟨e1, e3, by simp; omega, _, AL', cL', by simp [h2, e2], hg2⟩, hn⟩)
      W l hr' ⟨by simp, [], none, 0, rfl, h⟩)
  have PX := Lib.hid (rowV_parts k (rowR [93] (rd r) l))
  have TE := Lib.hid (show (⟨#[93]⟩ : ByteArray).data.toList = [93] from rfl)
  rw [TE.out] at IT
  generalize rowV' k (rowR [93] (rd r) l) = G at *
  generalize hX : rowR [93] (rd r) l = X at *
  clear hX TE hR ih hlev
  go_enter Try.func58, Try.ntmps58
  go_upto_region 2 with fail
  generalize hW : World.alloc (World.alloc (World.alloc (World.alloc w _) _) _) _ = W
  have GS := Lib.hid (Gr.start w g (r + 1) s l lev k HR.out W hW)
  clear hW
  have IW := Lib.hid (IT.out _ _ _ _ W GS.out.1 GS.out.2)
  have p3 := GS.out.1.p3
  generalize w.heap.size + 1 + 1 + 1 = gx at *
  generalize w.heap.size + 1 + 1 = r0 at *
  generalize w.heap.size + 1 = g5 at *
  generalize w.heap.size = g3 at GS IW p3 ⊢
  clear IT
  go_wp2_with fail
  refine IW.out.mono ?_
  rintro e w1 ⟨b, l', rfl, r1, hJ, hx, hn⟩
  have HWI : ∃ (accL : List At) (AL : Option Addr) (cL : Nat), accL.length ≤ 1000 ∧ Gr w w1 g (r + 1) g3 g5 r0 gx lev k accL [] AL cL none 0 ∧ (∀ xs r', X = some (xs, r') → b = true ∧ accL.map (fun x : At => x.t) = xs ∧ l' = r') ∧ (X = none → b = false) := by
    cases hXX : X with
    | none =>
      obtain ⟨accL, AL, cL, h1, h2⟩ := hJ
      exact ⟨accL, AL, cL, h1, h2, by simp, fun _ => hn hXX⟩
    | some p =>
      obtain ⟨e1, e2, h1, accL, AL, cL, h2, h3⟩ := hx p.1 p.2 hXX
      exact ⟨accL, AL, cL, (by have := congrArg List.length h2; simp at this; omega), h3, (by rintro xs r' ⟨⟩; exact ⟨e1, h2, e2⟩), by simp⟩
  clear hJ hx hn
  obtain ⟨accL, AL, cL, hle, hg, hx, hn⟩ := HWI
  have HG := Lib.hid hg
  have R1 := Lib.hid r1
  have HX := Lib.hid hx
  have HN := Lib.hid hn
  clear hg r1 hx hn IW p3
  obtain ⟨y0, y1, y2, y3, y4, _⟩ := HG.out.box
  obtain ⟨s0, s1, s2, s3, s4, f0, f1, f2, f3, f4, hblk⟩ := HG.out.res
  have HRB := Lib.hid (ret_box hblk (.int .i64 k) (.int .i64 0) (.string ⟨#[]⟩) (.slice AL accL.length cL) (.slice none 0 0))
  clear hblk
  go_wp2
  obtain ⟨F, hF, ⟨r0', r1', r2', r3', r4', _⟩, hk', hs', hbel'⟩ := HRB.out
  rw [← hF]
  clear hF
  refine bodyPost_ret (v := .tuple #[.agg #[.int .i64 k, .int .i64 0, .string ⟨#[]⟩, .slice AL accL.length cL, .slice none 0 0], .bool b]) (by simp [results, Try.results58, go_sem, r0', r1', r2', r3', r4']) rfl
    (gr_end HG.out R1.out hk0 hk1 (by omega) (by simp) hk' hs' hbel' (fun t r' ho => ?_) (fun ho => HN.out (PX.out.2 ho)))
  obtain ⟨xs, h1, h2⟩ := PX.out.1 t r' ho
  obtain ⟨e1, e2, e3⟩ := HX.out xs r' h1
  exact ⟨e1, by rw [h2, e2]; rfl, e3⟩

set_option maxHeartbeats 3200000 in
theorem dict_read (r : Nat) (ih : ReadOk r) (hr : r ≤ 11) (w : World) (g : Nat) (s : ByteArray) (l : Bs) (lev : Int) (hlev : lev = 12 - r) (hR : RL w g s l) :
    Calls Try.prog 59 #[.pointer (some ⟨g, 0, none⟩), .int .i64 lev] w (ReadPost w g s (r + 2) (dictV' (rowR [125] (pairR (rd r)) l))) := by
  have HR := Lib.hid hR
  have IT := Lib.hid (fun (g3 g5 r0 gx : Nat) (W : World) (h : Gr w W g (r + 1) g3 g5 r0 gx lev 7 [] [] none 0 none 0) (hr' : RL W g s l) =>
    items87 (pairR (rd r)) ⟨#[125]⟩ (.pointer (some ⟨g3, 0, none⟩)) (.pointer (some ⟨g5, 0, none⟩)) (.pointer (some ⟨gx, 0, none⟩)) g s
      (fun acc W => acc.length ≤ 1000 ∧ ∃ (accL accM : List At) (AL : Option Addr) (cL : Nat) (AM : Option Addr) (cM : Nat), accL.map (fun x : At => x.t) = acc.map Prod.fst ∧ accM.map (fun x : At => x.t) = acc.map Prod.snd ∧ Gr w W g (r + 1) g3 g5 r0 gx lev 7 accL accM AL cL AM cM)
      (fun W => ∃ (accL accM : List At) (AL : Option Addr) (cL : Nat) (AM : Option Addr) (cM : Nat), accL.length ≤ 1001 ∧ accM.length ≤ 1001 ∧ Gr w W g (r + 1) g3 g5 r0 gx lev 7 accL accM AL cL AM cM)
      (fun acc W ⟨h1, accL, accM, AL, cL, AM, cM, h2, h2', h3⟩ => ⟨accL, accM, AL, cL, AM, cM, by have := congrArg List.length h2; simp at this; omega, by have := congrArg List.length h2'; simp at this; omega, h3⟩)
      (fun acc W W' ⟨h1, accL, accM, AL, cL, AM, cM, h2, h2', h3⟩ hk => ⟨h1, accL, accM, AL, cL, AM, cM, h2, h2', h3.next hk⟩)
      (fun W W' ⟨accL, accM, AL, cL, AM, cM, h2, h2', h3⟩ hk => ⟨accL, accM, AL, cL, AM, cM, h2, h2', h3.next hk⟩)
      (fun W acc l1 ⟨h1, accL, accM, AL, cL, AM, cM, h2, h2', h3⟩ hr1 hlt => by
        have hll : accL.length = acc.length := by have := congrArg List.length h2; simpa using this
        have hlm : accM.length = acc.length := by have := congrArg List.length h2'; simpa using this
        refine (dictOne_any r ih hr w W g s g3 g5 r0 gx lev 7 hlev accL accM AL cL AM cM h3 (by omega) (by omega) l1 hr1).mono ?_
        rintro e w' ⟨b, l', accL', accM', AL', cL', AM', cM', rfl, hr2, hg2, z1, z2, hx, hn⟩
        exact ⟨b, l', rfl, hr2, ⟨accL', accM', AL', cL', AM', cM', by omega, by omega, hg2⟩, fun x r' ho => by
          obtain ⟨e1, e3, q1, q2, a1, a2, t1, t2⟩ := hx x r' ho
          exact ⟨e1, e3, by simp; omega, accL', accM', AL', cL', AM', cM', by simp [a1, h2, t1], by simp [a2, h2', t2], hg2⟩, hn⟩)
      W l hr' ⟨by simp, [], [], none, 0, none, 0, rfl, rfl, h⟩)
  have PX := Lib.hid (dictV_parts (rowR [125] (pairR (rd r)) l))
  have TE := Lib.hid (show (⟨#[125]⟩ : ByteArray).data.toList = [125] from rfl)
  rw [TE.out] at IT
  generalize dictV' (rowR [125] (pairR (rd r)) l) = G at *
  generalize hX : rowR [125] (pairR (rd r)) l = X at *
  clear hX TE hR ih hlev
  go_enter Try.func59, Try.ntmps59
  go_upto_region 2 with fail
  generalize hW : World.alloc (World.alloc (World.alloc (World.alloc w _) _) _) _ = W
  have GS := Lib.hid (Gr.start w g (r + 1) s l lev 7 HR.out W hW)
  clear hW
  have IW := Lib.hid (IT.out _ _ _ _ W GS.out.1 GS.out.2)
  have p3 := GS.out.1.p3
  generalize w.heap.size + 1 + 1 + 1 = gx at *
  generalize w.heap.size + 1 + 1 = r0 at *
  generalize w.heap.size + 1 = g5 at *
  generalize w.heap.size = g3 at GS IW p3 ⊢
  clear IT
  go_wp2_with fail
  refine IW.out.mono ?_
  rintro e w1 ⟨b, l', rfl, r1, hJ, hx, hn⟩
  have HWI : ∃ (accL accM : List At) (AL : Option Addr) (cL : Nat) (AM : Option Addr) (cM : Nat), accL.length ≤ 1001 ∧ accM.length ≤ 1001 ∧ Gr w w1 g (r + 1) g3 g5 r0 gx lev 7 accL accM AL cL AM cM ∧ (∀ xs r', X = some (xs, r') → b = true ∧ accL.map (fun x : At => x.t) = xs.map Prod.fst ∧ accM.map (fun x : At => x.t) = xs.map Prod.snd ∧ l' = r') ∧ (X = none → b = false) := by
    cases hXX : X with
    | none =>
      obtain ⟨accL, accM, AL, cL, AM, cM, h1, h1', h2⟩ := hJ
      exact ⟨accL, accM, AL, cL, AM, cM, h1, h1', h2, by simp, fun _ => hn hXX⟩
    | some p =>
      obtain ⟨e1, e2, h1, accL, accM, AL, cL, AM, cM, h2, h2', h3⟩ := hx p.1 p.2 hXX
      exact ⟨accL, accM, AL, cL, AM, cM, (by have := congrArg List.length h2; simp at this; omega), (by have := congrArg List.length h2'; simp at this; omega), h3, (by rintro xs r' ⟨⟩; exact ⟨e1, h2, h2', e2⟩), by simp⟩
  clear hJ hx hn
  obtain ⟨accL, accM, AL, cL, AM, cM, hle, hle2, hg, hx, hn⟩ := HWI
  have HG := Lib.hid hg
  have R1 := Lib.hid r1
  have HX := Lib.hid hx
  have HN := Lib.hid hn
  clear hg r1 hx hn IW p3
  obtain ⟨y0, y1, y2, y3, y4, _⟩ := HG.out.box
  obtain ⟨s0, s1, s2, s3, s4, f0, f1, f2, f3, f4, hblk⟩ := HG.out.res
  have HRB := Lib.hid (ret_box hblk (.int .i64 7) (.int .i64 0) (.string ⟨#[]⟩) (.slice AL accL.length cL) (.slice AM accM.length cM))
  clear hblk
  go_wp2
  obtain ⟨F, hF, ⟨r0', r1', r2', r3', r4', _⟩, hk', hs', hbel'⟩ := HRB.out
  rw [← hF]
  clear hF
  refine bodyPost_ret (v := .tuple #[.agg #[.int .i64 7, .int .i64 0, .string ⟨#[]⟩, .slice AL accL.length cL, .slice AM accM.length cM], .bool b]) (by simp [results, Try.results59, go_sem, r0', r1', r2', r3', r4']) rfl
    (gr_end HG.out R1.out (by omega) (by omega) (by omega) (by omega) hk' hs' hbel' (fun t r' ho => ?_) (fun ho => HN.out (PX.out.2 ho)))
  obtain ⟨xs, h1, h2⟩ := PX.out.1 t r' ho
  obtain ⟨e1, e2, e2', e3⟩ := HX.out xs r' h1
  exact ⟨e1, by rw [h2, e2, e2'], e3⟩
end Go.Proofs.Ytmgjiipooffggaa
