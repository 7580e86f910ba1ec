/- The reader's number, thing. -/
import Derived.Test.YtmgjiipooffggaaKA
import Derived.Lib.QuietBelow
import Derived.Laws.IdiomStrings
import Derived.Laws.BytesArg
import Derived.Deep.AppendLies
namespace Go.Proofs.Ytmgjiipooffggaa
set_option maxRecDepth 100000
open Go.RowKit Go.Sort

theorem parseE_cases (l : Bs) : parseE l = 0 ∨ parseE l = 2 ∨ parseE l = 10 := by
  unfold parseE; split
  · exact .inr (.inl rfl)
  · split
    · exact .inl rfl
    · exact .inr (.inr rfl)
/-- A number, or none; where the reader then stands. -/
def NumPost (w : World) (g : Nat) (s : ByteArray) (l : Bs) (e : Ending) (w' : World) : Prop :=
  e = .returned (.tuple #[.int .i64 (parseV (l.takeWhile numB)), .bool (parseE (l.takeWhile numB) == 0)]) ∧ RL w' g s (l.dropWhile numB) ∧ RK g w w'

theorem take_num (s : ByteArray) (p q : Nat) (h0 : p ≤ q) (_hq : q ≤ s.size) (l : Bs) (hl : s.toList.drop p = l) (ha : ∀ c ∈ (s.toList.drop p).take (q - p), numB c = true) (hn : numB ((s.toList.drop q).headD 0) = false) :
    l.takeWhile numB = (s.toList.take q).drop p ∧ l.dropWhile numB = s.toList.drop q := by
  have e : l = (s.toList.take q).drop p ++ s.toList.drop q := by
    rw [← hl, List.drop_take]
    have := (List.take_append_drop (q - p) (s.toList.drop p)).symm
    rw [List.drop_drop, show p + (q - p) = q from by omega] at this
    exact this
  have ha' : ∀ c ∈ (s.toList.take q).drop p, numB c = true := by rw [List.drop_take]; exact ha
  have hz : ∀ m : Bs, numB (m.headD 0) = false → m.takeWhile numB = [] ∧ m.dropWhile numB = m := by
    intro m hm
    cases m with
    | nil => exact ⟨rfl, rfl⟩
    | cons c r => simp at hm; simp [hm]
  have hz' := hz _ hn
  rw [e, List.takeWhile_append_of_pos ha', List.dropWhile_append_of_pos ha', hz'.1, hz'.2]
  simp

theorem RL.at_ {w : World} {g : Nat} {s : ByteArray} {q : Nat} (h : RL w g s (s.toList.drop q)) (hq : q ≤ s.size) : w.cell? ⟨g, 0, none⟩ = some (.string s) ∧ w.cell? ⟨g, 1, none⟩ = some (.int .i64 q) ∧ w.frozen? ⟨g, 1, none⟩ = false := by
  obtain ⟨p, c0, c1, f1, hp, hs, hl⟩ := h.open_
  have := congrArg List.length hl
  rw [List.length_drop, List.length_drop, toList_size] at this
  obtain rfl : p = q := by omega
  exact ⟨c0, c1, f1⟩
theorem run_take (s : ByteArray) (p q : Nat) (h0 : p ≤ q) (hq : q < s.size) (hn : numB (s[q]'hq) = true) (ha : ∀ c ∈ (s.toList.drop p).take (q - p), numB c = true) : ∀ c ∈ (s.toList.drop p).take (q + 1 - p), numB c = true := by
  rw [show q + 1 - p = (q - p) + 1 from by omega]
  intro c hc
  have hk : (s.toList.drop p)[q - p]? = some (s[q]'hq) := by rw [List.getElem?_drop, show p + (q - p) = q from by omega]; exact toList_at s q hq
  rw [take_next _ _ hk, List.mem_append] at hc
  rcases hc with hc | hc
  · exact ha c hc
  · simp at hc; rw [hc]; exact hn
theorem numB_zero : numB 0 = false := by decide

set_option maxHeartbeats 1600000 in
theorem number_any' (w : World) (g : Nat) (s : ByteArray) (l : Bs) (h : RL w g s l) :
    Calls Try.prog 52 #[.pointer (some ⟨g, 0, none⟩)] w (NumPost w g s l) := by
  have LT := Lib.hid h.lt
  obtain ⟨p, c0, c1, f1, hp, hs, hl⟩ := h.open_
  have HL := Lib.hid hl
  have H := Lib.hid h
  clear hl h
  go_enter Try.func52, Try.ntmps52
  go_wp2
  clear c0 c1 f1
  go_loopw [] (fun wr => ∃ q : Nat, p ≤ q ∧ q ≤ s.size ∧ Hid (RL wr g s (s.toList.drop q)) ∧ Hid (RK g w wr) ∧ Hid (∀ c ∈ (s.toList.drop p).take (q - p), numB c = true)) (fun wr => s.size - (intOf ((wr.cell? ⟨g, 1, none⟩).getD undef)).toNat)
  case atStart => exact ⟨p, by omega, hp, Lib.hid (by rw [HL.out]; exact H.out), Lib.hid (RK.refl _ _), Lib.hid (by simp)⟩
  case round =>
    obtain ⟨q, h0, hq, hr, hk, ha⟩ := hrel
    have MQ := Lib.hid (hr.out.at_ hq).2.1
    generalize hc : (s.toList.drop q).headD 0 = c
    have PK := Lib.hid (hc ▸ peek_any wr g s _ hr.out)
    have HC := Lib.hid hc
    clear hc
    go_wp2_with fail
    refine PK.out.mono ?_
    rintro e w1 ⟨rfl, hb⟩
    have R1 := Lib.hid (hr.out.next hb)
    have K1 := Lib.hid (hk.out.trans (RK.below hb hr.out.lt))
    clear hb PK
    go_wp2_with fail
    refine (ofNumber_any c w1).mono ?_
    rintro e w1' ⟨rfl, rfl⟩
    cases hnc : numB c
    · obtain ⟨c0, c1, f1⟩ := R1.out.at_ hq
      have T := Lib.hid (take_num s p q h0 hq l HL.out ha.out (by rw [HC.out]; exact hnc))
      have SE : Hid ((s.extract p q).toList = l.takeWhile numB) := Lib.hid (by rw [toList_cut, T.out.1])
      have cQ : Hid (∀ d os, Calls Try.prog 79 #[.string (s.extract p q)] (grow (redrawn w1 d) os) fun e w'' => e = .returned (.tuple #[.int .i64 (parseV (l.takeWhile numB)), .int .i64 (parseE (l.takeWhile numB))]) ∧ ∃ p : Regrown, w'' = grow (redrawn w1 p.d) p.os) := Lib.hid (fun d os => by
        have := parse_any (s.extract p q) (grow (redrawn w1 d) os)
        rw [SE.out] at this
        exact Calls.regrown_of this)
      generalize hV : parseV (l.takeWhile numB) = V at cQ
      generalize hE : parseE (l.takeWhile numB) = E at cQ
      have HV := Lib.hid hV
      have HE := Lib.hid hE
      clear hV hE
      replace c0 := cell_regrown c0
      replace c1 := cell_regrown c1
      have i0 : (0 : Int) ≤ (p : Int) := by omega
      have i1 : (p : Int) ≤ (q : Int) := by omega
      have i2 : (q : Int) ≤ (s.size : Int) := by omega
      go_wp2_with fail
      refine wp_region_quiet_below (by kernel_rfl) (by kernel_rfl) ?_
      repeat (first | go_big_quiet_step (exact cQ.out _ _) | quiet_step (exact cQ.out _ _))
      refine wpQuiet_nil ?_
      intro _ hw'
      obtain ⟨⟨dq, osq⟩, hw''⟩ := hw'
      subst hw''
      have HNX := Lib.hid (below_regrown w1 dq osq)
      generalize grow (redrawn w1 dq) osq = wq at HNX
      clear c0 c1 f1
      go_wp2
      go_ret2
      refine ⟨by rw [HV.out, HE.out]; rfl, ?_, K1.out.trans (RK.below HNX.out R1.out.lt)⟩
      rw [T.out.2]
      exact R1.out.next HNX.out
    · have hlt : q < s.size := by
        rcases Nat.lt_or_ge q s.size with h' | h'
        · exact h'
        · have := HC.out; rw [head_out s q h'] at this; rw [← this] at hnc; exact absurd hnc (by rw [show ([] : Bs).headD 0 = 0 from rfl, numB_zero]; simp)
      obtain ⟨c0, c1, f1⟩ := R1.out.at_ hq
      have hh := head_at s q hlt
      have A1 := Lib.hid (run_take s p q h0 hlt (by rw [← hh.1, HC.out]; exact hnc) ha.out)
      have i0 : (0 : Int) ≤ (q : Int) := by omega
      have i1 : (q : Int) < (s.size : Int) := by omega
      have i2 : (s.size : Int) ≤ 140737488355328 := by omega
      clear hh
      go_wp2
      go_roundw
      case rel =>
        refine ⟨q + 1, by omega, by omega, Lib.hid ?_, Lib.hid (K1.out.trans (RK.set _ _ _ _)), A1⟩
        exact RL.set R1.out (q + 1) (by omega) rfl
      case measure =>
        have e1 := ((RL.set R1.out (q + 1) (by omega) rfl : RL _ g s (s.toList.drop (q + 1))).at_ (by omega)).2.1
        have e2 := MQ.out
        first
          | (rw [e2]; rw [show ((q : Int) + 1) = ((q + 1 : Nat) : Int) from rfl, e1]; simp [intOf]; omega)
          | (rw [e2]; simp [intOf]; omega)

/-- The result's own box, stored to at the end. -/
theorem box_end {w w1 F : World} {g b : Nat} (hg : g < w.heap.size) (hb : w.heap.size ≤ b) (hF : Below b w1 F) (k : RK g w w1) : RK g w F ∧ ∀ {s : ByteArray} {l : Bs}, RL w1 g s l → RL F g s l :=
  ⟨⟨k.1.trans (hF.mono (by omega)), fun i h1 h2 => (hF.block i (by omega)).trans (k.2 i h1 h2)⟩, fun h => h.kept (hF.block g (by omega))⟩
/-- A vertex's or an edge's number, and the end of it. -/
def ThingPost (w : World) (g : Nat) (s : ByteArray) (k : Int) (o : Option (V × Bs)) (e : Ending) (w' : World) : Prop :=
  ∃ (n : Int) (b : Bool) (l' : Bs), e = .returned (.tuple #[.agg #[.int .i64 k, .int .i64 n, .string ⟨#[]⟩, .slice none 0 0, .slice none 0 0], .bool b]) ∧ -9223372036854775808 ≤ n ∧ n ≤ 9223372036854775807 ∧ RL w' g s l' ∧ RK g w w' ∧
    (∀ t r, o = some (t, r) → b = true ∧ t = .mk k n ⟨#[]⟩ [] [] ∧ l' = r) ∧ (o = none → b = false)
theorem parseV_fits (l : Bs) : -9223372036854775808 ≤ parseV l ∧ parseV l ≤ 9223372036854775807 := by
  unfold parseV room
  split
  · omega
  · split
    · rename_i h; exact (fits_iff _).1 h
    · omega
set_option maxHeartbeats 1600000 in
theorem thing_any (w : World) (g : Nat) (s : ByteArray) (k : Int) (l : Bs) (h : RL w g s l) :
    Calls Try.prog 83 #[.pointer (some ⟨g, 0, none⟩), .int .i64 k] w (ThingPost w g s k (thingR k l)) := by
  have LT := Lib.hid h.lt
  have H := Lib.hid h
  clear h
  generalize hG : thingR k l = G
  have HG := Lib.hid hG
  clear hG
  have TR := Lib.hid (show thingR k l = if parseE (l.takeWhile numB) = 0 then (match takeL [93] (l.dropWhile numB) with | none => none | some q => some (.mk k (parseV (l.takeWhile numB)) ⟨#[]⟩ [] [], q)) else none by
    unfold thingR numR
    by_cases h : parseE (l.takeWhile numB) = 0
    · rw [if_pos h, if_pos h]
      exact rfl
    · rw [if_neg h, if_neg h])
  have NF := parseV_fits (l.takeWhile numB)
  go_enter Try.func83, Try.ntmps83
  go_wp2_with fail
  have z0 := below_new w (.cells #[.int .i64 0, .int .i64 0, .string ⟨#[]⟩, .slice none 0 0, .slice none 0 0] 24)
  generalize hW : World.alloc w _ = W at z0 ⊢
  have HW := Lib.hid (show w.heap.size < W.heap.size by rw [← hW]; simp)
  have B0 : Hid (Cell W w.heap.size (.int .i64 0) (.int .i64 0) (.string ⟨#[]⟩) (.slice none 0 0) (.slice none 0 0)) := Lib.hid (by rw [← hW]; exact Cell.new w _ _ _ _ _)
  clear hW
  have R0 := Lib.hid (H.out.next z0)
  have K0 := Lib.hid (RK.below z0 LT.out)
  clear z0
  have NP := Lib.hid (number_any' W g s l R0.out)
  have TK := Lib.hid (fun w2 (h : RL w2 g s (l.dropWhile numB)) => take_any w2 g s ⟨#[93]⟩ _ h)
  unfold NumPost at NP
  unfold TakePost at TK
  generalize parseV (l.takeWhile numB) = V at *
  generalize hE : (parseE (l.takeWhile numB) == 0) = E at *
  have HE := Lib.hid hE
  clear hE
  have TKE := Lib.hid (show (⟨#[93]⟩ : ByteArray).data.toList = [93] from rfl)
  generalize (⟨#[93]⟩ : ByteArray).data.toList = ends at *
  generalize hT : takeL ends (l.dropWhile numB) = T at *
  have HT := Lib.hid hT
  clear hT
  generalize hI : T.isSome = i at TK
  have HI := Lib.hid hI
  clear hI
  refine NP.out.mono ?_
  rintro e w1 ⟨rfl, r1, k1⟩
  have R1 := Lib.hid r1
  have K1 := Lib.hid (K0.out.trans k1)
  have B1 := Lib.hid (B0.out.kept (k1.other w.heap.size HW.out (fun e => by have := LT.out; omega)))
  clear r1 k1 NP
  obtain ⟨s0, s1, s2, s3, s4, p0, p1, p2, p3, p4, hblk⟩ := B1.out
  clear B0 B1
  cases E
  · have HR := Lib.hid (ret_box hblk (.int .i64 k) (.int .i64 V) (.string ⟨#[]⟩) (.slice none 0 0) (.slice none 0 0))
    clear hblk
    go_wp2
    obtain ⟨F, hF, ⟨r0, r1, r2, r3, r4, _⟩, hk', hs', hbel'⟩ := HR.out
    rw [← hF]
    clear hF
    have BE := box_end LT.out (Nat.le_refl _) (hbel' _ _ (Nat.le_refl _) (Below.refl _ _)) K1.out
    refine bodyPost_ret (v := .tuple #[.agg #[.int .i64 k, .int .i64 V, .string ⟨#[]⟩, .slice none 0 0, .slice none 0 0], .bool false]) (by simp [results, Try.results83, go_sem, r0, r1, r2, r3, r4]) rfl ⟨V, false, _, rfl, NF.1, NF.2, BE.2 R1.out, BE.1, ?_, fun _ => rfl⟩
    intro t r h
    rw [← HG.out, TR.out, if_neg (by have := HE.out; simpa using this)] at h
    cases h
  · have HR := Lib.hid (fun w2 (h : Blk w2 w.heap.size 1) => ret_box h (.int .i64 k) (.int .i64 V) (.string ⟨#[]⟩) (.slice none 0 0) (.slice none 0 0))
    have CE := Lib.hid (⟨s0, s1, s2, s3, s4, p0, p1, p2, p3, p4, hblk⟩ : Cell w1 w.heap.size _ _ _ _ _)
    clear s0 s1 s2 s3 s4 p0 p1 p2 p3 p4 hblk
    go_wp2_with fail
    refine (TK.out _ R1.out).mono ?_
    rintro e w2 ⟨rfl, r2, k2⟩
    have hbx : w.heap.size < w1.heap.size := by
      have := CE.out.blk.lt; exact this
    have R2 := Lib.hid r2
    have K2 := Lib.hid (K1.out.trans k2)
    obtain ⟨s0, s1, s2, s3, s4, p0, p1, p2, p3, p4, hblk⟩ := CE.out.kept (k2.other _ hbx (fun e => by have := LT.out; omega))
    have HB := Lib.hid hblk
    clear r2 k2 hblk
    go_wp2
    obtain ⟨F, hF, ⟨r0, r1, r2, r3, r4, _⟩, hk', hs', hbel'⟩ := HR.out w2 HB.out
    rw [← hF]
    clear hF
    have BE := box_end LT.out (Nat.le_refl _) (hbel' _ _ (Nat.le_refl _) (Below.refl _ _)) K2.out
    have HE' : parseE (l.takeWhile numB) = 0 := by have := HE.out; simpa using this
    refine bodyPost_ret (v := .tuple #[.agg #[.int .i64 k, .int .i64 V, .string ⟨#[]⟩, .slice none 0 0, .slice none 0 0], .bool i]) (by simp [results, Try.results83, go_sem, r0, r1, r2, r3, r4]) rfl ⟨V, i, _, rfl, NF.1, NF.2, BE.2 R2.out, BE.1, ?_, ?_⟩
    · intro t r h
      rw [← HG.out, TR.out, if_pos HE', ← TKE.out, HT.out] at h
      cases hTT : T with
      | none => rw [hTT] at h; cases h
      | some q =>
        rw [hTT] at h
        injection h with h
        injection h with h1 h2
        exact ⟨by rw [← HI.out, hTT]; rfl, h1.symm, by rw [← h2]; rfl⟩
    · intro h
      rw [← HG.out, TR.out, if_pos HE', ← TKE.out, HT.out] at h
      cases hTT : T with
      | none => rw [← HI.out, hTT]; rfl
      | some q => rw [hTT] at h; cases h
end Go.Proofs.Ytmgjiipooffggaa
/- The reader's text: what stands between two quotes. -/
namespace Go.Proofs.Ytmgjiipooffggaa
set_option maxRecDepth 100000
open Go.RowKit Go.Sort

theorem info5 : (Try.prog.info? 5).map (fun i => (i.zero, i.size, i.bytes)) = some (some (.int .u8 0), 1, 1) := by kernel_rfl
abbrev u8v (c : UInt8) : Value := .int .u8 (c.toNat : Int)
theorem own_keep {w w' : World} {base : Nat} {e : TypeId} {size : Nat} {v : Value} {n : Nat} {xs : List Value} (h : w.ownsRow base e size v n xs) (hk : ∀ k, base ≤ k → k < w.heap.size → w'.heap[k]? = w.heap[k]?) : w'.ownsRow base e size v n xs := by
  refine ⟨h.1, ?_⟩
  rcases h.2 with hn | ⟨g, cap, cur, rfl, hb, hgg, rest⟩
  · exact .inl hn
  · exact .inr ⟨g, cap, cur, rfl, hb, (hk g hb (Array.getElem?_eq_some_iff.1 hgg).1).trans hgg, rest⟩
theorem own_rk {w w' : World} {g base : Nat} {e : TypeId} {size : Nat} {v : Value} {n : Nat} {xs : List Value} (h : w.ownsRow base e size v n xs) (hk : RK g w w') (hg : g < base) : w'.ownsRow base e size v n xs :=
  own_keep h fun k h1 h2 => hk.other k h2 (by omega)
theorem own_slice' {w : World} {base : Nat} {e : TypeId} {size : Nat} {v : Value} {n : Nat} {xs : List Value} (h : w.ownsRow base e size v n xs) : ∃ A c, v = .slice A n c := by
  rcases h.2 with ⟨h1, h2⟩ | ⟨g, cap, cur, h1, _⟩
  · exact ⟨none, 0, by rw [h1, h2]⟩
  · exact ⟨_, _, h1⟩
/-- 'string(b)' of a row of bytes that the call owns. -/
theorem str_own {w : World} {base : Nat} {v : Value} {acc : Bs} (h : w.ownsRow base 5 1 v acc.length (acc.map u8v)) : (convert 45 9 v).run Try.prog w = .ok (.string ⟨acc.toArray⟩) w := by
  rcases h.2 with ⟨h1, h2⟩ | ⟨g, cap, cur, h1, _⟩
  · have : acc = [] := List.length_eq_zero_iff.1 h2
    subst this
    rw [h1, run_convert_bytes_nil w 45 5 Try.underlying45 Try.underlying5 0 0 9 Try.underlying9]
    rfl
  · rw [h1]
    refine run_convert_bytes_back w 45 9 5 _ cap acc Try.underlying45 Try.underlying5 Try.underlying9 (fun j hj => ?_)
    refine h.cells (g := g) (by rw [h1]; rfl) j _ ?_
    simp [hj]
def lenOf : Value → Nat | .slice _ n _ => n | _ => 0

def TextPost (w : World) (g : Nat) (s : ByteArray) (o : Option (Bs × Bs)) (e : Ending) (w' : World) : Prop :=
  ∃ (b l' : Bs), e = .returned (.tuple #[.string ⟨b.toArray⟩, .bool o.isSome]) ∧ b.length ≤ 1001 ∧ RL w' g s l' ∧ RK g w w' ∧ ∀ b' r, o = some (b', r) → b = b' ∧ l' = r
def goOn (n : Nat) (acc : Bs) : Option (UInt8 × Bs) → Option (Bs × Bs)
  | none => none
  | some (x, r) => textR n (acc ++ [x]) r
theorem textR_next (n : Nat) (acc l : Bs) (h : acc.length ≤ n) : textR (n + 1 - acc.length) acc l =
    if l.headD 0 = 39 then some (acc, l.drop 1)
    else if l.headD 0 = 92 then goOn (n - acc.length) acc (meantL (l.drop 1))
    else if seenB (l.headD 0) then textR (n - acc.length) (acc ++ [l.headD 0]) (l.drop 1)
    else none := by
  rw [show n + 1 - acc.length = (n - acc.length) + 1 from by omega]
  unfold goOn
  rfl
/-- An append to a row that the call owns. -/
theorem rk_grown {w w3 w4 : World} {g : Nat} {o : Obj} {row : Option Nat} {s : ByteArray} {l : Bs} (k : RK g w w3) (hgrow : (w3.alloc o).grownBy w4 row) (hr : ∀ k, row = some k → w.heap.size ≤ k) (hg : g < w.heap.size) (r : RL w3 g s l) : RK g w w4 ∧ RL w4 g s l := by
  have hs : (w3.alloc o).heap.size = w3.heap.size + 1 := by simp
  have hs3 := k.size
  have hkeep : ∀ i, i < w.heap.size → w4.heap[i]? = w3.heap[i]? := fun i hi => (hgrow.block i (by omega) (fun e => by have := hr i e.symm; omega)).trans (Below.heap_alloc _ _ _ (by omega))
  have hz := hgrow.size
  refine ⟨⟨⟨hgrow.os.trans k.1.os, hgrow.tape.trans k.1.tape, hgrow.output.trans k.1.output, by omega, fun i hi => (hkeep i (by omega)).trans (k.1.block i hi)⟩, fun i h1 h2 => (hkeep i h2).trans (k.2 i h1 h2)⟩, r.kept (hkeep g hg)⟩

set_option maxHeartbeats 3200000 in
theorem text_any' (w : World) (g : Nat) (s : ByteArray) (l : Bs) (h : RL w g s l) :
    Calls Try.prog 54 #[.pointer (some ⟨g, 0, none⟩)] w (TextPost w g s (textR 1001 [] (l.drop 1))) := by
  have LT := Lib.hid h.lt
  have N1 := Lib.hid (next_any w g s l h)
  clear h
  generalize hG : textR 1001 [] (l.drop 1) = G
  have HG := Lib.hid hG
  clear hG
  unfold NextPost at N1
  generalize l.drop 1 = l0 at *
  generalize l.headD 0 = c0 at *
  obtain ⟨i0, hi, hz0, hz1, hz2⟩ := info_parts info5
  go_enter Try.func54, Try.ntmps54
  go_wp2_with fail
  refine N1.out.mono ?_
  rintro e w1 ⟨rfl, r1, k1⟩
  have R1 := Lib.hid r1
  have K1 := Lib.hid k1
  clear r1 k1 N1
  go_wp2_with fail
  go_loopw [4] (fun v wr => ∃ (acc l1 : Bs) (A : Option Addr) (cap : Nat), v = .slice A acc.length cap ∧ acc.length ≤ 1001 ∧ Hid (wr.ownsRow w.heap.size 5 1 (.slice A acc.length cap) acc.length (acc.map u8v)) ∧ Hid (RL wr g s l1) ∧ Hid (RK g w wr) ∧ Hid (textR (1001 - acc.length) acc l1 = G)) (fun v _ => 1001 - lenOf v)
  case atStart => exact ⟨[], l0, none, 0, rfl, by simp, Lib.hid (World.ownsRow_nil _ _ _ _), R1, K1, HG⟩
  case round =>
    obtain ⟨acc, l1, A, cap, rfl, hle, hown, hr, hk, ht⟩ := hrel
    by_cases hm : acc.length ≤ 1000
    · have TN := Lib.hid (textR_next 1000 acc l1 hm)
      have NX := Lib.hid (next_any wr g s l1 hr.out)
      have MX := Lib.hid (fun W (h : RL W g s (l1.drop 1)) => meant_any W g s (l1.drop 1) h)
      unfold NextPost at NX
      unfold BytePost at MX
      have q1 := byte_is (l1.headD 0) 39 (by omega)
      have q2 := byte_is (l1.headD 0) 92 (by omega)
      have hlt := (l1.headD 0).toNat_lt
      generalize l1.headD 0 = c at *
      generalize hM : meantL (l1.drop 1) = M at *
      generalize hq : M.isSome = q at *
      generalize hl2 : l1.drop 1 = l2 at *
      clear hM hl2
      have HQ := Lib.hid hq
      clear hq
      have hmi : (acc.length : Int) ≤ 1000 := by omega
      go_wp2_with fail
      refine NX.out.mono ?_
      rintro e w2 ⟨rfl, r2, k2⟩
      have R2 := Lib.hid r2
      have K2 := Lib.hid (hk.out.trans k2)
      have O2 := Lib.hid (own_rk hown.out k2 LT.out)
      clear r2 k2
      by_cases h1 : c = 39
      · have p1 : ((c.toNat : Int) == 39) = true := by rw [h1]; rfl
        have hG : G = some (acc, l2) := by rw [← ht.out, TN.out, if_pos h1]
        subst hG
        have hcv := str_own O2.out
        clear q1 q2 h1
        go_wp2
        go_ret2
        exact ⟨acc, l2, rfl, hle, R2.out, K2.out, by rintro b' r ⟨⟩; exact ⟨rfl, rfl⟩⟩
      · have p1 : ((c.toNat : Int) == 39) = false := by rw [show (39 : Int) = ((39 : Nat) : Int) from rfl, q1]; simpa using h1
        by_cases h2 : c = 92
        · have p2 : ((c.toNat : Int) == 92) = true := by rw [h2]; rfl
          have HT : Hid (G = goOn (1000 - acc.length) acc M) := Lib.hid (by rw [← ht.out, TN.out, if_neg h1, if_pos h2])
          clear q1 q2 h1 h2
          go_wp2_with fail
          refine (MX.out _ R2.out).mono ?_
          rintro e w3 ⟨n, l3, rfl, hn, r3, k3, hx⟩
          have HX := Lib.hid hx
          have R3 := Lib.hid r3
          have K3 := Lib.hid (K2.out.trans k3)
          have O3 := Lib.hid (own_rk O2.out k3 LT.out)
          clear hx r3 k3
          cases q
          · have hM : M = none := by have := HQ.out; simpa using this
            have hG : G = none := by rw [HT.out, hM]; rfl
            subst hG
            clear hM
            go_wp2
            go_ret2
            exact ⟨[], l3, rfl, by simp, R3.out, K3.out, by simp⟩
          · obtain ⟨⟨x, r⟩, hM⟩ := Option.isSome_iff_exists.1 HQ.out
            obtain ⟨ex, er⟩ := HX.out x r hM
            have HT2 : Hid (G = textR (1000 - acc.length) (acc ++ [x]) l3) := Lib.hid (by rw [HT.out, hM, er]; rfl)
            have NU : Hid ((n : Int) = (x.toNat : Int)) := Lib.hid (by rw [ex]; simp; omega)
            clear hM ex er
            go_wp2_with (at_builtin; refine wpList_append_own _ rfl _ _ 45 rfl w.heap.size 5 i0 (.int .u8 0) 1 1 Try.underlying45 hi hz0 hz1 hz2 rfl (by decide) _ _ _ rfl (O3.out.alloc _) ⟨w3.heap.size, 0, none⟩ 1 1 [.int .u8 (n : Int)] rfl rfl ?c1 ?c2 ?c3 ?c4 ?c5 ?_)
            case c1 =>
              intro j u hj
              match j, hj with
              | 0, hj => simp at hj; subst hj; simp [Addr.add]
            case c2 => intro u hu; simp at hu; subst hu; rfl
            case c3 => unfold maxLen; omega
            case c4 => omega
            case c5 => have := K3.out.size; simp; omega
            intro v' w4 hown' hgrow _
            have HO : Hid (w4.ownsRow w.heap.size 5 1 v' (acc ++ [x]).length ((acc ++ [x]).map u8v)) := Lib.hid (by rw [NU.out] at hown'; simpa using hown')
            have K4 := Lib.hid (rk_grown K3.out hgrow (fun k hk => (O3.out.lt k hk).1) LT.out R3.out)
            clear hown' hgrow
            obtain ⟨A', cap', rfl⟩ := own_slice' HO.out
            go_wp2
            go_roundw
            case rel => exact ⟨acc ++ [x], l3, A', cap', rfl, by simp; omega, HO, Lib.hid K4.out.2, Lib.hid K4.out.1, Lib.hid (by rw [HT2.out]; congr 1; simp)⟩
            case measure => simp [lenOf]; omega
        · have p2 : ((c.toNat : Int) == 92) = false := by rw [show (92 : Int) = ((92 : Nat) : Int) from rfl, q2]; simpa using h2
          have hsn : seenB c = (decide (32 ≤ c.toNat) && decide (c.toNat ≤ 126)) := rfl
          cases hs : seenB c
          · have hG : G = none := by rw [← ht.out, TN.out, if_neg h1, if_neg h2, hs]; rfl
            subst hG
            rw [hs] at hsn
            clear q1 q2 h1 h2
            by_cases h32 : (c.toNat : Int) < 32
            · clear hsn
              go_wp2
              go_ret2
              exact ⟨[], l2, rfl, by simp, R2.out, K2.out, by simp⟩
            · have h126 : (126 : Int) < (c.toNat : Int) := by
                have := hsn.symm
                simp at this
                have := this (by omega)
                omega
              clear hsn
              go_wp2
              go_ret2
              exact ⟨[], l2, rfl, by simp, R2.out, K2.out, by simp⟩
          · have HT2 : Hid (G = textR (1000 - acc.length) (acc ++ [c]) l2) := Lib.hid (by rw [← ht.out, TN.out, if_neg h1, if_neg h2, hs]; rfl)
            rw [hs] at hsn
            clear q1 q2 h1 h2
            have h32 : ¬ ((c.toNat : Int) < 32) := by have := hsn.symm; simp at this; omega
            have h126 : ¬ ((126 : Int) < (c.toNat : Int)) := by have := hsn.symm; simp at this; omega
            clear hsn
            go_wp2_with (at_builtin; refine wpList_append_own _ rfl _ _ 45 rfl w.heap.size 5 i0 (.int .u8 0) 1 1 Try.underlying45 hi hz0 hz1 hz2 rfl (by decide) _ _ _ rfl (O2.out.alloc _) ⟨w2.heap.size, 0, none⟩ 1 1 [.int .u8 (c.toNat : Int)] rfl rfl ?c1 ?c2 ?c3 ?c4 ?c5 ?_)
            case c1 =>
              intro j u hj
              match j, hj with
              | 0, hj => simp at hj; subst hj; simp [Addr.add]
            case c2 => intro u hu; simp at hu; subst hu; rfl
            case c3 => unfold maxLen; omega
            case c4 => omega
            case c5 => have := K2.out.size; simp; omega
            intro v' w4 hown' hgrow _
            have HO : Hid (w4.ownsRow w.heap.size 5 1 v' (acc ++ [c]).length ((acc ++ [c]).map u8v)) := Lib.hid (by simpa using hown')
            have K4 := Lib.hid (rk_grown K2.out hgrow (fun k hk => (O2.out.lt k hk).1) LT.out R2.out)
            clear hown' hgrow
            obtain ⟨A', cap', rfl⟩ := own_slice' HO.out
            go_wp2
            go_roundw
            case rel => exact ⟨acc ++ [c], l2, A', cap', rfl, by simp; omega, HO, Lib.hid K4.out.2, Lib.hid K4.out.1, Lib.hid (by rw [HT2.out]; congr 1; simp)⟩
            case measure => simp [lenOf]; omega
    · have hG : G = none := by
        rw [← ht.out, show 1001 - acc.length = 0 from by omega]; rfl
      subst hG
      have hmi : ¬ ((acc.length : Int) ≤ 1000) := by omega
      go_wp2
      go_ret2
      exact ⟨[], l1, rfl, by simp, hr.out, hk.out, by simp⟩
end Go.Proofs.Ytmgjiipooffggaa
