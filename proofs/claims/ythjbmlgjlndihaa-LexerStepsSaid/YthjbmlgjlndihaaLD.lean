/- A text between two quotes. -/
import Derived.Test.YthjbmlgjlndihaaLC
import Derived.Laws.IdiomStrings
import Derived.Laws.BytesArg
import Derived.Deep.AppendLies
namespace Go.Proofs.Ythjbmlgjlndihaa
set_option maxRecDepth 100000
open Go.RowKit Go.Sort

/-- What stands up to the next quote, as it is meant, and where it ends. -/
def textP : Bs → Bs → Nat → Option (Bs × Nat)
  | [], _, _ => none
  | c :: r, acc, i =>
    if c.toNat < 32 then none
    else if c.toNat = 39 then some (acc, i + 1)
    else if c.toNat = 92 then
      match r with
      | [] => none
      | d :: r' => if d.toNat = 39 ∨ d.toNat = 92 then (if acc.length = 1000 then none else textP r' (acc ++ [d]) (i + 2)) else none
    else if acc.length = 1000 then none else textP r (acc ++ [c]) (i + 1)

theorem textP_nil (acc : Bs) (i : Nat) : textP [] acc i = none := by unfold textP; rfl
theorem textP_cons (c : UInt8) (r acc : Bs) (i : Nat) : textP (c :: r) acc i = if c.toNat < 32 then none
    else if c.toNat = 39 then some (acc, i + 1)
    else if c.toNat = 92 then
      match r with
      | [] => none
      | d :: r' => if d.toNat = 39 ∨ d.toNat = 92 then (if acc.length = 1000 then none else textP r' (acc ++ [d]) (i + 2)) else none
    else if acc.length = 1000 then none else textP r (acc ++ [c]) (i + 1) := by cases r <;> (conv => lhs; unfold textP) <;> rfl

theorem tx_out (s : ByteArray) (k : Nat) (acc : Bs) (h : s.size ≤ k) : textP (s.toList.drop k) acc k = none := by rw [drop_out s k h, textP_nil]
theorem tx_low (s : ByteArray) (k : Nat) (acc : Bs) (h : k < s.size) (h1 : (s[k]'h).toNat < 32) : textP (s.toList.drop k) acc k = none := by
  rw [drop_at s k h, textP_cons, if_pos h1]
theorem tx_q (s : ByteArray) (k : Nat) (acc : Bs) (h : k < s.size) (h2 : (s[k]'h).toNat = 39) : textP (s.toList.drop k) acc k = some (acc, k + 1) := by
  rw [drop_at s k h, textP_cons, if_neg (by omega), if_pos h2]
theorem tx_full (s : ByteArray) (k : Nat) (acc : Bs) (h : k < s.size) (h1 : ¬ (s[k]'h).toNat < 32) (h2 : ¬ (s[k]'h).toNat = 39) (h3 : ¬ (s[k]'h).toNat = 92) (h4 : acc.length = 1000) : textP (s.toList.drop k) acc k = none := by
  rw [drop_at s k h, textP_cons, if_neg h1, if_neg h2, if_neg h3, if_pos h4]
theorem tx_next (s : ByteArray) (k : Nat) (acc : Bs) (h : k < s.size) (h1 : ¬ (s[k]'h).toNat < 32) (h2 : ¬ (s[k]'h).toNat = 39) (h3 : ¬ (s[k]'h).toNat = 92) (h4 : ¬ acc.length = 1000) :
    textP (s.toList.drop k) acc k = textP (s.toList.drop (k + 1)) (acc ++ [s[k]'h]) (k + 1) := by
  rw [drop_at s k h, textP_cons, if_neg h1, if_neg h2, if_neg h3, if_neg h4]
theorem tx_end (s : ByteArray) (k : Nat) (acc : Bs) (h : k < s.size) (h3 : (s[k]'h).toNat = 92) (h4 : s.size ≤ k + 1) : textP (s.toList.drop k) acc k = none := by
  rw [drop_at s k h, drop_out s (k + 1) h4, textP_cons, if_neg (by omega), if_neg (by omega), if_pos h3]
theorem tx_bad (s : ByteArray) (k : Nat) (acc : Bs) (h : k + 1 < s.size) (h3 : (s[k]'(by omega)).toNat = 92) (h4 : ¬ ((s[k + 1]'h).toNat = 39 ∨ (s[k + 1]'h).toNat = 92)) : textP (s.toList.drop k) acc k = none := by
  rw [drop_at s k (by omega), drop_at s (k + 1) h, textP_cons, if_neg (by omega), if_neg (by omega), if_pos h3]
  simp only [if_neg h4]
theorem tx_bfull (s : ByteArray) (k : Nat) (acc : Bs) (h : k + 1 < s.size) (h3 : (s[k]'(by omega)).toNat = 92) (h5 : acc.length = 1000) : textP (s.toList.drop k) acc k = none := by
  rw [drop_at s k (by omega), drop_at s (k + 1) h, textP_cons, if_neg (by omega), if_neg (by omega), if_pos h3]
  simp only [if_pos h5]
  split <;> rfl
theorem tx_bnext (s : ByteArray) (k : Nat) (acc : Bs) (h : k + 1 < s.size) (h3 : (s[k]'(by omega)).toNat = 92) (h4 : (s[k + 1]'h).toNat = 39 ∨ (s[k + 1]'h).toNat = 92) (h5 : ¬ acc.length = 1000) :
    textP (s.toList.drop k) acc k = textP (s.toList.drop (k + 2)) (acc ++ [s[k + 1]'h]) (k + 2) := by
  rw [drop_at s k (by omega), drop_at s (k + 1) h, textP_cons, if_neg (by omega), if_neg (by omega), if_pos h3]
  simp only [if_pos h4, if_neg h5]

theorem info5 : (Try.prog.info? 5).map (fun i => (i.zero, i.size, i.bytes)) = some (some (.int .u8 0), 1, 1) := by kernel_rfl
abbrev u8v (c : UInt8) : Value := .int .u8 (c.toNat : Int)
theorem own_keep {w w' : World} {base : Nat} {e : TypeId} {size : Nat} {v : Value} {n : Nat} {xs : List Value} (h : w.ownsRow base e size v n xs) (hk : ∀ k, base ≤ k → k < w.heap.size → w'.heap[k]? = w.heap[k]?) : w'.ownsRow base e size v n xs := by
  refine ⟨h.1, ?_⟩
  rcases h.2 with hn | ⟨g, cap, cur, rfl, hb, hgg, rest⟩
  · exact .inl hn
  · exact .inr ⟨g, cap, cur, rfl, hb, (hk g hb (Array.getElem?_eq_some_iff.1 hgg).1).trans hgg, rest⟩
theorem own_shape {w : World} {base : Nat} {e : TypeId} {size : Nat} {v : Value} {n : Nat} {xs : List Value} (h : w.ownsRow base e size v n xs) : ∃ A c, v = .slice A n c := by
  rcases h.2 with ⟨h1, h2⟩ | ⟨g, cap, cur, h1, _⟩
  · exact ⟨none, 0, by rw [h1, h2]⟩
  · exact ⟨_, _, h1⟩
/-- 'string(b)' of a row of bytes that the call owns. -/
theorem str_own {w : World} {base : Nat} {v : Value} {acc : Bs} (h : w.ownsRow base 5 1 v acc.length (acc.map u8v)) : (convert 22 9 v).run Try.prog w = .ok (.string (bs acc)) w := by
  rcases h.2 with ⟨h1, h2⟩ | ⟨g, cap, cur, h1, _⟩
  · have : acc = [] := List.length_eq_zero_iff.1 h2
    subst this
    rw [h1, run_convert_bytes_nil w 22 5 Try.underlying22 Try.underlying5 0 0 9 Try.underlying9]
    rfl
  · rw [h1]
    refine run_convert_bytes_back w 22 9 5 _ cap acc Try.underlying22 Try.underlying5 Try.underlying9 (fun j hj => ?_)
    refine h.cells (g := g) (by rw [h1]; rfl) j _ ?_
    simp [hj]
theorem own_block {w : World} {base n c sz : Nat} {A : Option Addr} {e : TypeId} {xs : List Value} (h : w.ownsRow base e sz (.slice A n c) n xs) : ∀ k, Value.ownBlock (.slice A n c) = some k → base ≤ k := fun k hk => (h.lt k hk).1
theorem grown_below {B : Nat} {w a b : World} {row : Option Nat} (hB : B ≤ w.heap.size) (h : Below B w a) (hg : a.grownBy b row) (hrow : ∀ k, row = some k → B ≤ k) : Below B w b :=
  ⟨hg.os.trans h.os, hg.tape.trans h.tape, hg.output.trans h.output, Nat.le_trans h.size hg.size, fun k hk => (hg.block k (by have := h.size; omega) (fun e => by have := hrow k e.symm; omega)).trans (h.block k hk)⟩
/-- Behind an append to a row of bytes a token's box is as it was. -/
theorem tok_grown {a b : World} {base g n c : Nat} {A : Option Addr} {xs : List Value} {o : Obj} {t : TK} (hO : a.ownsRow base 5 1 (.slice A n c) n xs) (ht : Tok a g t) (hg : (a.alloc o).grownBy b (Value.ownBlock (.slice A n c))) : Tok b g t := by
  refine ht.kept ?_
  refine (hg.block g (by have := ht.lt; simp; omega) (fun e => ?_)).trans (Below.heap_alloc _ _ _ ht.lt)
  rcases hO.2 with ⟨h1, h2⟩ | ⟨g', cap, cur, h1, h2, h3, _⟩
  · rw [h1] at e; simp [Value.ownBlock] at e
  · rw [h1] at e
    obtain rfl : g = g' := by simpa [Value.ownBlock] using e
    have := (show a.heap[g]? = _ from ht).symm.trans h3
    simp at this

def textO (o : Option (Bs × Nat)) : Option (TK × Nat) := match o with | some r => some (⟨3, 0, r.1, 0⟩, r.2) | none => none

def lenOf : Value → Nat | .slice _ n _ => n | _ => 0

set_option maxHeartbeats 3200000 in
theorem text_any (s : ByteArray) (hs : s.size ≤ 20000) (hp : 1 ≤ s.size) (w : World) : Calls Try.prog 33 #[.string s] w (FirstPost w (textO (textP (s.toList.drop 1) [] 1))) := by
  generalize hG : textP (s.toList.drop 1) [] 1 = G
  have HG := Lib.hid hG
  clear hG
  obtain ⟨i0, hi, hz0, hz1, hz2⟩ := info_parts info5
  go_enter Try.func33, Try.ntmps33
  go_wp2_with fail
  have B0 := Lib.hid (tok_zero w)
  have z0 := Lib.hid (below_new w zbox)
  unfold zbox at B0 z0
  generalize hW : World.alloc w _ = W at B0 z0 ⊢
  clear hW
  go_loopw [5, 6] (fun v i wr => ∃ (acc : Bs) (A : Option Addr) (cap k : Nat), v = .slice A acc.length cap ∧ i = .int .i64 k ∧ 1 ≤ k ∧ k ≤ s.size ∧ acc.length ≤ 1000 ∧ Hid (wr.ownsRow w.heap.size 5 1 (.slice A acc.length cap) acc.length (acc.map u8v)) ∧ Hid (Tok wr w.heap.size TK.zero) ∧ Hid (Below w.heap.size w wr) ∧ Hid (textP (s.toList.drop k) acc k = G)) (fun _ i _ => s.size - (RowKit.intOf i).toNat)
  case atStart => exact ⟨[], none, 0, 1, rfl, rfl, by omega, hp, by simp, Lib.hid (World.ownsRow_nil _ _ _ _), B0, z0, HG⟩
  case round =>
    obtain ⟨acc, A, cap, k, rfl, rfl, hk1, hk, hm, hown, htok, hbel, ht⟩ := hrel
    by_cases hlt : k < s.size
    · by_cases h32 : (s[k]'hlt).toNat < 32
      · have h32i : ((s[k]'hlt).toNat : Int) < 32 := by omega
        have HN : Hid (G = none) := Lib.hid (by rw [← ht.out]; exact tx_low s k acc hlt h32)
        try clear hf
        try clear h92
        try clear h39
        try clear d39
        try clear d92
        obtain ⟨c0, c1, c2, c3⟩ := htok.out.cells
        have f0 := htok.out.frozen 0
        have f1 := htok.out.frozen 1
        have f2 := htok.out.frozen 2
        have f3 := htok.out.frozen 3
        have HR := Lib.hid (tok_clear htok.out)
        go_wp2
        obtain ⟨F, hF, ht', _, hbel', _⟩ := HR.out
        rw [← hF]
        clear hF
        obtain ⟨r0, r1, r2, r3⟩ := ht'.cells
        refine bodyPost_ret (v := .tuple #[.agg #[.int .i64 0, .int .i64 0, .string (bs []), .int .i64 0], .int .i64 0, .bool false]) (by simp [results, Try.results33, go_sem, r0, r1, r2, r3, TK.zero]) rfl ⟨?_, hbel' _ _ (Nat.le_refl _) hbel.out⟩
        rw [HN.out]
        rfl
      · have h32i : (32 : Int) ≤ ((s[k]'hlt).toNat : Int) := by omega
        by_cases h39 : (s[k]'hlt).toNat = 39
        · have e39 : (((s[k]'hlt).toNat : Int) == 39) = true := by simp; omega
          have HN : Hid (G = some (acc, k + 1)) := Lib.hid (by rw [← ht.out]; exact tx_q s k acc hlt h39)
          obtain ⟨c0, c1, c2, c3⟩ := htok.out.cells
          have f0 := htok.out.frozen 0
          have f1 := htok.out.frozen 1
          have f2 := htok.out.frozen 2
          have f3 := htok.out.frozen 3
          have HR := Lib.hid (htok.out.set ⟨3, 0, acc, 0⟩)
          have hcv := str_own hown.out
          clear h39
          go_wp2
          obtain ⟨F, hF, ht', _, hbel', _⟩ := HR.out
          rw [← hF]
          clear hF
          obtain ⟨r0, r1, r2, r3⟩ := ht'.cells
          refine bodyPost_ret (v := .tuple #[.agg #[.int .i64 3, .int .i64 0, .string (bs acc), .int .i64 0], .int .i64 ((k : Int) + 1), .bool true]) (by simp [results, Try.results33, go_sem, r0, r1, r2, r3]) rfl ⟨?_, hbel' _ _ (Nat.le_refl _) hbel.out⟩
          rw [HN.out]
          rfl
        · have e39 : (((s[k]'hlt).toNat : Int) == 39) = false := by simp; omega
          by_cases h92 : (s[k]'hlt).toNat = 92
          · have e92 : (((s[k]'hlt).toNat : Int) == 92) = true := by simp; omega
            by_cases hl2 : k + 1 < s.size
            · have en : (((k : Int) + 1) == (s.size : Int)) = false := by simp; omega
              have hl2i : (k : Int) + 1 < (s.size : Int) := by omega
              have hix : ((k : Int) + 1).toNat = k + 1 := by omega
              by_cases d39 : (s[k + 1]'hl2).toNat = 39
              · have ed : (((s[k + 1]'hl2).toNat : Int) != 39) = false := by simp; omega
                by_cases hf : acc.length = 1000
                · have hff : ((acc.length : Int) == 1000) = true := by simp; omega
                  have HN : Hid (G = none) := Lib.hid (by rw [← ht.out]; exact tx_bfull s k acc hl2 h92 hf)
                  try clear hf
                  try clear h92
                  try clear h39
                  try clear d39
                  try clear d92
                  obtain ⟨c0, c1, c2, c3⟩ := htok.out.cells
                  have f0 := htok.out.frozen 0
                  have f1 := htok.out.frozen 1
                  have f2 := htok.out.frozen 2
                  have f3 := htok.out.frozen 3
                  have HR := Lib.hid (tok_clear htok.out)
                  go_wp2
                  obtain ⟨F, hF, ht', _, hbel', _⟩ := HR.out
                  rw [← hF]
                  clear hF
                  obtain ⟨r0, r1, r2, r3⟩ := ht'.cells
                  refine bodyPost_ret (v := .tuple #[.agg #[.int .i64 0, .int .i64 0, .string (bs []), .int .i64 0], .int .i64 0, .bool false]) (by simp [results, Try.results33, go_sem, r0, r1, r2, r3, TK.zero]) rfl ⟨?_, hbel' _ _ (Nat.le_refl _) hbel.out⟩
                  rw [HN.out]
                  rfl
                · have hT0 := tx_bnext s k acc hl2 h92 (.inl d39) hf
                  have HT : Hid (textP (s.toList.drop (k + 2)) (acc ++ [s[k + 1]'hl2]) (k + 2) = G) := Lib.hid (by rw [← ht.out]; exact (tx_bnext s k acc hl2 h92 (.inl d39) hf).symm)
                  try clear hT0
                  try clear h92
                  try clear h39
                  try clear d39
                  try clear d92
                  have hmi : (acc.length : Int) < 1000 := by omega
                  have hmf : ((acc.length : Int) == 1000) = false := by simp; omega
                  clear hf
                  go_wp2_with (at_builtin; refine wpList_append_own _ rfl _ _ 22 rfl w.heap.size 5 i0 (.int .u8 0) 1 1 Try.underlying22 hi hz0 hz1 hz2 rfl (by decide) _ _ _ rfl (hown.out.alloc _) ⟨wr.heap.size, 0, none⟩ 1 1 [.int .u8 ((s[k + 1]'hl2).toNat : Int)] rfl rfl ?c1 ?c2 ?c3 ?c4 ?c5 ?_)
                  case c1 =>
                    intro j u hj
                    match j, hj with
                    | 0, hj => simp at hj; subst hj; simp [Addr.add]
                  case c2 => intro u hu; simp at hu; subst hu; rfl
                  case c3 => unfold maxLen; omega
                  case c4 => omega
                  case c5 => have := hbel.out.size; simp; omega
                  intro v' w4 hown' hgrow _
                  have HO : Hid (w4.ownsRow w.heap.size 5 1 v' (acc ++ [s[k + 1]'hl2]).length ((acc ++ [s[k + 1]'hl2]).map u8v)) := Lib.hid (by simpa using hown')
                  have HK := Lib.hid (tok_grown hown.out htok.out hgrow)
                  have HB : Hid (Below w.heap.size w w4) := Lib.hid (grown_below (Nat.le_refl _) (hbel.out.alloc hbel.out.size _) hgrow (own_block hown.out))
                  have HL : (acc ++ [s[k + 1]'hl2]).length = acc.length + 1 := by simp
                  have HM := Lib.hid HL
                  clear hown' hgrow HL
                  generalize acc ++ [s[k + 1]'hl2] = acc' at HO HT HM
                  obtain ⟨A', cap', rfl⟩ := own_shape HO.out
                  go_wp2
                  go_roundw
                  case rel => exact ⟨acc', A', cap', k + 2, rfl, by go_num, by omega, by omega, by have := HM.out; omega, HO, HK, HB, HT⟩
                  case measure => simp [RowKit.intOf]; omega
              · have ed : (((s[k + 1]'hl2).toNat : Int) != 39) = true := by simp; omega
                by_cases d92 : (s[k + 1]'hl2).toNat = 92
                · have ed2 : (((s[k + 1]'hl2).toNat : Int) != 92) = false := by simp; omega
                  by_cases hf : acc.length = 1000
                  · have hff : ((acc.length : Int) == 1000) = true := by simp; omega
                    have HN : Hid (G = none) := Lib.hid (by rw [← ht.out]; exact tx_bfull s k acc hl2 h92 hf)
                    try clear hf
                    try clear h92
                    try clear h39
                    try clear d39
                    try clear d92
                    obtain ⟨c0, c1, c2, c3⟩ := htok.out.cells
                    have f0 := htok.out.frozen 0
                    have f1 := htok.out.frozen 1
                    have f2 := htok.out.frozen 2
                    have f3 := htok.out.frozen 3
                    have HR := Lib.hid (tok_clear htok.out)
                    go_wp2
                    obtain ⟨F, hF, ht', _, hbel', _⟩ := HR.out
                    rw [← hF]
                    clear hF
                    obtain ⟨r0, r1, r2, r3⟩ := ht'.cells
                    refine bodyPost_ret (v := .tuple #[.agg #[.int .i64 0, .int .i64 0, .string (bs []), .int .i64 0], .int .i64 0, .bool false]) (by simp [results, Try.results33, go_sem, r0, r1, r2, r3, TK.zero]) rfl ⟨?_, hbel' _ _ (Nat.le_refl _) hbel.out⟩
                    rw [HN.out]
                    rfl
                  · have hT0 := True.intro
                    have HT : Hid (textP (s.toList.drop (k + 2)) (acc ++ [s[k + 1]'hl2]) (k + 2) = G) := Lib.hid (by rw [← ht.out]; exact (tx_bnext s k acc hl2 h92 (.inr d92) hf).symm)
                    try clear hT0
                    try clear h92
                    try clear h39
                    try clear d39
                    try clear d92
                    have hmi : (acc.length : Int) < 1000 := by omega
                    have hmf : ((acc.length : Int) == 1000) = false := by simp; omega
                    clear hf
                    go_wp2_with (at_builtin; refine wpList_append_own _ rfl _ _ 22 rfl w.heap.size 5 i0 (.int .u8 0) 1 1 Try.underlying22 hi hz0 hz1 hz2 rfl (by decide) _ _ _ rfl (hown.out.alloc _) ⟨wr.heap.size, 0, none⟩ 1 1 [.int .u8 ((s[k + 1]'hl2).toNat : Int)] rfl rfl ?c1 ?c2 ?c3 ?c4 ?c5 ?_)
                    case c1 =>
                      intro j u hj
                      match j, hj with
                      | 0, hj => simp at hj; subst hj; simp [Addr.add]
                    case c2 => intro u hu; simp at hu; subst hu; rfl
                    case c3 => unfold maxLen; omega
                    case c4 => omega
                    case c5 => have := hbel.out.size; simp; omega
                    intro v' w4 hown' hgrow _
                    have HO : Hid (w4.ownsRow w.heap.size 5 1 v' (acc ++ [s[k + 1]'hl2]).length ((acc ++ [s[k + 1]'hl2]).map u8v)) := Lib.hid (by simpa using hown')
                    have HK := Lib.hid (tok_grown hown.out htok.out hgrow)
                    have HB : Hid (Below w.heap.size w w4) := Lib.hid (grown_below (Nat.le_refl _) (hbel.out.alloc hbel.out.size _) hgrow (own_block hown.out))
                    have HL : (acc ++ [s[k + 1]'hl2]).length = acc.length + 1 := by simp
                    have HM := Lib.hid HL
                    clear hown' hgrow HL
                    generalize acc ++ [s[k + 1]'hl2] = acc' at HO HT HM
                    obtain ⟨A', cap', rfl⟩ := own_shape HO.out
                    go_wp2
                    go_roundw
                    case rel => exact ⟨acc', A', cap', k + 2, rfl, by go_num, by omega, by omega, by have := HM.out; omega, HO, HK, HB, HT⟩
                    case measure => simp [RowKit.intOf]; omega
                · have ed2 : (((s[k + 1]'hl2).toNat : Int) != 92) = true := by simp; omega
                  have HN : Hid (G = none) := Lib.hid (by rw [← ht.out]; exact tx_bad s k acc hl2 h92 (by omega))
                  try clear hf
                  try clear h92
                  try clear h39
                  try clear d39
                  try clear d92
                  obtain ⟨c0, c1, c2, c3⟩ := htok.out.cells
                  have f0 := htok.out.frozen 0
                  have f1 := htok.out.frozen 1
                  have f2 := htok.out.frozen 2
                  have f3 := htok.out.frozen 3
                  have HR := Lib.hid (tok_clear htok.out)
                  go_wp2
                  obtain ⟨F, hF, ht', _, hbel', _⟩ := HR.out
                  rw [← hF]
                  clear hF
                  obtain ⟨r0, r1, r2, r3⟩ := ht'.cells
                  refine bodyPost_ret (v := .tuple #[.agg #[.int .i64 0, .int .i64 0, .string (bs []), .int .i64 0], .int .i64 0, .bool false]) (by simp [results, Try.results33, go_sem, r0, r1, r2, r3, TK.zero]) rfl ⟨?_, hbel' _ _ (Nat.le_refl _) hbel.out⟩
                  rw [HN.out]
                  rfl
            · have en : (((k : Int) + 1) == (s.size : Int)) = true := by simp; omega
              have HN : Hid (G = none) := Lib.hid (by rw [← ht.out]; exact tx_end s k acc hlt h92 (by omega))
              try clear hf
              try clear h92
              try clear h39
              try clear d39
              try clear d92
              obtain ⟨c0, c1, c2, c3⟩ := htok.out.cells
              have f0 := htok.out.frozen 0
              have f1 := htok.out.frozen 1
              have f2 := htok.out.frozen 2
              have f3 := htok.out.frozen 3
              have HR := Lib.hid (tok_clear htok.out)
              go_wp2
              obtain ⟨F, hF, ht', _, hbel', _⟩ := HR.out
              rw [← hF]
              clear hF
              obtain ⟨r0, r1, r2, r3⟩ := ht'.cells
              refine bodyPost_ret (v := .tuple #[.agg #[.int .i64 0, .int .i64 0, .string (bs []), .int .i64 0], .int .i64 0, .bool false]) (by simp [results, Try.results33, go_sem, r0, r1, r2, r3, TK.zero]) rfl ⟨?_, hbel' _ _ (Nat.le_refl _) hbel.out⟩
              rw [HN.out]
              rfl
          · have e92 : (((s[k]'hlt).toNat : Int) == 92) = false := by simp; omega
            by_cases hf : acc.length = 1000
            · have hff : ((acc.length : Int) == 1000) = true := by simp; omega
              have HN : Hid (G = none) := Lib.hid (by rw [← ht.out]; exact tx_full s k acc hlt h32 h39 h92 hf)
              try clear hf
              try clear h92
              try clear h39
              try clear d39
              try clear d92
              obtain ⟨c0, c1, c2, c3⟩ := htok.out.cells
              have f0 := htok.out.frozen 0
              have f1 := htok.out.frozen 1
              have f2 := htok.out.frozen 2
              have f3 := htok.out.frozen 3
              have HR := Lib.hid (tok_clear htok.out)
              go_wp2
              obtain ⟨F, hF, ht', _, hbel', _⟩ := HR.out
              rw [← hF]
              clear hF
              obtain ⟨r0, r1, r2, r3⟩ := ht'.cells
              refine bodyPost_ret (v := .tuple #[.agg #[.int .i64 0, .int .i64 0, .string (bs []), .int .i64 0], .int .i64 0, .bool false]) (by simp [results, Try.results33, go_sem, r0, r1, r2, r3, TK.zero]) rfl ⟨?_, hbel' _ _ (Nat.le_refl _) hbel.out⟩
              rw [HN.out]
              rfl
            · have hT0 := True.intro
              have HT : Hid (textP (s.toList.drop (k + 1)) (acc ++ [s[k]'hlt]) (k + 1) = G) := Lib.hid (by rw [← ht.out]; exact (tx_next s k acc hlt h32 h39 h92 hf).symm)
              try clear hT0
              try clear h92
              try clear h39
              try clear d39
              try clear d92
              have hmi : (acc.length : Int) < 1000 := by omega
              have hmf : ((acc.length : Int) == 1000) = false := by simp; omega
              clear hf
              go_wp2_with (at_builtin; refine wpList_append_own _ rfl _ _ 22 rfl w.heap.size 5 i0 (.int .u8 0) 1 1 Try.underlying22 hi hz0 hz1 hz2 rfl (by decide) _ _ _ rfl (hown.out.alloc _) ⟨wr.heap.size, 0, none⟩ 1 1 [.int .u8 ((s[k]'hlt).toNat : Int)] rfl rfl ?c1 ?c2 ?c3 ?c4 ?c5 ?_)
              case c1 =>
                intro j u hj
                match j, hj with
                | 0, hj => simp at hj; subst hj; simp [Addr.add]
              case c2 => intro u hu; simp at hu; subst hu; rfl
              case c3 => unfold maxLen; omega
              case c4 => omega
              case c5 => have := hbel.out.size; simp; omega
              intro v' w4 hown' hgrow _
              have HO : Hid (w4.ownsRow w.heap.size 5 1 v' (acc ++ [s[k]'hlt]).length ((acc ++ [s[k]'hlt]).map u8v)) := Lib.hid (by simpa using hown')
              have HK := Lib.hid (tok_grown hown.out htok.out hgrow)
              have HB : Hid (Below w.heap.size w w4) := Lib.hid (grown_below (Nat.le_refl _) (hbel.out.alloc hbel.out.size _) hgrow (own_block hown.out))
              have HL : (acc ++ [s[k]'hlt]).length = acc.length + 1 := by simp
              have HM := Lib.hid HL
              clear hown' hgrow HL
              generalize acc ++ [s[k]'hlt] = acc' at HO HT HM
              obtain ⟨A', cap', rfl⟩ := own_shape HO.out
              go_wp2
              go_roundw
              case rel => exact ⟨acc', A', cap', k + 1, rfl, by go_num, by omega, by omega, by have := HM.out; omega, HO, HK, HB, HT⟩
              case measure => simp [RowKit.intOf]; omega
    · have hge : s.size ≤ k := by omega
      have HN : Hid (G = none) := Lib.hid (by rw [← ht.out]; exact tx_out s k acc hge)
      try clear hf
      try clear h92
      try clear h39
      try clear d39
      try clear d92
      obtain ⟨c0, c1, c2, c3⟩ := htok.out.cells
      have f0 := htok.out.frozen 0
      have f1 := htok.out.frozen 1
      have f2 := htok.out.frozen 2
      have f3 := htok.out.frozen 3
      have HR := Lib.hid (tok_clear htok.out)
      go_wp2
      obtain ⟨F, hF, ht', _, hbel', _⟩ := HR.out
      rw [← hF]
      clear hF
      obtain ⟨r0, r1, r2, r3⟩ := ht'.cells
      refine bodyPost_ret (v := .tuple #[.agg #[.int .i64 0, .int .i64 0, .string (bs []), .int .i64 0], .int .i64 0, .bool false]) (by simp [results, Try.results33, go_sem, r0, r1, r2, r3, TK.zero]) rfl ⟨?_, hbel' _ _ (Nat.le_refl _) hbel.out⟩
      rw [HN.out]
      rfl
end Go.Proofs.Ythjbmlgjlndihaa
