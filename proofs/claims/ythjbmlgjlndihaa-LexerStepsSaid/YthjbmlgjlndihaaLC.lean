/- Where blanks end, where a word ends; a number; plain words for them. -/
import Derived.Test.YthjbmlgjlndihaaLB
import Derived.Deep.QuietTactic
import Derived.BigQuiet
namespace Go.Proofs.Ythjbmlgjlndihaa
set_option maxRecDepth 100000
open Go.RowKit

theorem drop_at (s : ByteArray) (k : Nat) (h : k < s.size) : s.toList.drop k = (s[k]'h) :: s.toList.drop (k + 1) := by
  have h' : k < s.toList.length := by rw [toList_size]; exact h
  have e := toList_at s k h
  rw [List.getElem?_eq_getElem h'] at e
  injection e with e
  rw [← e]
  exact List.drop_eq_getElem_cons h'
theorem drop_out (s : ByteArray) (k : Nat) (h : s.size ≤ k) : s.toList.drop k = [] := List.drop_eq_nil_of_le (by rw [toList_size]; exact h)

/-- Where bytes of one kind end that stand from a place on. -/
def runN (p : UInt8 → Bool) (l : Bs) (k : Nat) : Nat := k + ((l.drop k).takeWhile p).length
theorem runN_le (p : UInt8 → Bool) (l : Bs) (k : Nat) (h : k ≤ l.length) : runN p l k ≤ l.length := by
  have h1 : ((l.drop k).takeWhile p).length ≤ (l.drop k).length := List.Sublist.length_le (List.takeWhile_sublist p)
  rw [List.length_drop] at h1
  unfold runN; omega
theorem runN_ge (p : UInt8 → Bool) (l : Bs) (k : Nat) : k ≤ runN p l k := by unfold runN; omega
theorem runN_step (p : UInt8 → Bool) (s : ByteArray) (k : Nat) (h : k < s.size) (hp : p (s[k]'h) = true) : runN p s.toList (k + 1) = runN p s.toList k := by
  unfold runN
  rw [drop_at s k h, List.takeWhile_cons, if_pos hp, List.length_cons]; omega
theorem runN_stop (p : UInt8 → Bool) (s : ByteArray) (k : Nat) (h : k < s.size) (hp : p (s[k]'h) = false) : runN p s.toList k = k := by
  unfold runN
  rw [drop_at s k h, List.takeWhile_cons, if_neg (by simp [hp])]; rfl
theorem runN_end (p : UInt8 → Bool) (s : ByteArray) (k : Nat) (h : s.size ≤ k) : runN p s.toList k = k := by
  unfold runN
  rw [drop_out s k h]; rfl

set_option maxHeartbeats 1600000 in
theorem past_any (s : ByteArray) (p : Nat) (hs : s.size ≤ 20000) (hp : p ≤ s.size) (w : World) :
    Calls Try.prog 23 #[.string s, .int .i64 (p : Int)] w fun e w' => e = .returned (.int .i64 (runN blankB s.toList p : Nat)) ∧ w = w' := by
  go_enter Try.func23, Try.ntmps23
  go_wp2
  go_loop [1] (fun t => ∃ k : Nat, t = .int .i64 k ∧ k ≤ s.size ∧ Hid (runN blankB s.toList k = runN blankB s.toList p)) (fun t => s.size - (RowKit.intOf t).toNat)
  case atStart => exact ⟨p, rfl, hp, Lib.hid rfl⟩
  case round =>
    obtain ⟨k, rfl, hk, hr⟩ := hrel
    by_cases hlt : k < s.size
    · cases hb : blankB (s[k]'hlt)
      · have HR : Hid (runN blankB s.toList p = k) := Lib.hid (by rw [← hr.out]; exact runN_stop _ s k hlt hb)
        go_wp2_with fail
        refine (blank_any (s[k]'hlt) _).mono ?_
        rintro e w' ⟨rfl, rfl⟩
        go_wp2
        go_ret
        exact ⟨by rw [HR.out]; rfl, rfl⟩
      · have HR : Hid (runN blankB s.toList (k + 1) = runN blankB s.toList p) := Lib.hid (by rw [← hr.out]; exact runN_step _ s k hlt hb)
        go_wp2_with fail
        refine (blank_any (s[k]'hlt) _).mono ?_
        rintro e w' ⟨rfl, rfl⟩
        go_wp2
        go_round
        case rel => exact ⟨k + 1, by go_num, by omega, HR⟩
        case measure => simp [RowKit.intOf]; omega
    · have HR : Hid (runN blankB s.toList p = k) := Lib.hid (by rw [← hr.out]; exact runN_end _ s k (by omega))
      go_wp2
      go_ret
      exact ⟨by rw [HR.out]; rfl, rfl⟩

set_option maxHeartbeats 1600000 in
theorem word_any (s : ByteArray) (hs : s.size ≤ 20000) (hp : 1 ≤ s.size) (w : World) :
    Calls Try.prog 30 #[.string s] w fun e w' => e = .returned (.int .i64 (runN wordB s.toList 1 : Nat)) ∧ w = w' := by
  go_enter Try.func30, Try.ntmps30
  go_wp2
  go_loop [3] (fun t => ∃ k : Nat, t = .int .i64 k ∧ k ≤ s.size ∧ Hid (runN wordB s.toList k = runN wordB s.toList 1)) (fun t => s.size - (RowKit.intOf t).toNat)
  case atStart => exact ⟨1, rfl, hp, Lib.hid rfl⟩
  case round =>
    obtain ⟨k, rfl, hk, hr⟩ := hrel
    by_cases hlt : k < s.size
    · cases hl : letB (s[k]'hlt)
      · cases hd : digB (s[k]'hlt)
        · have HR : Hid (runN wordB s.toList 1 = k) := Lib.hid (by rw [← hr.out]; exact runN_stop _ s k hlt (by simp [wordB, hl, hd]))
          go_wp2_with fail
          refine (letter_any (s[k]'hlt) _).mono ?_
          rintro e w' ⟨rfl, rfl⟩
          go_wp2_with fail
          refine (digit_any (s[k]'hlt) _).mono ?_
          rintro e w' ⟨rfl, rfl⟩
          go_wp2
          go_ret
          exact ⟨by rw [HR.out]; rfl, rfl⟩
        · have HR : Hid (runN wordB s.toList (k + 1) = runN wordB s.toList 1) := Lib.hid (by rw [← hr.out]; exact runN_step _ s k hlt (by simp [wordB, hd]))
          go_wp2_with fail
          refine (letter_any (s[k]'hlt) _).mono ?_
          rintro e w' ⟨rfl, rfl⟩
          go_wp2_with fail
          refine (digit_any (s[k]'hlt) _).mono ?_
          rintro e w' ⟨rfl, rfl⟩
          go_wp2
          go_round
          case rel => exact ⟨k + 1, by go_num, by omega, HR⟩
          case measure => simp [RowKit.intOf]; omega
      · have HR : Hid (runN wordB s.toList (k + 1) = runN wordB s.toList 1) := Lib.hid (by rw [← hr.out]; exact runN_step _ s k hlt (by simp [wordB, hl]))
        go_wp2_with fail
        refine (letter_any (s[k]'hlt) _).mono ?_
        rintro e w' ⟨rfl, rfl⟩
        go_wp2
        go_round
        case rel => exact ⟨k + 1, by go_num, by omega, HR⟩
        case measure => simp [RowKit.intOf]; omega
    · have HR : Hid (runN wordB s.toList 1 = k) := Lib.hid (by rw [← hr.out]; exact runN_end _ s k (by omega))
      go_wp2
      go_ret
      exact ⟨by rw [HR.out]; rfl, rfl⟩

/-! What a token is, plain. -/
def tkO (o : Option (TK × Nat)) : TK := match o with | some r => r.1 | none => TK.zero
def lnO (o : Option (TK × Nat)) : Nat := match o with | some r => r.2 | none => 0
def FirstPost (w : World) (o : Option (TK × Nat)) (e : Ending) (w' : World) : Prop :=
  e = .returned (.tuple #[(tkO o).v, .int .i64 (lnO o : Nat), .bool o.isSome]) ∧ Below w.heap.size w w'
def numP (l : Bs) : Option (TK × Nat) := if parseE l = 0 then some (⟨2, 0, l, parseV l⟩, l.length) else none
theorem numP_yes {l : Bs} (h : parseE l = 0) : numP l = some (⟨2, 0, l, parseV l⟩, l.length) := if_pos h
theorem numP_no {l : Bs} (h : ¬ parseE l = 0) : numP l = none := if_neg h
theorem bs_nil : (⟨#[]⟩ : ByteArray) = bs [] := rfl

abbrev zbox : Obj := .cells #[.int .i64 0, .int .i64 0, .string ⟨#[]⟩, .int .i64 0] 32
theorem tok_zero (w : World) : Tok (w.alloc zbox) w.heap.size TK.zero := Tok.new w TK.zero
theorem tok_clear {w : World} {g : Nat} {t : TK} (h : Tok w g t) :
    ∃ F, F = (((w.setCell ⟨g, 0, none⟩ (.int .i64 0)).setCell ⟨g, 1, none⟩ (.int .i64 0)).setCell ⟨g, 2, none⟩ (.string ⟨#[]⟩)).setCell ⟨g, 3, none⟩ (.int .i64 0) ∧ Tok F g TK.zero ∧ F.heap.size = w.heap.size ∧ (∀ B v, B ≤ g → Below B v w → Below B v F) ∧ KeepsOthers w F := h.set TK.zero
theorem zero_v : TK.zero.v = .agg #[.int .i64 0, .int .i64 0, .string ⟨#[]⟩, .int .i64 0] := rfl

set_option maxHeartbeats 1600000 in
theorem number_any (l : Bs) (hs : l.length ≤ 20000) (w : World) : Calls Try.prog 32 #[.string (bs l)] w (FirstPost w (numP l)) := by
  have PA := fun W => parse_any (bs l) W
  rw [bs_toList] at PA
  have SZ := bs_size l
  have PB := Lib.hid PA
  have HZ := Lib.hid SZ
  have SZ2 : (bs l).size ≤ 20000 := by omega
  clear PA SZ
  by_cases hE : parseE l = 0
  · have HG := Lib.hid (numP_yes hE)
    generalize numP l = G at HG
    generalize parseV l = V at PB HG
    rw [hE] at PB
    clear hE
    go_enter Try.func32, Try.ntmps32
    go_wp2_with fail
    have B0 := Lib.hid (tok_zero w)
    have z0 := Lib.hid (below_new w zbox)
    unfold zbox at B0 z0
    generalize hW : World.alloc w _ = W at B0 z0 ⊢
    clear hW
    refine (PB.out W).mono ?_
    rintro e w1 ⟨rfl, hb⟩
    have B1 := B0.out.next hb
    have Z1 := Lib.hid (bnext z0.out hb)
    clear hb
    obtain ⟨c0, c1, c2, c3⟩ := B1.cells
    have f0 := B1.frozen 0
    have f1 := B1.frozen 1
    have f2 := B1.frozen 2
    have f3 := B1.frozen 3
    have HR := Lib.hid (B1.set ⟨2, 0, l, V⟩)
    clear B1
    go_wp2
    obtain ⟨F, hF, ht, hs', hbel, _⟩ := HR.out
    rw [← hF]
    clear hF
    obtain ⟨r0, r1, r2, r3⟩ := ht.cells
    refine bodyPost_ret (v := .tuple #[.agg #[.int .i64 2, .int .i64 0, .string (bs l), .int .i64 V], .int .i64 ((bs l).size : Int), .bool true]) (by simp [results, Try.results32, go_sem, r0, r1, r2, r3]) rfl ⟨?_, hbel _ _ (Nat.le_refl _) Z1.out⟩
    rw [HG.out, HZ.out]; rfl
  · have HG := Lib.hid (numP_no hE)
    generalize numP l = G at HG
    generalize parseV l = V at PB
    have hne : (parseE l == 0) = false := by simpa using hE
    generalize parseE l = E at PB hE hne
    clear hE
    go_enter Try.func32, Try.ntmps32
    go_wp2_with fail
    have B0 := Lib.hid (tok_zero w)
    have z0 := Lib.hid (below_new w zbox)
    unfold zbox at B0 z0
    generalize hW : World.alloc w _ = W at B0 z0 ⊢
    clear hW
    refine (PB.out W).mono ?_
    rintro e w1 ⟨rfl, hb⟩
    have B1 := B0.out.next hb
    have Z1 := Lib.hid (bnext z0.out hb)
    clear hb
    obtain ⟨c0, c1, c2, c3⟩ := B1.cells
    have f0 := B1.frozen 0
    have f1 := B1.frozen 1
    have f2 := B1.frozen 2
    have f3 := B1.frozen 3
    have HR := Lib.hid (tok_clear B1)
    clear B1
    go_wp2
    obtain ⟨F, hF, ht, hs', hbel, _⟩ := HR.out
    rw [← hF]
    clear hF
    obtain ⟨r0, r1, r2, r3⟩ := ht.cells
    refine bodyPost_ret (v := .tuple #[.agg #[.int .i64 0, .int .i64 0, .string (bs []), .int .i64 0], .int .i64 0, .bool false]) (by simp [results, Try.results32, go_sem, r0, r1, r2, r3, TK.zero]) rfl ⟨?_, hbel _ _ (Nat.le_refl _) Z1.out⟩
    rw [HG.out]; rfl
end Go.Proofs.Ythjbmlgjlndihaa
