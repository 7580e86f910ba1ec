/- Carried over from an earlier seat. -/
import Derived.Test.YtllkimdlmnjoiaaGreatDoorKK
import Derived.Lib.FrozenHead2
import Derived.Lib.OthersKept
import Derived.Shelf.Strings.BuilderK
import Derived.Test.YtllkimdlmnjoiaaGreatDoorTH
import Derived.StillTailTactics
namespace Go.Proofs.YtllkimdlmnjoiaaGreatDoor
set_option maxRecDepth 100000
set_option maxRecDepth 100000
set_option maxRecDepth 100000
open Go.RowKit Go.Sort

/-- A writer in block b (its row lies from B on) that holds the bytes bs. -/
def WB (w : World) (B b : Nat) (bs : Bs) : Prop := Lib.IsBuilderF 54 5 B b (Lib.byteCells bs) w ∧ B ≤ w.heap.size
/-- What stays when something is written. -/
def WK (B b : Nat) (w w' : World) : Prop := Below B w w' ∧ Lib.OthersKept 5 (some b) w w'
theorem WK.refl (B b : Nat) (w : World) : WK B b w w := ⟨Below.refl _ _, Lib.OthersKept.refl _ _ _⟩
theorem WK.trans {B b : Nat} {x y z : World} (h : WK B b x y) (k : WK B b y z) : WK B b x z := ⟨h.1.trans k.1, h.2.trans k.2⟩
theorem WK.below {B b : Nat} {w w' : World} (h : Below w.heap.size w w') (hB : B ≤ w.heap.size) : WK B b w w' :=
  ⟨h.mono hB, fun k _o hk _ _ => (h.block k (Array.getElem?_eq_some_iff.1 hk).1).trans hk⟩
theorem builder_next {B b : Nat} {bs : List Value} {w w' : World} (h : Lib.IsBuilderF 54 5 B b bs w) (hb : Below w.heap.size w w') : Lib.IsBuilderF 54 5 B b bs w' := by
  have one : ∀ p, Lib.BuilderAtF 54 5 B b p bs w → Lib.BuilderAtF 54 5 B b p bs w' := fun p ⟨hB, v, h1, h2, h3⟩ => by
    refine ⟨hB, v, (hb.block b (Array.getElem?_eq_some_iff.1 h1).1).trans h1, ⟨h2.1, ?_⟩, h3⟩
    rcases h2.2 with hn | ⟨g, cap, cur, fz, e, q1, q2, q3⟩
    · exact .inl hn
    · exact .inr ⟨g, cap, cur, fz, e, q1, (hb.block g (Array.getElem?_eq_some_iff.1 q2).1).trans q2, q3⟩
  exact h.imp (one _) (one _)
theorem WB.next {w w' : World} {B b : Nat} {bs : Bs} (h : WB w B b bs) (hb : Below w.heap.size w w') : WB w' B b bs := ⟨builder_next h.1 hb, Nat.le_trans h.2 hb.size⟩
theorem WB.lt {w : World} {B b : Nat} {bs : Bs} (h : WB w B b bs) : B ≤ b ∧ b < w.heap.size := by
  rcases h.1 with ⟨hB, v, h1, _⟩ | ⟨hB, v, h1, _⟩ <;> exact ⟨hB, (Array.getElem?_eq_some_iff.1 h1).1⟩
/-- A block that is no row of bytes stays, but the writer's own. -/
theorem WK.stay {B b : Nat} {w w' : World} (k : WK B b w w') {g : Nat} {cs : Array Value} {t : TypeId} {fz : Nat × Nat} (h : w.heap[g]? = some (.cells cs t fz)) (ht : t ≠ 5) (hn : g ≠ b) : w'.heap[g]? = w.heap[g]? := by
  rw [h]
  exact k.2 g _ h (fun e => hn (by injection e)) (fun c fz e => by injection e with _ e2 _; exact ht e2)
def WP (B b : Nat) (bs : Bs) (w w' : World) : Prop := WB w' B b bs ∧ WK B b w w'

theorem info52 : (Tryz.prog.info? 52).map (fun j => j.size) = some 2 := by kernel_rfl
set_option maxHeartbeats 1000000 in
theorem check_used (b : Nat) (w : World) (h0 : w.cell? ⟨b, 0, none⟩ = some (.pointer (some ⟨b, 0, none⟩))) :
    Calls Tryz.prog 55 #[.pointer (some ⟨b, 0, none⟩)] w fun e w' => e = .returned (.tuple #[]) ∧ w' = w := by
  obtain ⟨j, hj, _⟩ := Option.map_eq_some_iff.1 info52
  go_enter Tryz.func55, Tryz.ntmps55
  go_wp2
  rw [Lib.run_neq_ptr_same w _ Tryz.underlying50 hj]
  go_wp2
  go_end0
  exact ⟨rfl, rfl⟩
set_option maxHeartbeats 1000000 in
theorem check_fresh (b : Nat) (w : World) (h0 : w.cell? ⟨b, 0, none⟩ = some (.pointer none)) (hsh : w.shape? b = some (54, 2)) (hfz : w.frozen? ⟨b, 0, none⟩ = false) :
    Calls Tryz.prog 55 #[.pointer (some ⟨b, 0, none⟩)] w fun e w' => e = .returned (.tuple #[]) ∧ w' = w.setCell ⟨b, 0, none⟩ (.pointer (some ⟨b, 0, none⟩)) := by
  obtain ⟨j, hj, hjs⟩ := Option.map_eq_some_iff.1 info52
  go_enter Tryz.func55, Tryz.ntmps55
  go_wp2
  rw [Lib.run_to_unsafe w ⟨b, 0, none⟩ Tryz.underlying50 Tryz.underlying132 hj (by rw [hjs]; decide) hsh (Nat.zero_lt_succ 1)]
  simp only [Result.andThen]
  rw [Oper.upon_value]
  go_wp2
  rw [run_callFunc_extern Tryz.func76 (by kernel_rfl) (by kernel_rfl) (by kernel_rfl) (e := Extern.AbiNoEscape.same) (by kernel_rfl)]
  rw [Lib.run_noEscape]
  simp only [Result.andThen]
  rw [Oper.upon_value]
  go_wp2
  rw [Lib.run_from_unsafe w ⟨b, 0, none⟩ Tryz.underlying132 Tryz.underlying50 hj hsh (by kernel_rfl)]
  simp only [Result.andThen]
  rw [Oper.upon_value]
  go_wp2
  go_end0
  exact ⟨rfl, rfl⟩
theorem copyCheck_any (B b : Nat) (bs : List Value) (w : World) (h : Lib.IsBuilderF 54 5 B b bs w) :
    Calls Tryz.prog 55 #[.pointer (some ⟨b, 0, none⟩)] w fun e w' => e = .returned (.tuple #[]) ∧ (Lib.BuilderAtF 54 5 B b (.pointer (some ⟨b, 0, none⟩)) bs w' ∧ WK B b w w') := by
  rcases h with h | h
  · refine (check_fresh b w h.cell0 h.shape h.frozen0).mono ?_
    rintro e w' ⟨rfl, rfl⟩
    exact ⟨rfl, h.used _, (Below.refl B w).setCell (p := ⟨b, 0, none⟩) h.1 _, (Lib.OthersKept.refl _ _ w).setCell ⟨b, 0, none⟩ rfl _⟩
  · refine (check_used b w h.cell0).mono ?_
    rintro e w' ⟨rfl, rfl⟩
    exact ⟨rfl, h, WK.refl _ _ _⟩

theorem infoB : (Tryz.prog.info? 5).map (fun i => (i.zero, i.size, i.bytes)) = some (some (.int .u8 0), 1, 1) := by kernel_rfl
set_option maxHeartbeats 2000000 in
theorem str_any (w : World) (B b : Nat) (bs : Bs) (s : ByteArray) (h : WB w B b bs) (hl : bs.length + s.size ≤ 140737488355328) :
    Calls Tryz.prog 34 #[.pointer (some ⟨b, 0, none⟩), .string s] w fun e w' => e = .returned (.tuple #[.int .i64 s.size, .nilIface]) ∧ WP B b (bs ++ s.toList) w w' := by
  obtain ⟨i0, hi, hz0, hz1, hz2⟩ := info_parts infoB
  have hBw := h.2
  have CK := Lib.hid (copyCheck_any B b (Lib.byteCells bs) w h.1)
  have hlen : (Lib.byteCells bs).length + s.size ≤ 140737488355328 := by rw [Lib.byteCells_length]; exact hl
  clear h
  go_enter Tryz.func34, Tryz.ntmps34
  go_wp2_with fail
  refine CK.out.mono ?_
  rintro e w1 ⟨rfl, h1, hk1⟩
  obtain ⟨hB, v, hbk, hown, hne⟩ := h1
  have c0 : w1.cell? ⟨b, 0, none⟩ = some (.pointer (some ⟨b, 0, none⟩)) := by rw [Lib.cell_of_heap hbk]; rfl
  have c1 : w1.cell? ⟨b, 1, none⟩ = some v := by rw [Lib.cell_of_heap hbk]; rfl
  go_wp2_with (at_builtin; refine Lib.wpList_append_own_stringF _ rfl _ _ 31 9 rfl B 5 i0 Tryz.underlying31 Tryz.underlying9 hi hz0 hz1 hz2 _ _ _ rfl hown s rfl ?c3 ?c4 ?c5 ?_)
  case c3 => unfold maxLen; omega
  case c4 => omega
  case c5 => have := hk1.1.size; omega
  intro v' w2 hown' hgrow _
  have hlt : b < w1.heap.size := (Array.getElem?_eq_some_iff.1 hbk).1
  have hb2 : w2.heap[b]? = some (.cells #[.pointer (some ⟨b, 0, none⟩), v] 54 (0, 0)) := by
    rw [hgrow.block b hlt (fun e => hne e.symm)]
    exact hbk
  have d0 : w2.cell? ⟨b, 0, none⟩ = some (.pointer (some ⟨b, 0, none⟩)) := by rw [Lib.cell_of_heap hb2]; rfl
  have d1 : w2.cell? ⟨b, 1, none⟩ = some v := by rw [Lib.cell_of_heap hb2]; rfl
  have f1 : w2.frozen? ⟨b, 1, none⟩ = false := Lib.frozen_of_heap hb2 1
  obtain ⟨ao, n', cap, rfl⟩ : ∃ ao n' cap, v' = .slice ao n' cap := by
    rcases hown'.2 with ⟨hv, _⟩ | ⟨g, cap, cur, fz, hv, _⟩
    · exact ⟨_, _, _, hv⟩
    · exact ⟨_, _, _, hv⟩
  go_wp2
  go_ret2
  have hbel : Below B w (w2.setCell ⟨b, 1, none⟩ (.slice ao n' cap)) := (hk1.1.grown hgrow (by have := hk1.1.size; omega) (fun k hk => (hown.lt k hk).1)).setCell (p := ⟨b, 1, none⟩) hB _
  refine ⟨rfl, ⟨.inr ?_, Nat.le_trans hBw hbel.size⟩, hbel, (hk1.2.grown hgrow (Lib.ownsRowF_kind hown)).setCell ⟨b, 1, none⟩ rfl _⟩
  rw [Lib.byteCells_append, ByteArray.toList_eq]
  exact Lib.BuilderAtF.put (T := 54) (e := 5) hB hb2 (bs' := Lib.byteCells bs ++ Lib.strCells s) (by simpa [Lib.strCells_length] using hown') (by decide)
set_option maxHeartbeats 2000000 in
theorem byte_any (w : World) (B b : Nat) (bs : Bs) (c : UInt8) (h : WB w B b bs) (hl : bs.length + 1 ≤ 140737488355328) :
    Calls Tryz.prog 112 #[.pointer (some ⟨b, 0, none⟩), .int .u8 (c.toNat : Int)] w fun e w' => e = .returned .nilIface ∧ WP B b (bs ++ [c]) w w' := by
  obtain ⟨i0, hi, hz0, hz1, hz2⟩ := info_parts infoB
  have hBw := h.2
  have CK := Lib.hid (copyCheck_any B b (Lib.byteCells bs) w h.1)
  have hlen : (Lib.byteCells bs).length + 1 ≤ 140737488355328 := by rw [Lib.byteCells_length]; exact hl
  clear h
  have hap : Lib.byteCells (bs ++ [c]) = Lib.byteCells bs ++ [.int .u8 (c.toNat : Int)] := by simp [Lib.byteCells]
  generalize hcc : (c.toNat : Int) = ci at *
  go_enter Tryz.func112, Tryz.ntmps112
  go_wp2_with fail
  refine CK.out.mono ?_
  rintro e w1 ⟨rfl, h1, hk1⟩
  obtain ⟨hB, v, hbk, hown, hne⟩ := h1
  have c0 : w1.cell? ⟨b, 0, none⟩ = some (.pointer (some ⟨b, 0, none⟩)) := by rw [Lib.cell_of_heap hbk]; rfl
  have c1 : w1.cell? ⟨b, 1, none⟩ = some v := by rw [Lib.cell_of_heap hbk]; rfl
  go_wp2_with (at_builtin; refine wpList_append_ownF _ rfl _ _ 31 rfl B 5 i0 (.int .u8 0) 1 1 Tryz.underlying31 hi hz0 hz1 hz2 rfl (by decide) _ _ _ rfl (hown.alloc _) ⟨w1.heap.size, 0, none⟩ 1 1 [.int .u8 ci] rfl rfl ?c1 ?c2 ?c3 ?c4 ?c5 ?_)
  case c1 =>
    intro j u hj
    match j, hj with
    | 0, hj => simp at hj; subst hj; simp [Addr.add]
  case c2 => intro u hu; simp at hu; subst hu; rfl
  case c3 => unfold maxLen; omega
  case c4 => omega
  case c5 => have := hk1.1.size; simp; omega
  intro v' w2 hown' hgrow _
  have hlt : b < w1.heap.size := (Array.getElem?_eq_some_iff.1 hbk).1
  have hb2 : w2.heap[b]? = some (.cells #[.pointer (some ⟨b, 0, none⟩), v] 54 (0, 0)) := by
    rw [hgrow.block b (by simp; omega) (fun e => hne e.symm), Lib.alloc_old w1 _ b hlt]
    exact hbk
  have d0 : w2.cell? ⟨b, 0, none⟩ = some (.pointer (some ⟨b, 0, none⟩)) := by rw [Lib.cell_of_heap hb2]; rfl
  have d1 : w2.cell? ⟨b, 1, none⟩ = some v := by rw [Lib.cell_of_heap hb2]; rfl
  have f1 : w2.frozen? ⟨b, 1, none⟩ = false := Lib.frozen_of_heap hb2 1
  obtain ⟨g, cap, rfl⟩ : ∃ g cap, v' = .slice (some ⟨g, 0, none⟩) ((Lib.byteCells bs).length + 1) cap := by
    rcases hown'.2 with ⟨_, h0⟩ | ⟨g, cap, cur, fz, hv, _⟩
    · omega
    · exact ⟨g, cap, hv⟩
  go_wp2
  go_ret
  have hbel : Below B w (w2.setCell ⟨b, 1, none⟩ (.slice (some ⟨g, 0, none⟩) ((Lib.byteCells bs).length + 1) cap)) := ((hk1.1.alloc (by have := hk1.1.size; omega) _).grown hgrow (by have := hk1.1.size; simp; omega) (fun k hk => (hown.lt k hk).1)).setCell (p := ⟨b, 1, none⟩) hB _
  refine ⟨rfl, ⟨.inr ?_, Nat.le_trans hBw hbel.size⟩, hbel, ((hk1.2.alloc _).grown hgrow (Lib.ownsRowF_kind (hown.alloc _))).setCell ⟨b, 1, none⟩ rfl _⟩
  rw [hap]
  exact Lib.BuilderAtF.put (T := 54) (e := 5) hB hb2 (bs' := Lib.byteCells bs ++ [.int .u8 ci]) (by simpa using hown') (by decide)
set_option maxHeartbeats 1000000 in
theorem string_any (w : World) (B b : Nat) (l : Bs) (h : WB w B b l) (h0 : l ≠ []) :
    Calls Tryz.prog 20 #[.pointer (some ⟨b, 0, none⟩)] w fun e w' => e = .returned (.string ⟨l.toArray⟩) ∧ Below B w w' := by
  obtain ⟨p, hB, v, hbk, hown, hne⟩ : ∃ p, Lib.BuilderAtF 54 5 B b p (Lib.byteCells l) w := by
    rcases h.1 with h | h
    · exact ⟨_, h⟩
    · exact ⟨_, h⟩
  have hl0 : l.length ≠ 0 := by simpa using h0
  rw [Lib.byteCells_length] at hown
  obtain ⟨g, cap, cur, fz, rfl, hbg, hg, hfz, hnc, hcm, hcs, htake⟩ : ∃ g cap cur fz, v = .slice (some ⟨g, 0, none⟩) l.length cap ∧ B ≤ g ∧ w.heap[g]? = some (.cells cur 5 fz) ∧ fz.2 ≤ l.length * 1 ∧ l.length ≤ cap ∧ cap ≤ maxLen ∧ cur.size = cap * 1 ∧ cur.toList.take (l.length * 1) = Lib.byteCells l := by
    rcases hown.2 with ⟨_, hz⟩ | ⟨g, cap, cur, fz, hv, r⟩
    · exact absurd hz hl0
    · exact ⟨g, cap, cur, fz, hv, r⟩
  have c1 : w.drew.cell? ⟨b, 1, none⟩ = some (.slice (some ⟨g, 0, none⟩) l.length cap) := by
    have : w.drew.heap[b]? = some (.cells #[p, .slice (some ⟨g, 0, none⟩) l.length cap] 54 (0, 0)) := hbk
    rw [Lib.cell_of_heap this]; rfl
  have hSD : (Builtin.unsafeSliceData_ #[31] 91 #[.slice (some ⟨g, 0, none⟩) l.length cap]).run Tryz.prog w.drew = .ok (.pointer (some ⟨g, 0, none⟩)) w.drew :=
    Lib.run_unsafeSliceData_row _ _ _ _ _ _ (by omega)
  have hUS : (Builtin.unsafeString_ #[91, 3] 9 #[.pointer (some ⟨g, 0, none⟩), .int .i64 l.length]).run Tryz.prog w.drew = .ok (.string ⟨l.toArray⟩) (w.drew.freeze ⟨g, 0, none⟩ l.length) := by
    refine Lib.run_unsafeString_row w.drew 91 3 9 5 Tryz.underlying91 (by kernel_rfl) g cur.size (by have hg' : w.drew.heap[g]? = some (.cells cur 5 fz) := hg; simp [World.shape?, hg']) l h0 (by omega) (by unfold maxLen at hcm; omega) ?_
    intro j x hx
    exact hown.cells (g := g) rfl j (.int .u8 x.toNat) (by simp [Lib.byteCells, hx])
  clear h
  go_enter Tryz.func20, Tryz.ntmps20
  go_wp2
  go_region
  all_goals (go_wp2; go_ret; exact ⟨rfl, Lib.below_freeze (Below.drew (Below.refl B w)) (p := ⟨g, 0, none⟩) hbg _⟩)
theorem wb_start (w : World) : WB (w.alloc (.cells #[.pointer none, .slice none 0 0] 54)) w.heap.size w.heap.size [] :=
  ⟨.inl ⟨Nat.le_refl _, .slice none 0 0, heap_alloc_new w _, ⟨by simp [Lib.byteCells], .inl ⟨rfl, rfl⟩⟩, by simp [Value.ownBlock]⟩, by simp⟩
theorem str_lit (w : World) (B b : Nat) (bs L : Bs) (h : WB w B b bs) (hl : bs.length + L.length ≤ 140737488355328) :
    Calls Tryz.prog 34 #[.pointer (some ⟨b, 0, none⟩), .string ⟨L.toArray⟩] w fun e w' => e = .returned (.tuple #[.int .i64 L.length, .nilIface]) ∧ WP B b (bs ++ L) w w' := by
  have := str_any w B b bs ⟨L.toArray⟩ h (by rw [lit_size]; exact hl)
  rw [lit_list, lit_size] at this
  exact this
def WPost (B b : Nat) (bs : Bs) (w : World) (e : Ending) (w' : World) : Prop := e = .returned (.tuple #[]) ∧ WP B b bs w w'
end Go.Proofs.YtllkimdlmnjoiaaGreatDoor



/- Carried over from an earlier seat. -/
namespace Go.Proofs.YtllkimdlmnjoiaaGreatDoor
set_option maxRecDepth 100000
set_option maxRecDepth 100000
set_option maxRecDepth 100000
open Go.RowKit Go.Sort

def qC (c : UInt8) : Bs := if c = 39 ∨ c = 92 then [92, c] else [c]
def qT (s : Bs) : Bs := 39 :: (s.flatMap qC ++ [39])
/-- The text of a value; of a predicate; of an argument; of a chain behind a word. -/
def txV : Nat → V → Bs
  | 0, _ => []
  | r + 1, v => if v.k = 1 then (if v.n = 0 then [102, 97, 108, 115, 101] else [116, 114, 117, 101]) else if v.k = 2 then digL v.n else if v.k = 3 then qT v.s.toList
    else [91] ++ (itemsT (txV r) 0 v.l ++ [93])
def nameP (k : Int) : Bs := namesB.getD k.toNat []
def txP : Nat → P → Bs
  | 0, _ => []
  | r + 1, p => nameP p.k ++ ([40] ++ ((if 0 < p.p.length then itemsT (txP r) 0 p.p else itemsT (txV 12) 0 p.v) ++ [41]))
def txG (f : List C → Bs) (g : Ag) : Bs := if g.k = 1 then txV 12 g.v else if g.k = 2 then txP 12 g.p else if g.k = 3 then f g.c else g.s.toList
def txCall (f : List C → Bs) (x : C) : Bs := [46] ++ (x.n.toList ++ ([40] ++ (itemsT (txG f) 0 x.a ++ [41])))
def txC : Nat → Bs → List C → Bs
  | 0, first, _ => first
  | r + 1, first, l => first ++ l.flatMap (txCall (txC r [95, 95]))

/-- As much as a text may hold. -/
abbrev MX : Nat := 140737488355328
set_option maxHeartbeats 3200000 in
theorem writeRowV (f : V → Bs) (S : V → Prop) (B b d : Nat) (hcl : ∀ (W : World) (bs : Bs) (x : At), NM W → WB W B b bs → Rd W 0 B d x.t x.A x.c x.A' x.c' → S x.t → bs.length + (f x.t).length ≤ MX → Calls Tryz.prog 56 #[.pointer (some ⟨b, 0, none⟩), x.v] W (WPost B b (bs ++ f x.t) W))
    (w : World) (hm : NM w) (hB : 0 < B) (bs first last : Bs) (sf sl : ByteArray) (hsf : sf.toList = first) (hsl : sl.toList = last) (A : Option Addr) (c : Nat) (l : List V) (h : WB w B b bs) (hr : Rw w 0 B d A c l) (hS : ∀ x ∈ l, S x) (hl : bs.length + (first ++ (itemsT f 0 l ++ last)).length ≤ MX) :
    Calls Tryz.prog 80 #[.pointer (some ⟨b, 0, none⟩), .string sf, .slice A l.length c, .func (.func 56) #[.pointer (some ⟨b, 0, none⟩)] #[], .string sl] w (WPost B b (bs ++ (first ++ (itemsT f 0 l ++ last))) w) := by
  have HC := Lib.hid hcl
  have HR := Lib.hid hr
  have HS := Lib.hid hS
  have HM := Lib.hid hm
  have hbig := hr.big
  subst hsf hsl
  have hl' : bs.length + (sf.toList.length + ((itemsT f 0 l).length + sl.toList.length)) ≤ MX := by simpa using hl
  have S1 := Lib.hid (str_any w B b bs sf h (by rw [← toList_size]; unfold MX at hl'; omega))
  have HL := Lib.hid hl'
  have TK := Lib.hid (fun k => itemsT_take_le f l k)
  clear hcl hr hS hm h hl hl'
  go_enter Tryz.func80, Tryz.ntmps80
  go_wp2_with fail
  refine S1.out.mono ?_
  rintro e w0 ⟨rfl, hw⟩
  have HW := Lib.hid hw
  clear hw S1
  go_wp2
  go_loopw [10, 19] (fun _ i wr => ∃ k : Nat, k ≤ l.length ∧ i = .int .i64 k ∧ Hid (WB wr B b (bs ++ sf.toList ++ itemsT f 0 (l.take k))) ∧ Hid (WK B b w wr)) (fun _ i _ => l.length - (intOf i).toNat)
  case atStart => exact ⟨0, by omega, rfl, Lib.hid (by simpa [itemsT] using HW.out.1), Lib.hid HW.out.2⟩
  case round =>
    obtain ⟨k, hk, rfl, hWB, hK⟩ := hrel
    by_cases hlt : k < l.length
    · obtain ⟨b0, off, x0, A1, c1, A2, c2, rfl, _, hb0, hx, q, rx⟩ := (HR.out.keep (Kept.of_below hK.out.1 (Nat.le_refl _))).elem hlt
      obtain ⟨x, rfl, rfl, rfl, rfl, rfl⟩ : ∃ x : At, x0 = x.t ∧ A1 = x.A ∧ c1 = x.c ∧ A2 = x.A' ∧ c2 = x.c' := ⟨⟨x0, A1, c1, A2, c2⟩, rfl, rfl, rfl, rfl, rfl⟩
      obtain ⟨q0, q1, q2, q3, q4⟩ := q
      have NX := Lib.hid (itemsT_next f l k hx)
      have TN := Lib.hid (TK.out (k + 1))
      have SX := Lib.hid (HS.out _ (List.mem_of_getElem? hx))
      have RX := Lib.hid rx
      clear rx hx
      have hxb := heap_alloc_new wr (.cells #[.int .i64 x.t.k, .int .i64 x.t.n, .string x.t.s, .slice x.A x.t.l.length x.c, .slice x.A' x.t.m.length x.c'] 77)
      have b0 := below_new wr (.cells #[.int .i64 x.t.k, .int .i64 x.t.n, .string x.t.s, .slice x.A x.t.l.length x.c, .slice x.A' x.t.m.length x.c'] 77)
      go_upto_region 4 with fail
      generalize hW : World.alloc wr _ = W at b0 hxb ⊢
      clear hW q0 q1 q2 q3 q4
      have WB0 := Lib.hid (hWB.out.next b0)
      have K0 := Lib.hid (WK.below (b := b) b0 hWB.out.2)
      have hgb := Lib.hid (show wr.heap.size ≠ b by have := hWB.out.lt; omega)
      have HXB := Lib.hid hxb
      clear b0 hxb
      obtain ⟨sep, hsep⟩ : ∃ sep : Bs, sep = cm k := ⟨_, rfl⟩
      by_cases hk0 : k = 0
      · subst hk0
        obtain rfl : sep = [] := hsep
        have hx2 : W.heap[wr.heap.size]? = some (.cells #[.int .i64 x.t.k, .int .i64 x.t.n, .string x.t.s, .slice x.A x.t.l.length x.c, .slice x.A' x.t.m.length x.c'] 77 (0, 0)) := HXB.out
        have a0 : W.cell? ⟨wr.heap.size, 0, none⟩ = some (.int .i64 x.t.k) := by rw [Lib.cell_of_heap hx2]; rfl
        have a1 : W.cell? ⟨wr.heap.size, 1, none⟩ = some (.int .i64 x.t.n) := by rw [Lib.cell_of_heap hx2]; rfl
        have a2 : W.cell? ⟨wr.heap.size, 2, none⟩ = some (.string x.t.s) := by rw [Lib.cell_of_heap hx2]; rfl
        have a3 : W.cell? ⟨wr.heap.size, 3, none⟩ = some (.slice x.A x.t.l.length x.c) := by rw [Lib.cell_of_heap hx2]; rfl
        have a4 : W.cell? ⟨wr.heap.size, 4, none⟩ = some (.slice x.A' x.t.m.length x.c') := by rw [Lib.cell_of_heap hx2]; rfl
        have CT := HC.out W (bs ++ sf.toList ++ itemsT f 0 (l.take 0) ++ []) x (HM.out.kept ((hK.out.1.trans K0.out.1).block 0 hB)) (by simpa using WB0.out) (RX.out.keep (Kept.of_below K0.out.1 (Nat.le_refl _))) SX.out (by
          have h1 := TN.out
          have h2 := HL.out
          rw [NX.out] at h1
          simp only [List.length_append, cm] at h1 ⊢
          simp at h1 ⊢; omega)
        go_wp2_with fail
        refine CT.mono ?_
        rintro e w3 ⟨rfl, hw3⟩
        have HW3 := Lib.hid hw3
        clear hw3 CT a0 a1 a2 a3 a4 hx2
        go_wp2
        go_roundw
        case rel => exact ⟨1, by omega, by go_num, Lib.hid (by rw [NX.out]; have := HW3.out.1; simpa [cm] using this), Lib.hid ((hK.out.trans K0.out).trans HW3.out.2)⟩
        case measure => simp [intOf]; omega
      · have hkp : (0 : Int) < (k : Int) := by omega
        have S2 := Lib.hid (str_lit W B b (bs ++ sf.toList ++ itemsT f 0 (l.take k)) [44, 32] WB0.out (by
          have h1 := TN.out
          have h2 := HL.out
          rw [NX.out] at h1
          rw [show cm k = [44, 32] from by unfold cm; rw [if_pos (by omega)]] at h1
          simp only [List.length_append] at h1 ⊢
          unfold MX at h2; omega))
        go_wp2_with fail
        refine S2.out.mono ?_
        rintro e w2 ⟨rfl, hw2⟩
        have HW2 := Lib.hid hw2
        clear hw2 S2
        have hx2 : w2.heap[wr.heap.size]? = some (.cells #[.int .i64 x.t.k, .int .i64 x.t.n, .string x.t.s, .slice x.A x.t.l.length x.c, .slice x.A' x.t.m.length x.c'] 77 (0, 0)) := (HW2.out.2.stay HXB.out (by decide) hgb.out).trans HXB.out
        have a0 : w2.cell? ⟨wr.heap.size, 0, none⟩ = some (.int .i64 x.t.k) := by rw [Lib.cell_of_heap hx2]; rfl
        have a1 : w2.cell? ⟨wr.heap.size, 1, none⟩ = some (.int .i64 x.t.n) := by rw [Lib.cell_of_heap hx2]; rfl
        have a2 : w2.cell? ⟨wr.heap.size, 2, none⟩ = some (.string x.t.s) := by rw [Lib.cell_of_heap hx2]; rfl
        have a3 : w2.cell? ⟨wr.heap.size, 3, none⟩ = some (.slice x.A x.t.l.length x.c) := by rw [Lib.cell_of_heap hx2]; rfl
        have a4 : w2.cell? ⟨wr.heap.size, 4, none⟩ = some (.slice x.A' x.t.m.length x.c') := by rw [Lib.cell_of_heap hx2]; rfl
        have CT := HC.out w2 (bs ++ sf.toList ++ itemsT f 0 (l.take k) ++ [44, 32]) x (HM.out.kept (((hK.out.1.trans K0.out.1).trans HW2.out.2.1).block 0 hB)) HW2.out.1 (RX.out.keep (Kept.of_below (K0.out.1.trans HW2.out.2.1) (Nat.le_refl _))) SX.out (by
          have h1 := TN.out
          have h2 := HL.out
          rw [NX.out] at h1
          simp only [List.length_append, cm] at h1 ⊢
          rw [if_pos (by omega)] at h1; omega)
        go_wp2_with fail
        refine CT.mono ?_
        rintro e w3 ⟨rfl, hw3⟩
        have HW3 := Lib.hid hw3
        clear hw3 CT a0 a1 a2 a3 a4 hx2
        go_wp2
        go_roundw
        case rel => exact ⟨k + 1, by omega, by go_num, Lib.hid (by rw [NX.out, show cm k = [44, 32] from by unfold cm; rw [if_pos (by omega)]]; have := HW3.out.1; simpa [cm] using this), Lib.hid (((hK.out.trans K0.out).trans HW2.out.2).trans HW3.out.2)⟩
        case measure => simp [intOf]; omega
    · have ALL := Lib.hid (show l.take k = l from List.take_of_length_le (by omega))
      have S3 := Lib.hid (str_any wr B b _ sl hWB.out (by
        have h2 := HL.out
        rw [ALL.out, ← toList_size]
        simp only [List.length_append]
        unfold MX at h2; omega))
      rw [ALL.out] at S3
      go_wp2_with fail
      refine S3.out.mono ?_
      rintro e w2 ⟨rfl, hw2⟩
      have HW2 := Lib.hid hw2
      clear hw2 S3
      go_wp2
      go_end0
      exact ⟨rfl, by have := HW2.out.1; simpa using this, hK.out.trans HW2.out.2⟩

set_option maxHeartbeats 3200000 in
theorem writeRowP (f : P → Bs) (S : P → Prop) (B b d : Nat) (hcl : ∀ (W : World) (bs : Bs) (x : Pt), NM W → WB W B b bs → Pd W 0 B d x.t x.A x.c x.A' x.c' → S x.t → bs.length + (f x.t).length ≤ MX → Calls Tryz.prog 57 #[.pointer (some ⟨b, 0, none⟩), x.val] W (WPost B b (bs ++ f x.t) W))
    (w : World) (hm : NM w) (hB : 0 < B) (bs first last : Bs) (sf sl : ByteArray) (hsf : sf.toList = first) (hsl : sl.toList = last) (A : Option Addr) (c : Nat) (l : List P) (h : WB w B b bs) (hr : Pw w 0 B d A c l) (hS : ∀ x ∈ l, S x) (hl : bs.length + (first ++ (itemsT f 0 l ++ last)).length ≤ MX) :
    Calls Tryz.prog 81 #[.pointer (some ⟨b, 0, none⟩), .string sf, .slice A l.length c, .func (.func 57) #[.pointer (some ⟨b, 0, none⟩)] #[], .string sl] w (WPost B b (bs ++ (first ++ (itemsT f 0 l ++ last))) w) := by
  have HC := Lib.hid hcl
  have HR := Lib.hid hr
  have HS := Lib.hid hS
  have HM := Lib.hid hm
  have hbig := hr.big
  subst hsf hsl
  have hl' : bs.length + (sf.toList.length + ((itemsT f 0 l).length + sl.toList.length)) ≤ MX := by simpa using hl
  have S1 := Lib.hid (str_any w B b bs sf h (by rw [← toList_size]; unfold MX at hl'; omega))
  have HL := Lib.hid hl'
  have TK := Lib.hid (fun k => itemsT_take_le f l k)
  clear hcl hr hS hm h hl hl'
  go_enter Tryz.func81, Tryz.ntmps81
  go_wp2_with fail
  refine S1.out.mono ?_
  rintro e w0 ⟨rfl, hw⟩
  have HW := Lib.hid hw
  clear hw S1
  go_wp2
  go_loopw [10, 19] (fun _ i wr => ∃ k : Nat, k ≤ l.length ∧ i = .int .i64 k ∧ Hid (WB wr B b (bs ++ sf.toList ++ itemsT f 0 (l.take k))) ∧ Hid (WK B b w wr)) (fun _ i _ => l.length - (intOf i).toNat)
  case atStart => exact ⟨0, by omega, rfl, Lib.hid (by simpa [itemsT] using HW.out.1), Lib.hid HW.out.2⟩
  case round =>
    obtain ⟨k, hk, rfl, hWB, hK⟩ := hrel
    by_cases hlt : k < l.length
    · obtain ⟨b0, off, x, rfl, _, hb0, hx, q, rx⟩ := (HR.out.keep (Kept.of_below hK.out.1 (Nat.le_refl _))).elem hlt
      skip
      obtain ⟨q0, q1, q2⟩ := q
      have NX := Lib.hid (itemsT_next f l k hx)
      have TN := Lib.hid (TK.out (k + 1))
      have SX := Lib.hid (HS.out _ (List.mem_of_getElem? hx))
      have RX := Lib.hid rx
      clear rx hx
      have hxb := heap_alloc_new wr (.cells #[.int .i64 x.t.k, .slice x.A x.t.v.length x.c, .slice x.A' x.t.p.length x.c'] 80)
      have b0 := below_new wr (.cells #[.int .i64 x.t.k, .slice x.A x.t.v.length x.c, .slice x.A' x.t.p.length x.c'] 80)
      go_upto_region 4 with fail
      generalize hW : World.alloc wr _ = W at b0 hxb ⊢
      clear hW q0 q1 q2
      have WB0 := Lib.hid (hWB.out.next b0)
      have K0 := Lib.hid (WK.below (b := b) b0 hWB.out.2)
      have hgb := Lib.hid (show wr.heap.size ≠ b by have := hWB.out.lt; omega)
      have HXB := Lib.hid hxb
      clear b0 hxb
      obtain ⟨sep, hsep⟩ : ∃ sep : Bs, sep = cm k := ⟨_, rfl⟩
      by_cases hk0 : k = 0
      · subst hk0
        obtain rfl : sep = [] := hsep
        have hx2 : W.heap[wr.heap.size]? = some (.cells #[.int .i64 x.t.k, .slice x.A x.t.v.length x.c, .slice x.A' x.t.p.length x.c'] 80 (0, 0)) := HXB.out
        have a0 : W.cell? ⟨wr.heap.size, 0, none⟩ = some (.int .i64 x.t.k) := by rw [Lib.cell_of_heap hx2]; rfl
        have a1 : W.cell? ⟨wr.heap.size, 1, none⟩ = some (.slice x.A x.t.v.length x.c) := by rw [Lib.cell_of_heap hx2]; rfl
        have a2 : W.cell? ⟨wr.heap.size, 2, none⟩ = some (.slice x.A' x.t.p.length x.c') := by rw [Lib.cell_of_heap hx2]; rfl
        have CT := HC.out W (bs ++ sf.toList ++ itemsT f 0 (l.take 0) ++ []) x (HM.out.kept ((hK.out.1.trans K0.out.1).block 0 hB)) (by simpa using WB0.out) (RX.out.keep (Kept.of_below K0.out.1 (Nat.le_refl _))) SX.out (by
          have h1 := TN.out
          have h2 := HL.out
          rw [NX.out] at h1
          simp only [List.length_append, cm] at h1 ⊢
          simp at h1 ⊢; omega)
        go_wp2_with fail
        refine CT.mono ?_
        rintro e w3 ⟨rfl, hw3⟩
        have HW3 := Lib.hid hw3
        clear hw3 CT a0 a1 a2 hx2
        go_wp2
        go_roundw
        case rel => exact ⟨1, by omega, by go_num, Lib.hid (by rw [NX.out]; have := HW3.out.1; simpa [cm] using this), Lib.hid ((hK.out.trans K0.out).trans HW3.out.2)⟩
        case measure => simp [intOf]; omega
      · have hkp : (0 : Int) < (k : Int) := by omega
        have S2 := Lib.hid (str_lit W B b (bs ++ sf.toList ++ itemsT f 0 (l.take k)) [44, 32] WB0.out (by
          have h1 := TN.out
          have h2 := HL.out
          rw [NX.out] at h1
          rw [show cm k = [44, 32] from by unfold cm; rw [if_pos (by omega)]] at h1
          simp only [List.length_append] at h1 ⊢
          unfold MX at h2; omega))
        go_wp2_with fail
        refine S2.out.mono ?_
        rintro e w2 ⟨rfl, hw2⟩
        have HW2 := Lib.hid hw2
        clear hw2 S2
        have hx2 : w2.heap[wr.heap.size]? = some (.cells #[.int .i64 x.t.k, .slice x.A x.t.v.length x.c, .slice x.A' x.t.p.length x.c'] 80 (0, 0)) := (HW2.out.2.stay HXB.out (by decide) hgb.out).trans HXB.out
        have a0 : w2.cell? ⟨wr.heap.size, 0, none⟩ = some (.int .i64 x.t.k) := by rw [Lib.cell_of_heap hx2]; rfl
        have a1 : w2.cell? ⟨wr.heap.size, 1, none⟩ = some (.slice x.A x.t.v.length x.c) := by rw [Lib.cell_of_heap hx2]; rfl
        have a2 : w2.cell? ⟨wr.heap.size, 2, none⟩ = some (.slice x.A' x.t.p.length x.c') := by rw [Lib.cell_of_heap hx2]; rfl
        have CT := HC.out w2 (bs ++ sf.toList ++ itemsT f 0 (l.take k) ++ [44, 32]) x (HM.out.kept (((hK.out.1.trans K0.out.1).trans HW2.out.2.1).block 0 hB)) HW2.out.1 (RX.out.keep (Kept.of_below (K0.out.1.trans HW2.out.2.1) (Nat.le_refl _))) SX.out (by
          have h1 := TN.out
          have h2 := HL.out
          rw [NX.out] at h1
          simp only [List.length_append, cm] at h1 ⊢
          rw [if_pos (by omega)] at h1; omega)
        go_wp2_with fail
        refine CT.mono ?_
        rintro e w3 ⟨rfl, hw3⟩
        have HW3 := Lib.hid hw3
        clear hw3 CT a0 a1 a2 hx2
        go_wp2
        go_roundw
        case rel => exact ⟨k + 1, by omega, by go_num, Lib.hid (by rw [NX.out, show cm k = [44, 32] from by unfold cm; rw [if_pos (by omega)]]; have := HW3.out.1; simpa [cm] using this), Lib.hid (((hK.out.trans K0.out).trans HW2.out.2).trans HW3.out.2)⟩
        case measure => simp [intOf]; omega
    · have ALL := Lib.hid (show l.take k = l from List.take_of_length_le (by omega))
      have S3 := Lib.hid (str_any wr B b _ sl hWB.out (by
        have h2 := HL.out
        rw [ALL.out, ← toList_size]
        simp only [List.length_append]
        unfold MX at h2; omega))
      rw [ALL.out] at S3
      go_wp2_with fail
      refine S3.out.mono ?_
      rintro e w2 ⟨rfl, hw2⟩
      have HW2 := Lib.hid hw2
      clear hw2 S3
      go_wp2
      go_end0
      exact ⟨rfl, by have := HW2.out.1; simpa using this, hK.out.trans HW2.out.2⟩

set_option maxHeartbeats 3200000 in
theorem writeRowA (f : Ag → Bs) (S : Ag → Prop) (B b d : Nat) (hcl : ∀ (W : World) (bs : Bs) (x : Gt), NM W → WB W B b bs → GOk W 0 B (Ch W 0 B d) x → S x.t → bs.length + (f x.t).length ≤ MX → Calls Tryz.prog 36 #[.pointer (some ⟨b, 0, none⟩), x.val] W (WPost B b (bs ++ f x.t) W))
    (w : World) (hm : NM w) (hB : 0 < B) (bs first last : Bs) (sf sl : ByteArray) (hsf : sf.toList = first) (hsl : sl.toList = last) (A : Option Addr) (c : Nat) (l : List Ag) (h : WB w B b bs) (hr : GRowA w 0 B (GOk w 0 B (Ch w 0 B d)) A c l) (hS : ∀ x ∈ l, S x) (hl : bs.length + (first ++ (itemsT f 0 l ++ last)).length ≤ MX) :
    Calls Tryz.prog 35 #[.pointer (some ⟨b, 0, none⟩), .string sf, .slice A l.length c, .func (.func 36) #[.pointer (some ⟨b, 0, none⟩)] #[], .string sl] w (WPost B b (bs ++ (first ++ (itemsT f 0 l ++ last))) w) := by
  have HC := Lib.hid hcl
  have HR := Lib.hid hr
  have HS := Lib.hid hS
  have HM := Lib.hid hm
  have hbig := hr.big
  subst hsf hsl
  have hl' : bs.length + (sf.toList.length + ((itemsT f 0 l).length + sl.toList.length)) ≤ MX := by simpa using hl
  have S1 := Lib.hid (str_any w B b bs sf h (by rw [← toList_size]; unfold MX at hl'; omega))
  have HL := Lib.hid hl'
  have TK := Lib.hid (fun k => itemsT_take_le f l k)
  clear hcl hr hS hm h hl hl'
  go_enter Tryz.func35, Tryz.ntmps35
  go_wp2_with fail
  refine S1.out.mono ?_
  rintro e w0 ⟨rfl, hw⟩
  have HW := Lib.hid hw
  clear hw S1
  go_wp2
  go_loopw [10, 19] (fun _ i wr => ∃ k : Nat, k ≤ l.length ∧ i = .int .i64 k ∧ Hid (WB wr B b (bs ++ sf.toList ++ itemsT f 0 (l.take k))) ∧ Hid (WK B b w wr)) (fun _ i _ => l.length - (intOf i).toNat)
  case atStart => exact ⟨0, by omega, rfl, Lib.hid (by simpa [itemsT] using HW.out.1), Lib.hid HW.out.2⟩
  case round =>
    obtain ⟨k, hk, rfl, hWB, hK⟩ := hrel
    by_cases hlt : k < l.length
    · obtain ⟨b0, off, x, rfl, _, hb0, hx, q, rx⟩ := GRow.elem (GRow.imp HR.out (Kept.of_below hK.out.1 (Nat.le_refl _)) (Nat.le_refl _) (Nat.le_refl _) (fun _ => GOk.imp (Kept.of_below hK.out.1 (Nat.le_refl _)) (Nat.le_refl _) (Nat.le_refl _) (fun _ _ _ h => h.keep (Kept.of_below hK.out.1 (Nat.le_refl _))))) hlt
      replace q := cellsG.of q
      obtain ⟨q0, q1, q2, q3, q4, q5, q6, q7, q8, q9, q10⟩ := q
      have NX := Lib.hid (itemsT_next f l k hx)
      have TN := Lib.hid (TK.out (k + 1))
      have SX := Lib.hid (HS.out _ (List.mem_of_getElem? hx))
      have RX := Lib.hid rx
      clear rx hx
      have hxb := heap_alloc_new wr (.cells #[.int .i64 x.k, .int .i64 x.x.t.k, .int .i64 x.x.t.n, .string x.x.t.s, .slice x.x.A x.x.t.l.length x.x.c, .slice x.x.A' x.x.t.m.length x.x.c', .int .i64 x.q.t.k, .slice x.q.A x.q.t.v.length x.q.c, .slice x.q.A' x.q.t.p.length x.q.c', .slice x.A x.l.length x.c, .string x.s] 82)
      have b0 := below_new wr (.cells #[.int .i64 x.k, .int .i64 x.x.t.k, .int .i64 x.x.t.n, .string x.x.t.s, .slice x.x.A x.x.t.l.length x.x.c, .slice x.x.A' x.x.t.m.length x.x.c', .int .i64 x.q.t.k, .slice x.q.A x.q.t.v.length x.q.c, .slice x.q.A' x.q.t.p.length x.q.c', .slice x.A x.l.length x.c, .string x.s] 82)
      go_upto_region 4 with fail
      generalize hW : World.alloc wr _ = W at b0 hxb ⊢
      clear hW q0 q1 q2 q3 q4 q5 q6 q7 q8 q9 q10
      have WB0 := Lib.hid (hWB.out.next b0)
      have K0 := Lib.hid (WK.below (b := b) b0 hWB.out.2)
      have hgb := Lib.hid (show wr.heap.size ≠ b by have := hWB.out.lt; omega)
      have HXB := Lib.hid hxb
      clear b0 hxb
      obtain ⟨sep, hsep⟩ : ∃ sep : Bs, sep = cm k := ⟨_, rfl⟩
      by_cases hk0 : k = 0
      · subst hk0
        obtain rfl : sep = [] := hsep
        have hx2 : W.heap[wr.heap.size]? = some (.cells #[.int .i64 x.k, .int .i64 x.x.t.k, .int .i64 x.x.t.n, .string x.x.t.s, .slice x.x.A x.x.t.l.length x.x.c, .slice x.x.A' x.x.t.m.length x.x.c', .int .i64 x.q.t.k, .slice x.q.A x.q.t.v.length x.q.c, .slice x.q.A' x.q.t.p.length x.q.c', .slice x.A x.l.length x.c, .string x.s] 82 (0, 0)) := HXB.out
        have a0 : W.cell? ⟨wr.heap.size, 0, none⟩ = some (.int .i64 x.k) := by rw [Lib.cell_of_heap hx2]; rfl
        have a1 : W.cell? ⟨wr.heap.size, 1, none⟩ = some (.int .i64 x.x.t.k) := by rw [Lib.cell_of_heap hx2]; rfl
        have a2 : W.cell? ⟨wr.heap.size, 2, none⟩ = some (.int .i64 x.x.t.n) := by rw [Lib.cell_of_heap hx2]; rfl
        have a3 : W.cell? ⟨wr.heap.size, 3, none⟩ = some (.string x.x.t.s) := by rw [Lib.cell_of_heap hx2]; rfl
        have a4 : W.cell? ⟨wr.heap.size, 4, none⟩ = some (.slice x.x.A x.x.t.l.length x.x.c) := by rw [Lib.cell_of_heap hx2]; rfl
        have a5 : W.cell? ⟨wr.heap.size, 5, none⟩ = some (.slice x.x.A' x.x.t.m.length x.x.c') := by rw [Lib.cell_of_heap hx2]; rfl
        have a6 : W.cell? ⟨wr.heap.size, 6, none⟩ = some (.int .i64 x.q.t.k) := by rw [Lib.cell_of_heap hx2]; rfl
        have a7 : W.cell? ⟨wr.heap.size, 7, none⟩ = some (.slice x.q.A x.q.t.v.length x.q.c) := by rw [Lib.cell_of_heap hx2]; rfl
        have a8 : W.cell? ⟨wr.heap.size, 8, none⟩ = some (.slice x.q.A' x.q.t.p.length x.q.c') := by rw [Lib.cell_of_heap hx2]; rfl
        have a9 : W.cell? ⟨wr.heap.size, 9, none⟩ = some (.slice x.A x.l.length x.c) := by rw [Lib.cell_of_heap hx2]; rfl
        have a10 : W.cell? ⟨wr.heap.size, 10, none⟩ = some (.string x.s) := by rw [Lib.cell_of_heap hx2]; rfl
        have CT := HC.out W (bs ++ sf.toList ++ itemsT f 0 (l.take 0) ++ []) x (HM.out.kept ((hK.out.1.trans K0.out.1).block 0 hB)) (by simpa using WB0.out) (GOk.imp (Kept.of_below K0.out.1 (Nat.le_refl _)) (Nat.le_refl _) (Nat.le_refl _) (fun _ _ _ h => h.keep (Kept.of_below K0.out.1 (Nat.le_refl _))) RX.out) SX.out (by
          have h1 := TN.out
          have h2 := HL.out
          rw [NX.out] at h1
          simp only [List.length_append, cm] at h1 ⊢
          simp at h1 ⊢; omega)
        go_wp2_with fail
        refine CT.mono ?_
        rintro e w3 ⟨rfl, hw3⟩
        have HW3 := Lib.hid hw3
        clear hw3 CT a0 a1 a2 a3 a4 a5 a6 a7 a8 a9 a10 hx2
        go_wp2
        go_roundw
        case rel => exact ⟨1, by omega, by go_num, Lib.hid (by rw [NX.out]; have := HW3.out.1; simpa [cm] using this), Lib.hid ((hK.out.trans K0.out).trans HW3.out.2)⟩
        case measure => simp [intOf]; omega
      · have hkp : (0 : Int) < (k : Int) := by omega
        have S2 := Lib.hid (str_lit W B b (bs ++ sf.toList ++ itemsT f 0 (l.take k)) [44, 32] WB0.out (by
          have h1 := TN.out
          have h2 := HL.out
          rw [NX.out] at h1
          rw [show cm k = [44, 32] from by unfold cm; rw [if_pos (by omega)]] at h1
          simp only [List.length_append] at h1 ⊢
          unfold MX at h2; omega))
        go_wp2_with fail
        refine S2.out.mono ?_
        rintro e w2 ⟨rfl, hw2⟩
        have HW2 := Lib.hid hw2
        clear hw2 S2
        have hx2 : w2.heap[wr.heap.size]? = some (.cells #[.int .i64 x.k, .int .i64 x.x.t.k, .int .i64 x.x.t.n, .string x.x.t.s, .slice x.x.A x.x.t.l.length x.x.c, .slice x.x.A' x.x.t.m.length x.x.c', .int .i64 x.q.t.k, .slice x.q.A x.q.t.v.length x.q.c, .slice x.q.A' x.q.t.p.length x.q.c', .slice x.A x.l.length x.c, .string x.s] 82 (0, 0)) := (HW2.out.2.stay HXB.out (by decide) hgb.out).trans HXB.out
        have a0 : w2.cell? ⟨wr.heap.size, 0, none⟩ = some (.int .i64 x.k) := by rw [Lib.cell_of_heap hx2]; rfl
        have a1 : w2.cell? ⟨wr.heap.size, 1, none⟩ = some (.int .i64 x.x.t.k) := by rw [Lib.cell_of_heap hx2]; rfl
        have a2 : w2.cell? ⟨wr.heap.size, 2, none⟩ = some (.int .i64 x.x.t.n) := by rw [Lib.cell_of_heap hx2]; rfl
        have a3 : w2.cell? ⟨wr.heap.size, 3, none⟩ = some (.string x.x.t.s) := by rw [Lib.cell_of_heap hx2]; rfl
        have a4 : w2.cell? ⟨wr.heap.size, 4, none⟩ = some (.slice x.x.A x.x.t.l.length x.x.c) := by rw [Lib.cell_of_heap hx2]; rfl
        have a5 : w2.cell? ⟨wr.heap.size, 5, none⟩ = some (.slice x.x.A' x.x.t.m.length x.x.c') := by rw [Lib.cell_of_heap hx2]; rfl
        have a6 : w2.cell? ⟨wr.heap.size, 6, none⟩ = some (.int .i64 x.q.t.k) := by rw [Lib.cell_of_heap hx2]; rfl
        have a7 : w2.cell? ⟨wr.heap.size, 7, none⟩ = some (.slice x.q.A x.q.t.v.length x.q.c) := by rw [Lib.cell_of_heap hx2]; rfl
        have a8 : w2.cell? ⟨wr.heap.size, 8, none⟩ = some (.slice x.q.A' x.q.t.p.length x.q.c') := by rw [Lib.cell_of_heap hx2]; rfl
        have a9 : w2.cell? ⟨wr.heap.size, 9, none⟩ = some (.slice x.A x.l.length x.c) := by rw [Lib.cell_of_heap hx2]; rfl
        have a10 : w2.cell? ⟨wr.heap.size, 10, none⟩ = some (.string x.s) := by rw [Lib.cell_of_heap hx2]; rfl
        have CT := HC.out w2 (bs ++ sf.toList ++ itemsT f 0 (l.take k) ++ [44, 32]) x (HM.out.kept (((hK.out.1.trans K0.out.1).trans HW2.out.2.1).block 0 hB)) HW2.out.1 (GOk.imp (Kept.of_below (K0.out.1.trans HW2.out.2.1) (Nat.le_refl _)) (Nat.le_refl _) (Nat.le_refl _) (fun _ _ _ h => h.keep (Kept.of_below (K0.out.1.trans HW2.out.2.1) (Nat.le_refl _))) RX.out) SX.out (by
          have h1 := TN.out
          have h2 := HL.out
          rw [NX.out] at h1
          simp only [List.length_append, cm] at h1 ⊢
          rw [if_pos (by omega)] at h1; omega)
        go_wp2_with fail
        refine CT.mono ?_
        rintro e w3 ⟨rfl, hw3⟩
        have HW3 := Lib.hid hw3
        clear hw3 CT a0 a1 a2 a3 a4 a5 a6 a7 a8 a9 a10 hx2
        go_wp2
        go_roundw
        case rel => exact ⟨k + 1, by omega, by go_num, Lib.hid (by rw [NX.out, show cm k = [44, 32] from by unfold cm; rw [if_pos (by omega)]]; have := HW3.out.1; simpa [cm] using this), Lib.hid (((hK.out.trans K0.out).trans HW2.out.2).trans HW3.out.2)⟩
        case measure => simp [intOf]; omega
    · have ALL := Lib.hid (show l.take k = l from List.take_of_length_le (by omega))
      have S3 := Lib.hid (str_any wr B b _ sl hWB.out (by
        have h2 := HL.out
        rw [ALL.out, ← toList_size]
        simp only [List.length_append]
        unfold MX at h2; omega))
      rw [ALL.out] at S3
      go_wp2_with fail
      refine S3.out.mono ?_
      rintro e w2 ⟨rfl, hw2⟩
      have HW2 := Lib.hid hw2
      clear hw2 S3
      go_wp2
      go_end0
      exact ⟨rfl, by have := HW2.out.1; simpa using this, hK.out.trans HW2.out.2⟩
end Go.Proofs.YtllkimdlmnjoiaaGreatDoor



/- Carried over from an earlier seat. -/
namespace Go.Proofs.YtllkimdlmnjoiaaGreatDoor
set_option maxRecDepth 100000
set_option maxRecDepth 100000
set_option maxRecDepth 100000
open Go.RowKit Go.Sort

set_option maxHeartbeats 800000 in
theorem truth_any (w : World) (B b : Nat) (bs : Bs) (n : Int) (h : WB w B b bs) (hl : bs.length + (if n = 0 then ([102, 97, 108, 115, 101] : Bs) else [116, 114, 117, 101]).length ≤ MX) :
    Calls Tryz.prog 77 #[.pointer (some ⟨b, 0, none⟩), .int .i64 n] w (WPost B b (bs ++ (if n = 0 then [102, 97, 108, 115, 101] else [116, 114, 117, 101])) w) := by
  by_cases hn : n = 0
  · rw [if_pos hn] at hl ⊢
    have S1 := Lib.hid (str_lit w B b bs [102, 97, 108, 115, 101] h (by unfold MX at hl; simpa using hl))
    have hb : (n == 0) = true := by simpa using hn
    clear hn h hl
    go_enter Tryz.func77, Tryz.ntmps77
    go_wp2_with fail
    refine S1.out.mono ?_
    rintro e w1 ⟨rfl, hw⟩
    have HW := Lib.hid hw
    clear hw
    go_wp2
    go_end0
    exact ⟨rfl, HW.out⟩
  · rw [if_neg hn] at hl ⊢
    have S2 := Lib.hid (str_lit w B b bs [116, 114, 117, 101] h (by unfold MX at hl; simpa using hl))
    have hb : (n == 0) = false := by simpa using hn
    clear hn h hl
    go_enter Tryz.func77, Tryz.ntmps77
    go_wp2_with fail
    refine S2.out.mono ?_
    rintro e w1 ⟨rfl, hw⟩
    have HW := Lib.hid hw
    clear hw
    go_wp2
    go_end0
    exact ⟨rfl, HW.out⟩
theorem flat_next (f : UInt8 → Bs) (l : Bs) (k : Nat) {c : UInt8} (h : l[k]? = some c) : (l.take (k + 1)).flatMap f = (l.take k).flatMap f ++ f c := by
  rw [take_snoc l k h, List.flatMap_append]; simp
theorem flat_le (f : UInt8 → Bs) (l : Bs) (k : Nat) : ((l.take k).flatMap f).length ≤ (l.flatMap f).length := by
  have := congrArg (fun m => (List.flatMap f m).length) (List.take_append_drop k l).symm
  simp only [List.flatMap_append, List.length_append] at this
  omega
theorem WB.drew {w : World} {B b : Nat} {bs : Bs} (h : WB w B b bs) : WB w.drew B b bs := h.next (Below.drew (Below.refl _ _))
theorem WK.drew (B b : Nat) (w : World) : WK B b w w.drew := ⟨Below.drew (Below.refl _ _), (Lib.OthersKept.refl _ _ w).drew⟩
set_option maxHeartbeats 3200000 in
theorem wtxt_any (w : World) (B b : Nat) (bs : Bs) (s : ByteArray) (h : WB w B b bs) (hl : bs.length + (qT s.toList).length ≤ MX) :
    Calls Tryz.prog 79 #[.pointer (some ⟨b, 0, none⟩), .string s] w (WPost B b (bs ++ qT s.toList) w) := by
  have HL := Lib.hid (show bs.length + 1 + (s.toList.flatMap qC).length + 1 ≤ MX by unfold qT at hl; simp only [List.length_cons, List.length_append, List.length_nil] at hl; omega)
  have S1 := Lib.hid (byte_any w B b bs 39 h (by have := HL.out; unfold MX at this; omega))
  have hsz : s.size ≤ 140737488355328 := by
    have h1 : s.toList.length ≤ (s.toList.flatMap qC).length := by
      rw [List.length_flatMap]
      have : ∀ l : Bs, l.length ≤ (l.map fun c => (qC c).length).sum := fun l => by
        induction l with
        | nil => simp
        | cons c l ih => simp only [List.map_cons, List.sum_cons, List.length_cons]; have : 1 ≤ (qC c).length := by unfold qC; split <;> simp
                         omega
      exact this _
    have := HL.out
    rw [toList_size] at h1
    unfold MX at this; omega
  have TK := Lib.hid (fun k => flat_le qC s.toList k)
  clear h hl
  go_enter Tryz.func79, Tryz.ntmps79
  go_wp2_with fail
  refine S1.out.mono ?_
  rintro e w0 ⟨rfl, hw⟩
  have HW := Lib.hid hw
  clear hw S1
  go_wp2
  go_loopw [4, 11] (fun _ i wr => ∃ k : Nat, k ≤ s.size ∧ i = .int .i64 k ∧ Hid (WB wr B b (bs ++ [39] ++ (s.toList.take k).flatMap qC)) ∧ Hid (WK B b w wr)) (fun _ i _ => s.size - (intOf i).toNat)
  case atStart => exact ⟨0, by omega, rfl, Lib.hid (by simpa using HW.out.1), Lib.hid HW.out.2⟩
  case round =>
    obtain ⟨k, hk, rfl, hWB, hK⟩ := hrel
    by_cases hlt : k < s.size
    · have NX := Lib.hid (flat_next qC s.toList k (toList_at s k hlt))
      have TN := Lib.hid (TK.out (k + 1))
      have k0 : (0 : Int) ≤ (k : Int) := by omega
      have k1 : (k : Int) < (s.size : Int) := by omega
      obtain ⟨c, hc⟩ : ∃ c, c = s[k]'hlt := ⟨_, rfl⟩
      rw [← hc] at NX
      by_cases hq : c = 39 ∨ c = 92
      · have QC := Lib.hid (show qC c = [92, c] from if_pos hq)
        have S2 := Lib.hid (byte_any wr B b _ 92 hWB.out (by
          have h1 := TN.out
          rw [NX.out, QC.out] at h1
          have h2 := HL.out
          simp only [List.length_append] at h1 ⊢
          unfold MX at h2; simp only [List.length_cons, List.length_nil] at h1 ⊢; omega))
        have S3 := Lib.hid (fun (X : World) (hX : WB X B b (bs ++ [39] ++ (s.toList.take k).flatMap qC ++ [92])) => byte_any X B b _ c hX (by
          have h1 := TN.out
          rw [NX.out, QC.out] at h1
          have h2 := HL.out
          simp only [List.length_append] at h1 ⊢
          unfold MX at h2; simp only [List.length_cons, List.length_nil] at h1 ⊢; omega))
        have hcond : (((s[k]'hlt).toNat : Int) == 39) = true ∨ ((((s[k]'hlt).toNat : Int) == 39) = false ∧ (((s[k]'hlt).toNat : Int) == 92) = true) := by
          rw [← hc]
          rcases hq with rfl | rfl
          · left; rfl
          · right; exact ⟨rfl, rfl⟩
        have HC := Lib.hid hc
        clear hq hc
        rcases hcond with e1 | ⟨e1, e2⟩
        all_goals
          go_wp2_with fail
          refine S2.out.mono ?_
          rintro e w2 ⟨rfl, hw⟩
          have HW2 := Lib.hid hw
          clear hw S2
          go_upto_region 6 with fail
          go_still_tail 6, (by kernel_rfl)
          change wpList _ _ _ _ _ w2.drew
          rw [← HC.out]
          go_wp2_with fail
          refine (S3.out _ HW2.out.1.drew).mono ?_
          rintro e w3 ⟨rfl, hw⟩
          have HW3 := Lib.hid hw
          clear hw S3
          go_wp2
          go_roundw
          case rel => exact ⟨k + 1, by omega, by go_num, Lib.hid (by rw [NX.out, QC.out]; have := HW3.out.1; simpa using this), Lib.hid (((hK.out.trans HW2.out.2).trans (WK.drew _ _ _)).trans HW3.out.2)⟩
          case measure => simp [intOf]; omega
      · have QC := Lib.hid (show qC c = [c] from if_neg hq)
        have S3 := Lib.hid (byte_any _ B b _ c hWB.out.drew (by
          have h1 := TN.out
          rw [NX.out, QC.out] at h1
          have h2 := HL.out
          simp only [List.length_append] at h1 ⊢
          unfold MX at h2; simp only [List.length_cons, List.length_nil] at h1 ⊢; omega))
        have e1 : (((s[k]'hlt).toNat : Int) == 39) = false := by
          rw [← hc]; refine beq_eq_false_iff_ne.2 fun h => hq (.inl ?_)
          exact UInt8.toNat_inj.1 (by have : c.toNat = 39 := by omega
                                      exact this)
        have e2 : (((s[k]'hlt).toNat : Int) == 92) = false := by
          rw [← hc]; refine beq_eq_false_iff_ne.2 fun h => hq (.inr ?_)
          exact UInt8.toNat_inj.1 (by have : c.toNat = 92 := by omega
                                      exact this)
        have HC := Lib.hid hc
        clear hq hc
        go_upto_region 6 with fail
        go_still_tail 6, (by kernel_rfl)
        change wpList _ _ _ _ _ wr.drew
        rw [← HC.out]
        go_wp2_with fail
        refine S3.out.mono ?_
        rintro e w3 ⟨rfl, hw⟩
        have HW3 := Lib.hid hw
        clear hw S3
        go_wp2
        go_roundw
        case rel => exact ⟨k + 1, by omega, by go_num, Lib.hid (by rw [NX.out, QC.out]; have := HW3.out.1; simpa using this), Lib.hid ((hK.out.trans (WK.drew _ _ _)).trans HW3.out.2)⟩
        case measure => simp [intOf]; omega
    · have ALL := Lib.hid (show s.toList.take k = s.toList from List.take_of_length_le (by rw [toList_size]; omega))
      have S3 := Lib.hid (byte_any wr B b _ 39 hWB.out (by
        rw [ALL.out]
        have h2 := HL.out
        simp only [List.length_append, List.length_cons, List.length_nil]
        unfold MX at h2; omega))
      rw [ALL.out] at S3
      go_wp2_with fail
      refine S3.out.mono ?_
      rintro e w3 ⟨rfl, hw⟩
      have HW3 := Lib.hid hw
      clear hw S3
      go_wp2
      go_end0
      exact ⟨rfl, by have := HW3.out.1; simpa [qT] using this, hK.out.trans HW3.out.2⟩
end Go.Proofs.YtllkimdlmnjoiaaGreatDoor



