/- Just as many calls, chains, arguments as may be; one more is refused. -/
import Derived.Test.YtiiopbcihieblaaDoorTT
import Derived.IntWalk
import Derived.Laws.IdiomStrings
namespace Go.Proofs.YtiiopbcihieblaaDoor
set_option maxRecDepth 100000
open Go.RowKit Go.Sort

def nmK (k : Nat) : ByteArray := ⟨#[UInt8.ofNat (97 + k)]⟩
def call0 (s : ByteArray) : Ct := ⟨s, [], none, 0⟩
def wordG (s : ByteArray) : Gt := gA 4 v0 s
def chainG (l : List C) (A : Option Addr) (c : Nat) : Gt := ⟨3, at0 v0, pt0, l, A, c, ⟨#[]⟩⟩
def deepL (s : ByteArray) : Nat → List C
  | 0 => [.mk s []]
  | k + 1 => [.mk s [⟨3, v0, p0, deepL s k, ⟨#[]⟩⟩]]
theorem deepL_len (s : ByteArray) (k : Nat) : (deepL s k).length = 1 := by cases k <;> rfl
def bndB (k : Nat) : Bool :=
  qOk (List.replicate 200 (.mk (nmK k) [])) && !qOk (List.replicate 201 (.mk (nmK k) [])) && qOk (deepL (nmK k) 9) && nestV 10 (deepL (nmK k) 9) == 10 && !qOk (deepL (nmK k) 10)
    && qOk [.mk (nmK k) (List.replicate 50 (wordG (nmK k)).t)] && !qOk [.mk (nmK k) (List.replicate 51 (wordG (nmK k)).t)]
theorem bnd_all : (List.range 26).all bndB = true := by kernel_rfl
theorem bnd_parts (k : Nat) (hk : k < 26) : qOk (List.replicate 200 (.mk (nmK k) [])) = true ∧ qOk (List.replicate 201 (.mk (nmK k) [])) = false ∧ qOk (deepL (nmK k) 9) = true ∧ nestV 10 (deepL (nmK k) 9) = 10 ∧ qOk (deepL (nmK k) 10) = false
    ∧ qOk [.mk (nmK k) (List.replicate 50 (wordG (nmK k)).t)] = true ∧ qOk [.mk (nmK k) (List.replicate 51 (wordG (nmK k)).t)] = false := by
  have := List.all_eq_true.1 bnd_all k (List.mem_range.2 hk)
  simp only [bndB, Bool.and_eq_true, Bool.not_eq_true', beq_iff_eq] at this
  exact ⟨this.1.1.1.1.1.1, this.1.1.1.1.1.2, this.1.1.1.1.2, this.1.1.1.2, this.1.1.2, this.1.2, this.2⟩
theorem args_lay (w : World) (lo d : Nat) (hlo : lo ≤ w.heap.size) (gs : List Gt) (hl : gs.length ≤ 1000)
    (hg : ∀ g ∈ gs, GOk (w.alloc (.cells (gs.flatMap Gt.cs).toArray 37)) lo (w.alloc (.cells (gs.flatMap Gt.cs).toArray 37)).heap.size (Ch (w.alloc (.cells (gs.flatMap Gt.cs).toArray 37)) lo (w.alloc (.cells (gs.flatMap Gt.cs).toArray 37)).heap.size d) g) :
    GRowA (w.alloc (.cells (gs.flatMap Gt.cs).toArray 37)) lo (w.alloc (.cells (gs.flatMap Gt.cs).toArray 37)).heap.size (GOk (w.alloc (.cells (gs.flatMap Gt.cs).toArray 37)) lo (w.alloc (.cells (gs.flatMap Gt.cs).toArray 37)).heap.size (Ch (w.alloc (.cells (gs.flatMap Gt.cs).toArray 37)) lo (w.alloc (.cells (gs.flatMap Gt.cs).toArray 37)).heap.size d)) (some ⟨w.heap.size, 0, none⟩) gs.length (gs.map Gt.t) :=
  (GOwn.row (tr := Gt.t) Gt.cs_len (by decide) (gown_lay Gt.cs_len 37 w gs hl) (by omega) hg).imp (Kept.refl _ _ _) hlo (Nat.le_refl _) (fun _ h => h)
theorem calls_lay (w : World) (lo d : Nat) (hlo : lo ≤ w.heap.size) (xs : List Ct) (hl : xs.length ≤ 1000)
    (hx : ∀ x ∈ xs, COk (w.alloc (.cells (xs.flatMap Ct.cs).toArray 40)) lo (w.alloc (.cells (xs.flatMap Ct.cs).toArray 40)).heap.size (Ch (w.alloc (.cells (xs.flatMap Ct.cs).toArray 40)) lo (w.alloc (.cells (xs.flatMap Ct.cs).toArray 40)).heap.size d) x) :
    Ch (w.alloc (.cells (xs.flatMap Ct.cs).toArray 40)) lo (w.alloc (.cells (xs.flatMap Ct.cs).toArray 40)).heap.size (d + 1) (some ⟨w.heap.size, 0, none⟩) xs.length (xs.map Ct.t) :=
  (GOwn.row (tr := Ct.t) Ct.cs_len (by decide) (gown_lay Ct.cs_len 40 w xs hl) (by omega) hx).imp (Kept.refl _ _ _) hlo (Nat.le_refl _) (fun _ h => h)
/-- One call, with arguments that lie in memory. -/
theorem call_lay (w : World) (lo d : Nat) (hlo : lo ≤ w.heap.size) (s : ByteArray) (hs : s.size ≤ 140737488355328) (A : Option Addr) (c : Nat) (l : List Ag) (h : GRowA w lo w.heap.size (GOk w lo w.heap.size (Ch w lo w.heap.size d)) A c l) :
    Ch (w.alloc (.cells #[.string s, .slice A l.length c] 40)) lo (w.alloc (.cells #[.string s, .slice A l.length c] 40)).heap.size (d + 1) (some ⟨w.heap.size, 0, none⟩) 1 [.mk s l] := by
  have hb := below_new w (.cells #[.string s, .slice A l.length c] 40)
  refine calls_lay w lo d hlo [⟨s, l, A, c⟩] (by simp) (fun x hx => ?_)
  obtain rfl := List.mem_singleton.1 hx
  exact COk.imp (w := w) (Kept.of_below hb (Nat.le_refl _)) (Nat.le_refl _) hb.size (fun _ _ _ h => h.imp (Kept.of_below hb (Nat.le_refl _)) (Nat.le_refl _) hb.size (Nat.le_refl _)) ⟨hs, h⟩
/-- A chain in a call of its own. -/
theorem deep_lay (w : World) (lo d : Nat) (hlo : lo ≤ w.heap.size) (s : ByteArray) (hs : s.size ≤ 140737488355328) (A : Option Addr) (c : Nat) (l : List C) (h : Ch w lo w.heap.size d A c l) (W : World)
    (hW : (w.alloc (.cells #[.int .i64 3, .int .i64 0, .int .i64 0, .string ⟨#[]⟩, .slice none 0 0, .slice none 0 0, .int .i64 0, .slice none 0 0, .slice none 0 0, .slice A l.length c, .string ⟨#[]⟩] 37)).alloc (.cells #[.string s, .slice (some ⟨w.heap.size, 0, none⟩) 1 1] 40) = W) :
    Ch W lo W.heap.size (d + 1) (some ⟨w.heap.size + 1, 0, none⟩) 1 [.mk s [⟨3, v0, p0, l, ⟨#[]⟩⟩]] ∧ Below w.heap.size w W := by
  obtain ⟨w1, e1⟩ : ∃ q, q = w.alloc (.cells #[.int .i64 3, .int .i64 0, .int .i64 0, .string ⟨#[]⟩, .slice none 0 0, .slice none 0 0, .int .i64 0, .slice none 0 0, .slice none 0 0, .slice A l.length c, .string ⟨#[]⟩] 37) := ⟨_, rfl⟩
  rw [← e1] at hW
  have hb : Below w.heap.size w w1 := by rw [e1]; exact below_new _ _
  have hs1 : w1.heap.size = w.heap.size + 1 := by rw [e1]; simp
  have h1 := args_lay w lo d hlo [chainG l A c] (by simp) (fun g hg => by
    obtain rfl := List.mem_singleton.1 hg
    have hb := below_new w (.cells ([chainG l A c].flatMap Gt.cs).toArray 37)
    exact ⟨(by decide : (-9223372036854775808 : Int) ≤ 3), (by decide : (3 : Int) ≤ 9223372036854775807), Nat.le_of_ble_eq_true rfl, ⟨1, v0_fld, rw_nil _ _ _ _, rw_nil _ _ _ _⟩, ⟨1, ⟨(by decide : (-9223372036854775808 : Int) ≤ 0), (by decide : (0 : Int) ≤ 9223372036854775807)⟩, ⟨0, rw_nil _ _ _ _⟩, pw_nil _ _ _ _⟩, h.imp (Kept.of_below hb (Nat.le_refl _)) (Nat.le_refl _) hb.size (Nat.le_refl _)⟩)
  rw [show w.alloc (.cells ([chainG l A c].flatMap Gt.cs).toArray 37) = w1 from e1.symm] at h1
  have h2 := call_lay w1 lo d (Nat.le_trans hlo hb.size) s hs _ _ _ h1
  subst hW
  refine ⟨?_, bnext hb (below_new _ _)⟩
  rw [← hs1]
  exact h2
theorem own_ch (w : World) (base m c : Nat) (A : Option Addr) (s : ByteArray) (hs : s.size ≤ 140737488355328) (h : COwn w base A m c (List.replicate m (call0 s))) (hm : m ≤ 1000) : Ch w 0 w.heap.size 1 A c (List.replicate m (.mk s [])) := by
  have := (GOwn.row (tr := Ct.t) (M := 3518437208780) (R := COk w 0 w.heap.size (Ch w 0 w.heap.size 0)) Ct.cs_len (by decide) h (by omega) (fun x hx => by
    obtain rfl := (List.mem_replicate.1 hx).2
    exact ⟨hs, grow_none _ _ _ _⟩)).imp (Kept.refl _ _ _) (Nat.zero_le _) (Nat.le_refl _) (fun _ h => h)
  rw [List.map_replicate] at this
  exact this
theorem own_aw (w : World) (base m c : Nat) (A : Option Addr) (s : ByteArray) (hs : s.size ≤ 140737488355328) (h : AOwn w base A m c (List.replicate m (wordG s))) (hm : m ≤ 1000) : GRowA w 0 w.heap.size (GOk w 0 w.heap.size (Ch w 0 w.heap.size 1)) A c (List.replicate m (wordG s).t) := by
  have := (GOwn.row (tr := Gt.t) (M := 764877654082) (R := GOk w 0 w.heap.size (Ch w 0 w.heap.size 1)) Gt.cs_len (by decide) h (by omega) (fun x hx => by
    obtain rfl := (List.mem_replicate.1 hx).2
    exact gA_in w 1 4 v0 s (by decide) (by decide) rfl rfl v0_fld hs)).imp (Kept.refl _ _ _) (Nat.zero_le _) (Nat.le_refl _) (fun _ h => h)
  rw [List.map_replicate] at this
  exact this
theorem Kept.less {lo B B' : Nat} {w w' : World} (h : Kept lo B w w') (hB : B' ≤ B) : Kept lo B' w w' := fun k h1 h2 => h k h1 (Nat.lt_of_lt_of_le h2 hB)
theorem GOwn.low {X : Type} {cs : X → List Value} {n : Nat} {T : TypeId} {X9 w9 : World} {base lo B m c : Nat} {A : Option Addr} {l : List X} (ho : GOwn cs n T X9 base A m c l) (hB : B ≤ base) (hs : B ≤ X9.heap.size) (hg : X9.grownBy w9 (Value.ownBlock (.slice A m c))) : Kept lo B X9 w9 :=
  fun k _ h2 => hg.block k (Nat.lt_of_lt_of_le h2 hs) (fun e => by have := (World.ownsRow.lt ho k e.symm).1; omega)
theorem AOwn.keptC {w w' : World} {base base' m m' c c' : Nat} {A A' : Option Addr} {l : List Gt} {l' : List Ct} (h : AOwn w base A m c l) (h' : COwn w base' A' m' c' l') (hg : w.grownBy w' (Value.ownBlock (.slice A' m' c'))) : AOwn w' base A m c l :=
  GOwn.kept h hg (GOwn.far (T := 37) (T' := 40) (by decide) h h')
theorem COwn.keptA {w w' : World} {base base' m m' c c' : Nat} {A A' : Option Addr} {l : List Ct} {l' : List Gt} (h : COwn w base A m c l) (h' : AOwn w base' A' m' c' l') (hg : w.grownBy w' (Value.ownBlock (.slice A' m' c'))) : COwn w' base A m c l :=
  GOwn.kept h hg (GOwn.far (T := 40) (T' := 37) (by decide) h h')
theorem rep_app {α : Type} (m : Nat) (x : α) : List.replicate m x ++ [x] = List.replicate (m + 1) x := by rw [List.replicate_succ']
set_option maxHeartbeats 12800000 in
theorem bounds_law (W : World) (hm : NM W) (x : Int) (hx : 0 ≤ x ∧ x ≤ 255) : Calls Tryd.prog 4 #[.int .u8 x] W fun e w' => e = .returned (.bool true) ∧ Below W.heap.size W w' := by
  have HM := Lib.hid hm
  obtain ⟨x0, x1⟩ := hx
  clear hm
  obtain ⟨k, hk, hk26⟩ : ∃ k : Nat, x.tmod 26 = (k : Int) ∧ k < 26 := ⟨(x.tmod 26).toNat, by rw [Int.tmod_eq_emod_of_nonneg x0]; omega, by rw [Int.tmod_eq_emod_of_nonneg x0]; omega⟩
  obtain ⟨y1, y2, y3, y4, y5, y6, y7⟩ := bnd_parts k hk26
  have hu8 : ((UInt8.ofNat (97 + k)).toNat : Int) = 97 + (k : Int) := by
    have : (UInt8.ofNat (97 + k)).toNat = 97 + k := by rw [UInt8.toNat_ofNat']; omega
    omega
  have hcv : (convert 29 9 (.slice (some ⟨W.heap.size, 0, none⟩) 1 1)).run Tryd.prog (W.alloc (.cells #[.int .u8 (97 + (k : Int))] 5)) = .ok (.string (nmK k)) (W.alloc (.cells #[.int .u8 (97 + (k : Int))] 5)) := by
    refine run_convert_bytes_back _ 29 9 5 ⟨W.heap.size, 0, none⟩ 1 [UInt8.ofNat (97 + k)] Tryd.underlying29 Tryd.underlying5 Tryd.underlying9 (fun j hj => ?_)
    have : j = 0 := by simpa using hj
    subst this
    rw [addr_add, World.cell?_alloc_at _ _ _ _ rfl]
    show some (Value.int .u8 (97 + (k : Int))) = some (.int .u8 ((UInt8.ofNat (97 + k)).toNat : Int))
    rw [hu8]
  go_enter Tryd.func4, Tryd.ntmps4
  go_upto_region 2 with fail
  obtain ⟨W0, hW0⟩ : ∃ q, q = W.alloc (.cells #[.int .u8 (97 + (k : Int))] 5) := ⟨_, rfl⟩
  rw [← hW0]
  have B0 := Lib.hid (show Below W.heap.size W W0 by rw [hW0]; exact below_new _ _)
  have hns : (nmK k).size ≤ 140737488355328 := Nat.le_of_ble_eq_true rfl
  obtain ⟨nm, hnm⟩ : ∃ q, q = nmK k := ⟨_, rfl⟩
  rw [← hnm] at y1 y2 y3 y4 y5 y6 y7 hns ⊢
  have Y1 := Lib.hid y1
  have Y2 := Lib.hid y2
  have Y3 := Lib.hid y3
  have Y4 := Lib.hid y4
  have Y5 := Lib.hid y5
  have Y6 := Lib.hid y6
  have Y7 := Lib.hid y7
  have HN := Lib.hid hns
  clear hW0 hcv hu8 hk hk26 hnm y1 y2 y3 y4 y5 y6 y7 hns
  go_wp2
  go_loopw [4, 5] (fun v i wr => ∃ (j : Nat) (A : Option Addr) (c : Nat), j ≤ 200 ∧ i = .int .i64 j ∧ v = .slice A j c ∧ Hid (COwn wr W0.heap.size A j c (List.replicate j (call0 nm))) ∧ Hid (Below W0.heap.size W0 wr)) (fun _ i _ => 200 - (intOf i).toNat)
  case atStart => exact ⟨0, none, 0, by omega, rfl, rfl, Lib.hid (gown_nil _ _ _), Lib.hid (Below.refl _ _)⟩
  case round =>
    obtain ⟨j, A, c, hj, rfl, rfl, hown, hbel⟩ := hrel
    by_cases hlt : j < 200
    · have hlt' : (j : Int) < 200 := by omega
      go_upto_region 5 with (at_builtin; refine append_C rfl (.tmp 26) (.tmp 29) rfl W0.heap.size (hown.out.next (below_new wr _)) rfl (ys := [call0 nm]) (k := 1) rfl rfl (cells_lay Ct.cs_len 40 wr [call0 nm]) (by omega) (by have := hbel.out.size; simp; omega) ?_; intro A3 c3 w9 ho hgr; have HO9 := Lib.hid ho; have HB9 := Lib.hid (GOwn.below (hown.out.next (below_new wr _)) (Nat.le_refl _) (hbel.out.trans ((below_new wr _).mono hbel.out.size)) hgr); clear ho hgr)
      go_wp2
      go_roundw
      case rel => exact ⟨j + 1, A3, c3, by omega, by go_num, rfl, Lib.hid (by rw [← rep_app]; exact HO9.out), HB9⟩
      case measure => simp [intOf]; omega
    obtain rfl : j = 200 := by omega
    rw [show ((200 : Nat) : Int) = 200 from rfl]
    have HB1 := Lib.hid (bnext B0.out hbel.out)
    obtain ⟨Wl, hWl⟩ : ∃ q, q = wr := ⟨_, rfl⟩
    subst hWl
    have HL := Lib.hid hown.out
    have HLB := Lib.hid (show ∀ q, Value.ownBlock (.slice A 200 c) = some q → q < Wl.heap.size from fun q hq => (World.ownsRow.lt hown.out q hq).2)
    have HBW := Lib.hid hbel.out.size
    clear hown hbel hlt hj
    go_upto_region 8 with fail
    obtain ⟨Wd0, hWd0⟩ : ∃ q, q = Wl.alloc (.cells #[.string nm, .slice none 0 0] 40) := ⟨_, rfl⟩
    rw [← hWd0]
    have hd0 := call_lay Wl Wl.heap.size 0 (Nat.le_refl _) nm HN.out none 0 [] (grow_none _ _ _ _)
    rw [show Wl.alloc (.cells #[.string nm, .slice none ([] : List Ag).length 0] 40) = Wd0 from hWd0.symm] at hd0
    have HD0 := Lib.hid (show Ch Wd0 Wl.heap.size Wd0.heap.size 1 (some ⟨Wl.heap.size, 0, none⟩) 1 (deepL nm 0) from hd0)
    have BD0 := Lib.hid (show Below Wl.heap.size Wl Wd0 by rw [hWd0]; exact below_new _ _)
    clear hd0 hWd0
    go_wp2
    go_loopw [6, 7] (fun v i wr => ∃ (j g : Nat), j ≤ 9 ∧ i = .int .i64 j ∧ v = .slice (some ⟨g, 0, none⟩) 1 1 ∧ Hid (Ch wr Wl.heap.size wr.heap.size (j + 1) (some ⟨g, 0, none⟩) 1 (deepL nm j)) ∧ Hid (Below Wl.heap.size Wl wr)) (fun _ i _ => 9 - (intOf i).toNat)
    case atStart => exact ⟨0, Wl.heap.size, by omega, rfl, rfl, HD0, BD0⟩
    case round =>
      obtain ⟨j, g, hj, rfl, rfl, hdp, hbd⟩ := hrel
      by_cases hlt : j < 9
      · have hlt' : (j : Int) < 9 := by omega
        go_upto_region 10 with fail
        generalize hV : World.alloc (World.alloc wr _) _ = V
        have hdl := deep_lay wr Wl.heap.size (j + 1) hbd.out.size nm HN.out _ _ _ hdp.out V (by rw [deepL_len]; exact hV)
        have HD1 := Lib.hid (show Ch V Wl.heap.size V.heap.size (j + 1 + 1) (some ⟨wr.heap.size + 1, 0, none⟩) 1 (deepL nm (j + 1)) from hdl.1)
        have HB9 := Lib.hid (bnext hbd.out hdl.2)
        clear hV hdl
        go_wp2
        go_roundw
        case rel => exact ⟨j + 1, wr.heap.size + 1, by omega, by go_num, rfl, HD1, HB9⟩
        case measure => simp [intOf]; omega
      obtain rfl : j = 9 := by omega
      rw [show ((9 : Nat) : Int) = 9 from rfl]
      obtain ⟨Wd, hWd⟩ : ∃ q, q = wr := ⟨_, rfl⟩
      subst hWd
      have HDP := Lib.hid hdp.out
      have HBD := Lib.hid hbd.out
      clear hdp hbd hlt hj HD0 BD0
      go_wp2
      go_loopw [8, 9] (fun v i wr => ∃ (j : Nat) (A : Option Addr) (c : Nat), j ≤ 50 ∧ i = .int .i64 j ∧ v = .slice A j c ∧ Hid (AOwn wr Wd.heap.size A j c (List.replicate j (wordG nm))) ∧ Hid (Below Wd.heap.size Wd wr)) (fun _ i _ => 50 - (intOf i).toNat)
      case atStart => exact ⟨0, none, 0, by omega, rfl, rfl, Lib.hid (gown_nil _ _ _), Lib.hid (Below.refl _ _)⟩
      case round =>
        obtain ⟨j, A2, c2, hj, rfl, rfl, hown, hbel⟩ := hrel
        by_cases hlt : j < 50
        · have hlt' : (j : Int) < 50 := by omega
          go_upto_region 15 with (at_builtin; refine append_A rfl (.tmp 48) (.tmp 51) rfl Wd.heap.size (hown.out.next (below_new wr _)) rfl (ys := [wordG nm]) (k := 1) rfl rfl (cells_lay Gt.cs_len 37 wr [wordG nm]) (by omega) (by have := hbel.out.size; simp; omega) ?_; intro A3 c3 w9 ho hgr; have HO9 := Lib.hid ho; have HB9 := Lib.hid (GOwn.below (hown.out.next (below_new wr _)) (Nat.le_refl _) (hbel.out.trans ((below_new wr _).mono hbel.out.size)) hgr); clear ho hgr)
          go_wp2
          go_roundw
          case rel => exact ⟨j + 1, A3, c3, by omega, by go_num, rfl, Lib.hid (by rw [← rep_app]; exact HO9.out), HB9⟩
          case measure => simp [intOf]; omega
        obtain rfl : j = 50 := by omega
        rw [show ((50 : Nat) : Int) = 50 from rfl]
        obtain ⟨Wa, hWa⟩ : ∃ q, q = wr := ⟨_, rfl⟩
        subst hWa
        have HA := Lib.hid hown.out
        have HBA := Lib.hid hbel.out
        have BA := Lib.hid (bnext HB1.out (bnext HBD.out hbel.out))
        have HLA := Lib.hid (HL.out.next (bnext HBD.out hbel.out))
        have HDA := Lib.hid (HDP.out.imp (Kept.of_below hbel.out (Nat.le_refl _)) (Nat.le_refl _) (Nat.le_refl _) (Nat.le_refl _))
        have HBASZ := Lib.hid hbel.out.size
        clear hown hbel hlt hj HB1 HDP HBA
        have CT : Calls Tryd.prog 10 #[.slice A 200 c] Wa fun e w' => e = .returned (.int .i64 0) ∧ Below Wa.heap.size Wa w' :=
          (tcheck_any Wa (HM.out.next BA.out) 1 A c _ (own_ch Wa _ 200 c A nm HN.out HLA.out (by omega))).mono (fun e w' h => by rw [Y1.out] at h; exact h)
        replace CT := Lib.hid CT
        go_wp2_with fail
        refine CT.out.mono ?_
        rintro e w1 ⟨rfl, hb⟩
        have BA1 := Lib.hid (bnext BA.out hb)
        have HL1 := Lib.hid (HLA.out.next hb)
        have HA1 := Lib.hid (HA.out.next hb)
        have HD1 := Lib.hid (HDA.out.imp (Kept.of_below hb HBASZ.out) (Nat.le_refl _) (Nat.le_refl _) (Nat.le_refl _))
        have SZ1 := Lib.hid (Nat.le_trans HBASZ.out hb.size)
        clear hb CT
        have CT : Calls Tryd.prog 10 #[.slice (some ⟨g, 0, none⟩) 1 1] w1 fun e w' => e = .returned (.int .i64 0) ∧ Below w1.heap.size w1 w' :=
          (tcheck_any w1 (HM.out.next BA1.out) 10 _ 1 (deepL nm 9) (HD1.out.more (Nat.zero_le _) SZ1.out (Nat.le_refl _))).mono (fun e w' h => by rw [Y3.out] at h; exact h)
        replace CT := Lib.hid CT
        go_wp2_with fail
        refine CT.out.mono ?_
        rintro e w2 ⟨rfl, hb⟩
        have BA2 := Lib.hid (bnext BA1.out hb)
        have HL2 := Lib.hid (HL1.out.next hb)
        have HA2 := Lib.hid (HA1.out.next hb)
        have HD2 := Lib.hid (HD1.out.imp (Kept.of_below hb SZ1.out) (Nat.le_refl _) (Nat.le_refl _) (Nat.le_refl _))
        have SZ2 := Lib.hid (Nat.le_trans SZ1.out hb.size)
        clear hb CT
        go_wp2_with fail
        generalize hV : World.alloc w2 _ = V
        have hc := call_lay w2 0 1 (Nat.zero_le _) nm HN.out A2 c2 _ (own_aw w2 _ 50 c2 A2 nm HN.out HA2.out (by omega))
        rw [List.length_replicate, hV] at hc
        have hv := below_new w2 (.cells #[.string nm, .slice A2 50 c2] 40)
        rw [hV] at hv
        have CT : Calls Tryd.prog 10 #[.slice (some ⟨w2.heap.size, 0, none⟩) 1 1] V fun e w' => e = .returned (.int .i64 0) ∧ Below V.heap.size V w' :=
          (tcheck_any V (HM.out.next (bnext BA2.out hv)) 2 _ 1 _ hc).mono (fun e w' h => by rw [Y6.out] at h; exact h)
        refine CT.mono ?_
        rintro e w3 ⟨rfl, hb⟩
        replace hb := bnext hv hb
        have BA3 := Lib.hid (bnext BA2.out hb)
        have HL3 := Lib.hid (HL2.out.next hb)
        have HA3 := Lib.hid (HA2.out.next hb)
        have HD3 := Lib.hid (HD2.out.imp (Kept.of_below hb SZ2.out) (Nat.le_refl _) (Nat.le_refl _) (Nat.le_refl _))
        have SZ3 := Lib.hid (Nat.le_trans SZ2.out hb.size)
        clear hb CT hc hv hV
        have CT : Calls Tryd.prog 9 #[.slice (some ⟨g, 0, none⟩) 1 1] w3 fun e w' => e = .returned (.int .i64 10) ∧ Below w3.heap.size w3 w' :=
          (nest_any w3 10 _ 1 (deepL nm 9) (HD3.out.more (Nat.zero_le _) SZ3.out (Nat.le_refl _))).mono (fun e w' h => by rw [Y4.out] at h; exact h)
        replace CT := Lib.hid CT
        go_wp2_with fail
        refine CT.out.mono ?_
        rintro e w4 ⟨rfl, hb⟩
        have BA4 := Lib.hid (bnext BA3.out hb)
        have HL4 := Lib.hid (HL3.out.next hb)
        have HA4 := Lib.hid (HA3.out.next hb)
        have HD4 := Lib.hid (HD3.out.imp (Kept.of_below hb SZ3.out) (Nat.le_refl _) (Nat.le_refl _) (Nat.le_refl _))
        have SZ4 := Lib.hid (Nat.le_trans SZ3.out hb.size)
        have S0 := Lib.hid (Nat.le_trans HBW.out HBD.out.size)
        clear hb CT
        go_upto_region 22 with (at_builtin; refine append_C rfl (.tmp 64) (.tmp 67) rfl W0.heap.size (HL4.out.next (below_new w4 _)) rfl (ys := [call0 nm]) (k := 1) rfl rfl (cells_lay Ct.cs_len 40 w4 [call0 nm]) (by omega) (by have h1 := S0.out; have h2 := SZ4.out; simp; omega) ?_; intro A4 c4 w5 ho hgr; have HL5 := Lib.hid ho; have BA5 := Lib.hid (GOwn.below (HL4.out.next (below_new w4 _)) B0.out.size (bnext BA4.out (below_new w4 _)) hgr); have HA5 := Lib.hid (AOwn.keptC (HA4.out.next (below_new w4 _)) (HL4.out.next (below_new w4 _)) hgr); have HD5 := Lib.hid ((HD4.out.imp (Kept.of_below (below_new w4 _) SZ4.out) (Nat.le_refl _) (Nat.le_refl _) (Nat.le_refl _)).imp (Kept.less (GOwn.keeps (HL4.out.next (below_new w4 _)) HLB.out hgr) (Nat.le_trans SZ4.out (below_new w4 _).size)) (Nat.le_refl _) (Nat.le_refl _) (Nat.le_refl _)); have SZ5 := Lib.hid (Nat.le_trans SZ4.out (Nat.le_trans (below_new w4 _).size hgr.size)); clear ho hgr)
        go_upto_region 23 with (at_builtin; refine append_A rfl (.tmp 69) (.tmp 72) rfl Wd.heap.size (HA5.out.next (below_new w5 _)) rfl (ys := [wordG nm]) (k := 1) rfl rfl (cells_lay Gt.cs_len 37 w5 [wordG nm]) (by omega) (by have h2 := SZ5.out; simp; omega) ?_; intro A5 c5 w6 ho hgr; have HA6 := Lib.hid ho; have BA6 := Lib.hid (GOwn.below (HA5.out.next (below_new w5 _)) (Nat.le_trans B0.out.size S0.out) (bnext BA5.out (below_new w5 _)) hgr); have HL6 := Lib.hid (COwn.keptA (HL5.out.next (below_new w5 _)) (HA5.out.next (below_new w5 _)) hgr); have HD6 := Lib.hid ((HD5.out.imp (Kept.of_below (below_new w5 _) SZ5.out) (Nat.le_refl _) (Nat.le_refl _) (Nat.le_refl _)).imp (GOwn.low (HA5.out.next (below_new w5 _)) (Nat.le_refl _) (Nat.le_trans SZ5.out (below_new w5 _).size) hgr) (Nat.le_refl _) (Nat.le_refl _) (Nat.le_refl _)); have SZ6 := Lib.hid (Nat.le_trans SZ5.out (Nat.le_trans (below_new w5 _).size hgr.size)); clear ho hgr)
        replace HL6 := Lib.hid (show COwn w6 W0.heap.size A4 201 c4 (List.replicate 201 (call0 nm)) by rw [← rep_app]; exact HL6.out)
        replace HA6 := Lib.hid (show AOwn w6 Wd.heap.size A5 51 c5 (List.replicate 51 (wordG nm)) by rw [← rep_app]; exact HA6.out)
        have CT : Calls Tryd.prog 10 #[.slice A4 201 c4] w6 fun e w' => e = .returned (.int .i64 2) ∧ Below w6.heap.size w6 w' :=
          (tcheck_any w6 (HM.out.next BA6.out) 1 A4 c4 _ (own_ch w6 _ 201 c4 A4 nm HN.out HL6.out (by omega))).mono (fun e w' h => by rw [Y2.out] at h; exact h)
        replace CT := Lib.hid CT
        go_wp2_with fail
        refine CT.out.mono ?_
        rintro e w7 ⟨rfl, hb⟩
        have BA7 := Lib.hid (bnext BA6.out hb)
        have HA7 := Lib.hid (HA6.out.next hb)
        have HD7 := Lib.hid (HD6.out.imp (Kept.of_below hb SZ6.out) (Nat.le_refl _) (Nat.le_refl _) (Nat.le_refl _))
        have SZ7 := Lib.hid (Nat.le_trans SZ6.out hb.size)
        clear hb CT
        go_wp2_with fail
        generalize hV : World.alloc (World.alloc w7 _) _ = V
        have hdl := deep_lay w7 0 10 (Nat.zero_le _) nm HN.out _ _ _ (HD7.out.more (Nat.zero_le _) SZ7.out (Nat.le_refl _)) V (by rw [deepL_len]; exact hV)
        have CT : Calls Tryd.prog 10 #[.slice (some ⟨w7.heap.size + 1, 0, none⟩) 1 1] V fun e w' => e = .returned (.int .i64 2) ∧ Below V.heap.size V w' :=
          (tcheck_any V (HM.out.next (bnext BA7.out hdl.2)) 11 _ 1 (deepL nm 10) hdl.1).mono (fun e w' h => by rw [Y5.out] at h; exact h)
        refine CT.mono ?_
        rintro e w8 ⟨rfl, hb⟩
        replace hb := bnext hdl.2 hb
        have BA8 := Lib.hid (bnext BA7.out hb)
        have HA8 := Lib.hid (HA7.out.next hb)
        clear hb CT hdl hV
        go_wp2_with fail
        generalize hV : World.alloc w8 _ = V2
        have hc := call_lay w8 0 1 (Nat.zero_le _) nm HN.out A5 c5 _ (own_aw w8 _ 51 c5 A5 nm HN.out HA8.out (by omega))
        rw [List.length_replicate, hV] at hc
        have hv := below_new w8 (.cells #[.string nm, .slice A5 51 c5] 40)
        rw [hV] at hv
        have CT : Calls Tryd.prog 10 #[.slice (some ⟨w8.heap.size, 0, none⟩) 1 1] V2 fun e w' => e = .returned (.int .i64 2) ∧ Below V2.heap.size V2 w' :=
          (tcheck_any V2 (HM.out.next (bnext BA8.out hv)) 2 _ 1 _ hc).mono (fun e w' h => by rw [Y7.out] at h; exact h)
        refine CT.mono ?_
        rintro e w9 ⟨rfl, hb⟩
        have BA9 := Lib.hid (bnext BA8.out (bnext hv hb))
        clear hb CT hc hv hV
        have CT := Lib.hid (known_any w9 (HM.out.next BA9.out))
        go_wp2_with fail
        refine CT.out.mono ?_
        rintro e w10 ⟨rfl, hb⟩
        have BA10 := Lib.hid (bnext BA9.out hb)
        clear hb CT
        go_wp2
        go_ret
        exact ⟨rfl, BA10.out⟩
end Go.Proofs.YtiiopbcihieblaaDoor
