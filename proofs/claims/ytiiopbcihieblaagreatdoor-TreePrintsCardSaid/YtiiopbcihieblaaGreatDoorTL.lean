/- Carried over from an earlier seat. -/
import Derived.Test.YtiiopbcihieblaaGreatDoorTH
import Derived.Test.YtiiopbcihieblaaGreatDoorPF
import Derived.Test.YtiiopbcihieblaaGreatDoorZV
import Derived.IntWalk
namespace Go.Proofs.YtiiopbcihieblaaGreatDoor
set_option maxRecDepth 100000
set_option maxRecDepth 100000
open Go.RowKit Go.Sort

/-- A block of so many cells. -/
def GBlk (T : TypeId) (w : World) (g m : Nat) : Prop := ∃ cs : Array Value, w.heap[g]? = some (.cells cs T (0, 0)) ∧ cs.size = m
section
variable {T : TypeId}
theorem GBlk.lt {w : World} {g m : Nat} (h : GBlk T w g m) : g < w.heap.size := by
  obtain ⟨cs, h, _⟩ := h
  exact (Array.getElem?_eq_some_iff.1 h).1
theorem GBlk.cell {w : World} {g m : Nat} (h : GBlk T w g m) {i : Nat} (hi : i < m) : ∃ v, w.cell? ⟨g, i, none⟩ = some v := by
  obtain ⟨cs, h, hs⟩ := h
  exact ⟨cs[i], by rw [cell_of_row w g i cs T (0, 0) h]; exact Array.getElem?_eq_getElem (by omega)⟩
theorem GBlk.frozen {w : World} {g m : Nat} (h : GBlk T w g m) (i : Nat) : w.frozen? ⟨g, i, none⟩ = false := by
  obtain ⟨cs, h, _⟩ := h
  simp [World.frozen?, h]
theorem GBlk.kept {w w' : World} {g m : Nat} (h : GBlk T w g m) (hk : w'.heap[g]? = w.heap[g]?) : GBlk T w' g m := by
  obtain ⟨cs, h, hs⟩ := h
  exact ⟨cs, hk.trans h, hs⟩
theorem GBlk.next {w w' : World} {g m : Nat} (h : GBlk T w g m) (hb : Below w.heap.size w w') : GBlk T w' g m := h.kept (hb.block g h.lt)
/-- These cells written, one behind the other. -/
def putL (g o : Nat) : World → Nat → List Value → World
  | w, _, [] => w
  | w, i, v :: vs => putL g o (w.setCell ⟨g, o + i, none⟩ v) (i + 1) vs
theorem putL_size (g o : Nat) : ∀ (vs : List Value) (w : World) (i : Nat), (putL g o w i vs).heap.size = w.heap.size
  | [], _, _ => rfl
  | v :: vs, w, i => (putL_size g o vs _ _).trans (by simp [World.setCell])
theorem putL_far (g o : Nat) {k : Nat} (hk : k ≠ g) : ∀ (vs : List Value) (w : World) (i : Nat), (putL g o w i vs).heap[k]? = w.heap[k]?
  | [], _, _ => rfl
  | _v :: vs, _w, _i => (putL_far g o hk vs _ _).trans (Below.heap_setCell _ _ _ _ hk)
theorem putL_below {g o B : Nat} {w0 : World} (hg : B ≤ g) : ∀ (vs : List Value) (w : World) (i : Nat), Below B w0 w → Below B w0 (putL g o w i vs)
  | [], _, _, h => h
  | v :: vs, _w, i, h => putL_below hg vs _ _ (h.setCell (p := ⟨g, o + i, none⟩) hg v)
theorem putL_heap (g o : Nat) : ∀ (vs : List Value) (w : World) (i : Nat) (cs : Array Value), w.heap[g]? = some (.cells cs T (0, 0)) →
    ∃ cs' : Array Value, (putL g o w i vs).heap[g]? = some (.cells cs' T (0, 0)) ∧ cs'.size = cs.size ∧ (∀ j, j < o + i ∨ o + i + vs.length ≤ j → cs'[j]? = cs[j]?) ∧ (o + i + vs.length ≤ cs.size → ∀ k v, vs[k]? = some v → cs'[o + i + k]? = some v)
  | [], w, i, cs, h => ⟨cs, h, rfl, fun _ _ => rfl, fun _ k v hv => by simp at hv⟩
  | v :: vs, w, i, cs, h => by
    have h1 : (w.setCell ⟨g, o + i, none⟩ v).heap[g]? = some (.cells (cs.setIfInBounds (o + i) v) T (0, 0)) := by simp [World.setCell, Array.getElem?_modify, h]
    obtain ⟨cs', a, b, c, d⟩ := putL_heap g o vs _ (i + 1) _ h1
    refine ⟨cs', a, by rw [b]; simp, fun j hj => ?_, fun hl k u hu => ?_⟩
    · simp only [List.length_cons] at hj
      rw [c j (by omega), Array.getElem?_setIfInBounds_ne (by omega)]
    · simp only [List.length_cons] at hl
      cases k with
      | zero =>
        have hu' : v = u := by simpa using hu
        subst hu'
        show cs'[o + i + 0]? = some v
        rw [Nat.add_zero, c (o + i) (by omega)]
        simp [Array.getElem?_setIfInBounds]
        omega
      | succ k =>
        have := d (by rw [Array.size_setIfInBounds]; omega) k u (by simpa using hu)
        rwa [show o + (i + 1) + k = o + i + (k + 1) by omega] at this
theorem GBlk.put {w : World} {g m o : Nat} (h : GBlk T w g m) (vs : List Value) : GBlk T (putL g o w 0 vs) g m := by
  obtain ⟨cs, h, hs⟩ := h
  obtain ⟨cs', a, b, _⟩ := putL_heap g o vs w 0 cs h
  exact ⟨cs', a, b.trans hs⟩
theorem GBlk.put_at {w : World} {g m o : Nat} (h : GBlk T w g m) (vs : List Value) (ho : o + vs.length ≤ m) : Cs (putL g o w 0 vs) g o vs := by
  obtain ⟨cs, h, hs⟩ := h
  obtain ⟨cs', a, _, _, d⟩ := putL_heap g o vs w 0 cs h
  intro i v hi
  rw [cell_of_row _ _ _ _ _ _ a]
  exact d (by omega) i v hi
theorem GBlk.put_off {w : World} {g m o : Nat} (h : GBlk T w g m) (vs : List Value) (j : Nat) (hj : j < o ∨ o + vs.length ≤ j) : (putL g o w 0 vs).cell? ⟨g, j, none⟩ = w.cell? ⟨g, j, none⟩ := by
  obtain ⟨cs, h, hs⟩ := h
  obtain ⟨cs', a, _, c, _⟩ := putL_heap g o vs w 0 cs h
  rw [cell_of_row _ _ _ _ _ _ a, cell_of_row _ _ _ _ _ _ h]
  exact c j (by omega)
/-- So far as a row is filled, in a block of its own. -/
structure GFill {X τ : Type} (tr : X → τ) (cs : X → List Value) (n : Nat) (T : TypeId) (R : World → Nat → Nat → X → Prop) (w : World) (g N : Nat) (done : List τ) : Prop where
  blk : GBlk T w g (N * n)
  el : ∀ j t, done[j]? = some t → ∃ x, tr x = t ∧ Cs w g (j * n) (cs x) ∧ R w (g + 1) w.heap.size x
/-- What stays while the memory that it speaks of stays. -/
def Mono {X : Type} (R : World → Nat → Nat → X → Prop) : Prop := ∀ (w w' : World) (lo B lo' B' : Nat) (x : X), Kept lo B w w' → lo' ≤ lo → B ≤ B' → R w lo B x → R w' lo' B' x
variable {X τ : Type} {tr : X → τ} {cs : X → List Value} {n : Nat} {R : World → Nat → Nat → X → Prop}
theorem GFill.next (hR : Mono R) {w w' : World} {g N : Nat} {done : List τ} (h : GFill tr cs n T R w g N done) (hb : Below w.heap.size w w') : GFill tr cs n T R w' g N done :=
  ⟨h.blk.next hb, fun j t hj => by
    obtain ⟨x, a, b, c⟩ := h.el j t hj
    exact ⟨x, a, b.keep (lo := 0) (Kept.of_below hb (Nat.le_refl _)) (Nat.zero_le _) h.blk.lt, hR _ _ _ _ _ _ _ (Kept.of_below hb (Nat.le_refl _)) (Nat.le_refl _) hb.size c⟩⟩
theorem GFill.put (hR : Mono R) (hn : ∀ x, (cs x).length = n) {w : World} {g N : Nat} {done : List τ} (h : GFill tr cs n T R w g N done) (k : Nat) (hk : done.length = k) (hkn : k < N) {x : X} (rd : R w (g + 1) w.heap.size x) :
    GFill tr cs n T R (putL g (k * n) w 0 (cs x)) g N (done ++ [tr x]) := by
  have hkept : Kept (g + 1) w.heap.size w (putL g (k * n) w 0 (cs x)) := fun i h1 _ => putL_far _ _ (by omega) _ _ _
  have hmul : ∀ a b : Nat, a < b → a * n + n ≤ b * n := fun a b hab => by
    have := Nat.mul_le_mul_right n (Nat.succ_le_of_lt hab)
    rwa [Nat.succ_mul] at this
  refine ⟨h.blk.put _, fun j u hj => ?_⟩
  rw [putL_size]
  by_cases e : j = k
  · subst e
    rw [List.getElem?_append_right (by omega), hk, Nat.sub_self] at hj
    simp at hj
    subst hj
    exact ⟨x, rfl, h.blk.put_at _ (by rw [hn]; exact hmul _ _ hkn), hR _ _ _ _ _ _ _ hkept (Nat.le_refl _) (Nat.le_refl _) rd⟩
  · have hjd : j < done.length := by
      rcases Nat.lt_or_ge j (done ++ [tr x]).length with h1 | h1
      · simp at h1; omega
      · rw [List.getElem?_eq_none h1] at hj; cases hj
    rw [List.getElem?_append_left hjd] at hj
    obtain ⟨y, a, b, c⟩ := h.el j u hj
    refine ⟨y, a, fun i v hi => ?_, hR _ _ _ _ _ _ _ hkept (Nat.le_refl _) (Nat.le_refl _) c⟩
    have hin : i < n := by have := (List.getElem?_eq_some_iff.1 hi).1; rw [hn] at this; exact this
    have h1 := hmul j k (by omega)
    rw [GBlk.put_off h.blk _ _ (.inl (by omega))]
    exact b i v hi
/-- What a maker of rows hands on: a row in new memory, without room. -/
def GNew {X τ : Type} (tr : X → τ) (cs : X → List Value) (n : Nat) (T : TypeId) (R : World → Nat → Nat → X → Prop) (w : World) (l : List τ) (e : Ending) (w' : World) : Prop :=
  ∃ A, e = .returned (.slice A l.length l.length) ∧ Below w.heap.size w w' ∧ (l.length = 0 → A = none) ∧ (0 < l.length → ∃ g, A = some ⟨g, 0, none⟩ ∧ w.heap.size ≤ g ∧ GFill tr cs n T R w' g l.length l)
theorem GFill.row {M : Nat} {R' : X → Prop} {w : World} {g lo : Nat} {l : List τ} (h : GFill tr cs n T R w g l.length l) (hlo : lo ≤ g) (hM : l.length ≤ M) (hM' : l.length ≤ maxLen) (hR : ∀ x, R w (g + 1) w.heap.size x → R' x) :
    GRow tr cs n M w lo w.heap.size R' (some ⟨g, 0, none⟩) l.length l :=
  ⟨Nat.le_refl _, hM', hM, (fun e => by cases e), fun _ => ⟨g, 0, rfl, hlo, h.blk.lt, fun j t hj => by
    obtain ⟨x, a, b, c⟩ := h.el j t hj
    exact ⟨x, a, by rw [Nat.zero_add]; exact b, hR _ c⟩⟩⟩
end

def RA (D : Nat) (w : World) (lo B : Nat) (y : Gt) : Prop := GOk w lo B (Ch w lo B D) y
/-- A call whose row has no room. -/
def RC (D : Nat) (w : World) (lo B : Nat) (y : Ct) : Prop := COk w lo B (Ch w lo B D) y ∧ y.c = y.l.length
theorem RA.mono (D : Nat) : Mono (RA D) := fun _ _ _ _ _ _ _ hk h1 h2 h => GOk.imp hk h1 h2 (fun _ _ _ => Ch.imp hk h1 h2 (Nat.le_refl _)) h
theorem RC.mono (D : Nat) : Mono (RC D) := fun _ _ _ _ _ _ _ hk h1 h2 h => ⟨COk.imp hk h1 h2 (fun _ _ _ => Ch.imp hk h1 h2 (Nat.le_refl _)) h.1, h.2⟩
theorem Gt.cs_len (g : Gt) : g.cs.length = 11 := rfl
theorem Ct.cs_len (x : Ct) : x.cs.length = 2 := rfl
abbrev NewAs (w : World) (D : Nat) (l : List Ag) (e : Ending) (w' : World) : Prop := GNew Gt.t Gt.cs 11 44 (RA D) w l e w'
abbrev NewCs (w : World) (D : Nat) (l : List C) (e : Ending) (w' : World) : Prop := GNew Ct.t Ct.cs 2 36 (RC D) w l e w'
def NewG (w : World) (D : Nat) (t : Ag) (e : Ending) (w' : World) : Prop := ∃ y : Gt, y.t = t ∧ e = .returned y.val ∧ RA D w' w.heap.size w'.heap.size y ∧ Below w.heap.size w w'
def NewK (w : World) (D : Nat) (t : C) (e : Ending) (w' : World) : Prop := ∃ y : Ct, y.t = t ∧ e = .returned y.val ∧ RC D w' w.heap.size w'.heap.size y ∧ Below w.heap.size w w'
/-- The row that was made, as a row of calls. -/
theorem NewCs.ch {w w' : World} {D : Nat} {l : List C} {A : Option Addr} (h : GNew Ct.t Ct.cs 2 36 (RC D) w l (.returned (.slice A l.length l.length)) w') (hl : l.length ≤ 3518437208780) : Ch w' w.heap.size w'.heap.size (D + 1) A l.length l := by
  obtain ⟨A', e, hb, h0, h1⟩ := h
  injection e with e
  injection e with e
  subst e
  by_cases hz : l.length = 0
  · obtain rfl := List.eq_nil_of_length_eq_zero hz
    rw [h0 hz]
    exact ch_none _ _ _ _
  · obtain ⟨g, rfl, hg, hf⟩ := h1 (by omega)
    exact hf.row hg hl (by unfold maxLen; omega) (fun x hx => COk.imp (Kept.refl _ _ _) (by omega) (Nat.le_refl _) (fun _ _ _ => Ch.imp (Kept.refl _ _ _) (by omega) (Nat.le_refl _) (Nat.le_refl _)) hx.1)
theorem NewAs.aw {w w' : World} {D : Nat} {l : List Ag} {A : Option Addr} (h : GNew Gt.t Gt.cs 11 44 (RA D) w l (.returned (.slice A l.length l.length)) w') (hl : l.length ≤ 764877654082) : GRowA w' w.heap.size w'.heap.size (RA D w' w.heap.size w'.heap.size) A l.length l := by
  obtain ⟨A', e, hb, h0, h1⟩ := h
  injection e with e
  injection e with e
  subst e
  by_cases hz : l.length = 0
  · obtain rfl := List.eq_nil_of_length_eq_zero hz
    rw [h0 hz]
    exact grow_none _ _ _ _
  · obtain ⟨g, rfl, hg, hf⟩ := h1 (by omega)
    exact hf.row hg hl (by unfold maxLen; omega) (fun x hx => RA.mono D _ _ _ _ _ _ _ (Kept.refl _ _ _) (by omega) (Nat.le_refl _) hx)

/-- A call, located, as it is handed on. -/
def Ct.InT (x : Ct) (w : World) (d : Nat) : Prop := x.n.size ≤ 140737488355328 ∧ Aw w d x.A x.c x.l
theorem Ct.InT.next {x : Ct} {a b : World} {d : Nat} (h : x.InT a d) (hb : Below a.heap.size a b) : x.InT b d := ⟨h.1, h.2.next hb⟩
/-- A function value that makes f of an argument, of a call. -/
def MakesA (F : Nat) (caps : Array Value) (w : World) (d : Nat) (f : Ag → Ag) (D : Nat) : Prop :=
  ∀ (W : World) (x : Gt), Below w.heap.size w W → x.In W d → Calls Tryz.prog F (#[x.val] ++ caps) W (NewG W D (f x.t))
def MakesC (F : Nat) (caps : Array Value) (w : World) (d : Nat) (f : C → C) (D : Nat) : Prop :=
  ∀ (W : World) (x : Ct), Below w.heap.size w W → x.InT W d → Calls Tryz.prog F (#[x.val] ++ caps) W (NewK W D (f x.t))
theorem info44 : (Tryz.prog.info? 44).map (fun i => (i.zero, i.size, i.bytes)) = some (some (.agg #[.int .i64 0, .int .i64 0, .int .i64 0, .string ⟨#[]⟩, .slice none 0 0, .slice none 0 0, .int .i64 0, .slice none 0 0, .slice none 0 0, .slice none 0 0, .string ⟨#[]⟩]), 11, 184) := by kernel_rfl
def zrow44 (n : Nat) : Array Value := madeCells #[.int .i64 0, .int .i64 0, .int .i64 0, .string ⟨#[]⟩, .slice none 0 0, .slice none 0 0, .int .i64 0, .slice none 0 0, .slice none 0 0, .slice none 0 0, .string ⟨#[]⟩] (n * 11)
theorem make44 (n : Nat) (hn : n ≤ 764877654082) (W : World) : (Instr.makeSlice 34 (.int .i64 (n : Int)) (.int .i64 (n : Int))).run Tryz.prog W = .ok (.slice (some ⟨W.heap.size, 0, none⟩) n n) (W.alloc (.cells (zrow44 n) 44)) := by
  obtain ⟨i0, hi, hz0, hz1, hz2⟩ := info_parts info44
  have := run_make (P := Tryz.prog) W 34 44 i0 _ Tryz.underlying34 hi hz0 .i64 .i64 (n : Int) (n : Int) (by omega) (Int.le_refl _) (by rw [hz2]; omega) (by omega)
  rw [this, hz1]; rfl
theorem blk44_made (w : World) (n : Nat) : GBlk 44 (w.alloc (.cells (zrow44 n) 44)) w.heap.size (n * 11) := ⟨zrow44 n, heap_alloc_new w _, size_madeCells _ _⟩
set_option maxHeartbeats 6400000 in
theorem eachA_any (F : Nat) (hE : Enters F) (caps : Array Value) (f : Ag → Ag) (D : Nat) (w : World) (d : Nat) (hcl : MakesA F caps w d f D) (A : Option Addr) (c : Nat) (l : List Ag) (h : Aw w d A c l) :
    Calls Tryz.prog 56 #[.slice A l.length c, .func (.func F) #[] caps] w (NewAs w D (l.map f)) := by
  have HC := Lib.hid hcl
  have H := Lib.hid h
  have hbig := h.big
  have hmk := make44 l.length hbig
  clear h hcl
  by_cases h0 : l.length = 0
  · have e0 : ((l.length : Int) == 0) = true := by rw [h0]; rfl
    obtain rfl : l = [] := List.eq_nil_of_length_eq_zero h0
    clear hmk
    go_enter Tryz.func56, Tryz.ntmps56
    go_wp2
    go_ret
    exact ⟨none, rfl, Below.refl _ _, fun _ => rfl, fun h => absurd h (by simp)⟩
  · have e0 : ((l.length : Int) == 0) = false := beq_eq_false_iff_ne.2 (by omega)
    go_enter Tryz.func56, Tryz.ntmps56
    go_wp2
    have hb0 := blk44_made w l.length
    generalize hX : World.alloc w _ = X at hb0
    have hBX : Below w.heap.size w X := by rw [← hX]; exact below_new _ _
    have hS : X.heap.size = w.heap.size + 1 := by rw [← hX]; simp
    have F0 := Lib.hid (show GFill Gt.t Gt.cs 11 44 (RA D) X w.heap.size l.length [] from ⟨hb0, fun j t h => by simp at h⟩)
    have BX := Lib.hid hBX
    have SX := Lib.hid hS
    clear hb0 hBX hS hX
    go_loopw [16] (fun i wr => ∃ k : Nat, k ≤ l.length ∧ i = .int .i64 k ∧ Hid (Below w.heap.size w wr) ∧ Hid (w.heap.size + 1 ≤ wr.heap.size) ∧ Hid (GFill Gt.t Gt.cs 11 44 (RA D) wr w.heap.size l.length ((l.take k).map f))) (fun i _ => l.length - (intOf i).toNat)
    case atStart => exact ⟨0, by omega, rfl, BX, Lib.hid (by rw [SX.out]; omega), by simpa using F0⟩
    case round =>
      obtain ⟨k, hk, rfl, hbel, hsz, hF⟩ := hrel
      by_cases hlt : k < l.length
      · obtain ⟨b, off, x, rfl, hb, hx, q, rx⟩ := (H.out.next hbel.out).elem hlt
        obtain ⟨p0, p1, p2, p3, p4, p5, p6, p7, p8, p9, p10⟩ := q
        have RX := Lib.hid rx
        have HX := Lib.hid hx
        clear rx hx
        go_wp2_with fail
        rw [hE, Oper.upon_enter]
        refine (HC.out _ x (hbel.out.trans ((below_new _ _).mono hbel.out.size)) (RX.out.next (below_new _ _))).mono ?_
        rintro e1 w1 ⟨y, hy, rfl, rd, hb1⟩
        have HY := Lib.hid hy
        have hB1 : Below wr.heap.size wr w1 := bnext (below_new _ _) hb1
        have hbk := (hF.out.blk).next hB1
        obtain ⟨v0, f0⟩ := hbk.cell (i := k * 11) (by omega)
        obtain ⟨v1, f1⟩ := hbk.cell (i := k * 11 + 1) (by omega)
        obtain ⟨v2, f2⟩ := hbk.cell (i := k * 11 + 2) (by omega)
        obtain ⟨v3, f3⟩ := hbk.cell (i := k * 11 + 3) (by omega)
        obtain ⟨v4, f4⟩ := hbk.cell (i := k * 11 + 4) (by omega)
        obtain ⟨v5, f5⟩ := hbk.cell (i := k * 11 + 5) (by omega)
        obtain ⟨v6, f6⟩ := hbk.cell (i := k * 11 + 6) (by omega)
        obtain ⟨v7, f7⟩ := hbk.cell (i := k * 11 + 7) (by omega)
        obtain ⟨v8, f8⟩ := hbk.cell (i := k * 11 + 8) (by omega)
        obtain ⟨v9, f9⟩ := hbk.cell (i := k * 11 + 9) (by omega)
        obtain ⟨v10, f10⟩ := hbk.cell (i := k * 11 + 10) (by omega)
        have z0 := hbk.frozen (k * 11)
        have z1 := hbk.frozen (k * 11 + 1)
        have z2 := hbk.frozen (k * 11 + 2)
        have z3 := hbk.frozen (k * 11 + 3)
        have z4 := hbk.frozen (k * 11 + 4)
        have z5 := hbk.frozen (k * 11 + 5)
        have z6 := hbk.frozen (k * 11 + 6)
        have z7 := hbk.frozen (k * 11 + 7)
        have z8 := hbk.frozen (k * 11 + 8)
        have z9 := hbk.frozen (k * 11 + 9)
        have z10 := hbk.frozen (k * 11 + 10)
        have RD := Lib.hid rd
        have HB := Lib.hid hb1
        have HB1 := Lib.hid hB1
        clear rd hb1 hB1 hbk hy p0 p1 p2 p3 p4 p5 p6 p7 p8 p9 p10
        unfold Gt.val
        go_wp2
        have hgw : w.heap.size < wr.heap.size := by have := hsz.out; omega
        have FP := Lib.hid (GFill.put (RA.mono D) Gt.cs_len (GFill.next (RA.mono D) hF.out HB1.out) k (by simp; omega) hlt (x := y) (RA.mono D _ _ _ _ _ _ _ (Kept.refl _ _ _) (by have := hsz.out; simp; omega) (Nat.le_refl _) RD.out))
        rw [HY.out, ← take_map_next f l k HX.out] at FP
        have BW := Lib.hid (show Below w.heap.size w w1 from hbel.out.trans (HB1.out.mono (by omega)))
        have BP := Lib.hid (putL_below (o := k * 11) (Nat.le_refl _) y.cs w1 0 BW.out)
        have SP := Lib.hid (show w.heap.size + 1 ≤ (putL w.heap.size (k * 11) w1 0 y.cs).heap.size by rw [putL_size]; have := HB1.out.size; have := hsz.out; omega)
        go_roundw
        case rel => exact ⟨k + 1, by omega, by go_num, BP, SP, FP⟩
        case measure => simp [intOf]; omega
      · obtain rfl : k = l.length := by omega
        rw [List.take_length] at hF
        have L1 := Lib.hid (show (l.map f).length = l.length by simp)
        go_wp2
        go_ret
        exact ⟨some ⟨w.heap.size, 0, none⟩, by rw [L1.out]; rfl, hbel.out, fun h => absurd h (by rw [L1.out]; omega), fun _ => ⟨_, rfl, Nat.le_refl _, by rw [L1.out]; exact hF.out⟩⟩
theorem info36 : (Tryz.prog.info? 36).map (fun i => (i.zero, i.size, i.bytes)) = some (some (.agg #[.string ⟨#[]⟩, .slice none 0 0]), 2, 40) := by kernel_rfl
def zrow36 (n : Nat) : Array Value := madeCells #[.string ⟨#[]⟩, .slice none 0 0] (n * 2)
theorem make36 (n : Nat) (hn : n ≤ 3518437208780) (W : World) : (Instr.makeSlice 22 (.int .i64 (n : Int)) (.int .i64 (n : Int))).run Tryz.prog W = .ok (.slice (some ⟨W.heap.size, 0, none⟩) n n) (W.alloc (.cells (zrow36 n) 36)) := by
  obtain ⟨i0, hi, hz0, hz1, hz2⟩ := info_parts info36
  have := run_make (P := Tryz.prog) W 22 36 i0 _ Tryz.underlying22 hi hz0 .i64 .i64 (n : Int) (n : Int) (by omega) (Int.le_refl _) (by rw [hz2]; omega) (by omega)
  rw [this, hz1]; rfl
theorem blk36_made (w : World) (n : Nat) : GBlk 36 (w.alloc (.cells (zrow36 n) 36)) w.heap.size (n * 2) := ⟨zrow36 n, heap_alloc_new w _, size_madeCells _ _⟩
set_option maxHeartbeats 6400000 in
theorem eachC_any (F : Nat) (hE : Enters F) (caps : Array Value) (f : C → C) (D : Nat) (w : World) (d : Nat) (hcl : MakesC F caps w d f D) (A : Option Addr) (c : Nat) (l : List C) (h : Ch w 0 w.heap.size (d + 1) A c l) :
    Calls Tryz.prog 57 #[.slice A l.length c, .func (.func F) #[] caps] w (NewCs w D (l.map f)) := by
  have HC := Lib.hid hcl
  have H := Lib.hid h
  have hbig := h.big
  have hmk := make36 l.length hbig
  clear h hcl
  by_cases h0 : l.length = 0
  · have e0 : ((l.length : Int) == 0) = true := by rw [h0]; rfl
    obtain rfl : l = [] := List.eq_nil_of_length_eq_zero h0
    clear hmk
    go_enter Tryz.func57, Tryz.ntmps57
    go_wp2
    go_ret
    exact ⟨none, rfl, Below.refl _ _, fun _ => rfl, fun h => absurd h (by simp)⟩
  · have e0 : ((l.length : Int) == 0) = false := beq_eq_false_iff_ne.2 (by omega)
    go_enter Tryz.func57, Tryz.ntmps57
    go_wp2
    have hb0 := blk36_made w l.length
    generalize hX : World.alloc w _ = X at hb0
    have hBX : Below w.heap.size w X := by rw [← hX]; exact below_new _ _
    have hS : X.heap.size = w.heap.size + 1 := by rw [← hX]; simp
    have F0 := Lib.hid (show GFill Ct.t Ct.cs 2 36 (RC D) X w.heap.size l.length [] from ⟨hb0, fun j t h => by simp at h⟩)
    have BX := Lib.hid hBX
    have SX := Lib.hid hS
    clear hb0 hBX hS hX
    go_loopw [16] (fun i wr => ∃ k : Nat, k ≤ l.length ∧ i = .int .i64 k ∧ Hid (Below w.heap.size w wr) ∧ Hid (w.heap.size + 1 ≤ wr.heap.size) ∧ Hid (GFill Ct.t Ct.cs 2 36 (RC D) wr w.heap.size l.length ((l.take k).map f))) (fun i _ => l.length - (intOf i).toNat)
    case atStart => exact ⟨0, by omega, rfl, BX, Lib.hid (by rw [SX.out]; omega), by simpa using F0⟩
    case round =>
      obtain ⟨k, hk, rfl, hbel, hsz, hF⟩ := hrel
      by_cases hlt : k < l.length
      · obtain ⟨b, off, x, d', hd, rfl, hb, hx, q, hn, ra⟩ := (H.out.next hbel.out).elem hlt
        obtain rfl : d = d' := by omega
        obtain ⟨p0, p1⟩ := q
        have RX := Lib.hid (show x.InT wr d from ⟨hn, ra⟩)
        have HX := Lib.hid hx
        clear ra hx hd hn
        go_wp2_with fail
        rw [hE, Oper.upon_enter]
        refine (HC.out _ x (hbel.out.trans ((below_new _ _).mono hbel.out.size)) (RX.out.next (below_new _ _))).mono ?_
        rintro e1 w1 ⟨y, hy, rfl, rd, hb1⟩
        have HY := Lib.hid hy
        have hB1 : Below wr.heap.size wr w1 := bnext (below_new _ _) hb1
        have hbk := (hF.out.blk).next hB1
        obtain ⟨v0, f0⟩ := hbk.cell (i := k * 2) (by omega)
        obtain ⟨v1, f1⟩ := hbk.cell (i := k * 2 + 1) (by omega)
        have z0 := hbk.frozen (k * 2)
        have z1 := hbk.frozen (k * 2 + 1)
        have RD := Lib.hid rd
        have HB := Lib.hid hb1
        have HB1 := Lib.hid hB1
        clear rd hb1 hB1 hbk hy p0 p1
        unfold Ct.val
        go_wp2
        have hgw : w.heap.size < wr.heap.size := by have := hsz.out; omega
        have FP := Lib.hid (GFill.put (RC.mono D) Ct.cs_len (GFill.next (RC.mono D) hF.out HB1.out) k (by simp; omega) hlt (x := y) (RC.mono D _ _ _ _ _ _ _ (Kept.refl _ _ _) (by have := hsz.out; simp; omega) (Nat.le_refl _) RD.out))
        rw [HY.out, ← take_map_next f l k HX.out] at FP
        have BW := Lib.hid (show Below w.heap.size w w1 from hbel.out.trans (HB1.out.mono (by omega)))
        have BP := Lib.hid (putL_below (o := k * 2) (Nat.le_refl _) y.cs w1 0 BW.out)
        have SP := Lib.hid (show w.heap.size + 1 ≤ (putL w.heap.size (k * 2) w1 0 y.cs).heap.size by rw [putL_size]; have := HB1.out.size; have := hsz.out; omega)
        go_roundw
        case rel => exact ⟨k + 1, by omega, by go_num, BP, SP, FP⟩
        case measure => simp [intOf]; omega
      · obtain rfl : k = l.length := by omega
        rw [List.take_length] at hF
        have L1 := Lib.hid (show (l.map f).length = l.length by simp)
        go_wp2
        go_ret
        exact ⟨some ⟨w.heap.size, 0, none⟩, by rw [L1.out]; rfl, hbel.out, fun h => absurd h (by rw [L1.out]; omega), fun _ => ⟨_, rfl, Nat.le_refl _, by rw [L1.out]; exact hF.out⟩⟩

/-- The copy of an argument, of a call, so many chains down. -/
def copyA (f : List C → List C) (g : Ag) : Ag := ⟨g.k, copyV 12 g.v, copyP 12 g.p, f g.c, g.s⟩
def copyCl (f : List C → List C) (x : C) : C := .mk x.n (x.a.map (copyA f))
def copyC : Nat → List C → List C
  | 0, _ => []
  | r + 1, l => l.map (copyCl (copyC r))
theorem copyC_len : ∀ (r : Nat) (l : List C), (copyC r l).length ≤ l.length
  | 0, _ => by simp [copyC]
  | _ + 1, l => by simp [copyC]
def CopyAtC (r : Nat) : Prop := ∀ (w : World) (d : Nat) (A : Option Addr) (c : Nat) (l : List C) (lev : Int), lev = 12 - r → r ≤ 11 → Ch w 0 w.heap.size d A c l →
  Calls Tryz.prog 31 #[.slice A l.length c, .int .i64 lev] w (NewCs w r (copyC r l))
def IsNV (lo : Nat) (t : V) : Value → World → Prop := fun v w => ∃ y : At, v = .agg #[.int .i64 y.t.k, .int .i64 y.t.n, .string y.t.s, .slice y.A y.t.l.length y.c, .slice y.A' y.t.m.length y.c'] ∧ y.t = t ∧ Rd w lo w.heap.size 13 y.t y.A y.c y.A' y.c'
theorem IsNV.stays (lo : Nat) (t : V) : Stays (IsNV lo t) := fun _ _ _ ⟨y, h1, h2, h3⟩ hb => ⟨y, h1, h2, Rd.imp (Kept.of_below hb (Nat.le_refl _)) (Nat.le_refl _) hb.size (Nat.le_refl _) h3⟩
def IsNP (lo : Nat) (t : P) : Value → World → Prop := fun v w => ∃ y : Pt, v = .agg #[.int .i64 y.t.k, .slice y.A y.t.v.length y.c, .slice y.A' y.t.p.length y.c'] ∧ y.t = t ∧ Pd w lo w.heap.size 13 y.t y.A y.c y.A' y.c'
theorem IsNP.stays (lo : Nat) (t : P) : Stays (IsNP lo t) := fun _ _ _ ⟨y, h1, h2, h3⟩ hb => ⟨y, h1, h2, Pd.imp (Kept.of_below hb (Nat.le_refl _)) (Nat.le_refl _) hb.size (Nat.le_refl _) h3⟩
def IsNC (lo D : Nat) (l : List C) : Value → World → Prop := fun v w => ∃ A, v = .slice A l.length l.length ∧ Ch w lo w.heap.size D A l.length l
theorem IsNC.stays (lo D : Nat) (l : List C) : Stays (IsNC lo D l) := fun _ _ _ ⟨A, h1, h3⟩ hb => ⟨A, h1, Ch.imp (Kept.of_below hb (Nat.le_refl _)) (Nat.le_refl _) hb.size (Nat.le_refl _) h3⟩
def IsNA (lo D : Nat) (l : List Ag) : Value → World → Prop := fun v w => ∃ A, v = .slice A l.length l.length ∧ GRowA w lo w.heap.size (RA D w lo w.heap.size) A l.length l
theorem IsNA.stays (lo D : Nat) (l : List Ag) : Stays (IsNA lo D l) := fun _ _ _ ⟨A, h1, h3⟩ hb => ⟨A, h1, h3.imp (Kept.of_below hb (Nat.le_refl _)) (Nat.le_refl _) hb.size (fun _ => RA.mono _ _ _ _ _ _ _ _ (Kept.of_below hb (Nat.le_refl _)) (Nat.le_refl _) hb.size)⟩
def IsNG (lo D : Nat) (t : Ag) : Value → World → Prop := fun v w => ∃ y : Gt, v = .agg #[.int .i64 y.k, .int .i64 y.x.t.k, .int .i64 y.x.t.n, .string y.x.t.s, .slice y.x.A y.x.t.l.length y.x.c, .slice y.x.A' y.x.t.m.length y.x.c', .int .i64 y.q.t.k, .slice y.q.A y.q.t.v.length y.q.c, .slice y.q.A' y.q.t.p.length y.q.c', .slice y.A y.l.length y.c, .string y.s] ∧ y.t = t ∧ RA D w lo w.heap.size y
theorem IsNG.stays (lo D : Nat) (t : Ag) : Stays (IsNG lo D t) := fun _ _ _ ⟨y, h1, h2, h3⟩ hb => ⟨y, h1, h2, RA.mono _ _ _ _ _ _ _ _ (Kept.of_below hb (Nat.le_refl _)) (Nat.le_refl _) hb.size h3⟩
def IsNK (lo D : Nat) (t : C) : Value → World → Prop := fun v w => ∃ y : Ct, v = .agg #[.string y.n, .slice y.A y.l.length y.c] ∧ y.t = t ∧ RC D w lo w.heap.size y
theorem IsNK.stays (lo D : Nat) (t : C) : Stays (IsNK lo D t) := fun _ _ _ ⟨y, h1, h2, h3⟩ hb => ⟨y, h1, h2, RC.mono _ _ _ _ _ _ _ _ (Kept.of_below hb (Nat.le_refl _)) (Nat.le_refl _) hb.size h3⟩
def caD : Nat → Tmp := fun j => [4, 5, 6, 7, 8, 9, 10, 11, 12, 13, 14, 15, 16, 17, 18, 19, 0].getD j 0
def caE : Nat → List Nat := fun j => [[], [0], [], [2], [3], [], [5], [6], [], [8], [], [10], [9, 11], [], [13], [1, 4, 7, 12, 14], []].getD j []
def ccD : Nat → Tmp := fun j => [4, 5, 6, 7, 8, 9, 10, 0].getD j 0
def ccE : Nat → List Nat := fun j => [[], [0], [], [2], [], [3, 4], [1, 5], []].getD j []

theorem boxesR44 (w : World) (x : Gt) (W : World) (hW : (w.alloc (.cells #[.int .i64 x.k, .int .i64 x.x.t.k, .int .i64 x.x.t.n, .string x.x.t.s, .slice x.x.A x.x.t.l.length x.x.c, .slice x.x.A' x.x.t.m.length x.x.c', .int .i64 x.q.t.k, .slice x.q.A x.q.t.v.length x.q.c, .slice x.q.A' x.q.t.p.length x.q.c', .slice x.A x.l.length x.c, .string x.s] 44)).alloc (.cells #[.int .i64 0, .int .i64 0, .int .i64 0, .string ⟨#[]⟩, .slice none 0 0, .slice none 0 0, .int .i64 0, .slice none 0 0, .slice none 0 0, .slice none 0 0, .string ⟨#[]⟩] 44) = W) : BG W w.heap.size x ∧ GBlk 44 W (w.heap.size + 1) 11 ∧ W.heap.size = w.heap.size + 1 + 1 ∧ Below w.heap.size w W := by
  subst hW
  have b := below_new (w.alloc (.cells #[.int .i64 x.k, .int .i64 x.x.t.k, .int .i64 x.x.t.n, .string x.x.t.s, .slice x.x.A x.x.t.l.length x.x.c, .slice x.x.A' x.x.t.m.length x.x.c', .int .i64 x.q.t.k, .slice x.q.A x.q.t.v.length x.q.c, .slice x.q.A' x.q.t.p.length x.q.c', .slice x.A x.l.length x.c, .string x.s] 44)) (.cells #[.int .i64 0, .int .i64 0, .int .i64 0, .string ⟨#[]⟩, .slice none 0 0, .slice none 0 0, .int .i64 0, .slice none 0 0, .slice none 0 0, .slice none 0 0, .string ⟨#[]⟩] 44)
  have hh := heap_alloc_new (w.alloc (.cells #[.int .i64 x.k, .int .i64 x.x.t.k, .int .i64 x.x.t.n, .string x.x.t.s, .slice x.x.A x.x.t.l.length x.x.c, .slice x.x.A' x.x.t.m.length x.x.c', .int .i64 x.q.t.k, .slice x.q.A x.q.t.v.length x.q.c, .slice x.q.A' x.q.t.p.length x.q.c', .slice x.A x.l.length x.c, .string x.s] 44)) (.cells #[.int .i64 0, .int .i64 0, .int .i64 0, .string ⟨#[]⟩, .slice none 0 0, .slice none 0 0, .int .i64 0, .slice none 0 0, .slice none 0 0, .slice none 0 0, .string ⟨#[]⟩] 44)
  rw [size_alloc] at hh
  exact ⟨(BG.new w x).next b, ⟨_, hh, rfl⟩, by simp, below_new2 _ _ _⟩
theorem boxesR36 (w : World) (x : Ct) (W : World) (hW : (w.alloc (.cells #[.string x.n, .slice x.A x.l.length x.c] 36)).alloc (.cells #[.string ⟨#[]⟩, .slice none 0 0] 36) = W) : BC W w.heap.size x ∧ GBlk 36 W (w.heap.size + 1) 2 ∧ W.heap.size = w.heap.size + 1 + 1 ∧ Below w.heap.size w W := by
  subst hW
  have b := below_new (w.alloc (.cells #[.string x.n, .slice x.A x.l.length x.c] 36)) (.cells #[.string ⟨#[]⟩, .slice none 0 0] 36)
  have hh := heap_alloc_new (w.alloc (.cells #[.string x.n, .slice x.A x.l.length x.c] 36)) (.cells #[.string ⟨#[]⟩, .slice none 0 0] 36)
  rw [size_alloc] at hh
  exact ⟨(BC.new w x).next b, ⟨_, hh, rfl⟩, by simp, below_new2 _ _ _⟩
set_option maxHeartbeats 12800000 in
theorem closure_copyA (r : Nat) (ih : CopyAtC r) (hr : r ≤ 10) (g : Nat) (w : World) (lev : Int) (hlev : lev = 11 - r) (hg : g < w.heap.size) (hc : w.cell? ⟨g, 0, none⟩ = some (.int .i64 lev)) (d : Nat) : MakesA 52 #[.pointer (some ⟨g, 0, none⟩)] w d (copyA (copyC r)) (r + 1) := by
  intro wo x hb hx
  have hl0 : 0 ≤ lev := by omega
  have hl1 : lev ≤ 12 := by omega
  have lc := cell_below hb hc hg
  have hgW : g < wo.heap.size := Nat.lt_of_lt_of_le hg hb.size
  have IH := Lib.hid ih
  have HLV := Lib.hid (show lev + 1 = 12 - r by omega)
  have HX0 := Lib.hid hx
  show Calls Tryz.prog 52 #[x.val, .pointer (some ⟨g, 0, none⟩)] wo (NewG wo (r + 1) (copyA (copyC r) x.t))
  clear hx ih hlev hb hc
  unfold Gt.val
  go_enter Tryz.func52, Tryz.ntmps52
  go_upto_region 1 with fail
  generalize hY : World.alloc (World.alloc _ _) _ = Y
  obtain ⟨k1, k2, hz, hbY⟩ := boxesR44 _ _ _ hY
  have K1 := Lib.hid k1
  have RB := Lib.hid k2
  have HB := Lib.hid hbY
  have HX := Lib.hid (HX0.out.next hbY)
  have L1 := Lib.hid (cell_below hbY lc hgW)
  have HGY := Lib.hid (show g < Y.heap.size by omega)
  clear hY k1 k2 lc hbY HX0
  obtain ⟨gb, hgb⟩ : ∃ q, q = wo.heap.size := ⟨_, rfl⟩
  obtain ⟨rb, hrb⟩ : ∃ q, q = wo.heap.size + 1 := ⟨_, rfl⟩
  obtain ⟨lo, hlo⟩ : ∃ q, q = Y.heap.size := ⟨_, rfl⟩
  rw [← hgb] at K1
  rw [← hrb] at RB
  rw [← hgb]
  rw [show gb + 1 = rb by omega]
  have HLO := Lib.hid hlo
  have HRB := Lib.hid (show wo.heap.size ≤ rb ∧ rb < lo by omega)
  have HWL := Lib.hid (show wo.heap.size ≤ lo by omega)
  clear hgb hrb hlo hz
  refine region_phase [0, 1, 2, 3, 4, 5, 6, 7, 8, 9, 10, 11, 12, 13, 14, 15] [] caD caE 1 (fun w' => BG w' gb x ∧ x.In w' d ∧ w'.cell? ⟨g, 0, none⟩ = some (.int .i64 lev) ∧ Below Y.heap.size Y w') (saidOf [Is (.pointer (some ⟨gb, 0, none⟩)), Is (.int .i64 x.k), Is (.pointer (some ⟨gb, 1, none⟩)), Is x.x.v, IsNV lo (copyV 12 x.x.t), Is (.pointer (some ⟨gb, 6, none⟩)), Is x.q.val, IsNP lo (copyP 12 x.q.t), Is (.pointer (some ⟨gb, 9, none⟩)), Is (.slice x.A x.l.length x.c), Is (.int .i64 lev), Is (.int .i64 (lev + 1)), IsNC lo (r + 1) (copyC r x.l), Is (.pointer (some ⟨gb, 10, none⟩)), Is (.string x.s), IsNG lo (r + 1) (copyA (copyC r) x.t), fun _ _ => True]) 20 rfl (by kernel_rfl) (by kernel_rfl) (fun _ _ h hb => ⟨h.1.next hb, h.2.1.next hb, cell_below hb h.2.2.1 (Nat.lt_of_lt_of_le HGY.out h.2.2.2.size), bnext h.2.2.2 hb⟩) (stays_said _ (stays_cons (Is.stays _) (stays_cons (Is.stays _) (stays_cons (Is.stays _) (stays_cons (Is.stays _) (stays_cons (IsNV.stays _ _) (stays_cons (Is.stays _) (stays_cons (Is.stays _) (stays_cons (IsNP.stays _ _) (stays_cons (Is.stays _) (stays_cons (Is.stays _) (stays_cons (Is.stays _) (stays_cons (Is.stays _) (stays_cons (IsNC.stays _ _ _) (stays_cons (Is.stays _) (stays_cons (Is.stays _) (stays_cons (IsNG.stays _ _ _) (stays_cons (fun _ _ _ _ _ => trivial) stays_nil)))))))))))))))))) ⟨K1.out.next (below_drewN _ _ 1), HX.out.next (below_drewN _ _ 1), cell_below (below_drewN _ _ 1) L1.out HGY.out, below_drewN _ _ 1⟩ (by kernel_rfl) ?_ ?_
  · skip
    refine owes_cons (Owes.mk (o := ({ dst := some 4, op := .fieldAddr 44 (.tmp 2) 0, type := 0, pos := "tree.go:81", after := #[], guard := none } : Oper)) rfl (fun v wk hj hD K hK => ?_)) ?_
    · simp only [caD, caE, putAll, Act.put, List.getD_cons_zero, List.setIfInBounds_toArray, List.set_cons_zero, List.set_cons_succ] at hK ⊢
      go_simp
      exact hK.out _ _ (Below.refl _ _) rfl
    refine owes_cons (Owes.mk (o := ({ dst := some 5, op := .load 3 (.tmp 4), type := 3, pos := "tree.go:81", after := #[{ on := 0, ground := .data }], guard := none } : Oper)) rfl (fun v wk hj hD K hK => ?_)) ?_
    · have h0 : v 0 = (.pointer (some ⟨gb, 0, none⟩)) := hD 0 (by decide)
      simp only [caD, caE, putAll, Act.put, List.getD_cons_succ, List.getD_cons_zero, List.setIfInBounds_toArray, List.set_cons_zero, List.set_cons_succ, h0] at hK ⊢
      obtain ⟨⟨a0, a1, a2, a3, a4, a5, a6, a7, a8, a9, a10, _⟩, _, l0, _⟩ := hj
      go_simp
      exact hK.out _ _ (Below.refl _ _) rfl
    refine owes_cons (Owes.mk (o := ({ dst := some 6, op := .fieldAddr 44 (.tmp 2) 1, type := 0, pos := "tree.go:81", after := #[], guard := none } : Oper)) rfl (fun v wk hj hD K hK => ?_)) ?_
    · simp only [caD, caE, putAll, Act.put, List.getD_cons_succ, List.getD_cons_zero, List.setIfInBounds_toArray, List.set_cons_zero, List.set_cons_succ] at hK ⊢
      go_simp
      exact hK.out _ _ (Below.refl _ _) rfl
    refine owes_cons (Owes.mk (o := ({ dst := some 7, op := .load 39 (.tmp 6), type := 39, pos := "tree.go:81", after := #[{ on := 2, ground := .data }], guard := none } : Oper)) rfl (fun v wk hj hD K hK => ?_)) ?_
    · have h2 : v 2 = (.pointer (some ⟨gb, 1, none⟩)) := hD 2 (by decide)
      simp only [caD, caE, putAll, Act.put, List.getD_cons_succ, List.getD_cons_zero, List.setIfInBounds_toArray, List.set_cons_zero, List.set_cons_succ, h2] at hK ⊢
      obtain ⟨⟨a0, a1, a2, a3, a4, a5, a6, a7, a8, a9, a10, _⟩, _, l0, _⟩ := hj
      go_simp
      exact hK.out _ _ (Below.refl _ _) rfl
    refine owes_cons (Owes.mk (o := ({ dst := some 8, op := .call { callee := .value (.func 53), args := #[.tmp 7], argTypes := #[39] }, type := 39, pos := "tree.go:81", after := #[{ on := 3, ground := .data }], guard := none } : Oper)) rfl (fun v wk hj hD K hK => ?_)) ?_
    · have h3 : v 3 = x.x.v := hD 3 (by decide)
      simp only [caD, caE, putAll, Act.put, List.getD_cons_succ, List.getD_cons_zero, List.setIfInBounds_toArray, List.set_cons_zero, List.set_cons_succ, h3] at hK ⊢
      have hs : lo ≤ wk.heap.size := by rw [HLO.out]; exact hj.2.2.2.size
      obtain ⟨nv, hv⟩ := hj.2.1.v
      go_simp
      refine (copy_any wk nv x.x.t _ _ _ _ hv).mono ?_
      rintro e w2 ⟨D, e1, D2, e2, rfl, rd, _, _, hb⟩
      exact hK.out _ _ hb ⟨⟨_, D, e1, D2, e2⟩, rfl, rfl, rd.more (by omega) (Nat.le_refl _) (Nat.le_refl _)⟩
    refine owes_cons (Owes.mk (o := ({ dst := some 9, op := .fieldAddr 44 (.tmp 2) 2, type := 0, pos := "tree.go:81", after := #[], guard := none } : Oper)) rfl (fun v wk hj hD K hK => ?_)) ?_
    · simp only [caD, caE, putAll, Act.put, List.getD_cons_succ, List.getD_cons_zero, List.setIfInBounds_toArray, List.set_cons_zero, List.set_cons_succ] at hK ⊢
      go_simp
      exact hK.out _ _ (Below.refl _ _) rfl
    refine owes_cons (Owes.mk (o := ({ dst := some 10, op := .load 42 (.tmp 9), type := 42, pos := "tree.go:81", after := #[{ on := 5, ground := .data }], guard := none } : Oper)) rfl (fun v wk hj hD K hK => ?_)) ?_
    · have h5 : v 5 = (.pointer (some ⟨gb, 6, none⟩)) := hD 5 (by decide)
      simp only [caD, caE, putAll, Act.put, List.getD_cons_succ, List.getD_cons_zero, List.setIfInBounds_toArray, List.set_cons_zero, List.set_cons_succ, h5] at hK ⊢
      obtain ⟨⟨a0, a1, a2, a3, a4, a5, a6, a7, a8, a9, a10, _⟩, _, l0, _⟩ := hj
      go_simp
      exact hK.out _ _ (Below.refl _ _) rfl
    refine owes_cons (Owes.mk (o := ({ dst := some 11, op := .call { callee := .value (.func 54), args := #[.tmp 10], argTypes := #[42] }, type := 42, pos := "tree.go:81", after := #[{ on := 6, ground := .data }, { on := 4, ground := .chain }], guard := none } : Oper)) rfl (fun v wk hj hD K hK => ?_)) ?_
    · have h6 : v 6 = x.q.val := hD 6 (by decide)
      simp only [caD, caE, putAll, Act.put, List.getD_cons_succ, List.getD_cons_zero, List.setIfInBounds_toArray, List.set_cons_zero, List.set_cons_succ, h6] at hK ⊢
      have hs : lo ≤ wk.heap.size := by rw [HLO.out]; exact hj.2.2.2.size
      obtain ⟨np, hp⟩ := hj.2.1.p
      go_simp
      refine (copyP_any wk np x.q hp).mono ?_
      rintro e w2 ⟨D, e1, D2, e2, rfl, rd, _, _, hb⟩
      exact hK.out _ _ hb ⟨⟨_, D, e1, D2, e2⟩, rfl, rfl, rd.more (by omega) (Nat.le_refl _) (Nat.le_refl _)⟩
    refine owes_cons (Owes.mk (o := ({ dst := some 12, op := .fieldAddr 44 (.tmp 2) 3, type := 0, pos := "tree.go:81", after := #[], guard := none } : Oper)) rfl (fun v wk hj hD K hK => ?_)) ?_
    · simp only [caD, caE, putAll, Act.put, List.getD_cons_succ, List.getD_cons_zero, List.setIfInBounds_toArray, List.set_cons_zero, List.set_cons_succ] at hK ⊢
      go_simp
      exact hK.out _ _ (Below.refl _ _) rfl
    refine owes_cons (Owes.mk (o := ({ dst := some 13, op := .load 22 (.tmp 12), type := 22, pos := "tree.go:81", after := #[{ on := 8, ground := .data }], guard := none } : Oper)) rfl (fun v wk hj hD K hK => ?_)) ?_
    · have h8 : v 8 = (.pointer (some ⟨gb, 9, none⟩)) := hD 8 (by decide)
      simp only [caD, caE, putAll, Act.put, List.getD_cons_succ, List.getD_cons_zero, List.setIfInBounds_toArray, List.set_cons_zero, List.set_cons_succ, h8] at hK ⊢
      obtain ⟨⟨a0, a1, a2, a3, a4, a5, a6, a7, a8, a9, a10, _⟩, _, l0, _⟩ := hj
      go_simp
      exact hK.out _ _ (Below.refl _ _) rfl
    refine owes_cons (Owes.mk (o := ({ dst := some 14, op := .load 3 (.tmp 1), type := 3, pos := "tree.go:81", after := #[], guard := none } : Oper)) rfl (fun v wk hj hD K hK => ?_)) ?_
    · simp only [caD, caE, putAll, Act.put, List.getD_cons_succ, List.getD_cons_zero, List.setIfInBounds_toArray, List.set_cons_zero, List.set_cons_succ] at hK ⊢
      obtain ⟨⟨a0, a1, a2, a3, a4, a5, a6, a7, a8, a9, a10, _⟩, _, l0, _⟩ := hj
      go_simp
      exact hK.out _ _ (Below.refl _ _) rfl
    refine owes_cons (Owes.mk (o := ({ dst := some 15, op := .binOp .add 3 (.tmp 14) (.const (.int .i64 1)) 3, type := 3, pos := "tree.go:81", after := #[{ on := 10, ground := .data }], guard := none } : Oper)) rfl (fun v wk hj hD K hK => ?_)) ?_
    · have h10 : v 10 = (.int .i64 lev) := hD 10 (by decide)
      simp only [caD, caE, putAll, Act.put, List.getD_cons_succ, List.getD_cons_zero, List.setIfInBounds_toArray, List.set_cons_zero, List.set_cons_succ, h10] at hK ⊢
      have i1 : IntKind.i64.wrap (lev + 1) = lev + 1 := IntWalk.i64_in _ (by omega)
      have i2 : wrap64 (lev + 1) = lev + 1 := by unfold wrap64; omega
      go_simp
      exact hK.out _ _ (Below.refl _ _) rfl
    refine owes_cons (Owes.mk (o := ({ dst := some 16, op := .call { callee := .value (.func 31), args := #[.tmp 13, .tmp 15], argTypes := #[22, 3] }, type := 22, pos := "tree.go:81", after := #[{ on := 9, ground := .data }, { on := 11, ground := .data }, { on := 7, ground := .chain }], guard := none } : Oper)) rfl (fun v wk hj hD K hK => ?_)) ?_
    · have h9 : v 9 = (.slice x.A x.l.length x.c) := hD 9 (by decide)
      have h11 : v 11 = (.int .i64 (lev + 1)) := hD 11 (by decide)
      simp only [caD, caE, putAll, Act.put, List.getD_cons_succ, List.getD_cons_zero, List.setIfInBounds_toArray, List.set_cons_zero, List.set_cons_succ, h9, h11] at hK ⊢
      have hs : lo ≤ wk.heap.size := by rw [HLO.out]; exact hj.2.2.2.size
      have hl := hj.2.1.c.big
      go_simp
      refine (IH.out wk d x.A x.c x.l (lev + 1) HLV.out (by omega) hj.2.1.c).mono ?_
      rintro e w2 ⟨A, rfl, hb, e0, e1⟩
      exact hK.out _ _ hb ⟨A, rfl, (NewCs.ch ⟨A, rfl, hb, e0, e1⟩ (Nat.le_trans (copyC_len _ _) hl)).more (by omega) (Nat.le_refl _) (Nat.le_refl _)⟩
    refine owes_cons (Owes.mk (o := ({ dst := some 17, op := .fieldAddr 44 (.tmp 2) 4, type := 0, pos := "tree.go:81", after := #[], guard := none } : Oper)) rfl (fun v wk hj hD K hK => ?_)) ?_
    · simp only [caD, caE, putAll, Act.put, List.getD_cons_succ, List.getD_cons_zero, List.setIfInBounds_toArray, List.set_cons_zero, List.set_cons_succ] at hK ⊢
      go_simp
      exact hK.out _ _ (Below.refl _ _) rfl
    refine owes_cons (Owes.mk (o := ({ dst := some 18, op := .load 9 (.tmp 17), type := 9, pos := "tree.go:81", after := #[{ on := 13, ground := .data }], guard := none } : Oper)) rfl (fun v wk hj hD K hK => ?_)) ?_
    · have h13 : v 13 = (.pointer (some ⟨gb, 10, none⟩)) := hD 13 (by decide)
      simp only [caD, caE, putAll, Act.put, List.getD_cons_succ, List.getD_cons_zero, List.setIfInBounds_toArray, List.set_cons_zero, List.set_cons_succ, h13] at hK ⊢
      obtain ⟨⟨a0, a1, a2, a3, a4, a5, a6, a7, a8, a9, a10, _⟩, _, l0, _⟩ := hj
      go_simp
      exact hK.out _ _ (Below.refl _ _) rfl
    refine owes_cons (Owes.mk (o := ({ dst := some 19, op := .build 44 #[(0, .tmp 5), (1, .tmp 8), (2, .tmp 11), (3, .tmp 16), (4, .tmp 18)], type := 44, pos := "tree.go:81", after := #[{ on := 1, ground := .data }, { on := 4, ground := .data }, { on := 7, ground := .data }, { on := 12, ground := .data }, { on := 14, ground := .data }], guard := none } : Oper)) rfl (fun v wk hj hD K hK => ?_)) ?_
    · have h1 : v 1 = (.int .i64 x.k) := hD 1 (by decide)
      obtain ⟨y4, h4, t4, r4⟩ : IsNV lo (copyV 12 x.x.t) (v 4) wk := hD 4 (by decide)
      replace t4 := Lib.hid t4
      replace r4 := Lib.hid r4
      obtain ⟨y7, h7, t7, r7⟩ : IsNP lo (copyP 12 x.q.t) (v 7) wk := hD 7 (by decide)
      replace t7 := Lib.hid t7
      replace r7 := Lib.hid r7
      obtain ⟨A12, h12, r12⟩ : IsNC lo (r + 1) (copyC r x.l) (v 12) wk := hD 12 (by decide)
      have h14 : v 14 = (.string x.s) := hD 14 (by decide)
      simp only [caD, caE, putAll, Act.put, List.getD_cons_succ, List.getD_cons_zero, List.setIfInBounds_toArray, List.set_cons_zero, List.set_cons_succ, h1, h4, h7, h12, h14] at hK ⊢
      have hx := hj.2.1
      go_simp
      exact hK.out _ _ (Below.refl _ _) ⟨⟨x.k, y4, y7, copyC r x.l, A12, (copyC r x.l).length, x.s⟩, rfl, by simp [Gt.t, copyA, t4.out, t7.out], hx.k0, hx.k1, hx.s1, ⟨13, r4.out⟩, ⟨13, r7.out⟩, r12⟩
    exact owes_nil
  · intro p v w3 h1 h2 hj hr
    obtain rfl := marks_all h1 (fun m hm => h2 m hm (by simp))
    obtain ⟨y, hv, ht, hy⟩ : IsNG lo (r + 1) (copyA (copyC r) x.t) (v 15) w3 := hr 15 (by decide) (by decide)
    rw [show List.filter (fun k => [0, 1, 2, 3, 4, 5, 6, 7, 8, 9, 10, 11, 12, 13, 14, 15].contains k) [0, 1, 2, 3, 4, 5, 6, 7, 8, 9, 10, 11, 12, 13, 14, 15] = [0, 1, 2, 3, 4, 5, 6, 7, 8, 9, 10, 11, 12, 13, 14, 15] from rfl]
    simp only [caD, putAll, Act.put, List.getD_cons_succ, List.getD_cons_zero, List.setIfInBounds_toArray, List.set_cons_zero, List.set_cons_succ, hv]
    have hbk := RB.out.kept (hj.2.2.2.block rb RB.out.lt)
    obtain ⟨v0, f0⟩ := hbk.cell (i := 0) (by omega)
    obtain ⟨v1, f1⟩ := hbk.cell (i := 1) (by omega)
    obtain ⟨v2, f2⟩ := hbk.cell (i := 2) (by omega)
    obtain ⟨v3, f3⟩ := hbk.cell (i := 3) (by omega)
    obtain ⟨v4, f4⟩ := hbk.cell (i := 4) (by omega)
    obtain ⟨v5, f5⟩ := hbk.cell (i := 5) (by omega)
    obtain ⟨v6, f6⟩ := hbk.cell (i := 6) (by omega)
    obtain ⟨v7, f7⟩ := hbk.cell (i := 7) (by omega)
    obtain ⟨v8, f8⟩ := hbk.cell (i := 8) (by omega)
    obtain ⟨v9, f9⟩ := hbk.cell (i := 9) (by omega)
    obtain ⟨v10, f10⟩ := hbk.cell (i := 10) (by omega)
    have z0 := hbk.frozen 0
    have z1 := hbk.frozen 1
    have z2 := hbk.frozen 2
    have z3 := hbk.frozen 3
    have z4 := hbk.frozen 4
    have z5 := hbk.frozen 5
    have z6 := hbk.frozen 6
    have z7 := hbk.frozen 7
    have z8 := hbk.frozen 8
    have z9 := hbk.frozen 9
    have z10 := hbk.frozen 10
    have HB3 := Lib.hid (bnext HB.out hj.2.2.2)
    have HY := Lib.hid hy
    have HT := Lib.hid ht
    have HBK := Lib.hid hbk
    clear hbk hy ht hj hr hv h1 h2 RB
    refine anyN_any (S := fun _ => True) (N := []) _ _ _ _ ?_
    refine anyN_one (i := 16) (o := ({ dst := none, op := .store 44 (.tmp 3) (.tmp 19), type := 0, pos := "tree.go:81", after := #[{ on := 15, ground := .data }, { on := 12, ground := .chain }, { on := 0, ground := .phase }, { on := 1, ground := .phase }, { on := 2, ground := .phase }, { on := 3, ground := .phase }, { on := 4, ground := .phase }, { on := 5, ground := .phase }, { on := 6, ground := .phase }, { on := 7, ground := .phase }, { on := 8, ground := .phase }, { on := 9, ground := .phase }, { on := 10, ground := .phase }, { on := 11, ground := .phase }, { on := 12, ground := .phase }, { on := 13, ground := .phase }, { on := 14, ground := .phase }, { on := 15, ground := .phase }], guard := none } : Oper)) (by kernel_rfl) rfl (fun K hK => ?_)
    go_simp
    refine hK.out _ _ (fun _ => trivial) ?_
    clear hK K
    try simp only [Act.put, List.setIfInBounds_toArray, List.set_cons_zero, List.set_cons_succ]
    refine anyN_done (by kernel_rfl) ?_ _
    obtain ⟨F, hF⟩ : ∃ F, F = putL rb 0 w3 0 y.cs := ⟨_, rfl⟩
    have BF := Lib.hid (show Below wo.heap.size wo F by rw [hF]; exact putL_below HRB.out.1 _ _ _ HB3.out)
    have SF := Lib.hid (show F.heap.size = w3.heap.size by rw [hF]; exact putL_size _ _ _ _ _)
    have KF := Lib.hid (show Kept lo w3.heap.size w3 F by rw [hF]; exact fun i h1 _ => putL_far _ _ (by have := HRB.out; omega) _ _ _)
    have CF := HBK.out.put_at (o := 0) y.cs (by show 0 + 11 ≤ 11; omega)
    rw [← hF] at CF
    have r0 : F.cell? ⟨rb, 0, none⟩ = some (.int .i64 y.k) := CF 0 _ rfl
    have r1 : F.cell? ⟨rb, 1, none⟩ = some (.int .i64 y.x.t.k) := CF 1 _ rfl
    have r2 : F.cell? ⟨rb, 2, none⟩ = some (.int .i64 y.x.t.n) := CF 2 _ rfl
    have r3 : F.cell? ⟨rb, 3, none⟩ = some (.string y.x.t.s) := CF 3 _ rfl
    have r4 : F.cell? ⟨rb, 4, none⟩ = some (.slice y.x.A y.x.t.l.length y.x.c) := CF 4 _ rfl
    have r5 : F.cell? ⟨rb, 5, none⟩ = some (.slice y.x.A' y.x.t.m.length y.x.c') := CF 5 _ rfl
    have r6 : F.cell? ⟨rb, 6, none⟩ = some (.int .i64 y.q.t.k) := CF 6 _ rfl
    have r7 : F.cell? ⟨rb, 7, none⟩ = some (.slice y.q.A y.q.t.v.length y.q.c) := CF 7 _ rfl
    have r8 : F.cell? ⟨rb, 8, none⟩ = some (.slice y.q.A' y.q.t.p.length y.q.c') := CF 8 _ rfl
    have r9 : F.cell? ⟨rb, 9, none⟩ = some (.slice y.A y.l.length y.c) := CF 9 _ rfl
    have r10 : F.cell? ⟨rb, 10, none⟩ = some (.string y.s) := CF 10 _ rfl
    rw [show putL rb 0 w3 0 y.cs = (((((((((((w3.setCell ⟨rb, 0, none⟩ (.int .i64 y.k)).setCell ⟨rb, 1, none⟩ (.int .i64 y.x.t.k)).setCell ⟨rb, 2, none⟩ (.int .i64 y.x.t.n)).setCell ⟨rb, 3, none⟩ (.string y.x.t.s)).setCell ⟨rb, 4, none⟩ (.slice y.x.A y.x.t.l.length y.x.c)).setCell ⟨rb, 5, none⟩ (.slice y.x.A' y.x.t.m.length y.x.c')).setCell ⟨rb, 6, none⟩ (.int .i64 y.q.t.k)).setCell ⟨rb, 7, none⟩ (.slice y.q.A y.q.t.v.length y.q.c)).setCell ⟨rb, 8, none⟩ (.slice y.q.A' y.q.t.p.length y.q.c')).setCell ⟨rb, 9, none⟩ (.slice y.A y.l.length y.c)).setCell ⟨rb, 10, none⟩ (.string y.s)) from rfl] at hF
    rw [← hF]
    clear hF CF f0 z0 f1 z1 f2 z2 f3 z3 f4 z4 f5 z5 f6 z6 f7 z7 f8 z8 f9 z9 f10 z10
    go_wp2
    exact bodyPost_ret (v := y.val) (by simp [results, Tryz.results52, go_sem, r0, r1, r2, r3, r4, r5, r6, r7, r8, r9, r10]) rfl ⟨y, HT.out, rfl, by rw [SF.out]; exact RA.mono _ _ _ _ _ _ _ _ KF.out HWL.out (Nat.le_refl _) HY.out, BF.out⟩
theorem entCopyA : Enters 52 := fun _ _ => by kernel_rfl
theorem entCopyC : Enters 55 := fun _ _ => by kernel_rfl
set_option maxHeartbeats 12800000 in
theorem closure_copyC (r : Nat) (ih : CopyAtC r) (hr : r ≤ 10) (g fb : Nat) (w : World) (lev : Int) (hlev : lev = 11 - r) (hg : g < w.heap.size) (hc : w.cell? ⟨g, 0, none⟩ = some (.int .i64 lev)) (hf : fb < w.heap.size) (hfc : w.cell? ⟨fb, 0, none⟩ = some (.func (.func 52) #[] #[.pointer (some ⟨g, 0, none⟩)])) (d : Nat) : MakesC 55 #[.pointer (some ⟨fb, 0, none⟩)] w d (copyCl (copyC r)) (r + 1) := by
  intro wo x hb hx
  have lc := cell_below hb hc hg
  have fc := cell_below hb hfc hf
  have hgW : g < wo.heap.size := Nat.lt_of_lt_of_le hg hb.size
  have hfW : fb < wo.heap.size := Nat.lt_of_lt_of_le hf hb.size
  have IH := Lib.hid ih
  have HLV := Lib.hid hlev
  have HX0 := Lib.hid hx
  obtain ⟨ml, hml⟩ : ∃ m, m = x.l.map (copyA (copyC r)) := ⟨_, rfl⟩
  show Calls Tryz.prog 55 #[x.val, .pointer (some ⟨fb, 0, none⟩)] wo (NewK wo (r + 1) (.mk x.n (x.l.map (copyA (copyC r)))))
  rw [← hml]
  have HML := Lib.hid hml
  clear hml
  clear hx ih hlev hb hc hfc
  unfold Ct.val
  go_enter Tryz.func55, Tryz.ntmps55
  go_upto_region 1 with fail
  generalize hY : World.alloc (World.alloc _ _) _ = Y
  obtain ⟨k1, k2, hz, hbY⟩ := boxesR36 _ _ _ hY
  have K1 := Lib.hid k1
  have RB := Lib.hid k2
  have HB := Lib.hid hbY
  have HX := Lib.hid (HX0.out.next hbY)
  have L1 := Lib.hid (cell_below hbY lc hgW)
  have F1 := Lib.hid (cell_below hbY fc hfW)
  have HGY := Lib.hid (show g < Y.heap.size by omega)
  have HFY := Lib.hid (show fb < Y.heap.size by omega)
  clear hY k1 k2 lc fc hbY HX0
  obtain ⟨gb, hgb⟩ : ∃ q, q = wo.heap.size := ⟨_, rfl⟩
  obtain ⟨rb, hrb⟩ : ∃ q, q = wo.heap.size + 1 := ⟨_, rfl⟩
  obtain ⟨lo, hlo⟩ : ∃ q, q = Y.heap.size := ⟨_, rfl⟩
  rw [← hgb] at K1
  rw [← hrb] at RB
  rw [← hgb]
  rw [show gb + 1 = rb by omega]
  have HLO := Lib.hid hlo
  have HRB := Lib.hid (show wo.heap.size ≤ rb ∧ rb < lo by omega)
  have HWL := Lib.hid (show wo.heap.size ≤ lo by omega)
  clear hgb hrb hlo hz
  refine region_phase [0, 1, 2, 3, 4, 5, 6] [] ccD ccE 1 (fun w' => BC w' gb x ∧ x.InT w' d ∧ w'.cell? ⟨g, 0, none⟩ = some (.int .i64 lev) ∧ w'.cell? ⟨fb, 0, none⟩ = some (.func (.func 52) #[] #[.pointer (some ⟨g, 0, none⟩)]) ∧ Below Y.heap.size Y w') (saidOf [Is (.pointer (some ⟨gb, 0, none⟩)), Is (.string x.n), Is (.pointer (some ⟨gb, 1, none⟩)), Is (.slice x.A x.l.length x.c), Is (.func (.func 52) #[] #[.pointer (some ⟨g, 0, none⟩)]), IsNA lo (r + 1) ml, IsNK lo (r + 1) (.mk x.n ml), fun _ _ => True]) 11 rfl (by kernel_rfl) (by kernel_rfl) (fun _ _ h hb => ⟨h.1.next hb, h.2.1.next hb, cell_below hb h.2.2.1 (Nat.lt_of_lt_of_le HGY.out h.2.2.2.2.size), cell_below hb h.2.2.2.1 (Nat.lt_of_lt_of_le HFY.out h.2.2.2.2.size), bnext h.2.2.2.2 hb⟩) (stays_said _ (stays_cons (Is.stays _) (stays_cons (Is.stays _) (stays_cons (Is.stays _) (stays_cons (Is.stays _) (stays_cons (Is.stays _) (stays_cons (IsNA.stays _ _ _) (stays_cons (IsNK.stays _ _ _) (stays_cons (fun _ _ _ _ _ => trivial) stays_nil))))))))) ⟨K1.out.next (below_drewN _ _ 1), HX.out.next (below_drewN _ _ 1), cell_below (below_drewN _ _ 1) L1.out HGY.out, cell_below (below_drewN _ _ 1) F1.out HFY.out, below_drewN _ _ 1⟩ (by kernel_rfl) ?_ ?_
  · skip
    refine owes_cons (Owes.mk (o := ({ dst := some 4, op := .fieldAddr 36 (.tmp 2) 0, type := 0, pos := "tree.go:84", after := #[], guard := none } : Oper)) rfl (fun v wk hj hD K hK => ?_)) ?_
    · simp only [ccD, ccE, putAll, Act.put, List.getD_cons_zero, List.setIfInBounds_toArray, List.set_cons_zero, List.set_cons_succ] at hK ⊢
      go_simp
      exact hK.out _ _ (Below.refl _ _) rfl
    refine owes_cons (Owes.mk (o := ({ dst := some 5, op := .load 9 (.tmp 4), type := 9, pos := "tree.go:84", after := #[{ on := 0, ground := .data }], guard := none } : Oper)) rfl (fun v wk hj hD K hK => ?_)) ?_
    · have h0 : v 0 = (.pointer (some ⟨gb, 0, none⟩)) := hD 0 (by decide)
      simp only [ccD, ccE, putAll, Act.put, List.getD_cons_succ, List.getD_cons_zero, List.setIfInBounds_toArray, List.set_cons_zero, List.set_cons_succ, h0] at hK ⊢
      obtain ⟨⟨a0, a1, _⟩, _, l0, l1, _⟩ := hj
      go_simp
      exact hK.out _ _ (Below.refl _ _) rfl
    refine owes_cons (Owes.mk (o := ({ dst := some 6, op := .fieldAddr 36 (.tmp 2) 1, type := 0, pos := "tree.go:84", after := #[], guard := none } : Oper)) rfl (fun v wk hj hD K hK => ?_)) ?_
    · simp only [ccD, ccE, putAll, Act.put, List.getD_cons_succ, List.getD_cons_zero, List.setIfInBounds_toArray, List.set_cons_zero, List.set_cons_succ] at hK ⊢
      go_simp
      exact hK.out _ _ (Below.refl _ _) rfl
    refine owes_cons (Owes.mk (o := ({ dst := some 7, op := .load 34 (.tmp 6), type := 34, pos := "tree.go:84", after := #[{ on := 2, ground := .data }], guard := none } : Oper)) rfl (fun v wk hj hD K hK => ?_)) ?_
    · have h2 : v 2 = (.pointer (some ⟨gb, 1, none⟩)) := hD 2 (by decide)
      simp only [ccD, ccE, putAll, Act.put, List.getD_cons_succ, List.getD_cons_zero, List.setIfInBounds_toArray, List.set_cons_zero, List.set_cons_succ, h2] at hK ⊢
      obtain ⟨⟨a0, a1, _⟩, _, l0, l1, _⟩ := hj
      go_simp
      exact hK.out _ _ (Below.refl _ _) rfl
    refine owes_cons (Owes.mk (o := ({ dst := some 8, op := .load 87 (.tmp 1), type := 87, pos := "tree.go:84", after := #[], guard := none } : Oper)) rfl (fun v wk hj hD K hK => ?_)) ?_
    · simp only [ccD, ccE, putAll, Act.put, List.getD_cons_succ, List.getD_cons_zero, List.setIfInBounds_toArray, List.set_cons_zero, List.set_cons_succ] at hK ⊢
      obtain ⟨⟨a0, a1, _⟩, _, l0, l1, _⟩ := hj
      go_simp
      exact hK.out _ _ (Below.refl _ _) rfl
    refine owes_cons (Owes.mk (o := ({ dst := some 9, op := .call { callee := .value (.func 56), args := #[.tmp 7, .tmp 8], argTypes := #[34, 87] }, type := 34, pos := "tree.go:84", after := #[{ on := 3, ground := .data }, { on := 4, ground := .data }], guard := none } : Oper)) rfl (fun v wk hj hD K hK => ?_)) ?_
    · have h3 : v 3 = (.slice x.A x.l.length x.c) := hD 3 (by decide)
      have h4 : v 4 = (.func (.func 52) #[] #[.pointer (some ⟨g, 0, none⟩)]) := hD 4 (by decide)
      simp only [ccD, ccE, putAll, Act.put, List.getD_cons_succ, List.getD_cons_zero, List.setIfInBounds_toArray, List.set_cons_zero, List.set_cons_succ, h3, h4] at hK ⊢
      have hs : lo ≤ wk.heap.size := by rw [HLO.out]; exact hj.2.2.2.2.size
      have hl := hj.2.1.2.big
      go_simp
      have CT := (eachA_any 52 entCopyA #[.pointer (some ⟨g, 0, none⟩)] (copyA (copyC r)) (r + 1) wk d (closure_copyA r IH.out hr g wk lev HLV.out (Nat.lt_of_lt_of_le HGY.out hj.2.2.2.2.size) hj.2.2.1 d) x.A x.c x.l hj.2.1.2)
      rw [← HML.out] at CT
      refine CT.mono ?_
      rintro e w2 ⟨A, rfl, hb, e0, e1⟩
      exact hK.out _ _ hb ⟨A, rfl, (NewAs.aw ⟨A, rfl, hb, e0, e1⟩ (by rw [HML.out, List.length_map]; exact hl)).imp (Kept.refl _ _ _) (by omega) (Nat.le_refl _) (fun _ => RA.mono _ _ _ _ _ _ _ _ (Kept.refl _ _ _) (by omega) (Nat.le_refl _))⟩
    refine owes_cons (Owes.mk (o := ({ dst := some 10, op := .build 36 #[(0, .tmp 5), (1, .tmp 9)], type := 36, pos := "tree.go:84", after := #[{ on := 1, ground := .data }, { on := 5, ground := .data }], guard := none } : Oper)) rfl (fun v wk hj hD K hK => ?_)) ?_
    · have h1 : v 1 = (.string x.n) := hD 1 (by decide)
      obtain ⟨A5, h5, r5⟩ : IsNA lo (r + 1) ml (v 5) wk := hD 5 (by decide)
      simp only [ccD, ccE, putAll, Act.put, List.getD_cons_succ, List.getD_cons_zero, List.setIfInBounds_toArray, List.set_cons_zero, List.set_cons_succ, h1, h5] at hK ⊢
      have hx := hj.2.1
      go_simp
      exact hK.out _ _ (Below.refl _ _) ⟨⟨x.n, ml, A5, ml.length⟩, rfl, rfl, ⟨hx.1, r5⟩, rfl⟩
    exact owes_nil
  · intro p v w3 h1 h2 hj hr
    obtain rfl := marks_all h1 (fun m hm => h2 m hm (by simp))
    obtain ⟨y, hv, ht, hy⟩ : IsNK lo (r + 1) (.mk x.n ml) (v 6) w3 := hr 6 (by decide) (by decide)
    rw [show List.filter (fun k => [0, 1, 2, 3, 4, 5, 6].contains k) [0, 1, 2, 3, 4, 5, 6] = [0, 1, 2, 3, 4, 5, 6] from rfl]
    simp only [ccD, putAll, Act.put, List.getD_cons_succ, List.getD_cons_zero, List.setIfInBounds_toArray, List.set_cons_zero, List.set_cons_succ, hv]
    have hbk := RB.out.kept (hj.2.2.2.2.block rb RB.out.lt)
    obtain ⟨v0, f0⟩ := hbk.cell (i := 0) (by omega)
    obtain ⟨v1, f1⟩ := hbk.cell (i := 1) (by omega)
    have z0 := hbk.frozen 0
    have z1 := hbk.frozen 1
    have HB3 := Lib.hid (bnext HB.out hj.2.2.2.2)
    have HY := Lib.hid hy
    have HT := Lib.hid ht
    have HBK := Lib.hid hbk
    clear hbk hy ht hj hr hv h1 h2 RB
    refine anyN_any (S := fun _ => True) (N := []) _ _ _ _ ?_
    refine anyN_one (i := 7) (o := ({ dst := none, op := .store 36 (.tmp 3) (.tmp 10), type := 0, pos := "tree.go:84", after := #[{ on := 6, ground := .data }, { on := 5, ground := .chain }, { on := 0, ground := .phase }, { on := 1, ground := .phase }, { on := 2, ground := .phase }, { on := 3, ground := .phase }, { on := 4, ground := .phase }, { on := 5, ground := .phase }, { on := 6, ground := .phase }], guard := none } : Oper)) (by kernel_rfl) rfl (fun K hK => ?_)
    go_simp
    refine hK.out _ _ (fun _ => trivial) ?_
    clear hK K
    try simp only [Act.put, List.setIfInBounds_toArray, List.set_cons_zero, List.set_cons_succ]
    refine anyN_done (by kernel_rfl) ?_ _
    obtain ⟨F, hF⟩ : ∃ F, F = putL rb 0 w3 0 y.cs := ⟨_, rfl⟩
    have BF := Lib.hid (show Below wo.heap.size wo F by rw [hF]; exact putL_below HRB.out.1 _ _ _ HB3.out)
    have SF := Lib.hid (show F.heap.size = w3.heap.size by rw [hF]; exact putL_size _ _ _ _ _)
    have KF := Lib.hid (show Kept lo w3.heap.size w3 F by rw [hF]; exact fun i h1 _ => putL_far _ _ (by have := HRB.out; omega) _ _ _)
    have CF := HBK.out.put_at (o := 0) y.cs (by show 0 + 2 ≤ 2; omega)
    rw [← hF] at CF
    have r0 : F.cell? ⟨rb, 0, none⟩ = some (.string y.n) := CF 0 _ rfl
    have r1 : F.cell? ⟨rb, 1, none⟩ = some (.slice y.A y.l.length y.c) := CF 1 _ rfl
    rw [show putL rb 0 w3 0 y.cs = ((w3.setCell ⟨rb, 0, none⟩ (.string y.n)).setCell ⟨rb, 1, none⟩ (.slice y.A y.l.length y.c)) from rfl] at hF
    rw [← hF]
    clear hF CF f0 z0 f1 z1
    go_wp2
    exact bodyPost_ret (v := y.val) (by simp [results, Tryz.results55, go_sem, r0, r1]) rfl ⟨y, HT.out, rfl, by rw [SF.out]; exact RC.mono _ _ _ _ _ _ _ _ KF.out HWL.out (Nat.le_refl _) HY.out, BF.out⟩
set_option maxHeartbeats 800000 in
theorem copyAtC_zero : CopyAtC 0 := by
  intro w d A c l lev hlev _ _
  have hl : 11 < lev := by omega
  clear hlev
  go_enter Tryz.func31, Tryz.ntmps31
  go_wp2
  go_ret
  exact ⟨none, rfl, below_new _ _, fun _ => rfl, fun h => absurd h (by simp [copyC])⟩
theorem GNew.under {X τ : Type} {tr : X → τ} {cs : X → List Value} {n : Nat} {T : TypeId} {R : World → Nat → Nat → X → Prop} {w V : World} {l : List τ} {e : Ending} {w' : World} (h : GNew tr cs n T R V l e w') (hb : Below w.heap.size w V) : GNew tr cs n T R w l e w' := by
  obtain ⟨A, a, b, c, d⟩ := h
  have := hb.size
  exact ⟨A, a, bnext hb b, c, fun h0 => by
    obtain ⟨g, e1, e2, e3⟩ := d h0
    exact ⟨g, e1, by omega, e3⟩⟩
section
variable (P : Program) (w : World) (a : Addr) (m : Mode)
@[local go_sem]
theorem run_store_funcL (f : Fn) (rs cs : Array Value) : (store a (.func f rs cs) m).run P w = stored P w a (.func f rs cs) m := run_store P w a _ m rfl
end
set_option maxHeartbeats 3200000 in
theorem copyAtC_succ (r : Nat) (ih : CopyAtC r) : CopyAtC (r + 1) := by
  intro w d A c l lev hlev hr hx
  have hl : ¬ 11 < lev := by omega
  have hl0 : 0 ≤ lev := by omega
  have HL := Lib.hid (show lev = 11 - r by omega)
  have HX := Lib.hid (hx.up (d' := d + 1) (by omega))
  have hbx := hx.big
  have IH := Lib.hid ih
  have HR := Lib.hid (show r ≤ 10 by omega)
  show Calls Tryz.prog 31 #[.slice A l.length c, .int .i64 lev] w (NewCs w (r + 1) (l.map (copyCl (copyC r))))
  clear hx ih hlev hr
  go_enter Tryz.func31, Tryz.ntmps31
  go_upto_region 4 with fail
  generalize hW : World.alloc (World.alloc _ _) _ = W
  obtain ⟨l0, c1, z1, hb, hz, hbk⟩ : W.cell? ⟨w.heap.size, 0, none⟩ = some (.int .i64 lev) ∧ W.cell? ⟨w.heap.size + 1, 0, none⟩ = some .nilFunc ∧ W.frozen? ⟨w.heap.size + 1, 0, none⟩ = false ∧ Below w.heap.size w W ∧ W.heap.size = w.heap.size + 1 + 1 ∧ W.heap[w.heap.size + 1]? = some (.cells #[.nilFunc] 87 (0, 0)) := by
    subst hW
    have hh := heap_alloc_new (w.alloc (.cells #[.int .i64 lev] 3)) (.cells #[.nilFunc] 87)
    rw [size_alloc] at hh
    refine ⟨?_, ?_, ?_, below_new2 _ _ _, by simp, hh⟩
    · refine cell_below (below_new _ _) ?_ (by simp)
      rw [World.cell?_alloc_at _ _ _ _ rfl]; rfl
    · rw [World.cell?_alloc_at _ _ _ _ (by simp)]; rfl
    · unfold World.frozen?; rw [hh]; simp
  clear hW
  rw [run_store_funcL]
  unfold stored
  simp only [c1, z1]
  go_upto_region 4 with fail
  obtain ⟨V, hV⟩ : ∃ V, V = World.setCell W ⟨w.heap.size + 1, 0, none⟩ (.func (.func 52) #[] #[.pointer (some ⟨w.heap.size, 0, none⟩)]) := ⟨_, rfl⟩
  rw [← hV]
  obtain ⟨l0, f0, hb, hz⟩ : V.cell? ⟨w.heap.size, 0, none⟩ = some (.int .i64 lev) ∧ V.cell? ⟨w.heap.size + 1, 0, none⟩ = some (.func (.func 52) #[] #[.pointer (some ⟨w.heap.size, 0, none⟩)]) ∧ Below w.heap.size w V ∧ V.heap.size = w.heap.size + 1 + 1 := by
    subst hV
    refine ⟨?_, ?_, hb.setCell (p := ⟨w.heap.size + 1, 0, none⟩) (by show w.heap.size ≤ w.heap.size + 1; omega) _, by simpa [World.setCell] using hz⟩
    · exact (World.cell?_of_block (w := W) (a := ⟨w.heap.size, 0, none⟩) (Below.heap_setCell W ⟨w.heap.size + 1, 0, none⟩ _ _ (by simp))).trans l0
    · simp [World.setCell, World.cell?, Array.getElem?_modify, hbk]
  clear hV c1 z1 hbk
  have HB := Lib.hid hb
  have CT := Lib.hid (eachC_any 55 entCopyC #[.pointer (some ⟨w.heap.size + 1, 0, none⟩)] (copyCl (copyC r)) (r + 1) V d (closure_copyC r IH.out HR.out w.heap.size (w.heap.size + 1) V lev HL.out (by omega) l0 (by omega) f0 d) A c l (HX.out.next hb))
  generalize hE : l.map (copyCl (copyC r)) = m at CT
  have HE := Lib.hid hE
  clear hb hz l0 f0 hE
  go_wp2_with fail
  refine CT.out.mono ?_
  rintro e w2 hn
  obtain ⟨D, rfl, h1, h2, h3⟩ := hn.under HB.out
  have H1 := Lib.hid h1
  have H2 := Lib.hid h2
  have H3 := Lib.hid h3
  clear hn CT h1 h2 h3
  go_wp2
  go_ret
  exact ⟨D, by rw [HE.out]; rfl, H1.out, by rw [HE.out]; exact H2.out, by rw [HE.out]; exact H3.out⟩
theorem copyAtC_any : ∀ r, CopyAtC r
  | 0 => copyAtC_zero
  | r + 1 => copyAtC_succ r (copyAtC_any r)
set_option maxHeartbeats 800000 in
theorem tcopy_any (w : World) (d : Nat) (A : Option Addr) (c : Nat) (l : List C) (hx : Ch w 0 w.heap.size d A c l) :
    Calls Tryz.prog 18 #[.slice A l.length c] w (NewCs w 11 (copyC 11 l)) := by
  have CT := Lib.hid (copyAtC_any 11 w d A c l 1 (by omega) (by omega) hx)
  generalize copyC 11 l = m at *
  clear hx
  go_enter Tryz.func18, Tryz.ntmps18
  go_wp2_with fail
  refine CT.out.mono ?_
  rintro e w2 ⟨D, rfl, h1, h2, h3⟩
  have H1 := Lib.hid h1
  have H2 := Lib.hid h2
  have H3 := Lib.hid h3
  clear CT h1 h2 h3
  go_wp2
  go_ret
  exact ⟨D, rfl, H1.out, H2.out, H3.out⟩
end Go.Proofs.YtiiopbcihieblaaGreatDoor

