/- The document's Pick; what is looked at; the same answers, plain. -/
import Derived.Test.YtebkkjfeikpfgaaSL
namespace Go.Proofs.Ytebkkjfeikpfgaa
open Go.RowKit Go.Sort
set_option maxRecDepth 100000
attribute [local go_sem ↓] Go.wp_at_zero Go.wp_at_succ

theorem fitA_eq (ls : List ByteArray) (b : ByteArray) : fitA ls b = (fitL ls b || decide (ls = [])) := by
  unfold fitA fitL
  have e : (fun s : ByteArray => s.toList == b.toList) = (fun s => s.data.toList == b.data.toList) := by
    funext s; rw [ByteArray.toList_eq, ByteArray.toList_eq]
  rw [e]
  congr 1
  simp [List.length_eq_zero_iff]
theorem map_filter' {α β : Type} (f : α → β) (q : β → Bool) : ∀ l : List α, (l.map f).filter q = (l.filter fun a => q (f a)).map f
  | [] => rfl
  | x :: r => by
    have ih := map_filter' f q r
    rw [List.map_cons, List.filter_cons, List.filter_cons, ih]
    split <;> rfl
theorem filter_two {α : Type} (p q : α → Bool) (l : List α) : (l.filter p).filter q = l.filter fun a => p a && q a := by
  rw [List.filter_filter]
  congr 1
  funext a
  exact Bool.and_comm _ _
/-- One side, with labels. -/
theorem side_out (es : List TA) (id : Int) (ls : List ByteArray) (q : SP → Bool) (hq : ∀ t : TA, q (outO t.tv') = fitA ls t.label) : ((spk (es.map TA.tv') id 1).filter q) = (es.filter (outP id ls)).map fun t => outO t.tv' := by
  unfold spk
  rw [if_pos rfl, map_filter', List.filter_map, map_filter', filter_two, List.map_map]
  congr 1
  congr 1
  funext t
  show (_ && _) = (_ && _)
  rw [← hq t]; rfl
theorem side_in (es : List TA) (id : Int) (ls : List ByteArray) (q : SP → Bool) (hq : ∀ t : TA, q (inI t.tv') = fitA ls t.label) : ((spk (es.map TA.tv') id 2).filter q) = (es.filter (inP id ls)).map fun t => inI t.tv' := by
  unfold spk
  rw [if_neg (by decide), if_pos rfl, map_filter', List.filter_map, map_filter', filter_two, List.map_map]
  congr 1
  congr 1
  funext t
  show (_ && _) = (_ && _)
  rw [← hq t]; rfl
theorem seen_filter (S : Int → Int → List SP) (id way : Int) (ls : List ByteArray) : seenS S id way ls = (baseS S id way).filter fun s => fitL ls s.l || decide (ls = []) := by
  unfold seenS
  split
  · rename_i h
    rw [List.filter_eq_self.2]
    intro s _
    simp [h]
  · rename_i h
    congr 1
    funext s
    simp [h]
theorem ref_seen (es : List TA) (id way : Int) (ls : List ByteArray) : refE es id way ls = (seenS (spk (es.map TA.tv')) id way ls).map (fun s => s.e) ∧ refV es id way ls = (seenS (spk (es.map TA.tv')) id way ls).map (fun s => s.o) := by
  have ho := side_out es id ls (fun s => fitL ls s.l || decide (ls = [])) (fun t => (fitA_eq ls t.label).symm)
  have hi := side_in es id ls (fun s => fitL ls s.l || decide (ls = [])) (fun t => (fitA_eq ls t.label).symm)
  rw [seen_filter]
  unfold baseS refE refV
  by_cases h3 : way = 3
  · subst h3
    rw [if_pos rfl, List.filter_append, ho, hi]
    simp only [List.map_append, List.map_map]
    exact ⟨rfl, rfl⟩
  · rw [if_neg h3]
    have e3 : (way == 3) = false := by simp [h3]
    by_cases h1 : way = 1
    · subst h1
      rw [ho]
      simp only [List.map_map]
      exact ⟨List.append_nil _, List.append_nil _⟩
    · by_cases h2 : way = 2
      · subst h2
        rw [hi]
        simp only [List.map_map]
        exact ⟨rfl, rfl⟩
      · have e1 : (way == 1) = false := by simp [h1]
        have e2 : (way == 2) = false := by simp [h2]
        rw [e1, e2, e3]
        have : spk (es.map TA.tv') id way = [] := by unfold spk; rw [if_neg h1, if_neg h2]
        rw [this]
        exact ⟨rfl, rfl⟩
/-- Those that are the same as far as the store looks at them. -/
theorem pick_tv {a b : List TA} (h : a.map TA.tv' = b.map TA.tv') (ids : List Int) : pickL a ids = pickL b ids := by
  have h1 : a.map (fun t => t.id) = b.map (fun t => t.id) := by
    have := congrArg (List.map TV.id) h
    rwa [List.map_map, List.map_map] at this
  have h2 : ∀ id, a.any (idB id) = b.any (idB id) := fun id => by
    have := congrArg (fun l : List TV => l.any (fun t => t.id == id)) h
    simp only [List.any_map] at this
    exact this
  unfold pickL
  rw [h1]
  simp only [h2]
set_option maxHeartbeats 4000000 in
theorem refPick_any (w : World) (d : Nat) (A : Option Addr) (c : Nat) (ts : List TA) (h : TRow w d A c ts) (B : Option Addr) (cb : Nat) (ids : List Int) (hI : IRow w B cb ids) :
    Calls Try.prog 24 #[.slice A ts.length c, .slice B ids.length cb] w (NumPost w (pickL ts ids)) := by
  have hbig : ts.length ≤ 2199023255488 := h.big
  by_cases hz : ids = []
  · subst hz
    have EP : Hid (pickL ts [] = ts.map fun t => t.id) := Lib.hid (by unfold pickL; rw [if_pos rfl])
    have H := Lib.hid h
    clear h hI
    obtain ⟨n, hn⟩ : ∃ n, n = ts.length := ⟨_, rfl⟩
    rw [← hn] at hbig ⊢
    have HN := Lib.hid hn
    clear hn
    go_enter Try.func24, Try.ntmps24
    go_wp2_with fail
    go_loopw [5, 6] (fun al i wr => ∃ (k : Nat) (A' : Option Addr) (c' : Nat), k ≤ n ∧ i = .int .i64 k ∧ al = .slice A' k c' ∧ Hid (Below w.heap.size w wr) ∧ Hid (IOwn wr w.heap.size A' k c' ((ts.take k).map fun t => t.id))) (fun _ i _ => n - (intOf i).toNat)
    case atStart => exact ⟨0, _, _, by omega, rfl, rfl, Lib.hid (Below.refl _ _), Lib.hid (iown_nil _ _)⟩
    case round =>
      obtain ⟨k, A', c', hk, rfl, rfl, hbel, hO⟩ := hrel
      by_cases hlt : k < n
      · obtain ⟨b, off, t, rfl, hb, ht, q5, -⟩ := (H.out.next hbel.out).elem (k := k) (by have := HN.out; omega)
        obtain ⟨q0, q1, q2, q3, q4⟩ := q5
        have klt : (k : Int) < (n : Int) := by omega
        have TM := Lib.hid (take_map (fun t : TA => t.id) ts k ht)
        clear ht
        have hI := Lib.hid (one_box wr (.int .i64 t.id) 3)
        have HO2 := Lib.hid (hO.out.next (below_new wr (.cells #[.int .i64 t.id] 3)))
        have B2 := Lib.hid (bnext hbel.out (below_new wr (.cells #[.int .i64 t.id] 3)))
        have hkb : k + 1 ≤ 17592186044416 := by omega
        go_wp2_with (at_builtin; refine append_oneI rfl _ _ rfl w.heap.size HO2.out rfl _ _ rfl hI.out hkb B2.out.size ?_; intro A2 c2 w2 hown2 hg2; have OE := Lib.hid hown2; have BE := Lib.hid (grown_below (Nat.le_refl _) B2.out hg2 (own_block HO2.out)); clear hown2 hg2)
        rw [← TM.out] at OE
        go_roundw
        case rel => exact ⟨k + 1, A2, c2, by omega, by go_num, rfl, BE, OE⟩
        case measure => simp [intOf]; omega
      · obtain rfl : k = n := by omega
        have hO' := hO.out
        rw [List.take_of_length_le (by have := HN.out; omega)] at hO'
        have OE := Lib.hid hO'
        clear hO'
        go_wp2
        go_ret
        exact ⟨A', c', by rw [EP.out, List.length_map, ← HN.out]; rfl, by rw [EP.out, List.length_map, ← HN.out]; exact OE.out, hbel.out⟩
  · have EP : Hid (pickL ts ids = ids.filter fun id => ts.any (idB id)) := Lib.hid (by unfold pickL; rw [if_neg hz])
    have hpos : 0 < ids.length := List.length_pos_iff.2 hz
    have hbi : ids.length ≤ 17592186044416 := hI.big
    have CH := Lib.hid (fun (W : World) (hb : Below w.heap.size w W) (x : Int) => refHas_any W d A c ts (h.next hb) x)
    have H := Lib.hid hI
    clear h hI hz
    obtain ⟨n, hn⟩ : ∃ n, n = ids.length := ⟨_, rfl⟩
    rw [← hn] at hbi hpos ⊢
    have HN := Lib.hid hn
    clear hn
    have e0 : ((n : Int) == 0) = false := beq_eq_false_iff_ne.2 (by omega)
    have e1 : (n == 0) = false := beq_eq_false_iff_ne.2 (by omega)
    go_enter Try.func24, Try.ntmps24
    go_wp2_with fail
    go_loopw [5, 7] (fun al i wr => ∃ (k m : Nat) (A' : Option Addr) (c' : Nat), k ≤ n ∧ i = .int .i64 k ∧ al = .slice A' m c' ∧ m ≤ k ∧ Hid (Below w.heap.size w wr) ∧ Hid (IOwn wr w.heap.size A' m c' ((ids.take k).filter fun id => ts.any (idB id)))) (fun _ i _ => n - (intOf i).toNat)
    case atStart => exact ⟨0, 0, _, _, by omega, rfl, rfl, by omega, Lib.hid (Below.refl _ _), Lib.hid (iown_nil _ _)⟩
    case round =>
      obtain ⟨k, m, A', c', hk, rfl, rfl, hmk, hbel, hO⟩ := hrel
      by_cases hlt : k < n
      · obtain ⟨b, o, x, rfl, hb, hx, q0⟩ := (H.out.next hbel.out).elem (k := k) (by have := HN.out; omega)
        have FN := Lib.hid (filter_next (fun id => ts.any (idB id)) ids k hx)
        have klt : (k : Int) < (n : Int) := by omega
        have HX := Lib.hid hx
        clear hx
        go_wp2_with fail
        refine (CH.out wr hbel.out x).mono ?_
        rintro e w1 ⟨rfl, hb1⟩
        have HB := Lib.hid (bnext hbel.out hb1)
        have HO2 := Lib.hid (hO.out.next hb1)
        have q1 := cell_below hb1 q0 hb
        clear hb1 q0
        cases hp : ts.any (idB x)
        · have FP := Lib.hid hp
          clear hp
          go_wp2
          go_roundw
          case rel => exact ⟨k + 1, m, A', c', by omega, by go_num, rfl, by omega, HB, Lib.hid (by rw [FN.out, FP.out]; simpa using HO2.out)⟩
          case measure => simp [intOf]; omega
        · have FP := Lib.hid hp
          have hm1 : m + 1 ≤ 17592186044416 := by omega
          have hI := Lib.hid (one_box w1 (.int .i64 x) 3)
          have HO3 := Lib.hid (HO2.out.next (below_new w1 (.cells #[.int .i64 x] 3)))
          have B3 := Lib.hid (bnext HB.out (below_new w1 (.cells #[.int .i64 x] 3)))
          clear hp
          go_wp2_with (at_builtin; refine append_oneI rfl _ _ rfl w.heap.size HO3.out rfl _ _ rfl hI.out hm1 B3.out.size ?_; intro A2 c2 w2 hown2 hg2; have OW2 := Lib.hid hown2; have BG := Lib.hid (grown_below (Nat.le_refl _) B3.out hg2 (own_block HO3.out)); clear hown2 hg2)
          go_roundw
          case rel => exact ⟨k + 1, m + 1, A2, c2, by omega, by go_num, rfl, by omega, BG, Lib.hid (by rw [FN.out, FP.out]; exact OW2.out)⟩
          case measure => simp [intOf]; omega
      · obtain rfl : k = n := by omega
        have hO' := hO.out
        rw [List.take_of_length_le (by have := HN.out; omega)] at hO'
        have OE := Lib.hid hO'
        have LE := Lib.hid hO'.len
        clear hO'
        go_wp2
        go_ret
        exact ⟨A', c', by rw [EP.out, LE.out]; rfl, by rw [EP.out, LE.out]; exact OE.out, hbel.out⟩
/-- Are these labels no more than is looked at? -/
def shortB (ls : List ByteArray) : Bool := decide (ls.length ≤ 50) && ls.all fun s => decide (s.size ≤ 300)
set_option maxHeartbeats 1600000 in
theorem short_any (w : World) (A : Option Addr) (c : Nat) (ls : List ByteArray) (h : LRow w A c ls) : Calls Try.prog 11 #[.slice A ls.length c] w fun e w' => e = .returned (.bool (shortB ls)) ∧ w' = w := by
  have hbig : ls.length ≤ 8796093022208 := h.big
  have H := Lib.hid h
  clear h
  obtain ⟨n, hn⟩ : ∃ n, n = ls.length := ⟨_, rfl⟩
  rw [← hn] at hbig ⊢
  have HN := Lib.hid hn
  clear hn
  go_enter Try.func11, Try.ntmps11
  go_wp2
  go_loop [3] (fun i => ∃ k : Nat, k ≤ n ∧ i = .int .i64 k ∧ Hid ((ls.take k).all (fun s => decide (s.size ≤ 300)) = true)) (fun i => n - (intOf i).toNat)
  case atStart => exact ⟨0, by omega, rfl, Lib.hid rfl⟩
  case round =>
    obtain ⟨k, hk, rfl, hA⟩ := hrel
    by_cases hlt : k < n
    · obtain ⟨g, off, x, rfl, hb, hx, q0⟩ := H.out.elem (k := k) (by have := HN.out; omega)
      have klt : (k : Int) < (n : Int) := by omega
      have HX := Lib.hid hx
      have xsz := H.out.sz x (List.mem_of_getElem? hx)
      unfold maxLen at xsz
      clear hx
      by_cases hp : x.size ≤ 300
      · have NX : Hid ((ls.take (k + 1)).all (fun s => decide (s.size ≤ 300)) = true) := Lib.hid (by rw [List.take_add_one, HX.out, List.all_append, hA.out]; simp [hp])
        have hp2 : ¬ (300 : Int) < (x.size : Int) := by omega
        go_wp2
        go_round
        case rel => exact ⟨k + 1, by omega, by go_num, NX⟩
        case measure => simp [intOf]; omega
      · have YX : Hid (shortB ls = false) := Lib.hid (by
          unfold shortB
          have : ls.all (fun s => decide (s.size ≤ 300)) = false := by
            rw [Bool.eq_false_iff]
            intro h
            have := List.all_eq_true.1 h x (List.mem_of_getElem? HX.out)
            simp at this
            omega
          rw [this]; simp)
        have hp2 : (300 : Int) < (x.size : Int) := by omega
        go_wp2
        go_ret
        exact ⟨by rw [YX.out]; rfl, rfl⟩
    · obtain rfl : k = n := by omega
      have hA' := hA.out
      rw [List.take_of_length_le (by have := HN.out; omega)] at hA'
      have EX : Hid (shortB ls = decide (k ≤ 50)) := Lib.hid (by unfold shortB; rw [hA', ← HN.out]; simp)
      clear hA'
      by_cases h0 : k ≤ 50
      · have E2 : Hid (decide (k ≤ 50) = true) := Lib.hid (by simp [h0])
        have h1 : (k : Int) ≤ 50 := by omega
        go_wp2
        go_ret
        exact ⟨by rw [EX.out, E2.out]; rfl, rfl⟩
      · have E2 : Hid (decide (k ≤ 50) = false) := Lib.hid (by simp [h0])
        have h1 : ¬ (k : Int) ≤ 50 := by omega
        go_wp2
        go_ret
        exact ⟨by rw [EX.out, E2.out]; rfl, rfl⟩
end Go.Proofs.Ytebkkjfeikpfgaa
