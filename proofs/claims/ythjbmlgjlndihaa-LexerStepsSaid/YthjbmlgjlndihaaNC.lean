/- The document's tokens; are two rows of tokens the same? -/
import Derived.Test.YthjbmlgjlndihaaNB
import Derived.Deep.CutBlock
namespace Go.Proofs.Ythjbmlgjlndihaa
set_option maxRecDepth 100000
open Go.RowKit Go.Sort

theorem BRow.at2 {w : World} {A : Option Addr} {c : Nat} {l : Bs} (h : BRow w A c l) {k : Nat} {x : UInt8} (hx : l[k]? = some x) : ∃ b off, A = some ⟨b, off, none⟩ ∧ b < w.heap.size ∧ w.cell? ⟨b, off + k, none⟩ = some (u8v x) := by
  have hlt := (List.getElem?_eq_some_iff.1 hx).1
  obtain ⟨b, off, e, hb, hc⟩ := h.at_ (by omega)
  exact ⟨b, off, e, hb, hc k x hx⟩
theorem cls_six (c : UInt8) : (blankB c = true ∧ clsN c = 6) ∨ (blankB c = false ∧ ((clsN c : Int) == 6) = false) :=
  all_bytes (p := fun c => (blankB c = true ∧ clsN c = 6) ∨ (blankB c = false ∧ ((clsN c : Int) == 6) = false)) (by decide) c
theorem town_shape {w : World} {base n : Nat} {v : Value} {l : List TK} (h : w.ownsRow base 32 4 v n (flatT l)) : ∃ A c, v = .slice A n c := by
  rcases h.2 with ⟨h1, h2⟩ | ⟨g, cap, cur, h1, _⟩
  · exact ⟨none, 0, by rw [h1, h2]⟩
  · exact ⟨_, _, h1⟩
theorem tok_new4 (w : World) (t : TK) : Tok (w.alloc (.cells #[.int .i64 t.k, .int .i64 t.p, .string (bs t.s), .int .i64 t.n] 32)) w.heap.size t := Tok.new w t
theorem cell_tok_new2 (w : World) (o : Obj) (t : TK) : ∀ j u, (flatT [t])[j]? = some u → ((w.alloc o).alloc (.cells #[.int .i64 t.k, .int .i64 t.p, .string (bs t.s), .int .i64 t.n] 32)).cell? ((⟨w.heap.size + 1, 0, none⟩ : Addr).add j) = some u := by
  have := cell_tok_new (w.alloc o) t
  rw [World.size_alloc] at this
  exact this
theorem rall_end {l : Bs} (hl : l.length ≤ 20000) {pre : List IT} (h : its l 0 = pre) (hok : ∀ y ∈ pre, y.ok = true) : allL l = (pre.map (·.t), 0, 0) := by
  rw [all_ok hl (by rw [h]; exact hok), h]

set_option maxHeartbeats 6400000 in
theorem rall_any (l : Bs) (n c : Nat) (A : Option Addr) (w : World) (hA : BRow w A c l) (hn : n = l.length) (hs : n ≤ 4000) : Calls Try.prog 10 #[.slice A n c] w (AllPost w l) := by
  have HN := Lib.hid hn
  have HA := Lib.hid (fun W' (hb : Below w.heap.size w W') => hA.next hb)
  obtain ⟨i0, hi0, hz0, hz1, hz2⟩ := info_parts info32
  clear hA hn
  go_enter Try.func10, Try.ntmps10
  go_wp2_with fail
  go_loopw [5, 6] (fun v i wr => ∃ (pre : List IT) (lq cap k : Nat) (Aq : Option Addr), v = .slice Aq lq cap ∧ i = .int .i64 k ∧ k ≤ n ∧ lq ≤ k ∧ Hid (its l 0 = pre ++ its (l.drop k) k) ∧ Hid (∀ y ∈ pre, y.ok = true) ∧ Hid (TOwn wr w.heap.size Aq lq cap (pre.map (·.t))) ∧ Hid (Below w.heap.size w wr)) (fun _ i _ => n - (RowKit.intOf i).toNat)
  case atStart => exact ⟨[], 0, 0, 0, none, rfl, rfl, by omega, by omega, Lib.hid (by rw [List.drop_zero]; rfl), Lib.hid (by simp), Lib.hid (town_nil _ _), Lib.hid (Below.refl _ _)⟩
  case round =>
    obtain ⟨pre, lq, cap, k, Aq, rfl, rfl, hk, hlq, hits, hok, hown, hbel⟩ := hrel
    by_cases hlt : k < n
    · obtain ⟨x, hx⟩ : ∃ x, l[k]? = some x := ⟨_, List.getElem?_eq_getElem (by have := HN.out; omega)⟩
      obtain ⟨bq, oq, rfl, hbq, hc⟩ := (HA.out wr hbel.out).at2 hx
      have hkn : (k : Int) < (n : Int) := by omega
      have HD := Lib.hid (drop_get l k x hx)
      have HCX := Lib.hid (class_any x wr)
      rcases cls_six x with ⟨hb6, hc6⟩ | ⟨hb6, hc6⟩
      · have HI2 := Lib.hid (show its l 0 = pre ++ its (l.drop (k + 1)) (k + 1) by rw [hits.out, HD.out, its_blank x _ k hb6])
        rw [hc6] at HCX
        clear hx hits HD hb6 hc6
        go_wp2_with fail
        refine HCX.out.mono ?_
        rintro e w2 ⟨rfl, hb2⟩
        have O2 := Lib.hid (hown.out.next hb2)
        have Z2 := Lib.hid (hbel.out.trans (hb2.mono hbel.out.size))
        clear hb2
        go_wp2_with fail
        have hgo : ∃ (pre' : List IT) (lq' cap' k' : Nat) (Aq' : Option Addr), Value.slice Aq lq cap = .slice Aq' lq' cap' ∧ Value.int .i64 ((k : Int) + 1) = .int .i64 k' ∧ k' ≤ n ∧ lq' ≤ k' ∧ Hid (its l 0 = pre' ++ its (l.drop k') k') ∧ Hid (∀ y ∈ pre', y.ok = true) ∧ Hid (TOwn w2 w.heap.size Aq' lq' cap' (pre'.map (·.t))) ∧ Hid (Below w.heap.size w w2) :=
          ⟨pre, lq, cap, k + 1, Aq, rfl, by go_num, by omega, by omega, HI2, hok, O2, Z2⟩
        refine ⟨hgo, ?_⟩
        simp [RowKit.intOf]; omega
      · have HO := Lib.hid (fun W' (hb : Below w.heap.size w W') => one_any l n k c _ W' (HA.out W' hb) HN.out hs hlt x hx hb6)
        have HF : Hid ((∀ t m, firstP (l.drop k) = some (t, m) → 1 ≤ m ∧ m ≤ n - k ∧ its (l.drop k) k = ⟨t.at_ (k : Nat), true⟩ :: its (l.drop (k + m)) (k + m)) ∧ (firstP (l.drop k) = none → its (l.drop k) k = [⟨TK.zero.at_ (k : Nat), false⟩])) := Lib.hid ⟨fun t m h => by
            have hl := first_len (l.drop k) (by rw [List.length_drop]; have := HN.out; omega) t m h
            rw [List.length_drop] at hl
            refine ⟨hl.1, by have := HN.out; omega, ?_⟩
            rw [HD.out] at h ⊢
            rw [its_some x _ k hb6 t m h, ← HD.out, List.drop_drop], fun h => by
            rw [HD.out] at h ⊢
            exact its_none x _ k hb6 h⟩
        generalize firstP (l.drop k) = FP at HO HF
        generalize clsN x = cx at HCX hc6
        clear hx HD hb6
        go_wp2_with fail
        refine HCX.out.mono ?_
        rintro e w2 ⟨rfl, hb2⟩
        have O2 := Lib.hid (hown.out.next hb2)
        have Z2 := Lib.hid (hbel.out.trans (hb2.mono hbel.out.size))
        clear hb2 hc
        go_wp2_with fail
        refine (HO.out w2 Z2.out).mono ?_
        rintro e w3 ⟨t, x3, rfl, hb3, hres⟩
        have O3 := Lib.hid (O2.out.next hb3)
        have Z3 := Lib.hid (Z2.out.trans (hb3.mono Z2.out.size))
        clear hb3
        rcases hres with ⟨t0, m, hfp, ht, hx3⟩ | ⟨hfp, hx3⟩
        · obtain ⟨hm1, hm2, hit⟩ := HF.out.1 t0 m hfp
          have HI2 := Lib.hid (show its l 0 = (pre ++ [⟨t, true⟩]) ++ its (l.drop (k + m)) (k + m) by rw [hits.out, hit, ht]; simp)
          have hx30 : ¬ x3 < 0 := by omega
          have HX3 := Lib.hid (show x3 = ((k + m : Nat) : Int) by omega)
          have T4 := Lib.hid (tok_new4 w3 t)
          have Z4 := Lib.hid (Z3.out.alloc Z3.out.size (.cells #[.int .i64 t.k, .int .i64 t.p, .string (bs t.s), .int .i64 t.n] 32))
          have O4 := Lib.hid (O3.out.next (below_new w3 (.cells #[.int .i64 t.k, .int .i64 t.p, .string (bs t.s), .int .i64 t.n] 32)))
          clear hits hfp ht hx3 hit HF HO
          obtain ⟨c0, c1, c2, c3⟩ := T4.out.cells
          simp only [Nat.zero_add] at c0 c1 c2 c3
          go_wp2_with (at_builtin; refine wpList_append_own _ rfl _ _ 24 rfl w.heap.size 32 i0 (.agg #[.int .i64 0, .int .i64 0, .string ⟨#[]⟩, .int .i64 0]) 4 40 Try.underlying24 hi0 hz0 hz1 hz2 rfl (by decide) _ _ _ rfl (show World.ownsRow _ w.heap.size 32 4 (.slice Aq lq cap) lq (flatT (pre.map (·.t))) from O4.out.next (below_new _ _)) ⟨w3.heap.size + 1, 0, none⟩ 1 1 (flatT [t]) rfl rfl (cell_tok_new2 w3 _ t) (flatT_cell t) (by unfold maxLen; omega) (by omega) (by have := Z4.out.size; simp at this ⊢; omega) ?_; intro v' w5 hown' hgrow _; obtain ⟨A6, c6, rfl⟩ := town_shape (show w5.ownsRow w.heap.size 32 4 v' (lq + 1) (flatT (pre.map (·.t) ++ [t])) by rw [flatT_app]; exact hown'); have O6 : Hid (TOwn w5 w.heap.size A6 (lq + 1) c6 ((pre ++ [(⟨t, true⟩ : IT)]).map (·.t))) := Lib.hid (by unfold TOwn; rw [List.map_append, List.map_singleton, flatT_app]; exact hown'); have Z6 : Hid (Below w.heap.size w w5) := Lib.hid (grown_below (Nat.le_refl _) (Z4.out.alloc Z4.out.size _) hgrow (own_block O4.out)); clear hown' hgrow)
          refine ⟨⟨pre ++ [⟨t, true⟩], lq + 1, c6, k + m, A6, rfl, by rw [HX3.out], by omega, by omega, HI2, Lib.hid ?_, O6, Z6⟩, ?_⟩
          · intro y hy
            rcases List.mem_append.1 hy with h | h
            · exact hok.out y h
            · simp at h; rw [h]
          · rw [HX3.out]
            simp [RowKit.intOf]; omega
        · have hit := HF.out.2 hfp
          have HI2 := Lib.hid (show its l 0 = pre ++ [⟨TK.zero.at_ (k : Nat), false⟩] by rw [hits.out, hit])
          have hx30 : x3 < 0 := by omega
          have HR := Lib.hid (all_bad (by have := HN.out; omega) HI2.out hok.out rfl)
          clear hits hfp hx3 hit HF HO HI2
          have Z4 := Lib.hid (Z3.out.alloc Z3.out.size (.cells #[.int .i64 t.k, .int .i64 t.p, .string (bs t.s), .int .i64 t.n] 32))
          go_wp2
          refine bodyPost_ret (v := .tuple #[.slice none 0 0, .int .i64 (k : Int), .int .i64 30]) (by simp [results, Try.results10, go_sem]) rfl ?_
          unfold AllPost
          rw [HR.out]
          exact ⟨none, 0, rfl, town_nil _ _, Z4.out⟩
    · have hend := hits.out
      rw [List.drop_eq_nil_of_le (by have := HN.out; omega), its_nil, List.append_nil] at hend
      have HR := Lib.hid (rall_end (by have := HN.out; omega) hend hok.out)
      have HM := Lib.hid (show (pre.map (·.t)).length = lq from hown.out.len)
      have hkn : (n : Int) ≤ (k : Int) := by omega
      clear hend hits
      go_wp2
      refine bodyPost_ret (v := .tuple #[.slice Aq lq cap, .int .i64 0, .int .i64 0]) (by simp [results, Try.results10, go_sem]) rfl ?_
      unfold AllPost
      rw [HR.out]
      exact ⟨Aq, cap, by rw [HM.out], by rw [HM.out]; exact hown.out, hbel.out⟩
theorem rall_at {l : Bs} {n m : Nat} {ts : List TK} {p r : Int} (hl : n ≤ 4000) (hn : n = l.length) (hR : allL l = (ts, p, r)) (hm : m = ts.length) {W : World} {A : Option Addr} {c : Nat} (h : BRow W A c l) :
    Calls Try.prog 10 #[.slice A n c] W (AP W ts m p r) := by
  subst hm
  refine (rall_any l n c A W h hn hl).mono fun e w' h1 => ?_
  exact all_post hR h1
end Go.Proofs.Ythjbmlgjlndihaa
