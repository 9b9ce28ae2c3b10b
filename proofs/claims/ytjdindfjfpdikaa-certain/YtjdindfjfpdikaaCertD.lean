import Derived.Test.YtjdindfjfpdikaaCertC
import Derived.Deep.RegionHeld
namespace Go.Proofs.Ytjdindfjfpdikaa
open Go.RowKit

theorem cell_other {u : World} {b k c o : Nat} {v : Value} (h : ¬ c = b) : (u.setCell ⟨b, k, none⟩ v).drew.cell? ⟨c, o, none⟩ = u.cell? ⟨c, o, none⟩ := by
  show (u.setCell ⟨b, k, none⟩ v).cell? _ = _
  simp only [World.cell?, Below.heap_setCell u ⟨b, k, none⟩ v c (by simpa using h)]

theorem wrap_small {y : Int} (h0 : -100 ≤ y) (h1 : y ≤ 100) : IntKind.i64.wrap y = y := by
  show (if (true && decide (y % 18446744073709551616 ≥ 9223372036854775808)) = true then y % 18446744073709551616 - 18446744073709551616 else y % 18446744073709551616) = y
  by_cases h : y % 18446744073709551616 ≥ 9223372036854775808
  · rw [if_pos (by simpa using h)]; omega
  · rw [if_neg (by simpa using h)]; omega

theorem wrap_mid {y : Int} (h0 : -1000000 ≤ y) (h1 : y ≤ 1000000) : IntKind.i64.wrap y = y := by
  show (if (true && decide (y % 18446744073709551616 ≥ 9223372036854775808)) = true then y % 18446744073709551616 - 18446744073709551616 else y % 18446744073709551616) = y
  by_cases h : y % 18446744073709551616 ≥ 9223372036854775808
  · rw [if_pos (by simpa using h)]; omega
  · rw [if_neg (by simpa using h)]; omega

theorem small_wrap {N : Nat} {x1 x2 x3 x4 : Int} (h : (0 ≤ x4 ∧ x4 < 9) ∧ (0 ≤ x3 ∧ x3 < 4) ∧ (0 ≤ x2 ∧ x2 < (N : Int)) ∧ (0 ≤ x1 ∧ x1 < (N : Int)) ∧ True) : Small1 N ⟨x1, x2, x3, IntKind.i64.wrap (x4 - 3)⟩ := by
  rw [wrap_small (by omega) (by omega)]
  exact ⟨h.2.2.2.1, h.2.2.1, ⟨h.2.1.1, by show x3 ≤ 3; omega⟩, by show -3 ≤ x4 - 3; omega, by show x4 - 3 ≤ 5; omega⟩
theorem small_of {N : Nat} {x1 x2 x3 x4 : Int} (h : (0 ≤ x4 ∧ x4 < 9) ∧ (0 ≤ x3 ∧ x3 < 4) ∧ (0 ≤ x2 ∧ x2 < (N : Int)) ∧ (0 ≤ x1 ∧ x1 < (N : Int)) ∧ True) : Small1 N ⟨x1, x2, x3, x4 - 3⟩ :=
  ⟨h.2.2.2.1, h.2.2.1, ⟨h.2.1.1, by show x3 ≤ 3; omega⟩, by show -3 ≤ x4 - 3; omega, by show x4 - 3 ≤ 5; omega⟩

/-- A network, a flow of it, a rival and prices. -/
structure Made (w W : World) (N la sb fb rb pb g : Nat) (A : Nat → Ar) (F R P : Nat → Int) : Prop where
  below : Below w.heap.size w W
  nodes : 2 ≤ N ∧ N ≤ 5
  arcsN : 1 ≤ la ∧ la ≤ 8
  small : ∀ i, i < la → Small1 N (A i)
  arcs : Arcs W (some ⟨g, 0, none⟩) la A
  flow : Nums W fb la F
  supply : Nums W sb N (sup A F la)
  rival : Nums W rb la R
  prices : Nums W pb N P
  capF : ∀ m, m < la → 0 ≤ F m ∧ F m ≤ (A m).c
  capR : ∀ m, m < la → 0 ≤ R m ∧ R m ≤ (A m).c
  capP : ∀ m, m < N → -1000000 ≤ P m ∧ P m ≤ 1000000

set_option maxRecDepth 100000 in
set_option maxHeartbeats 8000000 in
theorem net_any (w : World) (p : Option Addr) (len cap : Nat) (hc : Codes w w.heap.size p len) (hlen : len < 1000000000000000) :
    Calls Try.prog 21 #[.slice p len cap] w fun e w' => ∃ (N la sb fb rb pb g ca : Nat) (A : Nat → Ar) (F R P : Nat → Int), e = .returned (.tuple #[.agg #[.int .i64 N, .slice (some ⟨sb, 0, none⟩) N N, .slice (some ⟨g, 0, none⟩) la ca], .slice (some ⟨fb, 0, none⟩) la la, .slice (some ⟨rb, 0, none⟩) la la, .slice (some ⟨pb, 0, none⟩) N N]) ∧ Made w w' N la sb fb rb pb g A F R P := by
  have hc1 : ∀ W, Below w.heap.size w W → Codes W (w.heap.size + 1) p len := fun W hb => by
    rcases hc with h | ⟨sb, off, hp, hs, hh⟩
    · exact Or.inl h
    · exact Or.inr ⟨sb, off, hp, by omega, fun i hi => by obtain ⟨c, h1, h2⟩ := hh i hi; exact ⟨c, (hb.cell (p := ⟨sb, off + i, none⟩) hs).trans h1, h2⟩⟩
  obtain ⟨W1, hW1⟩ : ∃ W1, (w.alloc (.cells #[.int .i64 0, .slice none 0 0, .slice none 0 0] 40)).alloc (.cells #[.slice p len cap, .int .i64 0] 49) = W1 := ⟨_, rfl⟩
  have hb1 : Below w.heap.size w W1 := by rw [← hW1]; exact ((Below.refl _ _).alloc (Nat.le_refl _) _).alloc (by simp) _
  have hz1 : W1.heap.size = w.heap.size + 2 := by rw [← hW1]; simp
  have hR1 : W1.heap[w.heap.size]? = some (.cells #[.int .i64 0, .slice none 0 0, .slice none 0 0] 40) := by
    rw [← hW1, Below.heap_alloc _ _ _ (by simp)]
    exact heap_alloc_new w _
  have hD1 : DiceAt W1 (w.heap.size + 1) p len cap := by
    refine ⟨0, Nat.zero_le _, ?_⟩
    have := heap_alloc_new (w.alloc (.cells #[.int .i64 0, .slice none 0 0, .slice none 0 0] 40)) (.cells #[.slice p len cap, .int .i64 0] 49)
    rw [hW1] at this
    simpa using this
  have A1 := hid' (next_any W1 _ p len cap 4 hD1 (hc1 W1 hb1) hlen (by decide) (by decide))
  have H1 := hid' (And.intro hW1 (And.intro hb1 (And.intro hR1 hz1)))
  have Hc := hid' hc1
  clear hW1 hb1 hR1 hz1 hD1 hc1 hc
  go_enter Try.func21, Try.ntmps21
  go_wp2_with fail
  rw [H1.out.1]
  refine A1.out.mono ?_
  rintro e w2 ⟨v, rfl, hv⟩
  clear A1
  have hz2 : w2.heap.size = w.heap.size + 2 := hv.out.2.2.size.trans H1.out.2.2.2
  have hb2 : Below w.heap.size w w2 := Stir.below H1.out.2.1 hv.out.2.2 (by omega)
  have hR2 : w2.heap[w.heap.size]? = some (.cells #[.int .i64 0, .slice none 0 0, .slice none 0 0] 40) := (hv.out.2.2.block _ (by omega)).trans H1.out.2.2.1
  obtain ⟨N, hN⟩ : ∃ N : Nat, 2 + v = (N : Int) := ⟨(2 + v).toNat, by have := hv.out.1; omega⟩
  have hN2 : 2 ≤ N ∧ N ≤ 5 := by have := hv.out.1; omega
  have hD2 := hv.out.2.1
  have hvb := hv.out.1.1
  have hvt := hv.out.1.2
  go_wp2_with fail
  try rw [hN]
  obtain ⟨W3, hW3⟩ : ∃ W3, w2.alloc (.cells #[.int .i64 N, .slice none 0 0, .slice none 0 0] 40) = W3 := ⟨_, rfl⟩
  have hb23 : Below w2.heap.size w2 W3 := by rw [← hW3]; exact (Below.refl _ _).alloc (Nat.le_refl _) _
  have hz3 : W3.heap.size = w.heap.size + 3 := by rw [← hW3]; simp [hz2]
  have hb3 := beyond hb2 hb23
  have hR3 := (hb23.block w.heap.size (by omega)).trans hR2
  have hD3 : DiceAt W3 (w.heap.size + 1) p len cap := by
    obtain ⟨a, h1, h2⟩ := hD2
    exact ⟨a, h1, (hb23.block _ (by omega)).trans h2⟩
  have hn3 : W3.heap[w.heap.size + 2]? = some (.cells #[.int .i64 N, .slice none 0 0, .slice none 0 0] 40) := by
    rw [← hW3, ← hz2]
    exact heap_alloc_new w2 _
  rw [hW3]
  have A2 := hid' (next_any W3 _ p len cap 8 hD3 (Hc.out W3 hb3) hlen (by decide) (by decide))
  clear hW3 hb23 hD3 hD2 hR2 hb2 hz2 hN hvb hvt hv H1
  refine A2.out.mono ?_
  rintro e w4 ⟨k, rfl, hk⟩
  have hz4 : w4.heap.size = w.heap.size + 3 := hk.out.2.2.size.trans hz3
  have hb4 : Below w.heap.size w w4 := Stir.below hb3 hk.out.2.2 (by omega)
  have hR4 := (hk.out.2.2.block _ (by omega)).trans hR3
  have hn4 := (hk.out.2.2.block _ (by omega)).trans hn3
  have hD4 := hk.out.2.1
  obtain ⟨K, hK⟩ : ∃ K : Nat, 1 + k = (K : Int) := ⟨(1 + k).toNat, by have := hk.out.1; omega⟩
  have hK8 : 1 ≤ K ∧ K ≤ 8 := by have := hk.out.1; omega
  have hkb := hk.out.1.1
  have hkt := hk.out.1.2
  have H4 := hid' (And.intro hz4 (And.intro hb4 (And.intro hR4 (And.intro hn4 hD4))))
  clear A2 hz4 hb4 hR4 hn4 hD4 hz3 hb3 hR3 hn3
  go_wp2_with fail
  try rw [hK]
  clear hK hkb hkt hk
  obtain ⟨i4, hi4, hy0, hy1, hy2⟩ := info_parts infoA
  have hN2a := hN2.1
  have hN2b := hN2.2
  have hK8a := hK8.1
  have hK8b := hK8.2
  go_loopg [8] K (fun gk iv wr => ∃ (j : Nat) (va : Value) (ys : List Ar), j ≤ gk ∧ iv = .int .i64 j ∧ ys.length + j = K ∧ Gd w wr p len cap N va ys)
  case atStart => exact ⟨K, .slice none 0 0, [], Nat.le_refl _, rfl, by simp, ⟨H4.out.2.1, by have := H4.out.1; omega, H4.out.2.2.1, H4.out.2.2.2.1, H4.out.2.2.2.2, World.ownsRow_nil _ _ _ _, (fun g e => by cases e), (fun a ha => by cases ha)⟩⟩
  case' round => skip
  obtain ⟨j, va, ys, hgk, rfl, hlen', hG⟩ := hrel
  by_cases hj : 0 < j
  · obtain ⟨j', rfl⟩ : ∃ j', j = j' + 1 := ⟨j - 1, by omega⟩
    obtain ⟨pa, ca, rfl⟩ := ownsRow_shape hG.row
    have hjI : (0 : Int) < (j' : Int) + 1 := by omega
    have hj9 : j' ≤ 8 := by omega
    have gx := hG.drew
    have q0 := hG.c0
    have q2 := hG.c2
    have q3 := hG.lt
    have HH := hid' True.intro
    have HL := hid' hlen'
    have hyl : ys.length ≤ 8 := by omega
    clear hG H4 hlen'
    go_wp2_with fail
    go_region_law (first
      | (refine step_app rfl _ _ 38 rfl 0 37 i4 (.agg #[.int .i64 0, .int .i64 0, .int .i64 0, .int .i64 0]) 4 32 Try.underlying38 hi4 hy0 hy1 hy2 rfl (by decide) _ _ _ rfl (gx.rowAlloc _) ⟨_, 0, none⟩ 1 1 _ rfl rfl (new4 _ _ _ _ _ _) (by intro u hu; simp at hu; rcases hu with rfl | rfl | rfl | rfl <;> rfl) (by unfold maxLen; omega) (by omega) (Nat.zero_le _) ?_; intro u w5 hrow5 hg5 hloc5; obtain ⟨pu, cu, rfl⟩ := ownsRow_shape hrow5; have HM := hid' (fun hs => gx.more hrow5 hg5 hloc5 hs); have h5 := (hg5.block (w.heap.size + 2) (by have := gx.size; simp; omega) (fun e => by have := gx.far _ e.symm; omega)).trans ((Below.heap_alloc _ _ _ (by have := gx.size; omega)).trans gx.net); have r0 := at_cells h5 2; simp only [List.getElem?_toArray, List.getElem?_cons_succ, List.getElem?_cons_zero] at r0; have r1 : w5.frozen? ⟨w.heap.size + 2, 2, none⟩ = false := (by simp [World.frozen?, h5]); have r2 : w.heap.size + 2 < w5.heap.size := (Array.getElem?_eq_some_iff.1 h5).1; clear hrow5 hg5 h5)
      | (go_simp; go_at_call 39; refine (gx.next _ Hc.out hlen (by omega) (by omega)).mono ?_; rintro e wn ⟨x, rfl, hx⟩; have HH := hid' (And.intro hx.out.1 HH.out); have gx := hx.out.2; have q0 := gx.c0; have q2 := gx.c2; have q3 := gx.lt; have x0 := hx.out.1.1; have x1 := hx.out.1.2))
    all_goals
      go_wp2_with fail
      go_roundg j'
      case measure => omega
      case rel => exact ⟨j', _, _, Nat.le_refl _, by first | rfl | go_num | (congr 1; omega) | simp, by rw [List.length_append]; have := HL.out; simp only [List.length_singleton]; omega, HM.out (by first | exact small_wrap HH.out | exact small_of HH.out)⟩
  obtain rfl : j = 0 := by omega
  clear hj hgk H4
  obtain ⟨Wa, hWa⟩ : ∃ Wa, Wa = wr := ⟨_, rfl⟩
  subst hWa
  have hyK : ys.length = K := by omega
  subst hyK
  obtain ⟨g, ca, rfl, hgo, hgl, hAr⟩ := row_arcs hG.row (by omega)
  have hH : Hd w Wa Wa p len cap N ys.length g ca (fun i => ys.getD i ⟨0, 0, 0, 0⟩) (.slice none 0 0) := ⟨But2.refl _ _ _, hG.below, hG.size, ⟨hG.far g hgo, hgl⟩, hG.res, hG.net, hG.dice, hAr⟩
  have hsm : ∀ i, i < ys.length → Small1 N (ys.getD i ⟨0, 0, 0, 0⟩) := fun i hi => by
    have e : ys.getD i ⟨0, 0, 0, 0⟩ = ys[i] := by simp [List.getD, hi]
    rw [e]
    exact hG.small _ (List.getElem_mem hi)
  obtain ⟨A, hA⟩ : ∃ A : Nat → Ar, (fun i => ys.getD i ⟨0, 0, 0, 0⟩) = A := ⟨_, rfl⟩
  have hsm' : ∀ i, i < ys.length → Small1 N (A i) := by rw [← hA]; exact hsm
  rw [hA] at hH
  clear hG hAr hgo hgl hsm hA hlen'
  obtain ⟨la, hla⟩ : ∃ la, ys.length = la := ⟨_, rfl⟩
  rw [hla] at hH hsm' hK8a hK8b
  try rw [hla]
  try simp only [hla]
  clear hla hK8
  have Hsm := hid' hsm'
  have c0 := hH.c0
  have c1 := hH.c1
  have c2 := hH.c2
  have cl := hH.lt
  have HH := hid' hH
  obtain ⟨i0, hi0, hz0, hz1, hz2⟩ := info_parts infoI
  clear hsm' hH
  go_upto_region 8 with (first
    | (at_make; refine wpList_make_full _ rfl _ _ 35 rfl 0 3 i0 (.int .i64 0) 1 Try.underlying35 hi0 hz0 hz1 .i64 .i64 (la : Int) (la : Int) la rfl rfl rfl rfl (by rw [hz2]; omega) (by unfold maxLen; omega) (Nat.zero_le _) ?_; intro w5 hrow5 hg5)
    | fail)
  have hF5 := nums_made (g := Wa.heap.size) hrow5 rfl
  have hH5 := HH.out.grow hg5
  clear hrow5 hg5 c0 c1 c2 cl
  have c0 := hH5.c0
  have cl := hH5.lt
  have H5 := hid' (And.intro hF5 (And.intro hH5 hF5.lt))
  clear hF5 hH5
  go_upto_region 9 with (first
    | (at_make; refine wpList_make_full _ rfl _ _ 35 rfl 0 3 i0 (.int .i64 0) 1 Try.underlying35 hi0 hz0 hz1 .i64 .i64 (N : Int) (N : Int) N rfl rfl rfl rfl (by rw [hz2]; omega) (by unfold maxLen; omega) (Nat.zero_le _) ?_; intro w6 hrow6 hg6; have hH6 := H5.out.2.1.grow hg6; have c16 := hH6.c1; have cf6 := hH6.fz 1; have cl6 := hH6.lt)
    | fail)
  have hS6 := nums_made (g := w5.heap.size) hrow6 rfl
  have hfs := H5.out.2.2
  have hwz := HH.out.size
  have hF6 : Nums w6 Wa.heap.size la (fun _ => 0) := H5.out.1.move (hg6.block _ hfs (by simp))
  obtain ⟨u6, hu6⟩ : ∃ u6, w6.setCell ⟨w.heap.size + 2, 1, none⟩ (.slice (some ⟨w5.heap.size, 0, none⟩) N N) = u6 := ⟨_, rfl⟩
  have mv6 : ∀ b, b ≠ w.heap.size + 2 → u6.heap[b]? = w6.heap[b]? := fun b hb => by rw [← hu6]; exact Below.heap_setCell w6 ⟨w.heap.size + 2, 1, none⟩ _ b (by simpa using hb)
  have hHu : Hd w Wa u6 p len cap N la g ca A (.slice (some ⟨w5.heap.size, 0, none⟩) N N) := by rw [← hu6]; exact hH6.set _
  have hFu : Nums u6 Wa.heap.size la (fun _ => 0) := hF6.move (mv6 _ (by omega))
  have hSu : Nums u6 w5.heap.size N (fun _ => 0) := hS6.move (mv6 _ (by omega))
  rw [hu6]
  have H6 := hid' (And.intro hHu (And.intro hFu hSu))
  clear hrow6 hg6 hH6 c16 cf6 cl6 hS6 hF6 mv6 hHu hFu hSu hu6 c0 cl H5
  go_wp2_with fail
  go_loopg [10] la (fun gk iv W => ∃ (i : Nat) (F : Nat → Int), i ≤ la ∧ la - i ≤ gk ∧ iv = .int .i64 i ∧ Hd w Wa W p len cap N la g ca A (.slice (some ⟨w5.heap.size, 0, none⟩) N N) ∧ Nums W Wa.heap.size la F ∧ Nums W w5.heap.size N (sup A F i) ∧ Hid (∀ m, m < i → 0 ≤ F m ∧ F m ≤ (A m).c))
  case atStart => exact ⟨0, _, Nat.zero_le _, Nat.le_refl _, rfl, H6.out.1, H6.out.2.1, H6.out.2.2, fun m hm => by omega⟩
  case' round => skip
  obtain ⟨i, F, hi, hgk, rfl, hH, hF, hS, hcap⟩ := hrel
  by_cases hlt : i < la
  · have hiI : (i : Int) < (la : Int) := by omega
    obtain ⟨g0, g1, g2, g3⟩ := hH.at hlt
    have hsm := Hsm.out i hlt
    obtain ⟨f, hf⟩ : ∃ f : Nat, (A i).f = (f : Int) := ⟨(A i).f.toNat, by have := hsm.1.1; omega⟩
    obtain ⟨t, ht⟩ : ∃ t : Nat, (A i).t = (t : Int) := ⟨(A i).t.toNat, by have := hsm.2.1.1; omega⟩
    have hfl : f < N := by have := hsm.1.2; omega
    have htl : t < N := by have := hsm.2.1.2; omega
    have hfI : (f : Int) < (N : Int) := by omega
    have htI : (t : Int) < (N : Int) := by omega
    have hc0 := hsm.2.2.1.1
    have hc3 := hsm.2.2.1.2
    have c2 := hH.c2
    have cl := hH.lt
    have gl := hH.ltg
    have A3 := hid' (hH.next ((A i).c + 1) Hc.out hlen (by omega) (by omega))
    have Hr := hid' (And.intro hH (And.intro hF (And.intro hS (And.intro hsm (And.intro hf ht)))))
    clear hH hF hS hsm hf ht
    go_wp2_with fail
    refine A3.out.mono ?_
    rintro e wx ⟨x, rfl, hx⟩
    have hHx := hx.out.2.1
    have hst := hx.out.2.2
    have hx0 := hx.out.1.1
    have hx1 : x ≤ (A i).c := by have := hx.out.1.2; omega
    have hFx : Nums wx Wa.heap.size la F := Hr.out.2.1.move (hst.block _ (by omega))
    have hSx : Nums wx w5.heap.size N (sup A F i) := Hr.out.2.2.1.move (hst.block _ (by omega))
    have fc := hFx.cell hlt
    have ff := hFx.frozen i
    have fl := hFx.lt
    have Hx := hid' (And.intro hHx (And.intro hFx hSx))
    clear A3 hx hHx hst hFx hSx c2 cl gl g0 g1 g2 g3
    go_upto_region 13 with fail
    clear fc ff fl
    have hfb : Wa.heap.size ≠ w5.heap.size := by omega
    obtain ⟨u, hu⟩ : ∃ u, wx.setCell ⟨Wa.heap.size, i, none⟩ (.int .i64 x) = u := ⟨_, rfl⟩
    have hHu : Hd w Wa u p len cap N la g ca A (.slice (some ⟨w5.heap.size, 0, none⟩) N N) := by rw [← hu]; exact Hx.out.1.put (Nat.le_refl _) i _
    have hFu : Nums u Wa.heap.size la (setN F i x) := by rw [← hu]; exact Hx.out.2.1.set i x
    have hSu : Nums u w5.heap.size N (sup A F i) := by rw [← hu]; exact Hx.out.2.2.move (Below.heap_setCell wx ⟨Wa.heap.size, i, none⟩ _ _ (by simp; omega))
    rw [hu]
    clear hu Hx
    have hm3 : ∀ m, m < i → 0 ≤ F m ∧ F m ≤ 1000 := fun m hm => ⟨(hcap.out m hm).1, by have h1 := (hcap.out m hm).2; have h2 := (Hsm.out m (by omega)).2.2.1.2; omega⟩
    have hBf := sup_bound (A := A) (v := f) (by omega : i ≤ 600) hm3
    have hBt := hid' (sup_bound (A := A) (v := t) (by omega : i ≤ 600) hm3)
    obtain ⟨g0, g1, _, _⟩ := hHu.at hlt
    rw [Hr.out.2.2.2.2.1] at g0
    have c1 := hHu.c1
    have c2 := hHu.c2
    have cl := hHu.lt
    have gl := hHu.ltg
    have fc := hFu.cell hlt
    simp only [setN] at fc
    have fl := hFu.lt
    have sc := hSu.cell hfl
    have sf := hSu.frozen f
    have sl := hSu.lt
    have Hu := hid' (And.intro hHu (And.intro hFu hSu))
    clear hHu hFu hSu g1 hm3
    have hg5 : ¬ g = w5.heap.size := by have := Hu.out.1.far.2; omega
    have hn5 : ¬ w.heap.size + 2 = w5.heap.size := by omega
    have hf5 : ¬ Wa.heap.size = w5.heap.size := by omega
    have hmx : Try.prog.follows .mixedOrders = true := by kernel_rfl
    have hwp := wrap_mid (y := sup A F i f + x) (by omega) (by omega)
    have hS0 : (fun W' : World => W'.cell? ⟨w.heap.size + 2, 1, none⟩ = some (.slice (some ⟨w5.heap.size, 0, none⟩) N N) ∧ W'.cell? ⟨w.heap.size + 2, 2, none⟩ = some (.slice (some ⟨g, 0, none⟩) la ca) ∧ W'.cell? ⟨g, i * 4, none⟩ = some (.int .i64 f) ∧ W'.cell? ⟨Wa.heap.size, i, none⟩ = some (.int .i64 x)) u.drew := ⟨c1, c2, g0, fc⟩
    refine wp_region_held_drew (S := fun W' : World => W'.cell? ⟨w.heap.size + 2, 1, none⟩ = some (.slice (some ⟨w5.heap.size, 0, none⟩) N N) ∧ W'.cell? ⟨w.heap.size + 2, 2, none⟩ = some (.slice (some ⟨g, 0, none⟩) la ca) ∧ W'.cell? ⟨g, i * 4, none⟩ = some (.int .i64 f) ∧ W'.cell? ⟨Wa.heap.size, i, none⟩ = some (.int .i64 x)) hmx hS0 (fun _ => ?_)
    refine wpAnyH_take (i := 0) (v := ?_) rfl (by kernel_rfl) (by kernel_rfl) (by kernel_rfl) (fun _ _ _ h => h) (Or.inl ⟨by rfl, ?_⟩) hS0 ?_
    rotate_left 1
    · (rintro w ⟨e1, e2, e3, e4⟩; go_simp; try with_reducible rfl)
    change wpAnyH _ _ _ _ _ _ _ (Act.put _ (some 75) _) _
    simp only [Act.put, List.setIfInBounds_toArray, List.set_cons_succ, List.set_cons_zero]
    refine wpAnyH_take (i := 1) (v := ?_) rfl (by kernel_rfl) (by kernel_rfl) (by kernel_rfl) (fun _ _ _ h => h) (Or.inl ⟨by rfl, ?_⟩) hS0 ?_
    rotate_left 1
    · (rintro w ⟨e1, e2, e3, e4⟩; go_simp; try with_reducible rfl)
    change wpAnyH _ _ _ _ _ _ _ (Act.put _ (some 76) _) _
    simp only [Act.put, List.setIfInBounds_toArray, List.set_cons_succ, List.set_cons_zero]
    refine wpAnyH_take (i := 2) (v := ?_) rfl (by kernel_rfl) (by kernel_rfl) (by kernel_rfl) (fun _ _ _ h => h) (Or.inl ⟨by rfl, ?_⟩) hS0 ?_
    rotate_left 1
    · (rintro w ⟨e1, e2, e3, e4⟩; go_simp; try with_reducible rfl)
    change wpAnyH _ _ _ _ _ _ _ (Act.put _ (some 77) _) _
    simp only [Act.put, List.setIfInBounds_toArray, List.set_cons_succ, List.set_cons_zero]
    refine wpAnyH_take (i := 3) (v := ?_) rfl (by kernel_rfl) (by kernel_rfl) (by kernel_rfl) (fun _ _ _ h => h) (Or.inl ⟨by rfl, ?_⟩) hS0 ?_
    rotate_left 1
    · (rintro w ⟨e1, e2, e3, e4⟩; go_simp; try with_reducible rfl)
    change wpAnyH _ _ _ _ _ _ _ (Act.put _ (some 78) _) _
    simp only [Act.put, List.setIfInBounds_toArray, List.set_cons_succ, List.set_cons_zero]
    refine wpAnyH_take (i := 4) (v := ?_) rfl (by kernel_rfl) (by kernel_rfl) (by kernel_rfl) (fun _ _ _ h => h) (Or.inl ⟨by rfl, ?_⟩) hS0 ?_
    rotate_left 1
    · (rintro w ⟨e1, e2, e3, e4⟩; go_simp; try with_reducible rfl)
    change wpAnyH _ _ _ _ _ _ _ (Act.put _ (some 79) _) _
    simp only [Act.put, List.setIfInBounds_toArray, List.set_cons_succ, List.set_cons_zero]
    refine wpAnyH_take (i := 5) (v := ?_) rfl (by kernel_rfl) (by kernel_rfl) (by kernel_rfl) (fun _ _ _ h => h) (Or.inl ⟨by rfl, ?_⟩) hS0 ?_
    rotate_left 1
    · (rintro w ⟨e1, e2, e3, e4⟩; go_simp; try with_reducible rfl)
    change wpAnyH _ _ _ _ _ _ _ (Act.put _ (some 80) _) _
    simp only [Act.put, List.setIfInBounds_toArray, List.set_cons_succ, List.set_cons_zero]
    refine wpAnyH_take (i := 6) (v := ?_) rfl (by kernel_rfl) (by kernel_rfl) (by kernel_rfl) (fun _ _ _ h => h) (Or.inl ⟨by rfl, ?_⟩) hS0 ?_
    rotate_left 1
    · (rintro w ⟨e1, e2, e3, e4⟩; go_simp; try with_reducible rfl)
    change wpAnyH _ _ _ _ _ _ _ (Act.put _ (some 81) _) _
    simp only [Act.put, List.setIfInBounds_toArray, List.set_cons_succ, List.set_cons_zero]
    refine wpAnyH_take (i := 7) (v := ?_) rfl (by kernel_rfl) (by kernel_rfl) (by kernel_rfl) (fun _ _ _ h => h) (Or.inl ⟨by rfl, ?_⟩) hS0 ?_
    rotate_left 1
    · (rintro w ⟨e1, e2, e3, e4⟩; go_simp; try with_reducible rfl)
    change wpAnyH _ _ _ _ _ _ _ (Act.put _ (some 82) _) _
    simp only [Act.put, List.setIfInBounds_toArray, List.set_cons_succ, List.set_cons_zero]
    refine wpAnyH_take (i := 8) (v := ?_) rfl (by kernel_rfl) (by kernel_rfl) (by kernel_rfl) (fun _ _ _ h => h) (Or.inl ⟨by rfl, ?_⟩) hS0 ?_
    rotate_left 1
    · (rintro w ⟨e1, e2, e3, e4⟩; go_simp; try with_reducible rfl)
    change wpAnyH _ _ _ _ _ _ _ (Act.put _ (some 83) _) _
    simp only [Act.put, List.setIfInBounds_toArray, List.set_cons_succ, List.set_cons_zero]
    refine wpAnyH_take (i := 9) (v := ?_) rfl (by kernel_rfl) (by kernel_rfl) (by kernel_rfl) (fun _ _ _ h => h) (Or.inl ⟨by rfl, ?_⟩) hS0 ?_
    rotate_left 1
    · (rintro w ⟨e1, e2, e3, e4⟩; go_simp; try with_reducible rfl)
    change wpAnyH _ _ _ _ _ _ _ (Act.put _ (some 84) _) _
    simp only [Act.put, List.setIfInBounds_toArray, List.set_cons_succ, List.set_cons_zero]
    refine wpAnyH_take (i := 10) (v := ?_) rfl (by kernel_rfl) (by kernel_rfl) (by kernel_rfl) (fun _ _ _ h => h) (Or.inl ⟨by rfl, ?_⟩) hS0 ?_
    rotate_left 1
    · (rintro w ⟨e1, e2, e3, e4⟩; go_simp; try with_reducible rfl)
    change wpAnyH _ _ _ _ _ _ _ (Act.put _ (some 85) _) _
    simp only [Act.put, List.setIfInBounds_toArray, List.set_cons_succ, List.set_cons_zero]
    refine wpAnyH_take (i := 11) (v := ?_) rfl (by kernel_rfl) (by kernel_rfl) (by kernel_rfl) (fun _ _ _ h => h) (Or.inl ⟨by rfl, ?_⟩) hS0 ?_
    rotate_left 1
    · (rintro w ⟨e1, e2, e3, e4⟩; go_simp; try with_reducible rfl)
    change wpAnyH _ _ _ _ _ _ _ (Act.put _ (some 86) _) _
    simp only [Act.put, List.setIfInBounds_toArray, List.set_cons_succ, List.set_cons_zero]
    refine wpAnyH_take (i := 12) (v := ?_) rfl (by kernel_rfl) (by kernel_rfl) (by kernel_rfl) (fun _ _ _ h => h) (Or.inl ⟨by rfl, ?_⟩) hS0 ?_
    rotate_left 1
    · (rintro w ⟨e1, e2, e3, e4⟩; go_simp; try with_reducible rfl)
    change wpAnyH _ _ _ _ _ _ _ (Act.put _ (some 87) _) _
    simp only [Act.put, List.setIfInBounds_toArray, List.set_cons_succ, List.set_cons_zero]
    refine wpAnyH_take (i := 13) (v := ?_) rfl (by kernel_rfl) (by kernel_rfl) (by kernel_rfl) (fun _ _ _ h => h) (Or.inl ⟨by rfl, ?_⟩) hS0 ?_
    rotate_left 1
    · (rintro w ⟨e1, e2, e3, e4⟩; go_simp; try with_reducible rfl)
    change wpAnyH _ _ _ _ _ _ _ (Act.put _ (some 88) _) _
    simp only [Act.put, List.setIfInBounds_toArray, List.set_cons_succ, List.set_cons_zero]
    refine wpAnyH_take (i := 14) (v := ?_) rfl (by kernel_rfl) (by kernel_rfl) (by kernel_rfl) (fun _ _ _ h => h) (Or.inl ⟨by rfl, ?_⟩) hS0 ?_
    rotate_left 1
    · (rintro w ⟨e1, e2, e3, e4⟩; go_simp; try with_reducible rfl)
    change wpAnyH _ _ _ _ _ _ _ (Act.put _ (some 89) _) _
    simp only [Act.put, List.setIfInBounds_toArray, List.set_cons_succ, List.set_cons_zero]
    refine wpAnyH_take (i := 15) (v := ?_) rfl (by kernel_rfl) (by kernel_rfl) (by kernel_rfl) (fun _ _ _ h => h) (Or.inl ⟨by rfl, ?_⟩) hS0 ?_
    rotate_left 1
    · (rintro w ⟨e1, e2, e3, e4⟩; go_simp; try with_reducible rfl)
    change wpAnyH _ _ _ _ _ _ _ (Act.put _ (some 90) _) _
    simp only [Act.put, List.setIfInBounds_toArray, List.set_cons_succ, List.set_cons_zero]
    refine wpAnyH_take (i := 16) (v := ?_) rfl (by kernel_rfl) (by kernel_rfl) (by kernel_rfl) (fun _ _ _ h => h) (Or.inl ⟨by rfl, ?_⟩) hS0 ?_
    rotate_left 1
    · (rintro w ⟨e1, e2, e3, e4⟩; go_simp; try with_reducible rfl)
    change wpAnyH _ _ _ _ _ _ _ (Act.put _ (some 91) _) _
    simp only [Act.put, List.setIfInBounds_toArray, List.set_cons_succ, List.set_cons_zero]
    refine wpAnyH_take (i := 18) (v := ?_) rfl (by kernel_rfl) (by kernel_rfl) (by kernel_rfl) (fun _ _ _ h => h) (Or.inl ⟨by rfl, ?_⟩) hS0 ?_
    rotate_left 1
    · (rintro w ⟨e1, e2, e3, e4⟩; go_simp; try with_reducible rfl)
    change wpAnyH _ _ _ _ _ _ _ (Act.put _ (some 93) _) _
    simp only [Act.put, List.setIfInBounds_toArray, List.set_cons_succ, List.set_cons_zero]
    refine wpAnyH_take (i := 19) (v := ?_) rfl (by kernel_rfl) (by kernel_rfl) (by kernel_rfl) (fun _ _ _ h => h) (Or.inl ⟨by rfl, ?_⟩) hS0 ?_
    rotate_left 1
    · (rintro w ⟨e1, e2, e3, e4⟩; go_simp; try with_reducible rfl)
    change wpAnyH _ _ _ _ _ _ _ (Act.put _ (some 94) _) _
    simp only [Act.put, List.setIfInBounds_toArray, List.set_cons_succ, List.set_cons_zero]
    refine wpAnyH_take (i := 20) (v := ?_) rfl (by kernel_rfl) (by kernel_rfl) (by kernel_rfl) (fun _ _ _ h => h) (Or.inl ⟨by rfl, ?_⟩) hS0 ?_
    rotate_left 1
    · (rintro w ⟨e1, e2, e3, e4⟩; go_simp; try with_reducible rfl)
    change wpAnyH _ _ _ _ _ _ _ (Act.put _ (some 95) _) _
    simp only [Act.put, List.setIfInBounds_toArray, List.set_cons_succ, List.set_cons_zero]
    refine wpAnyH_take (i := 21) (v := ?_) rfl (by kernel_rfl) (by kernel_rfl) (by kernel_rfl) (fun _ _ _ h => h) (Or.inl ⟨by rfl, ?_⟩) hS0 ?_
    rotate_left 1
    · (rintro w ⟨e1, e2, e3, e4⟩; go_simp; try with_reducible rfl)
    change wpAnyH _ _ _ _ _ _ _ (Act.put _ (some 96) _) _
    simp only [Act.put, List.setIfInBounds_toArray, List.set_cons_succ, List.set_cons_zero]
    refine wpAnyH_ready (rs := [17]) (by kernel_rfl) (by simp) ?_
    refine AllReadyH.cons rfl (fun K hK => ?_) AllReadyH.nil
    go_simp
    refine hK.out _ _ hS0 (fun _ => ?_)
    clear hK K
    refine wpAnyH_take (i := 22) (v := ?_) rfl (by kernel_rfl) (by kernel_rfl) (by kernel_rfl) (fun _ _ _ h => h) (Or.inl ⟨by rfl, ?_⟩) hS0 ?_
    rotate_left 1
    · (rintro w ⟨e1, e2, e3, e4⟩; go_simp; try with_reducible rfl)
    change wpAnyH _ _ _ _ _ _ _ (Act.put _ (some 97) _) _
    simp only [Act.put, List.setIfInBounds_toArray, List.set_cons_succ, List.set_cons_zero]
    refine wpAnyH_take (i := 23) (v := ?_) rfl (by kernel_rfl) (by kernel_rfl) (by kernel_rfl) (fun _ _ _ h => h) (Or.inl ⟨by rfl, ?_⟩) hS0 ?_
    rotate_left 1
    · (rintro w ⟨e1, e2, e3, e4⟩; go_simp; try with_reducible rfl)
    change wpAnyH _ _ _ _ _ _ _ (Act.put _ (some 98) _) _
    simp only [Act.put, List.setIfInBounds_toArray, List.set_cons_succ, List.set_cons_zero]
    refine wpAnyH_ready (rs := [24]) (by kernel_rfl) (by simp) ?_
    refine AllReadyH.cons rfl (fun K hK => ?_) AllReadyH.nil
    go_simp
    refine hK.out _ _ ⟨(cell_other hn5).trans c1, (cell_other hn5).trans c2, (cell_other hg5).trans g0, (cell_other hf5).trans fc⟩ (fun _ => ?_)
    clear hK K
    refine wpAnyH_done (by kernel_rfl) ?_ _
    go_upto_region 14 with fail
    clear g0 c1 c2 cl gl fc fl sc sf sl hBf
    obtain ⟨u2, hu2⟩ : ∃ u2, (u.setCell ⟨w5.heap.size, f, none⟩ (.int .i64 (sup A F i f + x))).drew = u2 := ⟨_, rfl⟩
    have hHu : Hd w Wa u2 p len cap N la g ca A (.slice (some ⟨w5.heap.size, 0, none⟩) N N) := by rw [← hu2]; exact (Hu.out.1.put (by omega) f _).drew
    have hFu : Nums u2 Wa.heap.size la (setN F i x) := by rw [← hu2]; exact Hu.out.2.1.move (Below.heap_setCell u ⟨w5.heap.size, f, none⟩ _ _ (by simp; omega))
    have hSu : Nums u2 w5.heap.size N (setN (sup A F i) f (sup A F i f + x)) := by rw [← hu2]; exact Hu.out.2.2.set f _
    rw [hu2]
    have hBx : -710000 ≤ setN (sup A F i) f (sup A F i f + x) t ∧ setN (sup A F i) f (sup A F i f + x) t ≤ 710000 := by
      have h1 := hBt.out
      have h2 := sup_bound (A := A) (F := F) (v := f) (by omega : i ≤ 600) (fun m hm => ⟨(hcap.out m hm).1, by have h1 := (hcap.out m hm).2; have h2 := (Hsm.out m (by omega)).2.2.1.2; omega⟩)
      unfold setN
      split <;> omega
    clear hu2 Hu
    obtain ⟨_, g1, _, _⟩ := hHu.at hlt
    rw [Hr.out.2.2.2.2.2] at g1
    have c1 := hHu.c1
    have c2 := hHu.c2
    have cl := hHu.lt
    have gl := hHu.ltg
    have fc := hFu.cell hlt
    simp only [setN] at fc
    have fl := hFu.lt
    have sc := hSu.cell htl
    have sf := hSu.frozen t
    have sl := hSu.lt
    obtain ⟨y, hy⟩ : ∃ y, setN (sup A F i) f (sup A F i f + x) t = y := ⟨_, rfl⟩
    rw [hy] at sc hBx
    have Hu := hid' (And.intro hHu (And.intro hFu (And.intro hSu hy)))
    clear hHu hFu hSu hy
    have hwp := wrap_mid (y := y - x) (by omega) (by omega)
    have hS0 : (fun W' : World => W'.cell? ⟨w.heap.size + 2, 1, none⟩ = some (.slice (some ⟨w5.heap.size, 0, none⟩) N N) ∧ W'.cell? ⟨w.heap.size + 2, 2, none⟩ = some (.slice (some ⟨g, 0, none⟩) la ca) ∧ W'.cell? ⟨g, i * 4 + 1, none⟩ = some (.int .i64 t) ∧ W'.cell? ⟨Wa.heap.size, i, none⟩ = some (.int .i64 x)) u2.drew := ⟨c1, c2, g1, fc⟩
    refine wp_region_held_drew (S := fun W' : World => W'.cell? ⟨w.heap.size + 2, 1, none⟩ = some (.slice (some ⟨w5.heap.size, 0, none⟩) N N) ∧ W'.cell? ⟨w.heap.size + 2, 2, none⟩ = some (.slice (some ⟨g, 0, none⟩) la ca) ∧ W'.cell? ⟨g, i * 4 + 1, none⟩ = some (.int .i64 t) ∧ W'.cell? ⟨Wa.heap.size, i, none⟩ = some (.int .i64 x)) hmx hS0 (fun _ => ?_)
    refine wpAnyH_take (i := 0) (v := ?_) rfl (by kernel_rfl) (by kernel_rfl) (by kernel_rfl) (fun _ _ _ h => h) (Or.inl ⟨by rfl, ?_⟩) hS0 ?_
    rotate_left 1
    · (rintro w ⟨e1, e2, e3, e4⟩; go_simp; try with_reducible rfl)
    change wpAnyH _ _ _ _ _ _ _ (Act.put _ (some 99) _) _
    simp only [Act.put, List.setIfInBounds_toArray, List.set_cons_succ, List.set_cons_zero]
    refine wpAnyH_take (i := 1) (v := ?_) rfl (by kernel_rfl) (by kernel_rfl) (by kernel_rfl) (fun _ _ _ h => h) (Or.inl ⟨by rfl, ?_⟩) hS0 ?_
    rotate_left 1
    · (rintro w ⟨e1, e2, e3, e4⟩; go_simp; try with_reducible rfl)
    change wpAnyH _ _ _ _ _ _ _ (Act.put _ (some 100) _) _
    simp only [Act.put, List.setIfInBounds_toArray, List.set_cons_succ, List.set_cons_zero]
    refine wpAnyH_take (i := 2) (v := ?_) rfl (by kernel_rfl) (by kernel_rfl) (by kernel_rfl) (fun _ _ _ h => h) (Or.inl ⟨by rfl, ?_⟩) hS0 ?_
    rotate_left 1
    · (rintro w ⟨e1, e2, e3, e4⟩; go_simp; try with_reducible rfl)
    change wpAnyH _ _ _ _ _ _ _ (Act.put _ (some 101) _) _
    simp only [Act.put, List.setIfInBounds_toArray, List.set_cons_succ, List.set_cons_zero]
    refine wpAnyH_take (i := 3) (v := ?_) rfl (by kernel_rfl) (by kernel_rfl) (by kernel_rfl) (fun _ _ _ h => h) (Or.inl ⟨by rfl, ?_⟩) hS0 ?_
    rotate_left 1
    · (rintro w ⟨e1, e2, e3, e4⟩; go_simp; try with_reducible rfl)
    change wpAnyH _ _ _ _ _ _ _ (Act.put _ (some 102) _) _
    simp only [Act.put, List.setIfInBounds_toArray, List.set_cons_succ, List.set_cons_zero]
    refine wpAnyH_take (i := 4) (v := ?_) rfl (by kernel_rfl) (by kernel_rfl) (by kernel_rfl) (fun _ _ _ h => h) (Or.inl ⟨by rfl, ?_⟩) hS0 ?_
    rotate_left 1
    · (rintro w ⟨e1, e2, e3, e4⟩; go_simp; try with_reducible rfl)
    change wpAnyH _ _ _ _ _ _ _ (Act.put _ (some 103) _) _
    simp only [Act.put, List.setIfInBounds_toArray, List.set_cons_succ, List.set_cons_zero]
    refine wpAnyH_take (i := 5) (v := ?_) rfl (by kernel_rfl) (by kernel_rfl) (by kernel_rfl) (fun _ _ _ h => h) (Or.inl ⟨by rfl, ?_⟩) hS0 ?_
    rotate_left 1
    · (rintro w ⟨e1, e2, e3, e4⟩; go_simp; try with_reducible rfl)
    change wpAnyH _ _ _ _ _ _ _ (Act.put _ (some 104) _) _
    simp only [Act.put, List.setIfInBounds_toArray, List.set_cons_succ, List.set_cons_zero]
    refine wpAnyH_take (i := 6) (v := ?_) rfl (by kernel_rfl) (by kernel_rfl) (by kernel_rfl) (fun _ _ _ h => h) (Or.inl ⟨by rfl, ?_⟩) hS0 ?_
    rotate_left 1
    · (rintro w ⟨e1, e2, e3, e4⟩; go_simp; try with_reducible rfl)
    change wpAnyH _ _ _ _ _ _ _ (Act.put _ (some 105) _) _
    simp only [Act.put, List.setIfInBounds_toArray, List.set_cons_succ, List.set_cons_zero]
    refine wpAnyH_take (i := 7) (v := ?_) rfl (by kernel_rfl) (by kernel_rfl) (by kernel_rfl) (fun _ _ _ h => h) (Or.inl ⟨by rfl, ?_⟩) hS0 ?_
    rotate_left 1
    · (rintro w ⟨e1, e2, e3, e4⟩; go_simp; try with_reducible rfl)
    change wpAnyH _ _ _ _ _ _ _ (Act.put _ (some 106) _) _
    simp only [Act.put, List.setIfInBounds_toArray, List.set_cons_succ, List.set_cons_zero]
    refine wpAnyH_take (i := 8) (v := ?_) rfl (by kernel_rfl) (by kernel_rfl) (by kernel_rfl) (fun _ _ _ h => h) (Or.inl ⟨by rfl, ?_⟩) hS0 ?_
    rotate_left 1
    · (rintro w ⟨e1, e2, e3, e4⟩; go_simp; try with_reducible rfl)
    change wpAnyH _ _ _ _ _ _ _ (Act.put _ (some 107) _) _
    simp only [Act.put, List.setIfInBounds_toArray, List.set_cons_succ, List.set_cons_zero]
    refine wpAnyH_take (i := 9) (v := ?_) rfl (by kernel_rfl) (by kernel_rfl) (by kernel_rfl) (fun _ _ _ h => h) (Or.inl ⟨by rfl, ?_⟩) hS0 ?_
    rotate_left 1
    · (rintro w ⟨e1, e2, e3, e4⟩; go_simp; try with_reducible rfl)
    change wpAnyH _ _ _ _ _ _ _ (Act.put _ (some 108) _) _
    simp only [Act.put, List.setIfInBounds_toArray, List.set_cons_succ, List.set_cons_zero]
    refine wpAnyH_take (i := 10) (v := ?_) rfl (by kernel_rfl) (by kernel_rfl) (by kernel_rfl) (fun _ _ _ h => h) (Or.inl ⟨by rfl, ?_⟩) hS0 ?_
    rotate_left 1
    · (rintro w ⟨e1, e2, e3, e4⟩; go_simp; try with_reducible rfl)
    change wpAnyH _ _ _ _ _ _ _ (Act.put _ (some 109) _) _
    simp only [Act.put, List.setIfInBounds_toArray, List.set_cons_succ, List.set_cons_zero]
    refine wpAnyH_take (i := 11) (v := ?_) rfl (by kernel_rfl) (by kernel_rfl) (by kernel_rfl) (fun _ _ _ h => h) (Or.inl ⟨by rfl, ?_⟩) hS0 ?_
    rotate_left 1
    · (rintro w ⟨e1, e2, e3, e4⟩; go_simp; try with_reducible rfl)
    change wpAnyH _ _ _ _ _ _ _ (Act.put _ (some 110) _) _
    simp only [Act.put, List.setIfInBounds_toArray, List.set_cons_succ, List.set_cons_zero]
    refine wpAnyH_take (i := 12) (v := ?_) rfl (by kernel_rfl) (by kernel_rfl) (by kernel_rfl) (fun _ _ _ h => h) (Or.inl ⟨by rfl, ?_⟩) hS0 ?_
    rotate_left 1
    · (rintro w ⟨e1, e2, e3, e4⟩; go_simp; try with_reducible rfl)
    change wpAnyH _ _ _ _ _ _ _ (Act.put _ (some 111) _) _
    simp only [Act.put, List.setIfInBounds_toArray, List.set_cons_succ, List.set_cons_zero]
    refine wpAnyH_take (i := 13) (v := ?_) rfl (by kernel_rfl) (by kernel_rfl) (by kernel_rfl) (fun _ _ _ h => h) (Or.inl ⟨by rfl, ?_⟩) hS0 ?_
    rotate_left 1
    · (rintro w ⟨e1, e2, e3, e4⟩; go_simp; try with_reducible rfl)
    change wpAnyH _ _ _ _ _ _ _ (Act.put _ (some 112) _) _
    simp only [Act.put, List.setIfInBounds_toArray, List.set_cons_succ, List.set_cons_zero]
    refine wpAnyH_take (i := 14) (v := ?_) rfl (by kernel_rfl) (by kernel_rfl) (by kernel_rfl) (fun _ _ _ h => h) (Or.inl ⟨by rfl, ?_⟩) hS0 ?_
    rotate_left 1
    · (rintro w ⟨e1, e2, e3, e4⟩; go_simp; try with_reducible rfl)
    change wpAnyH _ _ _ _ _ _ _ (Act.put _ (some 113) _) _
    simp only [Act.put, List.setIfInBounds_toArray, List.set_cons_succ, List.set_cons_zero]
    refine wpAnyH_take (i := 15) (v := ?_) rfl (by kernel_rfl) (by kernel_rfl) (by kernel_rfl) (fun _ _ _ h => h) (Or.inl ⟨by rfl, ?_⟩) hS0 ?_
    rotate_left 1
    · (rintro w ⟨e1, e2, e3, e4⟩; go_simp; try with_reducible rfl)
    change wpAnyH _ _ _ _ _ _ _ (Act.put _ (some 114) _) _
    simp only [Act.put, List.setIfInBounds_toArray, List.set_cons_succ, List.set_cons_zero]
    refine wpAnyH_take (i := 16) (v := ?_) rfl (by kernel_rfl) (by kernel_rfl) (by kernel_rfl) (fun _ _ _ h => h) (Or.inl ⟨by rfl, ?_⟩) hS0 ?_
    rotate_left 1
    · (rintro w ⟨e1, e2, e3, e4⟩; go_simp; try with_reducible rfl)
    change wpAnyH _ _ _ _ _ _ _ (Act.put _ (some 115) _) _
    simp only [Act.put, List.setIfInBounds_toArray, List.set_cons_succ, List.set_cons_zero]
    refine wpAnyH_take (i := 18) (v := ?_) rfl (by kernel_rfl) (by kernel_rfl) (by kernel_rfl) (fun _ _ _ h => h) (Or.inl ⟨by rfl, ?_⟩) hS0 ?_
    rotate_left 1
    · (rintro w ⟨e1, e2, e3, e4⟩; go_simp; try with_reducible rfl)
    change wpAnyH _ _ _ _ _ _ _ (Act.put _ (some 117) _) _
    simp only [Act.put, List.setIfInBounds_toArray, List.set_cons_succ, List.set_cons_zero]
    refine wpAnyH_take (i := 19) (v := ?_) rfl (by kernel_rfl) (by kernel_rfl) (by kernel_rfl) (fun _ _ _ h => h) (Or.inl ⟨by rfl, ?_⟩) hS0 ?_
    rotate_left 1
    · (rintro w ⟨e1, e2, e3, e4⟩; go_simp; try with_reducible rfl)
    change wpAnyH _ _ _ _ _ _ _ (Act.put _ (some 118) _) _
    simp only [Act.put, List.setIfInBounds_toArray, List.set_cons_succ, List.set_cons_zero]
    refine wpAnyH_take (i := 20) (v := ?_) rfl (by kernel_rfl) (by kernel_rfl) (by kernel_rfl) (fun _ _ _ h => h) (Or.inl ⟨by rfl, ?_⟩) hS0 ?_
    rotate_left 1
    · (rintro w ⟨e1, e2, e3, e4⟩; go_simp; try with_reducible rfl)
    change wpAnyH _ _ _ _ _ _ _ (Act.put _ (some 119) _) _
    simp only [Act.put, List.setIfInBounds_toArray, List.set_cons_succ, List.set_cons_zero]
    refine wpAnyH_take (i := 21) (v := ?_) rfl (by kernel_rfl) (by kernel_rfl) (by kernel_rfl) (fun _ _ _ h => h) (Or.inl ⟨by rfl, ?_⟩) hS0 ?_
    rotate_left 1
    · (rintro w ⟨e1, e2, e3, e4⟩; go_simp; try with_reducible rfl)
    change wpAnyH _ _ _ _ _ _ _ (Act.put _ (some 120) _) _
    simp only [Act.put, List.setIfInBounds_toArray, List.set_cons_succ, List.set_cons_zero]
    refine wpAnyH_ready (rs := [17]) (by kernel_rfl) (by simp) ?_
    refine AllReadyH.cons rfl (fun K hK => ?_) AllReadyH.nil
    go_simp
    refine hK.out _ _ hS0 (fun _ => ?_)
    clear hK K
    refine wpAnyH_take (i := 22) (v := ?_) rfl (by kernel_rfl) (by kernel_rfl) (by kernel_rfl) (fun _ _ _ h => h) (Or.inl ⟨by rfl, ?_⟩) hS0 ?_
    rotate_left 1
    · (rintro w ⟨e1, e2, e3, e4⟩; go_simp; try with_reducible rfl)
    change wpAnyH _ _ _ _ _ _ _ (Act.put _ (some 121) _) _
    simp only [Act.put, List.setIfInBounds_toArray, List.set_cons_succ, List.set_cons_zero]
    refine wpAnyH_take (i := 23) (v := ?_) rfl (by kernel_rfl) (by kernel_rfl) (by kernel_rfl) (fun _ _ _ h => h) (Or.inl ⟨by rfl, ?_⟩) hS0 ?_
    rotate_left 1
    · (rintro w ⟨e1, e2, e3, e4⟩; go_simp; try with_reducible rfl)
    change wpAnyH _ _ _ _ _ _ _ (Act.put _ (some 122) _) _
    simp only [Act.put, List.setIfInBounds_toArray, List.set_cons_succ, List.set_cons_zero]
    refine wpAnyH_ready (rs := [24]) (by kernel_rfl) (by simp) ?_
    refine AllReadyH.cons rfl (fun K hK => ?_) AllReadyH.nil
    go_simp
    refine hK.out _ _ ⟨(cell_other hn5).trans c1, (cell_other hn5).trans c2, (cell_other hg5).trans g1, (cell_other hf5).trans fc⟩ (fun _ => ?_)
    clear hK K
    refine wpAnyH_done (by kernel_rfl) ?_ _
    go_wp2_with fail
    go_roundg (la - (i + 1))
    case measure => omega
    case rel =>
      refine ⟨i + 1, setN F i x, by omega, Nat.le_refl _, by go_num, (Hu.out.1.put (by omega) t _).drew, Hu.out.2.1.move (Below.heap_setCell u2 ⟨w5.heap.size, t, none⟩ _ _ (by simp; omega)), ?_, fun m hm => ?_⟩
      · refine Nums.congr (G := setN (setN (sup A F i) f (sup A F i f + x)) t (y - x)) (Hu.out.2.2.1.set t (y - x)) (fun v' _ => ?_)
        have h2 := sup_succ A (setN F i x) i v' Hr.out.2.2.2.1.1.1 Hr.out.2.2.2.1.2.1.1
        have e1 : sup A (setN F i x) i = sup A F i := funext (fun q => sup_other A F q i x)
        have e2 : setN F i x i = x := by simp [setN]
        rw [e1, e2, Hr.out.2.2.2.2.1, Hr.out.2.2.2.2.2] at h2
        simp only [Int.toNat_natCast] at h2
        rw [Hu.out.2.2.2] at h2
        exact h2
      · by_cases h1 : m < i
        · have e : setN F i x m = F m := by simp [setN, show m ≠ i by omega]
          rw [e]
          exact hcap.out m h1
        · obtain rfl : m = i := by omega
          have e : setN F m x m = x := by simp [setN]
          rw [e]
          exact ⟨hx0, hx1⟩
  obtain rfl : i = la := by omega
  obtain ⟨Wb, hWb⟩ : ∃ Wb, Wb = wr := ⟨_, rfl⟩
  subst hWb
  clear hlt hi hgk H6
  have c2 := hH.c2
  have cl := hH.lt
  have H7 := hid' (And.intro hH (And.intro hF hS))
  clear hH hF hS
  go_upto_region 16 with (first
    | (at_make; refine wpList_make_full _ rfl _ _ 35 rfl 0 3 i0 (.int .i64 0) 1 Try.underlying35 hi0 hz0 hz1 .i64 .i64 (i : Int) (i : Int) i rfl rfl rfl rfl (by rw [hz2]; omega) (by unfold maxLen; omega) (Nat.zero_le _) ?_; intro w7 hrow7 hg7)
    | fail)
  have hR7 := nums_made (g := Wb.heap.size) hrow7 rfl
  have hH7 := H7.out.1.grow hg7
  have hWz := H7.out.1.sz
  have hsl := H7.out.2.2.lt
  have hF7 : Nums w7 Wa.heap.size i F := H7.out.2.1.move (hg7.block _ H7.out.2.1.lt (by simp))
  have hS7 : Nums w7 w5.heap.size N (sup A F i) := H7.out.2.2.move (hg7.block _ hsl (by simp))
  have H8 := hid' (And.intro hH7 (And.intro hF7 (And.intro hS7 hR7)))
  clear hrow7 hg7 hR7 hH7 hF7 hS7 c2 cl H7
  go_wp2_with fail
  go_loopg [12] i (fun gk iv W => ∃ (m : Nat) (R : Nat → Int), m ≤ i ∧ i - m ≤ gk ∧ iv = .int .i64 m ∧ Hd w Wa W p len cap N i g ca A (.slice (some ⟨w5.heap.size, 0, none⟩) N N) ∧ Nums W Wa.heap.size i F ∧ Nums W w5.heap.size N (sup A F i) ∧ Nums W Wb.heap.size i R ∧ Hid (∀ q, q < m → 0 ≤ R q ∧ R q ≤ (A q).c))
  case atStart => exact ⟨0, _, Nat.zero_le _, Nat.le_refl _, rfl, H8.out.1, H8.out.2.1, H8.out.2.2.1, H8.out.2.2.2, fun m hm => by omega⟩
  case' round => skip
  obtain ⟨m, R, hm, hgk, rfl, hH, hF, hS, hR, hrc⟩ := hrel
  by_cases hlt : m < i
  · have hmI : (m : Int) < (i : Int) := by omega
    obtain ⟨_, _, g2, _⟩ := hH.at hlt
    have hsm := Hsm.out m hlt
    have hc0 := hsm.2.2.1.1
    have hc3 := hsm.2.2.1.2
    have c2 := hH.c2
    have cl := hH.lt
    have gl := hH.ltg
    have A3 := hid' (hH.next ((A m).c + 1) Hc.out hlen (by omega) (by omega))
    have Hr := hid' (And.intro hH (And.intro hF (And.intro hS hR)))
    clear hH hF hS hR hsm H8
    go_wp2_with fail
    refine A3.out.mono ?_
    rintro e wx ⟨x, rfl, hx⟩
    have hHx := hx.out.2.1
    have hst := hx.out.2.2
    have hx0 := hx.out.1.1
    have hx1 : x ≤ (A m).c := by have := hx.out.1.2; omega
    have hFx : Nums wx Wa.heap.size i F := Hr.out.2.1.move (hst.block _ (by omega))
    have hSx : Nums wx w5.heap.size N (sup A F i) := Hr.out.2.2.1.move (hst.block _ (by omega))
    have hRx : Nums wx Wb.heap.size i R := Hr.out.2.2.2.move (hst.block _ (by omega))
    have fc := hRx.cell hlt
    have ff := hRx.frozen m
    have fl := hRx.lt
    have Hx := hid' (And.intro hHx (And.intro hFx (And.intro hSx hRx)))
    clear A3 hx hHx hst hFx hSx hRx c2 cl gl g2
    go_wp2_with fail
    go_roundg (i - (m + 1))
    case measure => omega
    case rel =>
      refine ⟨m + 1, setN R m x, by omega, Nat.le_refl _, by go_num, Hx.out.1.put (by omega) m _, Hx.out.2.1.move (Below.heap_setCell wx ⟨Wb.heap.size, m, none⟩ _ _ (by simp; omega)), Hx.out.2.2.1.move (Below.heap_setCell wx ⟨Wb.heap.size, m, none⟩ _ _ (by simp; omega)), Hx.out.2.2.2.set m x, fun q hq => ?_⟩
      by_cases h1 : q < m
      · have e : setN R m x q = R q := by simp [setN, show q ≠ m by omega]
        rw [e]
        exact hrc.out q h1
      · obtain rfl : q = m := by omega
        have e : setN R q x q = x := by simp [setN]
        rw [e]
        exact ⟨hx0, hx1⟩
  obtain rfl : m = i := by omega
  obtain ⟨Wd, hWd⟩ : ∃ Wd, Wd = wr := ⟨_, rfl⟩
  subst hWd
  clear hlt hm hgk H8
  have c0 := hH.c0
  have cl := hH.lt
  have H9 := hid' (And.intro hH (And.intro hF (And.intro hS hR)))
  clear hH hF hS hR
  go_upto_region 21 with (first
    | (at_make; refine wpList_make_full _ rfl _ _ 35 rfl 0 3 i0 (.int .i64 0) 1 Try.underlying35 hi0 hz0 hz1 .i64 .i64 (N : Int) (N : Int) N rfl rfl rfl rfl (by rw [hz2]; omega) (by unfold maxLen; omega) (Nat.zero_le _) ?_; intro w8 hrow8 hg8)
    | fail)
  have hP8 := nums_made (g := Wd.heap.size) hrow8 rfl
  have hH8 := H9.out.1.grow hg8
  have hrl := H9.out.2.2.2.lt
  have hF8 : Nums w8 Wa.heap.size m F := H9.out.2.1.move (hg8.block _ H9.out.2.1.lt (by simp))
  have hS8 : Nums w8 w5.heap.size N (sup A F m) := H9.out.2.2.1.move (hg8.block _ H9.out.2.2.1.lt (by simp))
  have hR8 : Nums w8 Wb.heap.size m R := H9.out.2.2.2.move (hg8.block _ hrl (by simp))
  have H10 := hid' (And.intro hH8 (And.intro hF8 (And.intro hS8 (And.intro hR8 hP8))))
  clear hrow8 hg8 hH8 hF8 hS8 hR8 hP8 c0 cl H9
  go_wp2_with fail
  go_loopg [14] N (fun gk iv W => ∃ (l : Nat) (P : Nat → Int), l ≤ N ∧ N - l ≤ gk ∧ iv = .int .i64 l ∧ Hd w Wa W p len cap N m g ca A (.slice (some ⟨w5.heap.size, 0, none⟩) N N) ∧ Nums W Wa.heap.size m F ∧ Nums W w5.heap.size N (sup A F m) ∧ Nums W Wb.heap.size m R ∧ Nums W Wd.heap.size N P ∧ Hid (∀ q, q < l → -1000000 ≤ P q ∧ P q ≤ 1000000))
  case atStart => exact ⟨0, _, Nat.zero_le _, Nat.le_refl _, rfl, H10.out.1, H10.out.2.1, H10.out.2.2.1, H10.out.2.2.2.1, H10.out.2.2.2.2, fun m hm => by omega⟩
  case' round => skip
  obtain ⟨l, P, hl, hgk, rfl, hH, hF, hS, hR, hP, hpc⟩ := hrel
  by_cases hlt : l < N
  · have hlI : (l : Int) < (N : Int) := by omega
    have A3 := hid' (hH.next 12 Hc.out hlen (by decide) (by decide))
    have Hr := hid' (And.intro hH (And.intro hF (And.intro hS (And.intro hR hP))))
    clear hH hF hS hR hP H10
    go_wp2_with fail
    refine A3.out.mono ?_
    rintro e wx ⟨x, rfl, hx⟩
    have hHx := hx.out.2.1
    have hst := hx.out.2.2
    have hx0 := hx.out.1.1
    have hx1 := hx.out.1.2
    have hFx : Nums wx Wa.heap.size m F := Hr.out.2.1.move (hst.block _ (by omega))
    have hSx : Nums wx w5.heap.size N (sup A F m) := Hr.out.2.2.1.move (hst.block _ (by omega))
    have hRx : Nums wx Wb.heap.size m R := Hr.out.2.2.2.1.move (hst.block _ (by omega))
    have hPx : Nums wx Wd.heap.size N P := Hr.out.2.2.2.2.move (hst.block _ (by omega))
    have fc := hPx.cell hlt
    have ff := hPx.frozen l
    have fl := hPx.lt
    have Hx := hid' (And.intro hHx (And.intro hFx (And.intro hSx (And.intro hRx hPx))))
    clear A3 hx hHx hst hFx hSx hRx hPx
    go_wp2_with fail
    go_roundg (N - (l + 1))
    case measure => omega
    case rel =>
      refine ⟨l + 1, setN P l (x - 4), by omega, Nat.le_refl _, by go_num, Hx.out.1.put (by omega) l _, Hx.out.2.1.move (Below.heap_setCell wx ⟨Wd.heap.size, l, none⟩ _ _ (by simp; omega)), Hx.out.2.2.1.move (Below.heap_setCell wx ⟨Wd.heap.size, l, none⟩ _ _ (by simp; omega)), Hx.out.2.2.2.1.move (Below.heap_setCell wx ⟨Wd.heap.size, l, none⟩ _ _ (by simp; omega)), Hx.out.2.2.2.2.set l (x - 4), fun q hq => ?_⟩
      by_cases h1 : q < l
      · have e : setN P l (x - 4) q = P q := by simp [setN, show q ≠ l by omega]
        rw [e]
        exact hpc.out q h1
      · obtain rfl : q = l := by omega
        have e : setN P q (x - 4) q = x - 4 := by simp [setN]
        rw [e]
        omega
  obtain rfl : l = N := by omega
  have c0 := hH.c0
  have c1 := hH.c1
  have c2 := hH.c2
  have cl := hH.lt
  have rs := hH.res
  have r0 := at_cells rs 0
  have r1 := at_cells rs 1
  have r2 := at_cells rs 2
  simp only [List.getElem?_toArray, List.getElem?_cons_succ, List.getElem?_cons_zero] at r0 r1 r2
  have rl : w.heap.size < wr.heap.size := by omega
  have f0 : wr.frozen? ⟨w.heap.size, 0, none⟩ = false := by simp [World.frozen?, rs]
  have f1 : wr.frozen? ⟨w.heap.size, 1, none⟩ = false := by simp [World.frozen?, rs]
  have f2 : wr.frozen? ⟨w.heap.size, 2, none⟩ = false := by simp [World.frozen?, rs]
  have HZ := hid' (And.intro hH (And.intro hF (And.intro hS (And.intro hR (And.intro hP rs)))))
  clear hH hF hS hR hP rs H10 hlt hl hgk
  go_wp2_with fail
  obtain ⟨Z, hZ⟩ : ∃ Z, ((wr.setCell ⟨w.heap.size, 0, none⟩ (.int .i64 l)).setCell ⟨w.heap.size, 1, none⟩ (.slice (some ⟨w5.heap.size, 0, none⟩) l l)).setCell ⟨w.heap.size, 2, none⟩ (.slice (some ⟨g, 0, none⟩) m ca) = Z := ⟨_, rfl⟩
  have hzc : Z.heap[w.heap.size]? = some (.cells #[.int .i64 l, .slice (some ⟨w5.heap.size, 0, none⟩) l l, .slice (some ⟨g, 0, none⟩) m ca] 40) := by
    rw [← hZ]
    simp [World.setCell, Array.getElem?_modify, HZ.out.2.2.2.2.2]
  have mvZ : ∀ b, b ≠ w.heap.size → Z.heap[b]? = wr.heap[b]? := fun b hb => by
    rw [← hZ, Below.heap_setCell _ ⟨w.heap.size, 2, none⟩ _ b (by simpa using hb), Below.heap_setCell _ ⟨w.heap.size, 1, none⟩ _ b (by simpa using hb), Below.heap_setCell _ ⟨w.heap.size, 0, none⟩ _ b (by simpa using hb)]
  have hbZ : Below w.heap.size w Z := by
    rw [← hZ]
    exact (((HZ.out.1.below).setCell (p := ⟨w.heap.size, 0, none⟩) (Nat.le_refl _) _).setCell (p := ⟨w.heap.size, 1, none⟩) (Nat.le_refl _) _).setCell (p := ⟨w.heap.size, 2, none⟩) (Nat.le_refl _) _
  have hzs : wr.heap.size ≤ Z.heap.size := by rw [← hZ]; simp
  have z0 := at_cells hzc 0
  have z1 := at_cells hzc 1
  have z2 := at_cells hzc 2
  simp only [List.getElem?_toArray, List.getElem?_cons_succ, List.getElem?_cons_zero] at z0 z1 z2
  rw [hZ]
  clear hZ
  refine bodyPost_ret (v := .tuple #[.agg #[.int .i64 l, .slice (some ⟨w5.heap.size, 0, none⟩) l l, .slice (some ⟨g, 0, none⟩) m ca], .slice (some ⟨Wa.heap.size, 0, none⟩) m m, .slice (some ⟨Wb.heap.size, 0, none⟩) m m, .slice (some ⟨Wd.heap.size, 0, none⟩) l l]) (by simp [results, Try.f21, go_sem, z0, z1, z2]) rfl ?_
  have hfar := HZ.out.1.far
  have hsz := HZ.out.1.sz
  refine ⟨l, m, w5.heap.size, Wa.heap.size, Wb.heap.size, Wd.heap.size, g, ca, A, F, R, P, rfl, hbZ, hN2, ⟨hK8a, hK8b⟩, Hsm.out, ?_, HZ.out.2.1.move (mvZ _ (by omega)), HZ.out.2.2.1.move (mvZ _ (by omega)), HZ.out.2.2.2.1.move (mvZ _ (by omega)), HZ.out.2.2.2.2.1.move (mvZ _ (by omega)), hcap.out, hrc.out, hpc.out⟩
  refine Or.inr ⟨g, 0, rfl, by omega, fun q hq => ?_⟩
  have mv : ∀ o, Z.cell? ⟨g, o, none⟩ = wr.cell? ⟨g, o, none⟩ := fun o => by simp only [World.cell?, mvZ g (by omega)]
  simp only [Nat.zero_add, mv]
  exact HZ.out.1.at hq
end Go.Proofs.Ytjdindfjfpdikaa
