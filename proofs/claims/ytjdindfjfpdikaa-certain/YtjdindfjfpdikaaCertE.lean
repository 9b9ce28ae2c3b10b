import Derived.Test.YtjdindfjfpdikaaCertC
import Derived.Test.YtjdindfjfpdikaaChkB
namespace Go.Proofs.Ytjdindfjfpdikaa
open Go.RowKit

theorem bal_iff {N la : Nat} {S R : Nat → Int} {A : Nat → Ar} : (∀ v, v < N → sup A R la v = S v) ↔ Bal N S la A R := by
  unfold sup Bal
  exact ⟨fun h v hv => by have := h v hv; omega, fun h v hv => by have := h v hv; omega⟩

set_option maxRecDepth 100000 in
set_option maxHeartbeats 8000000 in
theorem flows_any (w : World) (p q r : Option Addr) (N cs la ca cf : Nat) (S R : Nat → Int) (A : Nat → Ar) (hS : Ints w p N S) (hA : Arcs w q la A) (hR : Ints w r la R) (hN : 2 ≤ N ∧ N ≤ 5) (hla : 1 ≤ la ∧ la ≤ 8) (hsm : ∀ i, i < la → Small1 N (A i)) (hcap : ∀ m, m < la → 0 ≤ R m ∧ R m ≤ (A m).c) :
    Calls Try.prog 22 #[.agg #[.int .i64 N, .slice p N cs, .slice q la ca], .slice r la cf] w fun e w' => Ans e (Bal N S la A R) ∧ Below w.heap.size w w' := by
  obtain ⟨i0, hi0, hz0, hz1, hz2⟩ := info_parts infoI
  obtain ⟨W, hW⟩ : ∃ W, w.alloc (.cells #[.int .i64 N, .slice p N cs, .slice q la ca] 40) = W := ⟨_, rfl⟩
  have hbW : Below w.heap.size w W := by rw [← hW]; exact (Below.refl _ _).alloc (Nat.le_refl _) _
  have hWz : W.heap.size = w.heap.size + 1 := by rw [← hW]; simp
  have hWb : W.heap[w.heap.size]? = some (.cells #[.int .i64 N, .slice p N cs, .slice q la ca] 40) := by rw [← hW]; exact heap_alloc_new w _
  have HW := hid' (And.intro hW (And.intro hWz (And.intro hWb hbW)))
  have Hm := hid' (And.intro hS (And.intro hA (And.intro hR (And.intro hsm hcap))))
  have hN2 := hN.2
  have hl8 := hla.2
  clear hW hWz hWb hbW hS hA hR hsm hcap hN hla
  go_enter Try.func22, Try.ntmps22
  go_upto_region 2 with (first
    | (at_make; refine wpList_make_full _ rfl _ _ 35 rfl 0 3 i0 (.int .i64 0) 1 Try.underlying35 hi0 hz0 hz1 .i64 .i64 (N : Int) (N : Int) N rfl rfl rfl rfl (by rw [hz2]; omega) (by unfold maxLen; omega) (Nat.zero_le _) ?_; intro w1 hrow hg1)
    | fail)
  rw [HW.out.1] at hrow hg1
  have hN1 := nums_made (g := W.heap.size) hrow rfl
  rw [HW.out.2.1] at hN1
  have hb1 : Below (w.heap.size + 1) W w1 := (Below.refl _ _).grown hg1 (by have := HW.out.2.1; omega) (fun k e => by cases e)
  have H1 := hid' (And.intro hN1 hb1)
  clear hrow hg1 hN1 hb1
  go_wp2_with fail
  go_loopg [6] la (fun gk iv wr => ∃ i : Nat, i ≤ la ∧ la - i ≤ gk ∧ iv = .int .i64 i ∧ Nums wr (w.heap.size + 1) N (sup A R i) ∧ Below (w.heap.size + 1) W wr)
  case atStart => exact ⟨0, Nat.zero_le _, Nat.le_refl _, rfl, H1.out.1, H1.out.2⟩
  case' round => skip
  clear H1
  obtain ⟨i, hi, hgk, rfl, hG, hb⟩ := hrel
  have hbw : Below w.heap.size w wr := HW.out.2.2.2.trans (hb.mono (Nat.le_succ _))
  have hnb := (hb.block w.heap.size (by omega)).trans HW.out.2.2.1
  have n0 := at_cells hnb 0
  have n1 := at_cells hnb 1
  have n2 := at_cells hnb 2
  simp only [List.getElem?_toArray, List.getElem?_cons_succ, List.getElem?_cons_zero] at n0 n1 n2
  have nl : w.heap.size < wr.heap.size := (Array.getElem?_eq_some_iff.1 hnb).1
  by_cases hlt : i < la
  · obtain ⟨sb, off, rfl, hsb', g0, g1, g2, g3⟩ := Hm.out.2.1.at hlt
    obtain ⟨sf, of', rfl, hsf', gf⟩ := Hm.out.2.2.1.at hlt
    have hsb : sb < wr.heap.size := Nat.lt_of_lt_of_le hsb' hbw.size
    have hsf : sf < wr.heap.size := Nat.lt_of_lt_of_le hsf' hbw.size
    have mvb : ∀ o, wr.cell? ⟨sb, o, none⟩ = w.cell? ⟨sb, o, none⟩ := fun o => hbw.cell (p := ⟨sb, o, none⟩) hsb'
    rw [← mvb] at g0 g1 g2 g3
    rw [← hbw.cell (p := ⟨sf, of' + i, none⟩) hsf'] at gf
    have hiI : (i : Int) < (la : Int) := by omega
    have hac := Hm.out.2.2.2.1 i hlt
    obtain ⟨f, hf⟩ : ∃ f : Nat, (A i).f = (f : Int) := ⟨(A i).f.toNat, by have := hac.1.1; omega⟩
    obtain ⟨t, ht⟩ : ∃ t : Nat, (A i).t = (t : Int) := ⟨(A i).t.toNat, by have := hac.2.1.1; omega⟩
    have hfl : f < N := by have := hac.1.2; omega
    have htl : t < N := by have := hac.2.1.2; omega
    rw [hf] at g0
    rw [ht] at g1
    have hfI : (f : Int) < (N : Int) := by omega
    have htI : (t : Int) < (N : Int) := by omega
    have hm1000 : ∀ m, m < i → 0 ≤ R m ∧ R m ≤ 1000 := fun m hm => ⟨(Hm.out.2.2.2.2 m (by omega)).1, by have h1 := (Hm.out.2.2.2.2 m (by omega)).2; have h2 := (Hm.out.2.2.2.1 m (by omega)).2.2.1.2; omega⟩
    have hBf := sup_bound (A := A) (v := f) (by omega : i ≤ 600) hm1000
    have hBt := hid' (And.intro (sup_bound (A := A) (v := t) (by omega : i ≤ 600) hm1000) hBf)
    have hR0 := (Hm.out.2.2.2.2 i hlt).1
    have hR1 : R i ≤ 3 := by have h1 := (Hm.out.2.2.2.2 i hlt).2; have h2 := hac.2.2.1.2; omega
    have gv := hG.cell hfl
    have fz := hG.frozen f
    have z2 : w.heap.size + 1 < wr.heap.size := hG.lt
    have Hh := hid' (And.intro hG (And.intro hb (And.intro hbw (And.intro hac (And.intro hf (And.intro ht (And.intro hnb (And.intro g1 (And.intro gf n2)))))))))
    clear hG hb hbw hac hf ht hnb hm1000 g2 g3 mvb n0 n1
    clear g1
    go_upto_region 5 with fail
    go_region
    go_upto_region 6 with fail
    obtain ⟨u, hu⟩ : ∃ u, (wr.setCell ⟨w.heap.size + 1, f, none⟩ (.int .i64 (sup A R i f + R i))).drew = u := ⟨_, rfl⟩
    have mvu : ∀ b, b ≠ w.heap.size + 1 → u.heap[b]? = wr.heap[b]? := fun b hb => by rw [← hu]; exact Below.heap_setCell wr ⟨w.heap.size + 1, f, none⟩ _ b (by simpa using hb)
    have hGu : Nums u (w.heap.size + 1) N (setN (sup A R i) f (sup A R i f + R i)) := by rw [← hu]; exact Hh.out.1.set f _
    have hBu : Below (w.heap.size + 1) W u := by rw [← hu]; exact (Hh.out.2.1.setCell (p := ⟨w.heap.size + 1, f, none⟩) (Nat.le_refl _) _).drew
    have zu : wr.heap.size = u.heap.size := by rw [← hu]; simp
    have mc : ∀ b o, b ≠ w.heap.size + 1 → u.cell? ⟨b, o, none⟩ = wr.cell? ⟨b, o, none⟩ := fun b o hb => by simp only [World.cell?, mvu b hb]
    have g1 := (mc sb (off + i * 4 + 1) (by omega)).trans Hh.out.2.2.2.2.2.2.2.1
    have gfu := (mc sf (of' + i) (by omega)).trans Hh.out.2.2.2.2.2.2.2.2.1
    have n2u := (mc w.heap.size 2 (by omega)).trans Hh.out.2.2.2.2.2.2.2.2.2
    rw [hu]
    clear hu mvu mc gv fz g0 gf n2 hBf
    have hBx : -710000 ≤ setN (sup A R i) f (sup A R i f + R i) t ∧ setN (sup A R i) f (sup A R i f + R i) t ≤ 710000 := by
      have h1 := hBt.out
      unfold setN
      split <;> omega
    have gv := hGu.cell htl
    have fz := hGu.frozen t
    have y0 : sb < u.heap.size := by omega
    have y1 : sf < u.heap.size := by omega
    have y2 : w.heap.size + 1 < u.heap.size := by omega
    have y3 : w.heap.size < u.heap.size := by omega
    obtain ⟨y, hy⟩ : ∃ y, setN (sup A R i) f (sup A R i f + R i) t = y := ⟨_, rfl⟩
    rw [hy] at gv hBx
    have Hu := hid' (And.intro hGu (And.intro hBu hy))
    clear hGu hBu hy z2 nl zu hsb hsf
    go_region
    go_wp2_with fail
    go_roundg (la - (i + 1))
    case measure => omega
    case rel =>
      refine ⟨i + 1, by omega, Nat.le_refl _, by go_num, ?_, (Hu.out.2.1.setCell (p := ⟨w.heap.size + 1, t, none⟩) (Nat.le_refl _) _).drew⟩
      refine Nums.congr (G := setN (setN (sup A R i) f (sup A R i f + R i)) t (y - R i)) (Hu.out.1.set t (y - R i)) (fun v' _ => ?_)
      have h2 := sup_succ A R i v' Hh.out.2.2.2.1.1.1 Hh.out.2.2.2.1.2.1.1
      rw [Hh.out.2.2.2.2.1, Hh.out.2.2.2.2.2.1] at h2
      simp only [Int.toNat_natCast] at h2
      rw [Hu.out.2.2] at h2
      exact h2
  obtain rfl : i = la := by omega
  obtain ⟨Wq, hWq⟩ : ∃ Wq, Wq = wr := ⟨_, rfl⟩
  subst hWq
  clear hlt hi hgk
  have Hb := hid' (And.intro hG (And.intro hbw hnb))
  clear hG hb hbw hnb n0 n1
  go_wp2_with fail
  clear n2 nl
  go_loopg [7] N (fun gk iv W' => ∃ v : Nat, v ≤ N ∧ N - v ≤ gk ∧ iv = .int .i64 v ∧ Below Wq.heap.size Wq W' ∧ Hid (∀ m, m < v → sup A R i m = S m))
  case atStart => exact ⟨0, Nat.zero_le _, Nat.le_refl _, rfl, Below.refl _ _, fun m hm => by omega⟩
  case' round => skip
  obtain ⟨v, hv, hgk, rfl, hbq, hz⟩ := hrel
  have hG := Hb.out.1.below hbq
  have hnb := (hbq.block w.heap.size (Array.getElem?_eq_some_iff.1 Hb.out.2.2).1).trans Hb.out.2.2
  have hbw := beyond Hb.out.2.1 hbq
  have n0 := at_cells hnb 0
  have n1 := at_cells hnb 1
  simp only [List.getElem?_toArray, List.getElem?_cons_succ, List.getElem?_cons_zero] at n0 n1
  have nl : w.heap.size < wr.heap.size := (Array.getElem?_eq_some_iff.1 hnb).1
  by_cases hlt : v < N
  · obtain ⟨sp, op, rfl, hsp, gs⟩ := (Hm.out.1.below hbw).at hlt
    have hvI : (v : Int) < (N : Int) := by omega
    have gv := hG.cell hlt
    have gl := hG.lt
    have Hq := hid' (And.intro hbq hbw)
    clear hG hnb hbw hbq
    by_cases h0 : sup A R i v = S v
    · rw [h0] at gv
      go_wp2_with fail
      go_region
      go_wp2_with fail
      go_roundg (N - (v + 1))
      case measure => omega
      case rel =>
        refine ⟨v + 1, by omega, Nat.le_refl _, by go_num, Hq.out.1.drew, fun m hm => ?_⟩
        by_cases h1 : m < v
        · exact hz.out m h1
        · obtain rfl : m = v := by omega
          exact h0
    · have d0 : (sup A R i v == S v) = false := by simpa using h0
      have Hc := hid' h0
      clear h0
      go_wp2_with fail
      go_region
      go_wp2_with fail
      go_ret
      exact ⟨⟨_, rfl, ⟨(fun h => by cases h), fun h => absurd (bal_iff.2 h v hlt) Hc.out⟩⟩, Hq.out.2.drew⟩
  · obtain rfl : v = N := by omega
    clear hlt hv
    go_wp2_with fail
    go_ret
    exact ⟨⟨_, rfl, ⟨fun _ => bal_iff.1 hz.out, fun _ => rfl⟩⟩, hbw⟩

theorem mul_small {x k : Int} (h0 : 0 ≤ x) (h1 : x ≤ 3) (k0 : -3 ≤ k) (k1 : k ≤ 5) : -9 ≤ x * k ∧ x * k ≤ 15 := by
  obtain rfl | rfl | rfl | rfl : x = 0 ∨ x = 1 ∨ x = 2 ∨ x = 3 := by omega
  all_goals omega

theorem cost_bound {A : Nat → Ar} {R : Nat → Int} : ∀ i, (∀ m, m < i → -9 ≤ R m * (A m).k ∧ R m * (A m).k ≤ 15) → -9 * (i : Int) ≤ cost A R i ∧ cost A R i ≤ 15 * (i : Int)
  | 0, _ => by simp [cost, sumN]
  | i + 1, h => by
    have h1 := cost_bound i (fun m hm => h m (by omega))
    have h2 := h i (by omega)
    unfold cost at h1 ⊢
    simp only [sumN]
    omega

set_option maxRecDepth 100000 in
set_option maxHeartbeats 8000000 in
theorem total_any (w : World) (p q r : Option Addr) (N cs la ca cf ls : Nat) (R : Nat → Int) (A : Nat → Ar) (hA : Arcs w q la A) (hR : Ints w r la R) (hla : 1 ≤ la ∧ la ≤ 8) (hsm : ∀ i, i < la → Small1 N (A i)) (hcap : ∀ m, m < la → 0 ≤ R m ∧ R m ≤ (A m).c) :
    Calls Try.prog 23 #[.agg #[.int .i64 N, .slice p ls cs, .slice q la ca], .slice r la cf] w fun e w' => e = .returned (.int .i64 (cost A R la)) ∧ Below w.heap.size w w' := by
  obtain ⟨W, hW⟩ : ∃ W, w.alloc (.cells #[.int .i64 N, .slice p ls cs, .slice q la ca] 40) = W := ⟨_, rfl⟩
  have hbW : Below w.heap.size w W := by rw [← hW]; exact (Below.refl _ _).alloc (Nat.le_refl _) _
  have hWb : W.heap[w.heap.size]? = some (.cells #[.int .i64 N, .slice p ls cs, .slice q la ca] 40) := by rw [← hW]; exact heap_alloc_new w _
  have hmul : ∀ m, m < la → -9 ≤ R m * (A m).k ∧ R m * (A m).k ≤ 15 := fun m hm => mul_small (hcap m hm).1 (by have h1 := (hcap m hm).2; have h2 := (hsm m hm).2.2.1.2; omega) (hsm m hm).2.2.2.1 (hsm m hm).2.2.2.2
  have HW := hid' (And.intro hW (And.intro hWb hbW))
  have Hm := hid' (And.intro hA (And.intro hR hmul))
  have hl8 := hla.2
  clear hW hWb hbW hA hR hsm hcap hla hmul
  go_enter Try.func23, Try.ntmps23
  go_wp2_with fail
  rw [HW.out.1]
  go_loopg [6, 5] la (fun gk iv cv wr => ∃ i : Nat, i ≤ la ∧ la - i ≤ gk ∧ iv = .int .i64 i ∧ cv = .int .i64 (cost A R i) ∧ Below W.heap.size W wr)
  case atStart => exact ⟨0, Nat.zero_le _, Nat.le_refl _, rfl, rfl, Below.refl _ _⟩
  case' round => skip
  obtain ⟨i, hi, hgk, rfl, rfl, hb⟩ := hrel
  have hnb := (hb.block w.heap.size (Array.getElem?_eq_some_iff.1 HW.out.2.1).1).trans HW.out.2.1
  have hbw := beyond HW.out.2.2 hb
  have n2 := at_cells hnb 2
  simp only [List.getElem?_toArray, List.getElem?_cons_succ, List.getElem?_cons_zero] at n2
  have nl : w.heap.size < wr.heap.size := (Array.getElem?_eq_some_iff.1 hnb).1
  by_cases hlt : i < la
  · obtain ⟨sb, off, rfl, hsb, _, _, _, g3⟩ := (Hm.out.1.below hbw).at hlt
    obtain ⟨sf, of', rfl, hsf, gf⟩ := (Hm.out.2.1.below hbw).at hlt
    have hiI : (i : Int) < (la : Int) := by omega
    have hmi := Hm.out.2.2 i hlt
    have hcb := cost_bound (A := A) (R := R) i (fun m hm => Hm.out.2.2 m (by omega))
    have hcs : cost A R (i + 1) = cost A R i + R i * (A i).k := rfl
    have Hq := hid' (And.intro hb hcs)
    clear hb hbw hnb hcs
    go_wp2_with fail
    go_region
    go_wp2_with fail
    go_roundg (la - (i + 1))
    case measure => omega
    case rel => exact ⟨i + 1, by omega, Nat.le_refl _, by go_num, by rw [Hq.out.2], Hq.out.1.drew⟩
  · obtain rfl : i = la := by omega
    clear hlt hi
    go_wp2_with fail
    go_ret
    exact ⟨rfl, hbw⟩
end Go.Proofs.Ytjdindfjfpdikaa
