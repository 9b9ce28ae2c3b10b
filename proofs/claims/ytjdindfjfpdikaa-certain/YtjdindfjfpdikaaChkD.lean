import Derived.Test.YtjdindfjfpdikaaChkC
import Derived.Deep.DeepCutAuto
import Derived.Deep.RegionLaw
namespace Go.Proofs.Ytjdindfjfpdikaa
open Go.RowKit

def left (S : Nat → Int) (A : Nat → Ar) (F : Nat → Int) (i v : Nat) : Int := S v - out A F v i + inn A F v i
theorem left_succ (S : Nat → Int) (A : Nat → Ar) (F : Nat → Int) (i v : Nat) (h0 : 0 ≤ (A i).f) (h1 : 0 ≤ (A i).t) :
    setN (setN (left S A F i) (A i).f.toNat (left S A F i (A i).f.toNat - F i)) (A i).t.toNat (setN (left S A F i) (A i).f.toNat (left S A F i (A i).f.toNat - F i) (A i).t.toNat + F i) v = left S A F (i + 1) v := by
  have e0 : (A i).f = (v : Int) ↔ v = (A i).f.toNat := by omega
  have e1 : (A i).t = (v : Int) ↔ v = (A i).t.toNat := by omega
  simp only [left, out, inn, e0, e1]
  generalize (A i).f.toNat = f
  generalize (A i).t.toNat = t
  unfold setN
  by_cases ht : v = t
  · subst ht
    rw [if_pos rfl, if_pos rfl]
    by_cases hf : v = f
    · subst hf; rw [if_pos rfl, if_pos rfl]; (try simp only [left]); omega
    · rw [if_neg hf, if_neg hf]; (try simp only [left]); omega
  · rw [if_neg ht, if_neg ht]
    by_cases hf : v = f
    · subst hf; rw [if_pos rfl, if_pos rfl]; (try simp only [left]); omega
    · rw [if_neg hf, if_neg hf]; (try simp only [left]); omega
theorem left_bound {S : Nat → Int} {A : Nat → Ar} {F : Nat → Int} {i v : Nat} (hS : -1000 ≤ S v ∧ S v ≤ 1000) (hi : i ≤ 600) (hF : ∀ m, m < i → 0 ≤ F m ∧ F m ≤ 1000) : -700000 ≤ left S A F i v ∧ left S A F i v ≤ 700000 := by
  have h1 := out_bound (A := A) (v := v) hF
  have h2 := inn_bound (A := A) (v := v) hF
  unfold left
  omega
theorem splice_all (n : Nat) (G H : Nat → Int) : splice (numL n G) 0 (numL n H) = numL n H := by
  simp [splice, numL_length, List.drop_eq_nil_of_le]
theorem box_of {w w' : World} {o : Obj} {B : Nat} (hb : Below B (w.alloc o) w') (hB : w.heap.size < B) : w'.heap[w.heap.size]? = some o := by
  rw [hb.block _ hB]
  exact heap_alloc_new w o

set_option maxRecDepth 100000 in
set_option maxHeartbeats 8000000 in
/-- 'isFlow(n, flow)'. -/
theorem isFlow_any (w : World) (p q r : Option Addr) (ls cs la ca lf cf : Nat) (S : Nat → Int) (A : Nat → Ar) (F : Nat → Int) (hn : NetOk ls ls S la A) (hS : Ints w p ls S) (hA : Arcs w q la A) (hF : Ints w r lf F) :
    Calls Try.prog 52 #[.agg #[.int .i64 ls, .slice p ls cs, .slice q la ca], .slice r lf cf] w fun e w' => Ans e (FlowOk ls S la A lf F) ∧ Below w.heap.size w w' := by
  have hbw : Below w.heap.size w (w.alloc (.cells #[.int .i64 ls, .slice p ls cs, .slice q la ca] 40)) := (Below.refl _ _).alloc (Nat.le_refl _) _
  by_cases hl : lf = la
  case neg =>
    have dl : ((lf : Int) == (la : Int)) = false := by simp; omega
    have H := veil hl
    clear hl
    go_enter Try.func52, Try.ntmps52
    go_wp2_with fail
    go_ret
    exact ⟨⟨_, rfl, ⟨(fun h => by cases h), fun h => absurd h.1 H.out⟩⟩, hbw⟩
  subst hl
  obtain ⟨i0, hi0, hz0, hz1, hz2⟩ := info_parts infoI
  have h60 : ls ≤ 60 := by have := hn.1.2; omega
  have h600 : lf ≤ 600 := hn.2.2.1
  have hsrc : 0 < (numL ls S).length → ∃ sb off : Nat, p = some ⟨sb, off, none⟩ ∧ sb < w.heap.size ∧ ∀ (j : Nat) (v : Value), (numL ls S)[j]? = some v → w.cell? ⟨sb, off + j, none⟩ = some v := fun h0 => by
    rw [numL_length] at h0
    rcases hS with h | ⟨sb, off, hp, hs, hc⟩
    · omega
    · refine ⟨sb, off, hp, hs, fun j v hv => ?_⟩
      have hj : j < ls := by
        have := (List.getElem?_eq_some_iff.1 hv).1
        rwa [numL_length] at this
      rw [numL_at S hj] at hv
      rw [hc j hj]
      exact hv
  have Hn := veil hn
  have Hw := veil hbw
  have Hx := veil (And.intro hS (And.intro hA hF))
  have Hs := veil hsrc
  clear hn hbw hS hA hF hsrc
  have hlenC : (numL ls S).length = Nat.min ls ls := by rw [numL_length]; exact (Nat.min_self ls).symm
  have h1c : ∀ v ∈ numL ls S, v.oneCell' = true := fun v hv => by
    obtain ⟨i, _, rfl⟩ := List.mem_map.1 hv
    rfl
  have hfitC : 0 + (numL ls S).length ≤ (numL ls (fun _ => 0)).length := by rw [numL_length, numL_length]; omega
  obtain ⟨W, hW⟩ : ∃ W, w.alloc (.cells #[.int .i64 ls, .slice p ls cs, .slice q lf ca] 40) = W := ⟨_, rfl⟩
  have hWz : W.heap.size = w.heap.size + 1 := by rw [← hW]; simp
  have hWb : W.heap[w.heap.size]? = some (.cells #[.int .i64 ls, .slice p ls cs, .slice q lf ca] 40) := by rw [← hW]; exact heap_alloc_new w _
  have HW := veil (And.intro hW (And.intro hWz hWb))
  clear hWz hWb hW
  go_enter Try.func52, Try.ntmps52
  go_upto_region 4 with (first
    | (at_make; refine wpList_make_full _ rfl _ _ 35 rfl 0 3 i0 (.int .i64 0) 1 Try.underlying35 hi0 hz0 hz1 .i64 .i64 (ls : Int) (ls : Int) ls rfl rfl rfl rfl (by rw [hz2]; omega) (by unfold maxLen; omega) (Nat.zero_le _) ?_; intro w1 hrow hg1)
    | fail)
  rw [HW.out.1] at hrow hg1 Hw
  have hN1 := nums_made (g := W.heap.size) hrow rfl
  rw [HW.out.2.1] at hN1
  have hb1 : Below (w.heap.size + 1) W w1 := (Below.refl _ _).grown hg1 (by have := HW.out.2.1; omega) (fun k e => by cases e)
  have hsz1 : w.heap.size < w1.heap.size := by have h1 := hb1.size; have h2 := HW.out.2.1; omega
  have k1 := at_cells ((hb1.block _ (by omega)).trans HW.out.2.2) 1
  simp only [List.getElem?_toArray, List.getElem?_cons_succ, List.getElem?_cons_zero] at k1
  have hsrc1 : 0 < (numL ls S).length → ∃ ad : Addr, p = some ad ∧ ∀ (j : Nat) (v : Value), (numL ls S)[j]? = some v → w1.cell? (ad.add j) = some v := fun h0 => by
    obtain ⟨sb, off, h2, h3, h4⟩ := Hs.out h0
    exact ⟨_, h2, fun j v hv => by rw [Addr.add_lit]; exact (hb1.cell (p := ⟨sb, off + j, none⟩) (by show sb < w.heap.size + 1; omega)).trans ((Hw.out.cell (p := ⟨sb, off + j, none⟩) h3).trans (h4 j v hv))⟩
  have H1 := veil (And.intro hN1 (And.intro hb1 hsrc1))
  clear hrow hg1 hN1 hb1 hsrc1
  go_upto_region 5 with (first
    | (refine wpList_copy_splice rfl _ _ 35 35 rfl 3 Try.underlying35 sizeI _ _ _ _ _ _ rfl rfl (w.heap.size + 1) 0 (numL ls (fun _ => 0)) 3 H1.out.1 (numL ls S) hlenC (fun h0 => ⟨by simp, H1.out.2.2 h0⟩) hfitC h1c (w.heap.size + 1) W H1.out.2.1 (Nat.le_refl _) ?_; intro w2 hG2 hB2)
    | fail)
  clear k1 hsz1 H1 Hs hlenC h1c hfitC
  have k2 := at_cells ((hB2.block _ (by omega)).trans HW.out.2.2) 2
  simp only [List.getElem?_toArray, List.getElem?_cons_succ, List.getElem?_cons_zero] at k2
  have hsz2 : w.heap.size < w2.heap.size := by have h1 := hB2.size; have h2 := HW.out.2.1; omega
  have hG : Nums w2 (w.heap.size + 1) ls (left S A F 0) := by
    have := hG2.out
    rw [splice_all] at this
    exact Nums.congr (G := S) this (fun i _ => by simp [left, out, inn])
  have H2 := veil (And.intro hG hB2)
  clear hG hG2 hB2
  go_wp2_with fail
  go_loopg [26] lf (fun gk iv wr => ∃ i : Nat, i ≤ lf ∧ lf - i ≤ gk ∧ iv = .int .i64 i ∧ Nums wr (w.heap.size + 1) ls (left S A F i) ∧ Below (w.heap.size + 1) W wr ∧ Hid (∀ m, m < i → 0 ≤ F m ∧ F m ≤ (A m).c))
  case atStart => exact ⟨0, Nat.zero_le _, Nat.le_refl _, rfl, H2.out.1, H2.out.2, fun m hm => by omega⟩
  case' round => skip
  clear k2 hsz2 H2
  obtain ⟨i, hi, hgk, rfl, hG, hb, hok⟩ := hrel
  have hbw : Below w.heap.size w wr := Hw.out.trans (hb.mono (Nat.le_succ _))
  by_cases hlt : i < lf
  · obtain ⟨sb, off, rfl, hsb', g0, g1, g2, g3⟩ := Hx.out.2.1.at hlt
    obtain ⟨sf, of', rfl, hsf', gf⟩ := Hx.out.2.2.at hlt
    have hsb : sb < wr.heap.size := Nat.lt_of_lt_of_le hsb' hbw.size
    have hsf : sf < wr.heap.size := Nat.lt_of_lt_of_le hsf' hbw.size
    have mvb : ∀ o, wr.cell? ⟨sb, o, none⟩ = w.cell? ⟨sb, o, none⟩ := fun o => hbw.cell (p := ⟨sb, o, none⟩) hsb'
    rw [← mvb] at g0 g1 g2 g3
    rw [← hbw.cell (p := ⟨sf, of' + i, none⟩) hsf'] at gf
    clear mvb
    have hiI : (i : Int) < (lf : Int) := by omega
    have hac := Hn.out.2.2.2.2 i hlt
    obtain ⟨f, hf⟩ : ∃ f : Nat, (A i).f = (f : Int) := ⟨(A i).f.toNat, by have := hac.1.1; omega⟩
    obtain ⟨t, ht⟩ : ∃ t : Nat, (A i).t = (t : Int) := ⟨(A i).t.toNat, by have := hac.2.1.1; omega⟩
    have hfl : f < ls := by have := hac.1.2; omega
    have htl : t < ls := by have := hac.2.1.2; omega
    rw [hf] at g0
    rw [ht] at g1
    have hfr : sf < wr.heap.size + 1 := by omega
    have hsr : sb < wr.heap.size + 1 := by omega
    have hbo : Below wr.heap.size wr (wr.alloc (.cells #[.int .i64 f, .int .i64 t, .int .i64 (A i).c, .int .i64 (A i).k] 37)) := (Below.refl _ _).alloc (Nat.le_refl _) _
    have Hh := veil (And.intro hG (And.intro hb (And.intro hbw (And.intro hbo (And.intro hac (And.intro hf ht))))))
    clear hG hb hbw hbo hac hf ht
    by_cases hc : 0 ≤ F i ∧ F i ≤ (A i).c
    · have d0 : inB 0 (A i).c (F i) = true := inB_iff.2 hc
      have Hc := veil hc
      clear hc
      go_upto_region 8 with fail
      go_quiet ((go_at_call 65; exact Calls.quiet_of_same (within_any _ _ _ _)))
      rw [d0]
      go_upto_region 10 with fail
      obtain ⟨u, hu⟩ : ∃ u, (wr.alloc (.cells #[.int .i64 f, .int .i64 t, .int .i64 (A i).c, .int .i64 (A i).k] 37)).drewN nq = u := ⟨_, rfl⟩
      have hbu : Below wr.heap.size wr u := by rw [← hu]; exact ⟨Hh.out.2.2.2.1.os, Hh.out.2.2.2.1.tape, Hh.out.2.2.2.1.output, Hh.out.2.2.2.1.size, Hh.out.2.2.2.1.block⟩
      have hub : u.heap[wr.heap.size]? = some (.cells #[.int .i64 f, .int .i64 t, .int .i64 (A i).c, .int .i64 (A i).k] 37) := by rw [← hu]; exact heap_alloc_new wr _
      rw [hu]
      clear hu
      have hGu := Hh.out.1.below hbu
      have a0 := at_cells hub 0
      simp only [List.getElem?_toArray, List.getElem?_cons_zero] at a0
      have gfu := (hbu.cell (p := ⟨sf, of' + i, none⟩) hsf).trans gf
      have gv := hGu.cell hfl
      have fz := hGu.frozen f
      have z0 : wr.heap.size < u.heap.size := (Array.getElem?_eq_some_iff.1 hub).1
      have z1 : sf < u.heap.size := Nat.lt_of_lt_of_le hsf hbu.size
      have z2 : w.heap.size + 1 < u.heap.size := hGu.lt
      have hm1000 : ∀ m, m < i → 0 ≤ F m ∧ F m ≤ 1000 := fun m hm => ⟨(hok.out m hm).1, Int.le_trans (hok.out m hm).2 (Hn.out.2.2.2.2 m (by omega)).2.2.1.2⟩
      have hB := left_bound (A := A) (v := f) (Hn.out.2.2.2.1 f hfl) (Nat.le_trans hi Hn.out.2.2.1) hm1000
      have hBt := veil (left_bound (A := A) (v := t) (Hn.out.2.2.2.1 t htl) (Nat.le_trans hi Hn.out.2.2.1) hm1000)
      have hF0 := Hc.out.1
      have hF1 : F i ≤ 1000 := Int.le_trans Hc.out.2 Hh.out.2.2.2.2.1.2.2.1.2
      have hfI : (f : Int) < (ls : Int) := by omega
      have htI : (t : Int) < (ls : Int) := by omega
      have HU := veil (And.intro hbu (And.intro hub hGu))
      clear hbu hub hGu hm1000 g0 g1 g2 g3 gf
      go_region
      go_upto_region 11 with fail
      have hgw : w.heap.size + 1 < wr.heap.size := Hh.out.1.lt
      obtain ⟨u2, hu2⟩ : ∃ u2, (u.setCell ⟨w.heap.size + 1, f, none⟩ (.int .i64 (left S A F i f - F i))).drew = u2 := ⟨_, rfl⟩
      have hG2 : Nums u2 (w.heap.size + 1) ls (setN (left S A F i) f (left S A F i f - F i)) := by rw [← hu2]; exact HU.out.2.2.set f _
      have hub2 : u2.heap[wr.heap.size]? = some (.cells #[.int .i64 f, .int .i64 t, .int .i64 (A i).c, .int .i64 (A i).k] 37) := by
        rw [← hu2]
        exact (Below.heap_setCell u ⟨w.heap.size + 1, f, none⟩ _ wr.heap.size (by simp; omega)).trans HU.out.2.1
      have gf2 : u2.cell? ⟨sf, of' + i, none⟩ = some (.int .i64 (F i)) := by
        have e : u2.heap[sf]? = u.heap[sf]? := by rw [← hu2]; exact Below.heap_setCell u ⟨w.heap.size + 1, f, none⟩ _ sf (by simp; omega)
        rw [← gfu]
        simp only [World.cell?, e]
      have hB2 : Below (w.heap.size + 1) W u2 := by
        rw [← hu2]
        exact ((Hh.out.2.1.trans (HU.out.1.mono (by omega))).setCell (p := ⟨w.heap.size + 1, f, none⟩) (Nat.le_refl _) _).drew
      rw [hu2]
      have y0 : wr.heap.size < u2.heap.size := (Array.getElem?_eq_some_iff.1 hub2).1
      have y1 : sf < u2.heap.size := by omega
      have y2 : w.heap.size + 1 < u2.heap.size := by omega
      have b1 := at_cells hub2 1
      simp only [List.getElem?_toArray, List.getElem?_cons_succ, List.getElem?_cons_zero] at b1
      have gv2 := hG2.cell htl
      have fz2 := hG2.frozen t
      have hBx : -710000 ≤ setN (left S A F i) f (left S A F i f - F i) t ∧ setN (left S A F i) f (left S A F i f - F i) t ≤ 710000 := by
        have := hBt.out
        unfold setN
        split <;> omega
      obtain ⟨x, hx⟩ : ∃ x, setN (left S A F i) f (left S A F i f - F i) t = x := ⟨_, rfl⟩
      rw [hx] at gv2 hBx
      have HV := veil (And.intro hG2 (And.intro hB2 hx))
      clear hG2 hub2 hB2 hx a0 gfu gv fz z0 z1 z2 hB hu2
      go_region
      go_upto_region 12 with fail
      go_wp2_with fail
      go_roundg (lf - (i + 1))
      case measure => omega
      case rel =>
        refine ⟨i + 1, by omega, Nat.le_refl _, by go_num, ?_, (HV.out.2.1.setCell (p := ⟨w.heap.size + 1, t, none⟩) (Nat.le_refl _) _).drew, fun m hm => ?_⟩
        · have h1 := HV.out.1.set t (x + F i)
          refine Nums.congr (G := setN (setN (left S A F i) f (left S A F i f - F i)) t (x + F i)) h1 (fun v _ => ?_)
          have h2 := left_succ S A F i v Hh.out.2.2.2.2.1.1.1 Hh.out.2.2.2.2.1.2.1.1
          rw [← h2, Hh.out.2.2.2.2.2.1, Hh.out.2.2.2.2.2.2]
          simp only [Int.toNat_natCast]
          rw [HV.out.2.2]
        · by_cases h1 : m < i
          · exact hok.out m h1
          · obtain rfl : m = i := by omega
            exact Hc.out
    · have d0 : inB 0 (A i).c (F i) = false := by rw [Bool.eq_false_iff]; exact fun q => hc (inB_iff.1 q)
      have Hc := veil hc
      clear hc
      go_upto_region 8 with fail
      go_quiet ((go_at_call 65; exact Calls.quiet_of_same (within_any _ _ _ _)))
      rw [d0]
      go_wp2_with fail
      go_ret
      have hbo := Hh.out.2.2.2.1
      exact ⟨⟨_, rfl, ⟨(fun h => by cases h), fun h => absurd (h.2.1 i hlt) Hc.out⟩⟩, beyond Hh.out.2.2.1 ⟨hbo.os, hbo.tape, hbo.output, hbo.size, hbo.block⟩⟩
  obtain rfl : i = lf := by omega
  clear hlt hi hgk
  have Hb := veil (And.intro hG (And.intro hb hbw))
  have hgl := hG.lt
  clear hG hb hbw
  go_wp2_with fail
  go_loop [64] (fun iv => ∃ v : Nat, v ≤ ls ∧ iv = .int .i64 v ∧ Hid (∀ m, m < v → left S A F i m = 0)) (fun iv => ls - (intOf iv).toNat)
  case atStart => exact ⟨0, Nat.zero_le _, rfl, fun m hm => by omega⟩
  case' round => skip
  obtain ⟨v, hv, rfl, hz⟩ := hrel
  by_cases hlt : v < ls
  · have hvI : (v : Int) < (ls : Int) := by omega
    have gv := Hb.out.1.cell hlt
    by_cases h0 : left S A F i v = 0
    · rw [h0] at gv
      go_wp2_with fail
      go_round
      case rel =>
        refine ⟨v + 1, by omega, by go_num, fun m hm => ?_⟩
        by_cases h1 : m < v
        · exact hz.out m h1
        · obtain rfl : m = v := by omega
          exact h0
      case measure => simp [intOf]; omega
    · have d0 : (left S A F i v == 0) = false := by simpa using h0
      have Hc := veil h0
      clear h0
      go_wp2_with fail
      go_ret
      exact ⟨⟨_, rfl, ⟨(fun h => by cases h), fun h => absurd (by have := h.2.2 v hlt; unfold left; omega) Hc.out⟩⟩, Hb.out.2.2⟩
  · obtain rfl : v = ls := by omega
    clear hlt hv
    go_wp2_with fail
    go_ret
    refine ⟨⟨_, rfl, ⟨fun _ => ⟨rfl, hok.out, fun m hm => ?_⟩, fun _ => rfl⟩⟩, Hb.out.2.2⟩
    have := hz.out m hm
    unfold left at this
    omega
end Go.Proofs.Ytjdindfjfpdikaa
