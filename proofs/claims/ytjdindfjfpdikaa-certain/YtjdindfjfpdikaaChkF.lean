import Derived.Test.YtjdindfjfpdikaaChkE
import Derived.Test.YtjdindfjfpdikaaRnd
namespace Go.Proofs.Ytjdindfjfpdikaa
open Go.RowKit Go.Shelf

attribute [local go_sem] Oper.semAt_some

theorem opens_stops (n : Nat) (hn : 1 ≤ n) (Bn Bf : Nat) (W0 : World) (p q r : Option Addr) (ls cs la ca cf : Nat) (S : Nat → Int) (A : Nat → Ar) (F : Nat → Int)
    (hok : NetOk ls ls S la A) (hA : Arcs W0 q la A) (hF : Ints W0 r la F) (hBn : W0.heap[Bn]? = some (.cells #[.int .i64 ls, .slice p ls cs, .slice q la ca] 40)) (hBf : W0.heap[Bf]? = some (.cells #[.slice r la cf] 35)) :
    SeqStopsK Fence.wide n Try.prog 86 #[.pointer (some ⟨Bn, 0, none⟩), .pointer (some ⟨Bf, 0, none⟩)] (encO (ls := ls)) Kc (AllOpen la A F) (AreOpen la A F) (2 * la) W0 := fun l J Jx W hW hJ _ hY h0 =>
  opens1_in n hn l Bn Bf W0 p q r ls cs la ca cf S A F hok hA hF hBn hBf J Jx W (Kc.of_below hW) hJ hY h0

def saves {ls : Nat} (P : Nat → Int) (x : Op3 ls) : Int := x.1.2.2.1 + P x.1.1.toNat - P x.1.2.1.toNat
def NoneSaves {ls : Nat} (P : Nat → Int) (pre : List (Op3 ls)) : Prop := ∀ x ∈ pre, 0 ≤ saves P x
def OneSaves {ls : Nat} (P : Nat → Int) (pre : List (Op3 ls)) : Prop := ∃ x ∈ pre, saves P x < 0

theorem pairs_of {ls la : Nat} {A : Nat → Ar} {F P : Nat → Int} {ys : List (Op3 ls)} (h : AllOpen la A F ys) (hs : NoneSaves P ys) : ∀ i, i < la → PairOk P (A i) (F i) := fun i hi => by
  refine ⟨fun ⟨h1, h2⟩ => ?_, fun ⟨h1, h2⟩ => ?_⟩
  · obtain ⟨y, hy, e⟩ := (h i hi).1 h2
    have := hs y hy
    unfold saves at this
    rw [e] at this
    unfold dd at h1
    simp only at this
    omega
  · obtain ⟨y, hy, e⟩ := (h i hi).2 h2
    have := hs y hy
    unfold saves at this
    rw [e] at this
    unfold dd at h1
    simp only at this
    omega
theorem no_pairs {ls la : Nat} {A : Nat → Ar} {F P : Nat → Int} {ys : List (Op3 ls)} (h : AreOpen la A F ys) (hs : OneSaves P ys) (hp : ∀ i, i < la → PairOk P (A i) (F i)) : False := by
  obtain ⟨y, hy, h1⟩ := hs
  obtain ⟨i, hi, ⟨h2, e⟩ | ⟨h2, e⟩⟩ := h y hy
  · unfold saves at h1
    rw [e] at h1
    exact (hp i hi).1 ⟨h1, h2⟩
  · unfold saves at h1
    rw [e] at h1
    refine (hp i hi).2 ⟨?_, h2⟩
    unfold dd
    simp only at h1
    omega
theorem keeps_drewN (W : World) (n : Nat) : KeepsOthers W (W.drewN n) := ⟨Nat.le_refl _, fun _ _ h _ => h⟩
theorem below_drewN {B n : Nat} {w W : World} (h : Below B w W) : Below B w (W.drewN n) := ⟨h.os, h.tape, h.output, h.size, h.block⟩

set_option maxRecDepth 100000 in
set_option maxHeartbeats 4000000 in
/-- 'show(n, flow, prices)'. -/
theorem show_any (w : World) (p q r s : Option Addr) (ls cs la ca cf lp cp : Nat) (S : Nat → Int) (A : Nat → Ar) (F P : Nat → Int) (hn : NetOk ls ls S la A) (hA : Arcs w q la A) (hF : Ints w r la F) (hP : Ints w s lp P) :
    Calls Try.prog 53 #[.agg #[.int .i64 ls, .slice p ls cs, .slice q la ca], .slice r la cf, .slice s lp cp] w fun e w' => Ans e (PriceOk ls la A F lp P) ∧ Below w.heap.size w w' := by
  refine (callsIn_wide (n := 5)).1 ?_
  by_cases hl : lp = ls
  case neg =>
    have dl : ((lp : Int) == (ls : Int)) = false := by simp; omega
    have H := veil hl
    clear hl
    refine callsIn_of_wp_marks Try.func53 rfl trivial ?_ rfl
    simp only [Try.ntmps53, List.size_toArray, List.length_cons, List.length_nil, Nat.reduceAdd, Nat.reduceSub, Array.replicate_succ, Array.replicate_zero, List.push_toArray, List.append_toArray, List.nil_append, List.cons_append]
    gi_wp2_with fail
    refine ⟨.bool false, by simp [results, Try.f53, go_sem], ⟨⟨_, rfl, ⟨(fun h => by cases h), fun h => absurd (by have := h.1; omega) H.out⟩⟩, (((Below.refl _ _).alloc (Nat.le_refl _) _).alloc (by simp) _).alloc (by simp; omega) _⟩⟩
  subst hl
  obtain ⟨W1, hW1⟩ : ∃ W1, ((w.alloc (.cells #[.int .i64 lp, .slice p lp cs, .slice q la ca] 40)).alloc (.cells #[.slice s lp cp] 35)).alloc (.cells #[.bool false] 4) = W1 := ⟨_, rfl⟩
  have hb1 : Below w.heap.size w W1 := by rw [← hW1]; exact (((Below.refl _ _).alloc (Nat.le_refl _) _).alloc (by simp) _).alloc (by simp; omega) _
  have hz1 : W1.heap.size = w.heap.size + 3 := by rw [← hW1]; simp
  have hB0 : W1.heap[w.heap.size]? = some (.cells #[.int .i64 lp, .slice p lp cs, .slice q la ca] 40) := by
    rw [← hW1, Below.heap_alloc _ _ _ (by simp; omega), Below.heap_alloc _ _ _ (by simp)]
    exact heap_alloc_new w _
  have hB1 : Boxed W1 (w.heap.size + 1) 35 (.slice s lp cp) := by
    have := (Boxed.new (w.alloc (.cells #[.int .i64 lp, .slice p lp cs, .slice q la ca] 40)) 35 (.slice s lp cp)).alloc (.cells #[.bool false] 4)
    rw [hW1] at this
    simpa using this
  have hB2 : Boxed W1 (w.heap.size + 2) 4 (.bool false) := by
    have := Boxed.new ((w.alloc (.cells #[.int .i64 lp, .slice p lp cs, .slice q la ca] 40)).alloc (.cells #[.slice s lp cp] 35)) 4 (.bool false)
    rw [hW1] at this
    simpa using this
  have hP1 := hP.below hb1
  have H1 := veil (And.intro hW1 (And.intro hb1 (And.intro hB0 (And.intro hB1 hB2))))
  clear hW1 hb1 hB0 hB1 hB2
  refine callsIn_of_wp_marks Try.func53 rfl trivial ?_ rfl
  simp only [Try.ntmps53, List.size_toArray, List.length_cons, List.length_nil, Nat.reduceAdd, Nat.reduceSub, Array.replicate_succ, Array.replicate_zero, List.push_toArray, List.append_toArray, List.nil_append, List.cons_append]
  gi_wp2_with fail
  rw [H1.out.1]
  gi_loopw [17] (fun iv wr => ∃ j : Nat, j ≤ lp ∧ iv = .int .i64 j ∧ wr = W1 ∧ Hid (∀ m, m < j → -1000000 ≤ P m ∧ P m ≤ 1000000)) (fun iv _ => lp - (intOf iv).toNat)
  case atStart => exact ⟨0, Nat.zero_le _, rfl, rfl, fun m hm => by omega⟩
  case' round => skip
  obtain ⟨j, hj, rfl, rfl, hno⟩ := hrel
  by_cases hlt : j < lp
  · obtain ⟨sb, off, rfl, hsb, hc⟩ := hP1.at hlt
    have hjI : (j : Int) < (lp : Int) := by omega
    have h60 : lp ≤ 60 := by have := hn.1.2; omega
    by_cases hs : -1000000 ≤ P j ∧ P j ≤ 1000000
    · have ds : inB (-1000000) 1000000 (P j) = true := inB_iff.2 hs
      have hno' : Hid (∀ m, m < j + 1 → -1000000 ≤ P m ∧ P m ≤ 1000000) := fun m hm => by
        by_cases h1 : m < j
        · exact hno.out m h1
        · obtain rfl : m = j := by omega
          exact hs
      clear hs
      gi_wp2_with (refine ⟨trivial, ?_⟩; gi_at_call 65; refine (callsIn_wide.2 (within_any _ _ _ _)).mono ?_; rintro e w' ⟨rfl, rfl⟩; rw [ds])
      go_roundw
      case rel => exact ⟨j + 1, by omega, by go_num, by first | rfl | trivial, hno'⟩
      case measure => simp [intOf]; omega
    · have ds : inB (-1000000) 1000000 (P j) = false := by rw [Bool.eq_false_iff]; exact fun q => hs (inB_iff.1 q)
      have H := veil hs
      have hcb := H1.out.2.2.2.2.cell
      have hfz := H1.out.2.2.2.2.frozen
      clear hs
      gi_wp2_with (refine ⟨trivial, ?_⟩; gi_at_call 65; refine (callsIn_wide.2 (within_any _ _ _ _)).mono ?_; rintro e w' ⟨rfl, rfl⟩; rw [ds])
      have hcx := World.cell?_setCell_same' w' ⟨w.heap.size + 1 + 1, 0, none⟩ (.bool false) (by rw [hcb]; rfl)
      refine ⟨.bool false, by simp [results, Try.f53, go_sem, hcx], ⟨⟨_, rfl, ⟨(fun h => by cases h), fun h => absurd (h.2.1 j hlt) H.out⟩⟩, H1.out.2.1.setCell (p := ⟨w.heap.size + 1 + 1, 0, none⟩) (by show w.heap.size ≤ w.heap.size + 1 + 1; omega) _⟩⟩
  obtain rfl : j = lp := by omega
  have c0 := at_cells H1.out.2.2.1 0
  have c1 := at_cells H1.out.2.2.1 1
  have c2 := at_cells H1.out.2.2.1 2
  simp only [List.getElem?_toArray, List.getElem?_cons_succ, List.getElem?_cons_zero] at c0 c1 c2
  have hwl : w.heap.size < wr.heap.size := by omega
  clear hlt hj
  gi_wp2_with (refine ⟨trivial, ?_⟩; gi_at_call 67; refine (opens_in _ _ _ _ _ _ _ _ _ _ _ _).mono ?_; rintro e w' ⟨rfl, rfl⟩)
  obtain ⟨W2, hW2⟩ : ∃ W2, (wr.alloc (.cells #[.int .i64 j, .slice p j cs, .slice q la ca] 40)).alloc (.cells #[.slice r la cf] 35) = W2 := ⟨_, rfl⟩
  have hb12 : Below wr.heap.size wr W2 := by rw [← hW2]; exact ((Below.refl _ _).alloc (Nat.le_refl _) _).alloc (by simp) _
  have hb2 : Below w.heap.size w W2 := beyond H1.out.2.1 hb12
  have hz2 : W2.heap.size = w.heap.size + 5 := by rw [← hW2]; simp [hz1]
  have hBn : W2.heap[w.heap.size + 3]? = some (.cells #[.int .i64 j, .slice p j cs, .slice q la ca] 40) := by
    rw [← hW2, Below.heap_alloc _ _ _ (by simp; omega), ← hz1]
    exact heap_alloc_new wr _
  have hBf : W2.heap[w.heap.size + 3 + 1]? = some (.cells #[.slice r la cf] 35) := by
    have := heap_alloc_new (wr.alloc (.cells #[.int .i64 j, .slice p j cs, .slice q la ca] 40)) (.cells #[.slice r la cf] 35)
    rw [hW2] at this
    simpa [hz1] using this
  have bP : Boxed W2 (w.heap.size + 1) 35 (.slice s j cp) := (hb12.block _ (by omega)).trans H1.out.2.2.2.1
  have bR : Boxed W2 (w.heap.size + 1 + 1) 4 (.bool false) := (hb12.block _ (by omega)).trans H1.out.2.2.2.2
  rw [hW2]
  clear hW2
  refine wpIn_rangeFunc_ownH rfl (by decide) (gf := 86) (lb := #[.pointer (some ⟨w.heap.size + 3, 0, none⟩), .pointer (some ⟨w.heap.size + 3 + 1, 0, none⟩)]) rfl trivial (enters_of Try.func86 (by kernel_rfl) rfl)
    (opens_stops 4 (by decide) _ _ W2 p q r j cs la ca cf S A F hn (hA.below hb2) (hF.below hb2) hBn hBf) Kc.trans (fun W l o o' h1 h2 h3 h4 => Kc.put (w := W2) W l o o' h1 h2 h3 h4) (Below.refl _ _) (fun _ => rfl)
    (fun pre W => (Boxed W (w.heap.size + 1) 35 (.slice s j cp) ∧ Boxed W (w.heap.size + 1 + 1) 4 (.bool false)) ∧ (Hid (NoneSaves P pre) ∧ Below w.heap.size w W))
    (fun c pre W => Boxed W (w.heap.size + 1 + 1) 4 (.bool false) ∧ (Hid (c = .ret ∧ OneSaves P pre) ∧ Below w.heap.size w W))
    (OwnFrom.and (OwnFrom.and (Own.from (boxed_own _ _ (fun _ => _)) _) (Own.from (boxed_own _ _ (fun _ => _)) _)) (OwnFrom.and (fun _ _ _ _ hs _ _ => hs) (ownFrom_below (Nat.le_refl _) (by omega))))
    (fun c => OwnFrom.and (Own.from (boxed_own _ _ (fun _ => _)) _) (OwnFrom.and (fun _ _ _ _ hs _ _ => hs) (ownFrom_below (Nat.le_refl _) (by omega))))
    ⟨⟨bP, bR⟩, (fun x hx => by cases hx), hb2⟩
    (fun x a' W => ∃ Bx, W.heap[Bx]? = some (.cells #[.int .i64 x.1.1, .int .i64 x.1.2.1, .int .i64 x.1.2.2.1, .int .i64 x.1.2.2.2.1, .int .i64 x.1.2.2.2.2] 116) ∧ a' = { tmps := #[.agg #[.int .i64 j, .slice p j cs, .slice q la ca], .slice r la cf, .slice s j cp, .pointer (some ⟨w.heap.size, 0, none⟩), undef, .pointer (some ⟨w.heap.size + 1, 0, none⟩), .pointer (some ⟨w.heap.size + 1 + 1, 0, none⟩), undef, u8, .pointer (some ⟨Bx, 0, none⟩), .slice s j cp, .int .i64 j, .pointer (some ⟨w.heap.size, 0, none⟩), .int .i64 j, .bool false, .slice s j cp, .int .i64 j, .int .i64 j, .bool false, u19, u20, u21, u22, u23, u24, .agg #[.int .i64 j, .slice p j cs, .slice q la ca], .slice r la cf, .func (.func 86) #[] #[.pointer (some ⟨w.heap.size + 3, 0, none⟩), .pointer (some ⟨w.heap.size + 3 + 1, 0, none⟩)], .agg #[.int .i64 x.1.1, .int .i64 x.1.2.1, .int .i64 x.1.2.2.1, .int .i64 x.1.2.2.2.1, .int .i64 x.1.2.2.2.2], undef, undef, undef, undef, undef, undef, undef, undef, undef, undef, undef, undef, undef, undef, undef], defers := [] })
    (fun x a' _ X Y row hs hg hrow => by
      obtain ⟨Bx, h1, h2⟩ := hs
      refine ⟨Bx, (hg.block Bx (Array.getElem?_eq_some_iff.1 h1).1 (fun e' => ?_)).trans h1, h2⟩
      obtain ⟨_, o, ho, hc⟩ := hrow Bx e'.symm
      rw [h1] at ho
      cases ho
      cases hc) ?assign ?body ?done ?stop
  case assign =>
    rintro l pre x W K ⟨⟨h1, h2⟩, h3, h4⟩ hK
    simp only [encO]
    gi_wp2
    have hbW : Below W.heap.size W (W.alloc (.cells #[.int .i64 x.1.1, .int .i64 x.1.2.1, .int .i64 x.1.2.2.1, .int .i64 x.1.2.2.2.1, .int .i64 x.1.2.2.2.2] 116)) := (Below.refl _ _).alloc (Nat.le_refl _) _
    exact hK _ _ ((KeepsOthers.alloc _ _).from _) (Kc.of_below hbW) ⟨⟨h1.alloc _, h2.alloc _⟩, h3, beyond h4 hbW⟩ ⟨W.heap.size, heap_alloc_new W _, rfl⟩
  case body =>
    rintro l pre ⟨⟨xf, xt, xk, xa, xb⟩, ⟨hf0, hf1⟩, ⟨ht0, ht1⟩, hk0, hk1⟩ a' W hl ⟨rr, hr⟩ ⟨⟨h1, h2⟩, h3, h4⟩ ⟨Bx, hBx, rfl⟩ hlt
    simp only at hf0 hf1 ht0 ht1 hk0 hk1 hBx
    obtain ⟨f, rfl⟩ : ∃ f : Nat, xf = (f : Int) := ⟨xf.toNat, by omega⟩
    obtain ⟨t, rfl⟩ : ∃ t : Nat, xt = (t : Int) := ⟨xt.toNat, by omega⟩
    have hPW := hP.below h4
    obtain ⟨sb, off, rfl, hsb, gf⟩ := hPW.at (i := f) (by omega)
    obtain ⟨sb', off', e', hsb', gt⟩ := hPW.at (i := t) (by omega)
    cases e'
    have hPf := hno.out f (by omega)
    have hPt := hno.out t (by omega)
    have k0 := at_cells hBx 0
    have k1 := at_cells hBx 1
    have k2 := at_cells hBx 2
    simp only [List.getElem?_toArray, List.getElem?_cons_succ, List.getElem?_cons_zero] at k0 k1 k2
    have hpc := h1.cell
    have hrc := h2.cell
    have hrf := h2.frozen
    have z0 : Bx < W.heap.size := (Array.getElem?_eq_some_iff.1 hBx).1
    have z1 : w.heap.size + 1 < W.heap.size := h1.lt
    have z2 : w.heap.size + 1 + 1 < W.heap.size := h2.lt
    have HI := veil (And.intro h1 (And.intro h2 (And.intro h3 (And.intro h4 (And.intro hf0 (And.intro ht0 hBx))))))
    clear h1 h2 h3 h4 hBx hr hl hPW
    by_cases hs : xk + P f - P t < 0
    · gi_wp2
      refine region_round rfl (by kernel_rfl) (by kernel_rfl) (by kernel_rfl) ?_
      repeat (gi_big_quiet_step (fail))
      refine wpQuietIn_nil ?_
      rintro _ ⟨nq, rfl⟩
      gi_wp2
      refine ⟨((keeps_drewN W nq).trans (KeepsOthers.setCell _ _ _)).from _, Boxed.set (W := W.drewN nq) _ HI.out.2.1, ⟨rfl, _, List.mem_append_right _ (List.mem_singleton.2 rfl), ?_⟩, (below_drewN HI.out.2.2.2.1).setCell (p := ⟨w.heap.size + 1 + 1, 0, none⟩) (by show w.heap.size ≤ w.heap.size + 1 + 1; omega) _⟩
      show xk + P (f : Int).toNat - P (t : Int).toNat < 0
      rw [Int.toNat_natCast, Int.toNat_natCast]
      exact hs
    · gi_wp2
      refine region_round rfl (by kernel_rfl) (by kernel_rfl) (by kernel_rfl) ?_
      repeat (gi_big_quiet_step (fail))
      refine wpQuietIn_nil ?_
      rintro _ ⟨nq, rfl⟩
      gi_wp2
      refine ⟨(keeps_drewN W nq).from _, Kc.of_below (below_drewN (Below.refl _ _)), ⟨HI.out.1, HI.out.2.1⟩, fun y hy => ?_, below_drewN HI.out.2.2.2.1⟩
      rcases List.mem_append.1 hy with hy | hy
      · exact HI.out.2.2.1.out y hy
      · rw [List.mem_singleton.1 hy]
        show 0 ≤ xk + P (f : Int).toNat - P (t : Int).toNat
        rw [Int.toNat_natCast, Int.toNat_natCast]
        omega
  case done =>
    rintro D ys W hD hS ⟨⟨h1, h2⟩, h3, h4⟩ hK
    have hcr := h2.cell
    have hfr := h2.frozen
    have hrl := h2.lt
    gi_wp2
    have hK' := (KeepsOthers.setCell W ⟨w.heap.size + 1 + 1, 0, none⟩ (.bool true)).same D _ hK rfl
    refine ⟨by simp, .inl ⟨_, _, rfl, run_takeDeferred hK', ?_⟩⟩
    have hc5 := cell_kept (World.cell?_setCell_same' W ⟨w.heap.size + 1 + 1, 0, none⟩ (.bool true) (by rw [hcr]; rfl)) (grownBy_putObj' _ D (.deferred none)) (fun r e => by cases e; exact ⟨_, hK', rfl⟩)
    refine ⟨.bool true, ?_, ⟨_, rfl, ⟨fun _ => ⟨rfl, hno.out, pairs_of hS h3.out⟩, fun _ => rfl⟩⟩, (h4.setCell (p := ⟨w.heap.size + 1 + 1, 0, none⟩) (by show w.heap.size ≤ w.heap.size + 1 + 1; omega) _).trans (belowK_b (w := w) (Nat.le_refl _) _ D _ _ (by omega) hK' rfl rfl)⟩
    simp [results, Try.f53, go_sem, hc5]
  case stop =>
    rintro D c pre W hD hS ⟨h2, h3, h4⟩ hK
    have hcr := h2.cell
    obtain ⟨rfl, hone⟩ := h3.out
    gi_wp2
    refine ⟨by simp, .inl ⟨_, _, rfl, run_takeDeferred hK, ?_⟩⟩
    have hc5 := cell_kept hcr (grownBy_putObj' _ D (.deferred none)) (fun r e => by cases e; exact ⟨_, hK, rfl⟩)
    refine ⟨.bool false, ?_, ⟨_, rfl, ⟨(fun h => by cases h), fun h => (no_pairs hS hone h.2.2).elim⟩⟩, h4.trans (belowK_b (w := w) (Nat.le_refl _) W D _ _ (by omega) hK rfl rfl)⟩
    simp [results, Try.f53, go_sem, hc5]
end Go.Proofs.Ytjdindfjfpdikaa
