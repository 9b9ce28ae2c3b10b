import Derived.SizedLaws
import Derived.Deep.LoopGhost
import Derived.Test.YtjdindfjfpdikaaGreatBundleL
import Derived.Test.YtjdindfjfpdikaaGreatBundleI
import Derived.Test.YtjdindfjfpdikaaGreatBundleJ
import Derived.Test.YtjdindfjfpdikaaGreatBundleG
import Derived.Test.YtjdindfjfpdikaaGreatBundleH
namespace Go.Proofs.YtjdindfjfpdikaaGreat
open Go.RowKit

theorem cellsOp {w : World} {b : Nat} {z0 z1 z2 z3 z4 z5 z6 z7 z8 z9 z10 : Value} {t : TypeId} (h : w.heap[b]? = some (.cells #[z0, z1, z2, z3, z4, z5, z6, z7, z8, z9, z10] t)) :
    w.cell? ⟨b, 6, none⟩ = some z6 ∧ w.cell? ⟨b, 7, none⟩ = some z7 ∧ w.cell? ⟨b, 8, none⟩ = some z8 ∧ w.cell? ⟨b, 9, none⟩ = some z9 ∧ w.cell? ⟨b, 10, none⟩ = some z10 := by simp [World.cell?, h]

theorem lent_front {W : World} {g l : Nat} {F : Nat → Int} (h : Nums W g (l + 8) (lentF l F)) : Ints W (some ⟨g, 0, none⟩) l F := Or.inr ⟨g, 0, rfl, h.lt, fun i hi => by rw [Nat.zero_add, h.cell (by omega)]; simp [lentF, hi]⟩
theorem lent_frontA {W : World} {g l : Nat} {A : Nat → Ar} {cs : Array Value} (h : ArcB W g (l + 8) (lentG l A) cs) : Arcs W (some ⟨g, 0, none⟩) l A := Or.inr ⟨g, 0, rfl, h.lt, fun i hi => by
  have := h.at (i := i) (by omega)
  simp only [lentG, if_pos hi] at this
  simpa only [Nat.zero_add] using this⟩
theorem HoldsAt.below {w w' : World} {wb : Nat} {vh : Value} {hs : List (Nat × List Nat)} (h : HoldsAt w wb vh hs) (hb : Below w.heap.size w w') : HoldsAt w' wb vh hs :=
  ⟨h.row.below hb, fun x hx => (h.held x hx).move (fun b hm => hb.block b ((h.held x hx).1 b hm)), h.ne⟩
theorem KeptMore.pre {w W w' : World} {wb n k : Nat} {v vh vh' : Value} {hs hs' : List (Nat × List Nat)} (M : KeptMore W wb n v vh hs k w' vh' hs') (hb : Below w.heap.size w W) (hn : w.heap.size ≤ n) : KeptMore w wb w.heap.size v vh hs k w' vh' hs' :=
  ⟨M.cells, M.holds, M.len, fun x hx => (M.old x hx).imp_right (fun q b hb' => Nat.le_trans hn (q b hb')), fun b h1 h2 h3 => (M.only b (by omega) h2 h3).trans (hb.block b h1), fun b e => (M.loc b e).imp_right (fun q => Nat.le_trans hn q), Nat.le_trans hb.size M.size, M.os.trans hb.os, M.tape.trans hb.tape, M.output.trans hb.output⟩

/-- What stays, in the world of 'checks', while it asks. -/
def SH (ob lb : Nat) (N : Int) (p q r s : Option Addr) (ls cs la ca lf cf lp cp g1 g2 : Nat) (W' : World) : Prop :=
  (W'.cell? ⟨ob, 6, none⟩ = some (.int .i64 N) ∧ W'.cell? ⟨ob, 7, none⟩ = some (.slice p ls cs) ∧ W'.cell? ⟨ob, 8, none⟩ = some (.slice q la ca) ∧ W'.cell? ⟨ob, 9, none⟩ = some (.slice r lf cf) ∧ W'.cell? ⟨ob, 10, none⟩ = some (.slice s lp cp)) ∧
  W'.cell? ⟨lb, 1, none⟩ = some (.slice (some ⟨g1, 0, none⟩) (lf + 8) (lf + 8)) ∧ W'.cell? ⟨lb, 2, none⟩ = some (.slice (some ⟨g2, 0, none⟩) (lp + 8) (lp + 8))

set_option maxRecDepth 100000 in
set_option maxHeartbeats 8000000 in
/-- 'w.checks(o)'. -/
theorem checks_any (w : World) (wb : Nat) (v vh : Value) (hs : List (Nat × List Nat)) (h : w.heap[wb]? = some (.cells #[v, vh] 29)) (H : HoldsAt w wb vh hs) (hn : hs.length ≤ 9000000000000)
    (k m a b c d N : Int) (p q r s : Option Addr) (ls cs la ca lf cf lp cp : Nat) (S : Nat → Int) (A : Nat → Ar) (F P : Nat → Int) (hS : Ints w p ls S) (hA : Arcs w q la A) (hF : Ints w r lf F) (hP : Ints w s lp P)
    (hl0 : ls * 8 ≤ 140737488351232) (hl1 : lf * 8 ≤ 140737488351232) (hl2 : lp * 8 ≤ 140737488351232) (hl3 : la * 32 ≤ 140737488351232) :
    Calls Tryz.prog 14 #[.pointer (some ⟨wb, 0, none⟩), .agg #[.int .i64 k, .int .i64 m, .int .i64 a, .int .i64 b, .int .i64 c, .int .i64 d, .int .i64 N, .slice p ls cs, .slice q la ca, .slice r lf cf, .slice s lp cp]] w fun e w' => e = .returned (.bool true) ∧ ∃ vh' hs', KeptMore w wb w.heap.size v vh hs 4 w' vh' hs' := by
  obtain ⟨W1, hW1⟩ : ∃ W1, w.alloc (.cells #[.int .i64 k, .int .i64 m, .int .i64 a, .int .i64 b, .int .i64 c, .int .i64 d, .int .i64 N, .slice p ls cs, .slice q la ca, .slice r lf cf, .slice s lp cp] 37) = W1 := ⟨_, rfl⟩
  have X1 : W1.heap[w.heap.size]? = some (.cells #[.int .i64 k, .int .i64 m, .int .i64 a, .int .i64 b, .int .i64 c, .int .i64 d, .int .i64 N, .slice p ls cs, .slice q la ca, .slice r lf cf, .slice s lp cp] 37) := by rw [← hW1]; exact heap_alloc_new w _
  have b1 : Below w.heap.size w W1 := by rw [← hW1]; exact (Below.refl _ _).alloc (Nat.le_refl _) _
  have Z1 : w.heap.size < W1.heap.size := (Array.getElem?_eq_some_iff.1 X1).1
  obtain ⟨x6, x7, x8, x9, x10⟩ := cellsOp X1
  have A1 := veil (lent_any W1 N p q r s ls cs la ca lf cf lp cp S A F P (hS.below b1) (hA.below b1) (hF.below b1) (hP.below b1) (by omega) (by omega) (by omega) (by omega))
  have H1 := veil hW1
  clear hW1
  go_enter Tryz.func14, Tryz.ntmps14
  go_upto_region 1 with fail
  rw [H1.out]
  go_wp2_with fail
  refine A1.out.mono ?_
  rintro e W2 ⟨lb, g0, g1, g2, g3, cs', rfl, Ln⟩
  have X2 := (Ln.below.block _ Z1).trans X1
  have Z2 : w.heap.size < W2.heap.size := (Array.getElem?_eq_some_iff.1 X2).1
  clear x6 x7 x8 x9 x10 A1 H1
  go_upto_region 2 with fail
  have L2a : Loan W1 W2.drew lb g0 g1 g2 g3 ls lf lp la S F P A cs' := Ln.keep (Below.refl _ _).drew
  have hS2a : SH w.heap.size lb N p q r s ls cs la ca lf cf lp cp g1 g2 W2.drew := ⟨cellsOp (w := W2.drew) X2, L2a.c1, L2a.c2⟩
  refine wp_region_held_drew (S := SH w.heap.size lb N p q r s ls cs la ca lf cf lp cp g1 g2) (by kernel_rfl) hS2a (fun _ => ?_)
  refine wpAnyH_take (i := 0) (v := ?_) rfl (by kernel_rfl) (by kernel_rfl) (by kernel_rfl) (fun _ _ _ h => h) (Or.inl ⟨by rfl, ?_⟩) hS2a ?_
  rotate_left 1
  · (rintro w ⟨⟨e6, e7, e8, e9, e10⟩, e1, e2⟩; go_simp; try with_reducible rfl)
  change wpAnyH _ _ _ _ _ _ _ (Act.put _ (some 16) _) _
  simp only [Act.put, List.setIfInBounds_toArray, List.set_cons_succ, List.set_cons_zero]
  refine wpAnyH_take (i := 1) (v := ?_) rfl (by kernel_rfl) (by kernel_rfl) (by kernel_rfl) (fun _ _ _ h => h) (Or.inl ⟨by rfl, ?_⟩) hS2a ?_
  rotate_left 1
  · (rintro w ⟨⟨e6, e7, e8, e9, e10⟩, e1, e2⟩; go_simp; try with_reducible rfl)
  change wpAnyH _ _ _ _ _ _ _ (Act.put _ (some 17) _) _
  simp only [Act.put, List.setIfInBounds_toArray, List.set_cons_succ, List.set_cons_zero]
  refine wpAnyH_take (i := 2) (v := ?_) rfl (by kernel_rfl) (by kernel_rfl) (by kernel_rfl) (fun _ _ _ h => h) (Or.inl ⟨by rfl, ?_⟩) hS2a ?_
  rotate_left 1
  · (rintro w ⟨⟨e6, e7, e8, e9, e10⟩, e1, e2⟩; go_simp; try with_reducible rfl)
  change wpAnyH _ _ _ _ _ _ _ (Act.put _ (some 18) _) _
  simp only [Act.put, List.setIfInBounds_toArray, List.set_cons_succ, List.set_cons_zero]
  refine wpAnyH_take (i := 4) (v := ?_) rfl (by kernel_rfl) (by kernel_rfl) (by kernel_rfl) (fun _ _ _ h => h) (Or.inl ⟨by rfl, ?_⟩) hS2a ?_
  rotate_left 1
  · (rintro w ⟨⟨e6, e7, e8, e9, e10⟩, e1, e2⟩; go_simp; try with_reducible rfl)
  change wpAnyH _ _ _ _ _ _ _ (Act.put _ (some 20) _) _
  simp only [Act.put, List.setIfInBounds_toArray, List.set_cons_succ, List.set_cons_zero]
  refine wpAnyH_take (i := 5) (v := ?_) rfl (by kernel_rfl) (by kernel_rfl) (by kernel_rfl) (fun _ _ _ h => h) (Or.inl ⟨by rfl, ?_⟩) hS2a ?_
  rotate_left 1
  · (rintro w ⟨⟨e6, e7, e8, e9, e10⟩, e1, e2⟩; go_simp; try with_reducible rfl)
  change wpAnyH _ _ _ _ _ _ _ (Act.put _ (some 21) _) _
  simp only [Act.put, List.setIfInBounds_toArray, List.set_cons_succ, List.set_cons_zero]
  refine wpAnyH_take (i := 6) (v := ?_) rfl (by kernel_rfl) (by kernel_rfl) (by kernel_rfl) (fun _ _ _ h => h) (Or.inl ⟨by rfl, ?_⟩) hS2a ?_
  rotate_left 1
  · (rintro w ⟨⟨e6, e7, e8, e9, e10⟩, e1, e2⟩; go_simp; try with_reducible rfl)
  change wpAnyH _ _ _ _ _ _ _ (Act.put _ (some 22) _) _
  simp only [Act.put, List.setIfInBounds_toArray, List.set_cons_succ, List.set_cons_zero]
  refine wpAnyH_take (i := 7) (v := ?_) rfl (by kernel_rfl) (by kernel_rfl) (by kernel_rfl) (fun _ _ _ h => h) (Or.inl ⟨by rfl, ?_⟩) hS2a ?_
  rotate_left 1
  · (rintro w ⟨⟨e6, e7, e8, e9, e10⟩, e1, e2⟩; go_simp; try with_reducible rfl)
  change wpAnyH _ _ _ _ _ _ _ (Act.put _ (some 23) _) _
  simp only [Act.put, List.setIfInBounds_toArray, List.set_cons_succ, List.set_cons_zero]
  refine wpAnyH_take (i := 8) (v := ?_) rfl (by kernel_rfl) (by kernel_rfl) (by kernel_rfl) (fun _ _ _ h => h) (Or.inl ⟨by rfl, ?_⟩) hS2a ?_
  rotate_left 1
  · (rintro w ⟨⟨e6, e7, e8, e9, e10⟩, e1, e2⟩; go_simp; try with_reducible rfl)
  change wpAnyH _ _ _ _ _ _ _ (Act.put _ (some 24) _) _
  simp only [Act.put, List.setIfInBounds_toArray, List.set_cons_succ, List.set_cons_zero]
  refine wpAnyH_take (i := 9) (v := ?_) rfl (by kernel_rfl) (by kernel_rfl) (by kernel_rfl) (fun _ _ _ h => h) (Or.inl ⟨by rfl, ?_⟩) hS2a ?_
  rotate_left 1
  · (rintro w ⟨⟨e6, e7, e8, e9, e10⟩, e1, e2⟩; go_simp; try with_reducible rfl)
  change wpAnyH _ _ _ _ _ _ _ (Act.put _ (some 25) _) _
  simp only [Act.put, List.setIfInBounds_toArray, List.set_cons_succ, List.set_cons_zero]
  refine wpAnyH_take (i := 10) (v := ?_) rfl (by kernel_rfl) (by kernel_rfl) (by kernel_rfl) (fun _ _ _ h => h) (Or.inl ⟨by rfl, ?_⟩) hS2a ?_
  rotate_left 1
  · (rintro w ⟨⟨e6, e7, e8, e9, e10⟩, e1, e2⟩; go_simp; try with_reducible rfl)
  change wpAnyH _ _ _ _ _ _ _ (Act.put _ (some 26) _) _
  simp only [Act.put, List.setIfInBounds_toArray, List.set_cons_succ, List.set_cons_zero]
  refine wpAnyH_take (i := 11) (v := ?_) rfl (by kernel_rfl) (by kernel_rfl) (by kernel_rfl) (fun _ _ _ h => h) (Or.inl ⟨by rfl, ?_⟩) hS2a ?_
  rotate_left 1
  · (rintro w ⟨⟨e6, e7, e8, e9, e10⟩, e1, e2⟩; go_simp; rw [if_pos (by omega)])
  change wpAnyH _ _ _ _ _ _ _ (Act.put _ (some 27) _) _
  simp only [Act.put, List.setIfInBounds_toArray, List.set_cons_succ, List.set_cons_zero]
  refine wpAnyH_take (i := 12) (v := ?_) rfl (by kernel_rfl) (by kernel_rfl) (by kernel_rfl) (fun _ _ _ h => h) (Or.inl ⟨by rfl, ?_⟩) hS2a ?_
  rotate_left 1
  · (rintro w ⟨⟨e6, e7, e8, e9, e10⟩, e1, e2⟩; go_simp; try with_reducible rfl)
  change wpAnyH _ _ _ _ _ _ _ (Act.put _ (some 28) _) _
  simp only [Act.put, List.setIfInBounds_toArray, List.set_cons_succ, List.set_cons_zero]
  refine wpAnyH_take (i := 13) (v := ?_) rfl (by kernel_rfl) (by kernel_rfl) (by kernel_rfl) (fun _ _ _ h => h) (Or.inl ⟨by rfl, ?_⟩) hS2a ?_
  rotate_left 1
  · (rintro w ⟨⟨e6, e7, e8, e9, e10⟩, e1, e2⟩; go_simp; try with_reducible rfl)
  change wpAnyH _ _ _ _ _ _ _ (Act.put _ (some 29) _) _
  simp only [Act.put, List.setIfInBounds_toArray, List.set_cons_succ, List.set_cons_zero]
  refine wpAnyH_take (i := 14) (v := ?_) rfl (by kernel_rfl) (by kernel_rfl) (by kernel_rfl) (fun _ _ _ h => h) (Or.inl ⟨by rfl, ?_⟩) hS2a ?_
  rotate_left 1
  · (rintro w ⟨⟨e6, e7, e8, e9, e10⟩, e1, e2⟩; go_simp; try with_reducible rfl)
  change wpAnyH _ _ _ _ _ _ _ (Act.put _ (some 30) _) _
  simp only [Act.put, List.setIfInBounds_toArray, List.set_cons_succ, List.set_cons_zero]
  refine wpAnyH_take (i := 15) (v := ?_) rfl (by kernel_rfl) (by kernel_rfl) (by kernel_rfl) (fun _ _ _ h => h) (Or.inl ⟨by rfl, ?_⟩) hS2a ?_
  rotate_left 1
  · (rintro w ⟨⟨e6, e7, e8, e9, e10⟩, e1, e2⟩; go_simp; try with_reducible rfl)
  change wpAnyH _ _ _ _ _ _ _ (Act.put _ (some 31) _) _
  simp only [Act.put, List.setIfInBounds_toArray, List.set_cons_succ, List.set_cons_zero]
  refine wpAnyH_take (i := 16) (v := ?_) rfl (by kernel_rfl) (by kernel_rfl) (by kernel_rfl) (fun _ _ _ h => h) (Or.inl ⟨by rfl, ?_⟩) hS2a ?_
  rotate_left 1
  · (rintro w ⟨⟨e6, e7, e8, e9, e10⟩, e1, e2⟩; go_simp; try with_reducible rfl)
  change wpAnyH _ _ _ _ _ _ _ (Act.put _ (some 32) _) _
  simp only [Act.put, List.setIfInBounds_toArray, List.set_cons_succ, List.set_cons_zero]
  refine wpAnyH_take (i := 17) (v := ?_) rfl (by kernel_rfl) (by kernel_rfl) (by kernel_rfl) (fun _ _ _ h => h) (Or.inl ⟨by rfl, ?_⟩) hS2a ?_
  rotate_left 1
  · (rintro w ⟨⟨e6, e7, e8, e9, e10⟩, e1, e2⟩; go_simp; try with_reducible rfl)
  change wpAnyH _ _ _ _ _ _ _ (Act.put _ (some 33) _) _
  simp only [Act.put, List.setIfInBounds_toArray, List.set_cons_succ, List.set_cons_zero]
  refine wpAnyH_take (i := 18) (v := ?_) rfl (by kernel_rfl) (by kernel_rfl) (by kernel_rfl) (fun _ _ _ h => h) (Or.inl ⟨by rfl, ?_⟩) hS2a ?_
  rotate_left 1
  · (rintro w ⟨⟨e6, e7, e8, e9, e10⟩, e1, e2⟩; go_simp; try with_reducible rfl)
  change wpAnyH _ _ _ _ _ _ _ (Act.put _ (some 34) _) _
  simp only [Act.put, List.setIfInBounds_toArray, List.set_cons_succ, List.set_cons_zero]
  refine wpAnyH_take (i := 19) (v := ?_) rfl (by kernel_rfl) (by kernel_rfl) (by kernel_rfl) (fun _ _ _ h => h) (Or.inl ⟨by rfl, ?_⟩) hS2a ?_
  rotate_left 1
  · (rintro w ⟨⟨e6, e7, e8, e9, e10⟩, e1, e2⟩; go_simp; rw [if_pos (by omega)])
  change wpAnyH _ _ _ _ _ _ _ (Act.put _ (some 35) _) _
  simp only [Act.put, List.setIfInBounds_toArray, List.set_cons_succ, List.set_cons_zero]
  refine wpAnyH_ready (rs := [3]) (by kernel_rfl) (by simp) ?_
  refine AllReadyH.cons rfl (fun K hK => ?_) AllReadyH.nil
  go_simp
  refine (loanNet_any _ N p q ls cs la ca lb g0 g1 g2 g3 (lf + 8) (lp + 8) L2a.cells).mono ?_
  rintro e W3 ⟨rfl, b3⟩
  have L3 := L2a.keep b3
  have X3 := (b3.block _ (show w.heap.size < W2.drew.heap.size from Z2)).trans (show W2.drew.heap[w.heap.size]? = _ from X2)
  have hS3a : SH w.heap.size lb N p q r s ls cs la ca lf cf lp cp g1 g2 W3 := ⟨cellsOp X3, L3.c1, L3.c2⟩
  refine hK.out _ _ hS3a (fun _ => ?_)
  clear hK K
  refine wpAnyH_ready (rs := [20]) (by kernel_rfl) (by simp) ?_
  refine AllReadyH.cons rfl (fun K hK => ?_) AllReadyH.nil
  go_simp
  refine (check_any _ N _ _ _ _ ls _ la _ lf _ lp _ S A F P (lent_front L3.supply) (lent_frontA L3.arcs) (lent_front L3.flow) (lent_front L3.prices)).mono ?_
  rintro e W4 ⟨c1, rfl, hc1, b4⟩
  have L4 := L3.keep b4
  have X4 := (b4.block _ (Array.getElem?_eq_some_iff.1 X3).1).trans X3
  have hS4a : SH w.heap.size lb N p q r s ls cs la ca lf cf lp cp g1 g2 W4 := ⟨cellsOp X4, L4.c1, L4.c2⟩
  refine hK.out _ _ hS4a (fun _ => ?_)
  clear hK K
  refine wpAnyH_take (i := 21) (v := ?_) rfl (by kernel_rfl) (by kernel_rfl) (by kernel_rfl) (fun _ _ _ h => h) (Or.inl ⟨by rfl, ?_⟩) hS4a ?_
  rotate_left 1
  · (rintro w ⟨⟨e6, e7, e8, e9, e10⟩, e1, e2⟩; go_simp; try with_reducible rfl)
  change wpAnyH _ _ _ _ _ _ _ (Act.put _ (some 6) _) _
  simp only [Act.put, List.setIfInBounds_toArray, List.set_cons_succ, List.set_cons_zero]
  refine wpAnyH_done (by kernel_rfl) ?_ _
  have hb4 : Below w.heap.size w W4 := beyond (beyond (beyond (beyond b1 Ln.below) (Below.refl _ _).drew) b3) b4
  have Z4 : w.heap.size < W4.heap.size := (Array.getElem?_eq_some_iff.1 X4).1
  obtain ⟨x6, x7, x8, x9, x10⟩ := cellsOp X4
  have A3 := veil (unhurt_yes W1 W4 N p q r s ls cs la ca lf cf lp cp lb g0 g1 g2 g3 S F P A cs' L4 (hS.below hb4) (hA.below hb4) (hF.below hb4) (hP.below hb4) hl0 hl1 hl2 hl3)
  clear hS2a hS3a hS4a L2a L3 X3 b3 b4 X2 Z2
  go_upto_region 3 with fail
  go_wp2_with fail
  refine A3.out.mono ?_
  rintro e W5 ⟨rfl, b5⟩
  have L5 := L4.keep b5
  have X5 := (b5.block _ Z4).trans X4
  have hb5 : Below w.heap.size w W5 := beyond hb4 b5
  have Z5 : w.heap.size < W5.heap.size := (Array.getElem?_eq_some_iff.1 X5).1
  clear x6 x7 x8 x9 x10 A3
  obtain ⟨x6, x7, x8, x9, x10⟩ := cellsOp X5
  have A4 := veil (rcheck_any W5 N p q r s ls cs la ca lf cf lp cp S A F P (hS.below hb5) (hA.below hb5) (hF.below hb5) (hP.below hb5))
  go_wp2_with fail
  refine A4.out.mono ?_
  rintro e W6 ⟨c2, rfl, hc2, b6⟩
  obtain rfl : c1 = c2 := hc1.same hc2
  have L6 := L5.keep b6
  have hb6 : Below w.heap.size w W6 := beyond hb5 b6
  have h6 := (hb6.block wb (Array.getElem?_eq_some_iff.1 h).1).trans h
  have H6 := H.below hb6
  have hz1 : w.heap.size ≤ W1.heap.size := b1.size
  have A5 := veil (spoil_any W1 W6 wb lb g0 g1 g2 g3 ls lf lp la S F P A cs' v vh hs L6 h6 H6 hn (fun x hx b hb' => Nat.lt_of_lt_of_le ((H.held x hx).1 b hb') hz1) (by omega) (by omega) (by omega) (by omega))
  clear x6 x7 x8 x9 x10 A4
  go_wp2_with fail
  refine A5.out.mono ?_
  rintro e W7 ⟨rfl, vh', hs', M⟩
  clear A5
  go_wp2_with fail
  go_ret
  exact ⟨rfl, vh', hs', M.pre hb6 hz1⟩
end Go.Proofs.YtjdindfjfpdikaaGreat
namespace Go.Proofs.YtjdindfjfpdikaaGreat
open Go.RowKit Go.ChangeShapes Go.WideShapes

theorem cells91 : Tryz.prog.cellsOf 93 = 4 := by kernel_rfl
theorem bytes3 : Tryz.prog.bytesOf 3 = 8 := by kernel_rfl
theorem bytes91 : Tryz.prog.bytesOf 93 = 32 := by kernel_rfl

section
variable {H : Type} {enc : TypeId × Value → H} {w : World} {base : Nat} {spare : Nat → Bool} {held : Bool}

/-- Whatever weighs there can be reached. -/
def Light (d : DataW H) (t : TypeId) : Prop := ∀ n ∈ d.weights Tryz.prog t, n ≤ reachBytes

theorem ints_of {fuel : Nat} {v : Value} {x : DataW H × List MemPlace} (h : DataW.trod enc Tryz.prog w base spare held fuel 32 [v] = some x) : ∃ p l z F, v = .slice p l z ∧ Ints w p l F ∧ (Light x.1 32 → l * 8 ≤ reachBytes) := by
  rcases Deep.open_slice1 Tryz.underlying32 cells3' h with ⟨hcs, hx⟩ | ⟨a, len, cap, m, n, V, D, Pl, hcs, _, hl, _, hm, hx, hc⟩
  · exact ⟨none, 0, 0, fun _ => 0, by simpa using hcs, Or.inl rfl, fun _ => Nat.zero_le _⟩
  · obtain rfl : v = .slice (some a) len cap := by simpa using hcs
    have hlm : len ≤ m := by rw [hm]; split <;> omega
    have hi : ∀ i, i < len → ∃ k, w.cell? (a.add i) = some (.int .i64 k) := fun i hi => by
      obtain ⟨h1, h2⟩ := hc i (by omega)
      obtain ⟨k, e⟩ := int_cell h2
      rw [e] at h1
      exact ⟨k, h1⟩
    refine ⟨some a, len, cap, fun i => if h : i < len then (hi i h).choose else 0, rfl, ?_, fun hw => ?_⟩
    · by_cases h0 : len = 0
      · exact Or.inl h0
      right
      obtain ⟨sb, off, spot⟩ := a
      obtain ⟨k, hq⟩ := hi 0 (by omega)
      have hs := World.cell?_spot hq
      have hlt := cell_lt hq
      have hspot : spot = none := by simpa [Addr.add] using hs
      subst hspot
      refine ⟨sb, off, rfl, by simpa [Addr.add] using hlt, fun i h => ?_⟩
      have := (hi i h).choose_spec
      simp only [dif_pos h]
      simpa only [Addr.add_lit] using this
    · have := hw ((len + (m - len)) * Tryz.prog.bytesOf 3) (by rw [hx]; simp [DataW.weights, Tryz.underlying32])
      rw [bytes3] at this
      omega

theorem arc_cells {fuel : Nat} {v0 v1 v2 v3 : Value} {x : DataW H × List MemPlace} (h : DataW.trod enc Tryz.prog w base spare held fuel 93 [v0, v1, v2, v3] = some x) : ∃ a : Ar, v0 = .int .i64 a.f ∧ v1 = .int .i64 a.t ∧ v2 = .int .i64 a.c ∧ v3 = .int .i64 a.k := by
  obtain ⟨xs, n, _, _, _, hxl, hf⟩ := DataW.trod_struct Tryz.underlying93 h
  have hxl' : xs.length = 4 := hxl
  have g0 : DataW.trod enc Tryz.prog w base spare held n 3 [v0] = xs[0]? := by have := hf 0 _ rfl; simpa [cells3'] using this
  have g1 : DataW.trod enc Tryz.prog w base spare held n 3 [v1] = xs[1]? := by have := hf 1 _ rfl; simpa [cells3'] using this
  have g2 : DataW.trod enc Tryz.prog w base spare held n 3 [v2] = xs[2]? := by have := hf 2 _ rfl; simpa [cells3'] using this
  have g3 : DataW.trod enc Tryz.prog w base spare held n 3 [v3] = xs[3]? := by have := hf 3 _ rfl; simpa [cells3'] using this
  obtain ⟨x0, e0⟩ := some_of hxl' (show 0 < 4 by decide)
  obtain ⟨x1, e1⟩ := some_of hxl' (show 1 < 4 by decide)
  obtain ⟨x2, e2⟩ := some_of hxl' (show 2 < 4 by decide)
  obtain ⟨x3, e3⟩ := some_of hxl' (show 3 < 4 by decide)
  rw [e0] at g0
  rw [e1] at g1
  rw [e2] at g2
  rw [e3] at g3
  obtain ⟨a, ha⟩ := int_cell (v := v0) g0
  obtain ⟨b, hb⟩ := int_cell (v := v1) g1
  obtain ⟨c, hc⟩ := int_cell (v := v2) g2
  obtain ⟨d, hd⟩ := int_cell (v := v3) g3
  exact ⟨⟨a, b, c, d⟩, ha, hb, hc, hd⟩

theorem arcs_of {fuel : Nat} {v : Value} {x : DataW H × List MemPlace} (h : DataW.trod enc Tryz.prog w base spare held fuel 33 [v] = some x) : ∃ p l z A, v = .slice p l z ∧ Arcs w p l A ∧ (Light x.1 33 → l * 32 ≤ reachBytes) := by
  rcases Deep.open_slice Tryz.underlying33 h with ⟨hcs, hx⟩ | ⟨a, len, cap, m, n, D, Pl, hcs, _, hl, _, hm, hx, hc⟩
  · exact ⟨none, 0, 0, fun _ => ⟨0, 0, 0, 0⟩, by simpa using hcs, Or.inl rfl, fun _ => Nat.zero_le _⟩
  · obtain rfl : v = .slice (some a) len cap := by simpa using hcs
    have hlm : len ≤ m := by rw [hm]; split <;> omega
    rw [cells91] at hc
    have hi : ∀ i, i < len → ∃ k : Ar, w.cell? ((a.add (i * 4)).add 0) = some (.int .i64 k.f) ∧ w.cell? ((a.add (i * 4)).add 1) = some (.int .i64 k.t) ∧ w.cell? ((a.add (i * 4)).add 2) = some (.int .i64 k.c) ∧ w.cell? ((a.add (i * 4)).add 3) = some (.int .i64 k.k) := fun i hi => by
      obtain ⟨cs', h1, h2⟩ := hc i (by omega)
      obtain ⟨_, hlen, hcell⟩ := World.cells?_some h1
      match cs', hlen with
      | [v0, v1, v2, v3], _ =>
        obtain ⟨k, rfl, rfl, rfl, rfl⟩ := arc_cells h2
        exact ⟨k, hcell 0 (by decide), hcell 1 (by decide), hcell 2 (by decide), hcell 3 (by decide)⟩
    refine ⟨some a, len, cap, fun i => if h : i < len then (hi i h).choose else ⟨0, 0, 0, 0⟩, rfl, ?_, fun hw => ?_⟩
    · by_cases h0 : len = 0
      · exact Or.inl h0
      right
      obtain ⟨sb, off, spot⟩ := a
      obtain ⟨k, hq, _⟩ := hi 0 (by omega)
      have hs := World.cell?_spot hq
      have hlt := cell_lt hq
      have hspot : spot = none := by simpa [Addr.add] using hs
      subst hspot
      refine ⟨sb, off, rfl, by simpa [Addr.add] using hlt, fun i h => ?_⟩
      have := (hi i h).choose_spec
      simp only [dif_pos h]
      simpa only [Addr.add_lit, Nat.add_zero] using this
    · have := hw ((len + (m - len)) * Tryz.prog.bytesOf 93) (by rw [hx]; simp [DataW.weights, Tryz.underlying33])
      rw [bytes91] at this
      omega

/-- A call of the script, its lists too. -/
def OpAt (w : World) (sb o : Nat) : Prop := ∃ (k m a b c d n6 : Int) (p7 p8 p9 p10 : Option Addr) (l7 l8 l9 l10 z7 z8 z9 z10 : Nat) (S : Nat → Int) (A : Nat → Ar) (F P : Nat → Int),
    (w.cell? ⟨sb, o, none⟩ = some (.int .i64 k) ∧ w.cell? ⟨sb, o + 1, none⟩ = some (.int .i64 m) ∧ w.cell? ⟨sb, o + 2, none⟩ = some (.int .i64 a) ∧ w.cell? ⟨sb, o + 3, none⟩ = some (.int .i64 b) ∧ w.cell? ⟨sb, o + 4, none⟩ = some (.int .i64 c) ∧ w.cell? ⟨sb, o + 5, none⟩ = some (.int .i64 d) ∧
    w.cell? ⟨sb, o + 6, none⟩ = some (.int .i64 n6) ∧ w.cell? ⟨sb, o + 7, none⟩ = some (.slice p7 l7 z7) ∧ w.cell? ⟨sb, o + 8, none⟩ = some (.slice p8 l8 z8) ∧ w.cell? ⟨sb, o + 9, none⟩ = some (.slice p9 l9 z9) ∧ w.cell? ⟨sb, o + 10, none⟩ = some (.slice p10 l10 z10)) ∧
    (Ints w p7 l7 S ∧ Arcs w p8 l8 A ∧ Ints w p9 l9 F ∧ Ints w p10 l10 P) ∧ (l7 * 8 ≤ 140737488351232 ∧ l8 * 32 ≤ 140737488351232 ∧ l9 * 8 ≤ 140737488351232 ∧ l10 * 8 ≤ 140737488351232)
def IsOpsC (w : World) (p : Option Addr) (len : Nat) : Prop := len = 0 ∨ ∃ sb off, p = some ⟨sb, off, none⟩ ∧ sb < w.heap.size ∧ ∀ i, i < len → OpAt w sb (off + i * 11)

theorem op_lists {fuel : Nat} {v0 v1 v2 v3 v4 v5 v6 v7 v8 v9 v10 : Value} {x : DataW H × List MemPlace} (h : DataW.trod enc Tryz.prog w base spare held fuel 37 [v0, v1, v2, v3, v4, v5, v6, v7, v8, v9, v10] = some x) (hw : Light x.1 37) :
    ∃ (k m a b c d n6 : Int) (p7 p8 p9 p10 : Option Addr) (l7 l8 l9 l10 z7 z8 z9 z10 : Nat) (S : Nat → Int) (A : Nat → Ar) (F P : Nat → Int), (v0 = .int .i64 k ∧ v1 = .int .i64 m ∧ v2 = .int .i64 a ∧ v3 = .int .i64 b ∧ v4 = .int .i64 c ∧ v5 = .int .i64 d ∧ v6 = .int .i64 n6 ∧ v7 = .slice p7 l7 z7 ∧ v8 = .slice p8 l8 z8 ∧ v9 = .slice p9 l9 z9 ∧ v10 = .slice p10 l10 z10) ∧
      (Ints w p7 l7 S ∧ Arcs w p8 l8 A ∧ Ints w p9 l9 F ∧ Ints w p10 l10 P) ∧ (l7 * 8 ≤ 140737488351232 ∧ l8 * 32 ≤ 140737488351232 ∧ l9 * 8 ≤ 140737488351232 ∧ l10 * 8 ≤ 140737488351232) := by
  obtain ⟨xs, n, _, hx, _, hxl, hf⟩ := DataW.trod_struct Tryz.underlying37 h
  have hxl' : xs.length = 9 := hxl
  have g0 : DataW.trod enc Tryz.prog w base spare held n 3 [v0] = xs[0]? := by have := hf 0 _ rfl; simpa [cells3'] using this
  have g1 : DataW.trod enc Tryz.prog w base spare held n 3 [v1] = xs[1]? := by have := hf 1 _ rfl; simpa [cells3'] using this
  have g2 : DataW.trod enc Tryz.prog w base spare held n 3 [v2] = xs[2]? := by have := hf 2 _ rfl; simpa [cells3'] using this
  have g3 : DataW.trod enc Tryz.prog w base spare held n 3 [v3] = xs[3]? := by have := hf 3 _ rfl; simpa [cells3'] using this
  have g4 : DataW.trod enc Tryz.prog w base spare held n 3 [v4] = xs[4]? := by have := hf 4 _ rfl; simpa [cells3'] using this
  have g5 : DataW.trod enc Tryz.prog w base spare held n 3 [v5] = xs[5]? := by have := hf 5 _ rfl; simpa [cells3'] using this
  have g6 : DataW.trod enc Tryz.prog w base spare held n 35 [v6, v7, v8] = xs[6]? := by have := hf 6 _ rfl; simpa [cells68] using this
  have g7 : DataW.trod enc Tryz.prog w base spare held n 32 [v9] = xs[7]? := by have := hf 7 _ rfl; simpa [cells38] using this
  have g8 : DataW.trod enc Tryz.prog w base spare held n 32 [v10] = xs[8]? := by have := hf 8 _ rfl; simpa [cells38] using this
  obtain ⟨x0, e0⟩ := some_of hxl' (show 0 < 9 by decide)
  obtain ⟨x1, e1⟩ := some_of hxl' (show 1 < 9 by decide)
  obtain ⟨x2, e2⟩ := some_of hxl' (show 2 < 9 by decide)
  obtain ⟨x3, e3⟩ := some_of hxl' (show 3 < 9 by decide)
  obtain ⟨x4, e4⟩ := some_of hxl' (show 4 < 9 by decide)
  obtain ⟨x5, e5⟩ := some_of hxl' (show 5 < 9 by decide)
  obtain ⟨x6, e6⟩ := some_of hxl' (show 6 < 9 by decide)
  obtain ⟨x7, e7⟩ := some_of hxl' (show 7 < 9 by decide)
  obtain ⟨x8, e8⟩ := some_of hxl' (show 8 < 9 by decide)
  rw [e0] at g0
  rw [e1] at g1
  rw [e2] at g2
  rw [e3] at g3
  rw [e4] at g4
  rw [e5] at g5
  rw [e6] at g6
  rw [e7] at g7
  rw [e8] at g8
  have hwj : ∀ (j : Nat) (t : TypeId) (y : DataW H × List MemPlace), ([3, 3, 3, 3, 3, 3, 35, 32, 32] : List TypeId)[j]? = some t → xs[j]? = some y → Light y.1 t := fun j t y ht hy nn hnn => by
    refine hw nn ?_
    rw [hx]
    simp only [DataW.weights, Tryz.underlying37]
    refine DataW.weights_mem_each (j := j) (t := t) (d := y.1) ?_ ?_ nn hnn
    · exact ht
    · simp [hy]
  have w6 := hwj 6 35 x6 rfl e6
  obtain ⟨k, hk⟩ := int_cell (v := v0) g0
  obtain ⟨m, hm⟩ := int_cell (v := v1) g1
  obtain ⟨a, ha⟩ := int_cell (v := v2) g2
  obtain ⟨b, hb⟩ := int_cell (v := v3) g3
  obtain ⟨c, hc⟩ := int_cell (v := v4) g4
  obtain ⟨d, hd⟩ := int_cell (v := v5) g5
  obtain ⟨p9, l9, z9, F, h9, i9, b9⟩ := ints_of (v := v9) g7
  obtain ⟨p10, l10, z10, P, h10, i10, b10⟩ := ints_of (v := v10) g8
  obtain ⟨ys, n', _, hy', _, hyl, hy⟩ := DataW.trod_struct (cs := [v6, v7, v8]) Tryz.underlying35 g6
  have hyl' : ys.length = 3 := hyl
  have i0 : DataW.trod enc Tryz.prog w base spare held n' 3 [v6] = ys[0]? := by have := hy 0 _ rfl; simpa [cells3'] using this
  have i1 : DataW.trod enc Tryz.prog w base spare held n' 32 [v7] = ys[1]? := by have := hy 1 _ rfl; simpa [cells38] using this
  have i2 : DataW.trod enc Tryz.prog w base spare held n' 33 [v8] = ys[2]? := by have := hy 2 _ rfl; simpa [cells66] using this
  obtain ⟨y0, f0⟩ := some_of hyl' (show 0 < 3 by decide)
  obtain ⟨y1, f1⟩ := some_of hyl' (show 1 < 3 by decide)
  obtain ⟨y2, f2⟩ := some_of hyl' (show 2 < 3 by decide)
  rw [f0] at i0
  rw [f1] at i1
  rw [f2] at i2
  have hwy : ∀ (j : Nat) (t : TypeId) (y : DataW H × List MemPlace), ([3, 32, 33] : List TypeId)[j]? = some t → ys[j]? = some y → Light y.1 t := fun j t y ht hyy nn hnn => by
    refine w6 nn ?_
    rw [hy']
    simp only [DataW.weights, Tryz.underlying35]
    refine DataW.weights_mem_each (j := j) (t := t) (d := y.1) ?_ ?_ nn hnn
    · exact ht
    · simp [hyy]
  obtain ⟨n6, h6⟩ := int_cell (v := v6) i0
  obtain ⟨p7, l7, z7, S, h7, i7, b7⟩ := ints_of (v := v7) i1
  obtain ⟨p8, l8, z8, A, h8, i8, b8⟩ := arcs_of (v := v8) i2
  have q7 := b7 (hwy 1 32 y1 rfl f1)
  have q8 := b8 (hwy 2 33 y2 rfl f2)
  have q9 := b9 (hwj 7 32 x7 rfl e7)
  have q10 := b10 (hwj 8 32 x8 rfl e8)
  simp only [reachBytes] at q7 q8 q9 q10
  exact ⟨k, m, a, b, c, d, n6, p7, p8, p9, p10, l7, l8, l9, l10, z7, z8, z9, z10, S, A, F, P, ⟨hk, hm, ha, hb, hc, hd, h6, h7, h8, h9, h10⟩, ⟨i7, i8, i9, i10⟩, q7, q8, q9, q10⟩

theorem weightsAll_mem {e : TypeId} {d : DataW H} {n : Nat} : ∀ {l : List (DataW H)}, d ∈ l → n ∈ d.weights Tryz.prog e → n ∈ DataW.weightsAll Tryz.prog e l
  | a :: l, hd, hn => by
    simp only [DataW.weightsAll, List.mem_append]
    rcases List.mem_cons.1 hd with rfl | hd
    · exact Or.inl hn
    · exact Or.inr (weightsAll_mem hd hn)

/-- The script, opened, with its lists. -/
theorem isOpsC_of {fuel : Nat} {p : Option Addr} {len cap : Nat} {x : DataW H × List MemPlace} (h : DataW.trod enc Tryz.prog w base spare held fuel 22 [.slice p len cap] = some x) (hw : Light x.1 22) :
    IsOpsC w p len ∧ len < 999999999999 := by
  rcases Deep.open_slice Tryz.underlying22 h with ⟨hcs, hx⟩ | ⟨a, len', cap', m, n, D, Pl, hcs, _, hl, _, hm, hx, hc⟩
  · simp at hcs
    obtain ⟨rfl, rfl, rfl⟩ := hcs
    exact ⟨Or.inl rfl, by omega⟩
  · simp at hcs
    obtain ⟨rfl, rfl, rfl⟩ := hcs
    have hlm : len ≤ m := by rw [hm]; split <;> omega
    have hlen : len < 999999999999 := by
      have := hw ((len + (m - len)) * Tryz.prog.bytesOf 37) (by rw [hx]; simp [DataW.weights, Tryz.underlying22])
      rw [bytes70] at this
      simp only [reachBytes] at this
      omega
    refine ⟨?_, hlen⟩
    have hwD : ∀ i, i < len → Light (D i) 37 := fun i hi nn hnn => by
      refine hw nn ?_
      rw [hx]
      simp only [DataW.weights, Tryz.underlying22]
      refine List.mem_cons_of_mem _ (List.mem_append_left _ (weightsAll_mem (d := D i) ?_ hnn))
      exact List.mem_map.2 ⟨i, List.mem_range.2 hi, rfl⟩
    by_cases h0 : len = 0
    · exact Or.inl h0
    right
    rw [cells70] at hc
    have hcell : ∀ i, i < len → ∃ (k m a' b c d n6 : Int) (p7 p8 p9 p10 : Option Addr) (l7 l8 l9 l10 z7 z8 z9 z10 : Nat) (S : Nat → Int) (A : Nat → Ar) (F P : Nat → Int), (w.cell? ((a.add (i * 11)).add 0) = some (.int .i64 k) ∧ w.cell? ((a.add (i * 11)).add 1) = some (.int .i64 m) ∧ w.cell? ((a.add (i * 11)).add 2) = some (.int .i64 a') ∧ w.cell? ((a.add (i * 11)).add 3) = some (.int .i64 b) ∧ w.cell? ((a.add (i * 11)).add 4) = some (.int .i64 c) ∧ w.cell? ((a.add (i * 11)).add 5) = some (.int .i64 d) ∧ w.cell? ((a.add (i * 11)).add 6) = some (.int .i64 n6) ∧ w.cell? ((a.add (i * 11)).add 7) = some (.slice p7 l7 z7) ∧ w.cell? ((a.add (i * 11)).add 8) = some (.slice p8 l8 z8) ∧ w.cell? ((a.add (i * 11)).add 9) = some (.slice p9 l9 z9) ∧ w.cell? ((a.add (i * 11)).add 10) = some (.slice p10 l10 z10)) ∧
        (Ints w p7 l7 S ∧ Arcs w p8 l8 A ∧ Ints w p9 l9 F ∧ Ints w p10 l10 P) ∧ (l7 * 8 ≤ 140737488351232 ∧ l8 * 32 ≤ 140737488351232 ∧ l9 * 8 ≤ 140737488351232 ∧ l10 * 8 ≤ 140737488351232) := by
      intro i hi
      obtain ⟨cs', h1, h2⟩ := hc i (by omega)
      obtain ⟨_, hlen, hcell⟩ := World.cells?_some h1
      match cs', hlen with
      | [v0, v1, v2, v3, v4, v5, v6, v7, v8, v9, v10], _ =>
        obtain ⟨k, m, a', b, c, d, n6, p7, p8, p9, p10, l7, l8, l9, l10, z7, z8, z9, z10, S, A, F, P, ⟨rfl, rfl, rfl, rfl, rfl, rfl, rfl, rfl, rfl, rfl, rfl⟩, hls⟩ := op_lists h2 (hwD i hi)
        exact ⟨k, m, a', b, c, d, n6, p7, p8, p9, p10, l7, l8, l9, l10, z7, z8, z9, z10, S, A, F, P, ⟨hcell 0 (by decide), hcell 1 (by decide), hcell 2 (by decide), hcell 3 (by decide), hcell 4 (by decide), hcell 5 (by decide), hcell 6 (by decide), hcell 7 (by decide), hcell 8 (by decide), hcell 9 (by decide), hcell 10 (by decide)⟩, hls⟩
    obtain ⟨sb, off, spot⟩ := a
    obtain ⟨k, _, _, _, _, _, _, _, _, _, _, _, _, _, _, _, _, _, _, _, _, _, _, ⟨hq, _⟩, _⟩ := hcell 0 (by omega)
    have hs := World.cell?_spot hq
    have hlt := cell_lt hq
    have hspot : spot = none := by simpa [Addr.add] using hs
    subst hspot
    refine ⟨sb, off, rfl, by simpa [Addr.add] using hlt, fun i hi => ?_⟩
    obtain ⟨k, m, a', b, c, d, n6, p7, p8, p9, p10, l7, l8, l9, l10, z7, z8, z9, z10, S, A, F, P, hh, hls⟩ := hcell i hi
    refine ⟨k, m, a', b, c, d, n6, p7, p8, p9, p10, l7, l8, l9, l10, z7, z8, z9, z10, S, A, F, P, ?_, hls⟩
    simpa only [Addr.add_lit, Nat.add_zero] using hh
end
end Go.Proofs.YtjdindfjfpdikaaGreat
namespace Go.Proofs.YtjdindfjfpdikaaGreat
open Go.RowKit

/-- All plans of a play, and all that is held. -/
structure WH (w : World) (base wb : Nat) (v vh : Value) (xs : List Pr) (hs : List (Nat × List Nat)) : Prop where
  plans : WAt w base wb v vh xs
  holds : HoldsAt w wb vh hs
  apart : ∀ x ∈ hs, ∀ b ∈ x.2, b ∉ FW wb v xs
  hv : ∀ b, vh.ownBlock = some b → b ∉ FW wb v xs
  lh : ∀ b, vh.ownBlock = some b → base ≤ b

section
variable {w w' : World} {base wb : Nat} {v v' vh vh' : Value} {xs xs' : List Pr} {hs hs' : List (Nat × List Nat)}

theorem WH.moved (h : WH w base wb v vh xs hs) (hw : WAt w' base wb v' vh xs') (ho : Only (FW wb v xs) w w') (hf : ∀ b ∈ FW wb v' xs', b ∈ FW wb v xs ∨ w.heap.size ≤ b) : WH w' base wb v' vh xs' hs := by
  refine ⟨hw, ⟨h.holds.row.mv (fun b e => ho.block b (h.holds.row.lt e) (h.hv b e)), fun x hx => (h.holds.held x hx).only ho (h.apart x hx), h.holds.ne⟩, fun x hx b hb hm => ?_, fun b e hm => ?_, h.lh⟩
  · rcases hf b hm with h1 | h1
    · exact h.apart x hx b hb h1
    · have := (h.holds.held x hx).1 b hb; omega
  · rcases hf b hm with h1 | h1
    · exact h.hv b e h1
    · have := h.holds.row.lt e; omega

theorem WH.below (h : WH w base wb v vh xs hs) (hb : Below w.heap.size w w') : WH w' base wb v vh xs hs :=
  h.moved (h.plans.below hb) (Only.of_below hb) (fun _ q => Or.inl q)

theorem WH.checked {k : Nat} (h : WH w base wb v vh xs hs) (M : KeptMore w wb w.heap.size v vh hs k w' vh' hs') : WH w' base wb v vh' xs hs' ∧ Below base w w' := by
  have hF := h.plans.foots
  have hbase : base ≤ w.heap.size := by have := (hF wb List.mem_cons_self); omega
  have hvw : ∀ b, v.ownBlock = some b → b ≠ wb := fun b e q => by
    subst q
    obtain ⟨cur, hc⟩ := h.plans.row.elem e
    rw [h.plans.cells] at hc
    simp at hc
  have mv : ∀ b ∈ FW wb v xs, b ≠ wb → w'.heap[b]? = w.heap[b]? := fun b hb hne => M.only b (hF b hb).2 hne (fun e => h.hv b e hb)
  refine ⟨⟨⟨M.cells, h.plans.row.mv (fun b e => mv b (List.mem_cons_of_mem _ (List.mem_append_left _ (by simpa using e))) (hvw b e)), fun x hx => (h.plans.ok x hx).move (fun b hb => mv b (List.mem_cons_of_mem _ (List.mem_append_right _ (List.mem_flatMap.2 ⟨x, hx, hb⟩))) (fun e => h.plans.dw x hx (e ▸ hb))), h.plans.dis, h.plans.dw, h.plans.dv, h.plans.lw, h.plans.lv, h.plans.lx⟩, M.holds, fun x hx b hb hm => ?_, fun b e hm => ?_, fun b e => ?_⟩, ⟨M.os, M.tape, M.output, M.size, fun b hb => M.only b (by omega) (fun e => ?_) (fun e => ?_)⟩⟩
  · rcases M.old x hx with h1 | h1
    · exact h.apart x h1 b hb hm
    · have h1' := h1 b hb; have := (hF b hm).2; omega
  · rcases M.loc b e with h1 | h1
    · exact h.hv b h1 hm
    · have := (hF b hm).2; omega
  · rcases M.loc b e with h1 | h1
    · exact h.lh b h1
    · omega
  · have := h.plans.lw; omega
  · have := h.lh b e; omega

set_option maxRecDepth 100000 in
set_option maxHeartbeats 4000000 in
/-- One call of a script, a Check too. -/
theorem step_check (h : WH w base wb v vh xs hs) (hn : hs.length ≤ 9000000000000) (m a b c d N : Int) (p q r s : Option Addr) (ls cs la ca lf cf lp cp : Nat) (S : Nat → Int) (A : Nat → Ar) (F P : Nat → Int) (hS : Ints w p ls S) (hA : Arcs w q la A) (hF : Ints w r lf F) (hP : Ints w s lp P)
    (hl0 : ls * 8 ≤ 140737488351232) (hl1 : lf * 8 ≤ 140737488351232) (hl2 : lp * 8 ≤ 140737488351232) (hl3 : la * 32 ≤ 140737488351232) :
    Calls Tryz.prog 11 #[.pointer (some ⟨wb, 0, none⟩), .agg #[.int .i64 11, .int .i64 m, .int .i64 a, .int .i64 b, .int .i64 c, .int .i64 d, .int .i64 N, .slice p ls cs, .slice q la ca, .slice r lf cf, .slice s lp cp]] w fun e w' => e = .returned (.bool true) ∧ ∃ vh' hs', KeptMore w wb w.heap.size v vh hs 4 w' vh' hs' := by
  have hb1 : Below w.heap.size w (w.alloc (.cells #[.int .i64 11, .int .i64 m, .int .i64 a, .int .i64 b, .int .i64 c, .int .i64 d, .int .i64 N, .slice p ls cs, .slice q la ca, .slice r lf cf, .slice s lp cp] 37)) := (Below.refl _ _).alloc (Nat.le_refl _) _
  have h1 := h.below hb1
  have A1 := hid (checks_any _ wb v vh hs h1.plans.cells h1.holds hn 11 m a b c d N p q r s ls cs la ca lf cf lp cp S A F P (hS.below hb1) (hA.below hb1) (hF.below hb1) (hP.below hb1) hl0 hl1 hl2 hl3)
  have hlw : wb < w.heap.size := (Array.getElem?_eq_some_iff.1 h.plans.cells).1
  have Hb := hid hb1
  clear h1 hb1
  go_enter Tryz.func11, Tryz.ntmps11
  go_wp2_with fail
  refine A1.out.mono ?_
  rintro e w2 ⟨rfl, vh', hs', M⟩
  go_wp2_with fail
  go_ret
  exact ⟨rfl, vh', hs', M.pre Hb.out Hb.out.size⟩

/-- What a call of a script leaves. -/
structure Stepped (w : World) (base wb : Nat) (v vh : Value) (xs : List Pr) (hs : List (Nat × List Nat)) (w' : World) (v' vh' : Value) (xs' : List Pr) (hs' : List (Nat × List Nat)) : Prop where
  next : WH w' base wb v' vh' xs' hs'
  len : xs.length ≤ xs'.length ∧ xs'.length ≤ xs.length + 1 ∧ hs'.length ≤ hs.length + 4
  below : Below base w w'
  other : ∀ b, b < w.heap.size → b ∉ FW wb v xs → vh.ownBlock ≠ some b → w'.heap[b]? = w.heap[b]?

theorem step11 (h : WH w base wb v vh xs hs) (hx : 0 < xs.length) (hlen : xs.length < 1000000000000) (hn : hs.length ≤ 9000000000000) (k m a b c d N : Int) (hk : k ≤ 11) (p q r s : Option Addr) (ls cs la ca lf cf lp cp : Nat) (S : Nat → Int) (A : Nat → Ar) (F P : Nat → Int) (hS : Ints w p ls S) (hA : Arcs w q la A) (hF : Ints w r lf F) (hP : Ints w s lp P)
    (hl0 : ls * 8 ≤ 140737488351232) (hl1 : lf * 8 ≤ 140737488351232) (hl2 : lp * 8 ≤ 140737488351232) (hl3 : la * 32 ≤ 140737488351232) :
    Calls Tryz.prog 11 #[.pointer (some ⟨wb, 0, none⟩), .agg #[.int .i64 k, .int .i64 m, .int .i64 a, .int .i64 b, .int .i64 c, .int .i64 d, .int .i64 N, .slice p ls cs, .slice q la ca, .slice r lf cf, .slice s lp cp]] w fun e w' => e = .returned (.bool true) ∧ ∃ v' vh' xs' hs', Stepped w base wb v vh xs hs w' v' vh' xs' hs' := by
  by_cases hk10 : k ≤ 10
  · refine (step_any h.plans hx hlen k m a b c d (.int .i64 N) (.slice p ls cs) (.slice q la ca) (.slice r lf cf) (.slice s lp cp) hk10).mono ?_
    rintro e w' ⟨rfl, v', xs', hw, h1, h2, ho, hf⟩
    exact ⟨rfl, v', vh, xs', hs, h.moved hw ho hf, ⟨h1, h2, Nat.le_add_right _ _⟩, below_of_only ho (fun b hb => (h.plans.foots b hb).1) (by have := (h.plans.foots wb List.mem_cons_self); omega), fun b hb h3 _ => ho.block b hb h3⟩
  · obtain rfl : k = 11 := by omega
    refine (step_check h hn m a b c d N p q r s ls cs la ca lf cf lp cp S A F P hS hA hF hP hl0 hl1 hl2 hl3).mono ?_
    rintro e w' ⟨rfl, vh', hs', M⟩
    obtain ⟨h1, h2⟩ := h.checked M
    exact ⟨rfl, v, vh', xs, hs', h1, ⟨Nat.le_refl _, Nat.le_succ _, by rw [M.len]; exact Nat.le_refl _⟩, h2, fun b hb h3 h4 => M.only b hb (fun e => h3 (e ▸ List.mem_cons_self)) h4⟩
end
end Go.Proofs.YtjdindfjfpdikaaGreat
namespace Go.Proofs.YtjdindfjfpdikaaGreat
open Go.RowKit

theorem wh0 {w : World} {base wb : Nat} {v : Value} {xs : List Pr} (h : WAt w base wb v (.slice none 0 0) xs) : WH w base wb v (.slice none 0 0) xs [] :=
  ⟨h, ⟨World.ownsRow_nil _ _ _ _, (fun x hx => by cases hx), (fun x hx => by cases hx)⟩, (fun x hx => by cases hx), (fun b e => by cases e), (fun b e => by cases e)⟩

set_option maxRecDepth 100000 in
set_option maxHeartbeats 8000000 in
theorem plays11 (w : World) (p : Option Addr) (len cap : Nat) (lo hi : Int) (hops : IsOpsC w p len) (hlen : len < 999999999999) :
    Calls Tryz.prog 9 #[.slice p len cap, .int .i64 lo, .int .i64 hi, .int .i64 11] w fun e w' => e = .returned (.bool true) ∧ Below w.heap.size w w' := by
  have hb1 : Below w.heap.size w (w.alloc (.cells #[.slice none 0 0, .slice none 0 0] 29)) := (Below.refl _ _).alloc (Nat.le_refl _) _
  have hw1 := wat0 w
  have A1 := hid (begin_any _ _ _ _ _ hw1.cells hw1.row (by simp))
  have Hw1 := hid hw1
  clear hw1
  go_enter Tryz.func9, Tryz.ntmps9
  go_wp2_with fail
  refine A1.out.mono ?_
  rintro e w2 ⟨rfl, v2, _, _, _, _, _, _, _, _, _, _, _, _, hB⟩
  obtain ⟨y, hw2, ho2, _⟩ := Hw1.out.begun hB
  have hb2 : Below w.heap.size w w2 := hb1.trans (below_of_only ho2 (fun b hb => (Hw1.out.foots b hb).1) hb1.size)
  clear hB A1
  have A2 := hid (step_build hw2 (by simp) (by simp) 2 0 0 0 0 0 (.int .i64 0) (.slice none 0 0) (.slice none 0 0) (.slice none 0 0) (.slice none 0 0) (by decide))
  go_wp2_with fail
  refine A2.out.mono ?_
  rintro e w3 ⟨rfl, xs3, hw3, hl3, ho3, _⟩
  have hb3 : Below w.heap.size w w3 := hb2.trans (below_of_only ho3 (fun b hb => (hw2.foots b hb).1) hb2.size)
  have hl3' : xs3.length = 1 := by simpa using hl3
  clear A2
  have A3 := hid (step_build hw3 (by omega) (by omega) 4 0 0 100 0 0 (.int .i64 0) (.slice none 0 0) (.slice none 0 0) (.slice none 0 0) (.slice none 0 0) (by decide))
  go_wp2_with fail
  refine A3.out.mono ?_
  rintro e w4 ⟨rfl, xs4, hw4, hl4, ho4, _⟩
  have hb4 : Below w.heap.size w w4 := hb3.trans (below_of_only ho4 (fun b hb => (hw3.foots b hb).1) hb3.size)
  have hl4' : xs4.length = 1 := by omega
  clear A3 hb1 hb2 hb3 hw2 hw3 ho2 ho3 ho4 Hw1 hl3 hl4 hl3'
  have Hs := hid (And.intro hw4 (And.intro hl4' hb4))
  clear hw4 hl4' hb4
  go_wp2_with fail
  go_loopg [13] len (fun gk iv wr => ∃ (j : Nat) (v vh : Value) (xs : List Pr) (hs : List (Nat × List Nat)), j ≤ len ∧ len - j ≤ gk ∧ iv = .int .i64 j ∧ WH wr w.heap.size w.heap.size v vh xs hs ∧ 0 < xs.length ∧ xs.length ≤ j + 1 ∧ hs.length ≤ 4 * j ∧ Below w.heap.size w wr)
  case atStart => exact ⟨0, _, _, _, _, Nat.zero_le _, Nat.le_refl _, rfl, wh0 Hs.out.1, by rw [Hs.out.2.1]; decide, by rw [Hs.out.2.1]; decide, Nat.zero_le _, Hs.out.2.2⟩
  case' round => skip
  clear Hs
  obtain ⟨j, v, vh, xs, hs, hj, hgk, rfl, hw, hn, hlx, hhs, hb⟩ := hrel
  by_cases hlt : j < len
  · rcases hops with h0 | ⟨sb, off, rfl, hsb, hc⟩
    · omega
    obtain ⟨k, m, a, b, c, d, n6, p7, p8, p9, p10, l7, l8, l9, l10, z7, z8, z9, z10, S, A, F, P, ⟨q0, q1, q2, q3, q4, q5, q6, q7, q8, q9, q10⟩, ⟨hS, hA, hF, hP⟩, hl0, hl3, hl1, hl2⟩ := hc j hlt
    have mv : ∀ o, wr.cell? ⟨sb, o, none⟩ = w.cell? ⟨sb, o, none⟩ := fun o => hb.cell (p := ⟨sb, o, none⟩) hsb
    rw [← mv] at q0 q1 q2 q3 q4 q5 q6 q7 q8 q9 q10
    have hsw : sb < wr.heap.size := Nat.lt_of_lt_of_le hsb hb.size
    have hjI : (j : Int) < (len : Int) := by omega
    clear mv hc
    have hbo : Below wr.heap.size wr (wr.alloc (.cells #[.int .i64 k, .int .i64 m, .int .i64 a, .int .i64 b, .int .i64 c, .int .i64 d, .int .i64 n6, .slice p7 l7 z7, .slice p8 l8 z8, .slice p9 l9 z9, .slice p10 l10 z10] 37)) := (Below.refl _ _).alloc (Nat.le_refl _) _
    have hwo := hw.below hbo
    by_cases hk : 11 < k
    · go_wp2_with fail
      go_roundg (len - (j + 1))
      case measure => omega
      case rel => exact ⟨j + 1, v, vh, xs, hs, by omega, Nat.le_refl _, by go_num, hwo, hn, by omega, by omega, hb.trans (hbo.mono hb.size)⟩
    · have hkd : decide (11 < k) = false := by simpa using hk
      have hbW := hb.trans (hbo.mono hb.size)
      have A4 := hid (step11 hwo hn (by omega) (by omega) k m a b c d n6 (by omega) p7 p8 p9 p10 l7 z7 l8 z8 l9 z9 l10 z10 S A F P (hS.below hbW) (hA.below hbW) (hF.below hbW) (hP.below hbW) hl0 hl1 hl2 hl3)
      have Hw := hid (And.intro hw (And.intro hwo (And.intro hb hbo)))
      clear hw hwo hb hbo hbW hS hA hF hP
      go_wp2_with fail
      refine A4.out.mono ?_
      rintro e w5 ⟨rfl, v5, vh5, xs5, hs5, T5⟩
      have hz5 : wr.heap.size < w5.heap.size := Nat.lt_of_lt_of_le (by simp) T5.below.size
      have o1 := (T5.other wr.heap.size (by simp) (fun hm => by have := (Hw.out.1.plans.foots _ hm).2; omega) (fun e => by have := Hw.out.1.holds.row.lt e; omega)).trans (MapKept.heap_alloc wr _).1
      have f0 := (cells11 o1).1
      have Hb5 := hid (show Below w.heap.size w w5 from (Hw.out.2.2.1.trans (Hw.out.2.2.2.mono Hw.out.2.2.1.size)).trans T5.below)
      obtain ⟨hl5, hl6, hl7⟩ := T5.len
      obtain ⟨ph, ch, rfl, HH⟩ := T5.next.holds.holds
      have A6 := hid (looks_yes w5 _ _ _ _ _ T5.next.plans.cells HH (by omega))
      have HT := hid T5.next
      clear T5 HH
      clear o1 A4 hkd hk
      by_cases h1 : k = 1
      · subst h1
        go_wp2_with fail
        refine A6.out.mono ?_
        rintro e w6 ⟨rfl, hb6⟩
        go_wp2_with fail
        go_roundg (len - (j + 1))
        case measure => omega
        case rel => exact ⟨j + 1, v5, _, xs5, hs5, by omega, Nat.le_refl _, by go_num, HT.out.below hb6, by omega, by omega, by omega, beyond Hb5.out hb6⟩
      · have h1b : (k == 1) = false := by simpa using h1
        clear h1
        by_cases h2 : lo ≤ k
        · by_cases h3 : k ≤ hi
          · have h2b : decide (lo ≤ k) = true := by simpa using h2
            have h3b : decide (k ≤ hi) = true := by simpa using h3
            clear h2 h3
            go_wp2_with fail
            refine A6.out.mono ?_
            rintro e w6 ⟨rfl, hb6⟩
            go_wp2_with fail
            go_roundg (len - (j + 1))
            case measure => omega
            case rel => exact ⟨j + 1, v5, _, xs5, hs5, by omega, Nat.le_refl _, by go_num, HT.out.below hb6, by omega, by omega, by omega, beyond Hb5.out hb6⟩
          · have h2b : decide (lo ≤ k) = true := by simpa using h2
            have h3b : decide (k ≤ hi) = false := by simpa using h3
            clear h2 h3
            go_wp2_with fail
            refine A6.out.mono ?_
            rintro e w6 ⟨rfl, hb6⟩
            go_wp2_with fail
            go_roundg (len - (j + 1))
            case measure => omega
            case rel => exact ⟨j + 1, v5, _, xs5, hs5, by omega, Nat.le_refl _, by go_num, HT.out.below hb6, by omega, by omega, by omega, beyond Hb5.out hb6⟩
        · have h2b : decide (lo ≤ k) = false := by simpa using h2
          clear h2
          go_wp2_with fail
          refine A6.out.mono ?_
          rintro e w6 ⟨rfl, hb6⟩
          go_wp2_with fail
          go_roundg (len - (j + 1))
          case measure => omega
          case rel => exact ⟨j + 1, v5, _, xs5, hs5, by omega, Nat.le_refl _, by go_num, HT.out.below hb6, by omega, by omega, by omega, beyond Hb5.out hb6⟩
  · go_wp2
    go_ret
    exact ⟨rfl, hb⟩
end Go.Proofs.YtjdindfjfpdikaaGreat
