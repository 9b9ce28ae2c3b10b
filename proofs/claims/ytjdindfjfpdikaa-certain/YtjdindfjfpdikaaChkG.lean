import Derived.Test.YtjdindfjfpdikaaChkF
namespace Go.Proofs.Ytjdindfjfpdikaa
open Go.RowKit

set_option maxRecDepth 100000 in
set_option maxHeartbeats 4000000 in
/-- 'network.Check'. -/
theorem check0_any (w : World) (N : Int) (p q r s : Option Addr) (ls cs la ca lf cf lp cp : Nat) (S : Nat → Int) (A : Nat → Ar) (F P : Nat → Int) (hS : Ints w p ls S) (hA : Arcs w q la A) (hF : Ints w r lf F) (hP : Ints w s lp P) :
    Calls Try.prog 38 #[.agg #[.int .i64 N, .slice p ls cs, .slice q la ca], .slice r lf cf, .slice s lp cp] w fun e w' => ∃ c, e = .returned (.int .i64 c) ∧ IsChk c N ls S la A lf F lp P ∧ Below w.heap.size w w' := by
  have hb0 : Below w.heap.size w (w.alloc (.cells #[.int .i64 N, .slice p ls cs, .slice q la ca] 40)) := (Below.refl _ _).alloc (Nat.le_refl _) _
  have A1 := veil (mayBe_any _ N p q ls cs la ca S A (hS.below hb0) (hA.below hb0))
  have H0 := veil hb0
  clear hb0
  go_enter Try.func38, Try.ntmps38
  go_wp2_with fail
  refine A1.out.mono ?_
  rintro e w1 ⟨⟨b, rfl, hbn⟩, hb1⟩
  have k := at_new hb1
  have k0 := at_cells k 0
  have k1 := at_cells k 1
  have k2 := at_cells k 2
  simp only [List.getElem?_toArray, List.getElem?_cons_succ, List.getElem?_cons_zero] at k0 k1 k2
  have z1 : w.heap.size < w1.heap.size := (Array.getElem?_eq_some_iff.1 k).1
  have H1 := veil (And.intro hbn (And.intro (beyond H0.out hb1) k))
  clear hbn hb1 k A1
  cases b with
  | false =>
    go_wp2_with fail
    go_ret
    have hnot : ¬ NetOk N ls S la A := fun h => absurd (H1.out.1.2 h) (by simp)
    exact ⟨8, rfl, ⟨fun _ => rfl, fun h => absurd h hnot, fun h => absurd h hnot, fun h => absurd h hnot⟩, H1.out.2.1⟩
  | true =>
    have hnet : NetOk N ls S la A := H1.out.1.1 rfl
    have hN := hnet.2.1
    subst hN
    have A2 := veil (isFlow_any w1 p q r ls cs la ca lf cf S A F hnet (hS.below H1.out.2.1) (hA.below H1.out.2.1) (hF.below H1.out.2.1))
    have Hn := veil hnet
    have Hb1 := veil H1.out.2
    clear hnet H1
    go_wp2_with fail
    refine A2.out.mono ?_
    rintro e w2 ⟨⟨b, rfl, hbf⟩, hb2⟩
    have k := (hb2.block _ z1).trans Hb1.out.2
    replace k0 := at_cells k 0
    replace k1 := at_cells k 1
    replace k2 := at_cells k 2
    simp only [List.getElem?_toArray, List.getElem?_cons_succ, List.getElem?_cons_zero] at k0 k1 k2
    have z2 : w.heap.size < w2.heap.size := (Array.getElem?_eq_some_iff.1 k).1
    have H2 := veil (And.intro hbf (beyond Hb1.out.1 hb2))
    clear hbf hb2 k A2 Hb1
    cases b with
    | false =>
      go_wp2_with fail
      go_ret
      have hnot : ¬ FlowOk ls S la A lf F := fun h => absurd (H2.out.1.2 h) (by simp)
      exact ⟨9, rfl, ⟨fun h => absurd Hn.out h, fun _ _ => rfl, fun _ h => absurd h hnot, fun _ h => absurd h hnot⟩, H2.out.2⟩
    | true =>
      have hfl : FlowOk ls S la A lf F := H2.out.1.1 rfl
      have hlf := hfl.1
      subst hlf
      have A3 := veil (show_any w2 p q r s ls cs lf ca cf lp cp S A F P Hn.out (hA.below H2.out.2) (hF.below H2.out.2) (hP.below H2.out.2))
      have Hf := veil hfl
      have Hb2 := veil H2.out.2
      clear hfl H2
      go_wp2_with fail
      refine A3.out.mono ?_
      rintro e w3 ⟨⟨b, rfl, hbp⟩, hb3⟩
      have H3 := veil (And.intro hbp (beyond Hb2.out hb3))
      clear hbp hb3 A3
      cases b with
      | false =>
        go_wp2_with fail
        go_ret
        have hnot : ¬ PriceOk ls lf A F lp P := fun h => absurd (H3.out.1.2 h) (by simp)
        exact ⟨10, rfl, ⟨fun h => absurd Hn.out h, fun _ h => absurd Hf.out h, fun _ _ _ => rfl, fun _ _ h => absurd h hnot⟩, H3.out.2⟩
      | true =>
        have hpr : PriceOk ls lf A F lp P := H3.out.1.1 (by simp)
        have Hp := veil (And.intro hpr H3.out.2)
        clear hpr H3
        go_wp2_with fail
        go_ret
        exact ⟨0, rfl, ⟨fun h => absurd Hn.out h, fun _ h => absurd Hf.out h, fun _ _ h => absurd Hp.out.1 h, fun _ _ _ => rfl⟩, Hp.out.2⟩

set_option maxRecDepth 100000 in
/-- 'assign.Check'. -/
theorem check_any (w : World) (N : Int) (p q r s : Option Addr) (ls cs la ca lf cf lp cp : Nat) (S : Nat → Int) (A : Nat → Ar) (F P : Nat → Int) (hS : Ints w p ls S) (hA : Arcs w q la A) (hF : Ints w r lf F) (hP : Ints w s lp P) :
    Calls Try.prog 20 #[.agg #[.int .i64 N, .slice p ls cs, .slice q la ca], .slice r lf cf, .slice s lp cp] w fun e w' => ∃ c, e = .returned (.int .i64 c) ∧ IsChk c N ls S la A lf F lp P ∧ Below w.heap.size w w' := by
  have hb0 : Below w.heap.size w (w.alloc (.cells #[.int .i64 N, .slice p ls cs, .slice q la ca] 40)) := (Below.refl _ _).alloc (Nat.le_refl _) _
  have A1 := veil (check0_any _ N p q r s ls cs la ca lf cf lp cp S A F P (hS.below hb0) (hA.below hb0) (hF.below hb0) (hP.below hb0))
  have H0 := veil hb0
  clear hb0
  go_enter Try.func20, Try.ntmps20
  go_wp2_with fail
  refine A1.out.mono ?_
  rintro e w1 ⟨c, rfl, hc, hb1⟩
  go_wp2_with fail
  go_ret
  exact ⟨c, rfl, hc, beyond H0.out hb1⟩
end Go.Proofs.Ytjdindfjfpdikaa
