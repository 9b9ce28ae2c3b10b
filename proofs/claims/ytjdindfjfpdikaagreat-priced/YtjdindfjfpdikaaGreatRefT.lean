import Derived.Test.YtjdindfjfpdikaaGreatSim
import Derived.Test.YtjdindfjfpdikaaGreatRefD
import Derived.Test.YtjdindfjfpdikaaGreatRefE
import Derived.Test.YtjdindfjfpdikaaGreatRefF
import Derived.Test.YtjdindfjfpdikaaGreatRefI
import Derived.Test.YtjdindfjfpdikaaGreatRefM
import Derived.Test.YtjdindfjfpdikaaGreatRefN
import Derived.Test.YtjdindfjfpdikaaGreatRefO
import Derived.Test.YtjdindfjfpdikaaGreatRefP
import Derived.Test.YtjdindfjfpdikaaGreatRefQ
namespace Go.Proofs.YtjdindfjfpdikaaGreat
open Go.RowKit

/-- What a call of the document's leaves: its answer, its plan, and all else. -/
def RPost (w : World) (rb : Nat) (V : RVs) (x7 x8 x9 x10 x11 : Value) (R : RSt) (a : Value) (e : Ending) (w' : World) : Prop :=
  e = .returned a ∧ ∃ V', RefAt w' rb V' x7 x8 x9 x10 x11 R ∧ Only (foot rb V) w w' ∧ (∀ b ∈ V'.blocks, b ∈ V.blocks ∨ w.heap.size ≤ b)

section
variable {w : World} {rb : Nat} {V : RVs} {x7 x8 x9 x10 x11 : Value} {R : RSt}

theorem RPost.of_below {w' : World} {e : Ending} {a : Value} (h : RefAt w rb V x7 x8 x9 x10 x11 R) (he : e = .returned a) (hb : Below w.heap.size w w') : RPost w rb V x7 x8 x9 x10 x11 R a e w' :=
  ⟨he, V, h.below hb, Only.of_below hb, fun _ hb => Or.inl hb⟩
theorem RPost.of_same {w' : World} {e : Ending} {a : Value} (h : RefAt w rb V x7 x8 x9 x10 x11 R) (he : e = .returned a) (hw : w' = w) : RPost w rb V x7 x8 x9 x10 x11 R a e w' := by
  subst hw
  exact RPost.of_below h he (Below.refl _ _)

theorem r2_any (h : RefAt w rb V x7 x8 x9 x10 x11 R) (hf : Fit R) (a : Int) :
    Calls Tryz.prog 34 #[.pointer (some ⟨rb, 0, none⟩), .int .i64 0, .agg #[.int .i64 a, .int .i64 0, .int .i64 0]] w (RPost w rb V x7 x8 x9 x10 x11 (n2 R a) (.int .i64 (c2 R a))) := by
  have := hf.len0
  by_cases hz : c2 R a = 0
  · obtain ⟨h1, h2, h3, _, _⟩ := makeOf_zero hz
    have e : n2 R a = { R with t0 := R.t0 ++ [(a, 0, 0)] } := by unfold n2; rw [if_pos hz]
    rw [hz, e]
    exact make0_ok h a 0 0 (by omega) h1.1 h1.2 h2
  · have e : n2 R a = R := by unfold n2; rw [if_neg hz]
    rw [e]
    exact (make0_no h a 0 0 (by omega) hz).mono fun e w' hh => RPost.of_below h hh.1 hh.2

theorem r3_any (h : RefAt w rb V x7 x8 x9 x10 x11 R) (hf : Fit R) (a b c : Int) :
    Calls Tryz.prog 34 #[.pointer (some ⟨rb, 0, none⟩), .int .i64 1, .agg #[.int .i64 a, .int .i64 b, .int .i64 c]] w (RPost w rb V x7 x8 x9 x10 x11 (n3 R a b c) (.int .i64 (c3 R a b c))) := by
  have := hf.len0
  have := hf.len1
  by_cases hz : c3 R a b c = 0
  · obtain ⟨h1, h2, h3, h4, h5⟩ := makeOf_zero hz
    have e : n3 R a b c = { R with t1 := R.t1 ++ [(a, b, c)] } := by unfold n3; rw [if_pos hz]
    rw [hz, e]
    exact make1_ok h a b c (by omega) h1.1 h1.2 h2 h4 (h5 rfl).1 (h5 rfl).2 (by omega)
  · have e : n3 R a b c = R := by unfold n3; rw [if_neg hz]
    rw [e]
    exact (make1_no h a b c (by omega) (by omega) hz).mono fun e w' hh => RPost.of_below h hh.1 hh.2

theorem r4_any (h : RefAt w rb V x7 x8 x9 x10 x11 R) (hf : Fit R) (a b : Int) :
    Calls Tryz.prog 34 #[.pointer (some ⟨rb, 0, none⟩), .int .i64 2, .agg #[.int .i64 a, .int .i64 0, .int .i64 b]] w (RPost w rb V x7 x8 x9 x10 x11 (n4 R a b) (.int .i64 (c4 R a b))) := by
  have := hf.len2
  by_cases hz : c4 R a b = 0
  · obtain ⟨h1, h2, h3, h4, h5⟩ := makeOf_zero hz
    have e : n4 R a b = { R with t2 := R.t2 ++ [(a, 0, b)] } := by unfold n4; rw [if_pos hz]
    rw [hz, e]
    exact make2_ok h a 0 b (by omega) h1.1 h1.2 h2 (h5 rfl).1 (h5 rfl).2
  · have e : n4 R a b = R := by unfold n4; rw [if_neg hz]
    rw [e]
    exact (make2_no h a 0 b (by omega) hz).mono fun e w' hh => RPost.of_below h hh.1 hh.2

theorem r5_any (h : RefAt w rb V x7 x8 x9 x10 x11 R) (hf : Fit R) (a b c : Int) :
    Calls Tryz.prog 34 #[.pointer (some ⟨rb, 0, none⟩), .int .i64 3, .agg #[.int .i64 a, .int .i64 b, .int .i64 c]] w (RPost w rb V x7 x8 x9 x10 x11 (n5 R a b c) (.int .i64 (c5 R a b c))) := by
  have := hf.len2
  have := hf.len3
  have hlo : R.on.length = R.t3.length := hf.lo
  have hlt := hf.wl
  by_cases hz : c5 R a b c = 0
  · obtain ⟨h1, h2, h3, h4, h5⟩ := makeOf_zero hz
    have e : n5 R a b c = { R with t3 := R.t3 ++ [(a, b, c)], on := R.on ++ [-1], wt := R.wt ++ [0] } := by unfold n5; rw [if_pos hz]
    rw [hz, e]
    exact make3_ok h a b c (by omega) h1.1 h1.2 h2 h4 (h5 rfl).1 (h5 rfl).2 (by omega) (by omega) (by omega)
  · have e : n5 R a b c = R := by unfold n5; rw [if_neg hz]
    rw [e]
    exact (make3_no h a b c (by omega) (by omega) hz).mono fun e w' hh => RPost.of_below h hh.1 hh.2

theorem r6_any (h : RefAt w rb V x7 x8 x9 x10 x11 R) (hf : Fit R) (t k i c : Int) :
    Calls Tryz.prog 35 #[.pointer (some ⟨rb, 0, none⟩), .int .i64 t, .int .i64 k, .int .i64 i, .int .i64 c] w (RPost w rb V x7 x8 x9 x10 x11 (n6 R t k i c) (.int .i64 (c6 R t k i c))) := by
  have := hf.len0
  have := hf.len1
  have := hf.len3
  have hlw := hf.wsl
  by_cases g1 : atOf t R.t3 < 0
  · have e1 : c6 R t k i c = 4 := by unfold c6; rw [if_pos g1]
    have e2 : n6 R t k i c = R := by unfold n6; rw [e1]; rfl
    rw [e1, e2]
    exact (rpref_a h t k i c (by omega) g1).mono fun e w' hh => RPost.of_same h hh.1 hh.2
  by_cases g2 : k ≠ 0 ∧ k ≠ 1
  · have e1 : c6 R t k i c = 7 := by unfold c6; rw [if_neg g1, if_pos g2]
    have e2 : n6 R t k i c = R := by unfold n6; rw [e1]; rfl
    rw [e1, e2]
    exact (rpref_b h t k i c (by omega) (by omega) g2.1 g2.2).mono fun e w' hh => RPost.of_same h hh.1 hh.2
  obtain rfl | rfl : k = 0 ∨ k = 1 := by omega
  · by_cases g3 : atOf i R.t0 < 0
    · have e1 : c6 R t 0 i c = 4 := by unfold c6; rw [if_neg g1, if_neg g2, if_pos rfl, if_pos g3]
      have e2 : n6 R t 0 i c = R := by unfold n6; rw [e1]; rfl
      rw [e1, e2]
      exact (rpref0_c h t i c (by omega) (by omega) (by omega) g3).mono fun e w' hh => RPost.of_same h hh.1 hh.2
    by_cases g4 : c < 0 ∨ 1000 < c
    · have e1 : c6 R t 0 i c = 5 := by unfold c6; rw [if_neg g1, if_neg g2, if_pos rfl, if_neg g3, if_pos g4]
      have e2 : n6 R t 0 i c = R := by unfold n6; rw [e1]; rfl
      rw [e1, e2]
      exact (rpref0_d h t i c (by omega) (by omega) (by omega) (by omega) g4).mono fun e w' hh => RPost.of_same h hh.1 hh.2
    have e1 : c6 R t 0 i c = 0 := by unfold c6; rw [if_neg g1, if_neg g2, if_pos rfl, if_neg g3, if_neg g4]
    have e2 : n6 R t 0 i c = { R with ws := putW t 0 i c R.ws } := by unfold n6; rw [e1]; rfl
    rw [e1, e2]
    exact rpref0_ok h t i c (by omega) (by omega) (by omega) (by omega) (by omega) (by omega) (by omega)
  · by_cases g3 : atOf i R.t1 < 0
    · have e1 : c6 R t 1 i c = 4 := by unfold c6; rw [if_neg g1, if_neg g2, if_neg (show ¬ (1 : Int) = 0 by decide), if_pos g3]
      have e2 : n6 R t 1 i c = R := by unfold n6; rw [e1]; rfl
      rw [e1, e2]
      exact (rpref1_c h t i c (by omega) (by omega) (by omega) g3).mono fun e w' hh => RPost.of_same h hh.1 hh.2
    by_cases g4 : c < 0 ∨ 1000 < c
    · have e1 : c6 R t 1 i c = 5 := by unfold c6; rw [if_neg g1, if_neg g2, if_neg (show ¬ (1 : Int) = 0 by decide), if_neg g3, if_pos g4]
      have e2 : n6 R t 1 i c = R := by unfold n6; rw [e1]; rfl
      rw [e1, e2]
      exact (rpref1_d h t i c (by omega) (by omega) (by omega) (by omega) g4).mono fun e w' hh => RPost.of_same h hh.1 hh.2
    have e1 : c6 R t 1 i c = 0 := by unfold c6; rw [if_neg g1, if_neg g2, if_neg (show ¬ (1 : Int) = 0 by decide), if_neg g3, if_neg g4]
    have e2 : n6 R t 1 i c = { R with ws := putW t 1 i c R.ws } := by unfold n6; rw [e1]; rfl
    rw [e1, e2]
    exact rpref1_ok h t i c (by omega) (by omega) (by omega) (by omega) (by omega) (by omega) (by omega)

theorem r7_any (h : RefAt w rb V x7 x8 x9 x10 x11 R) (hf : Fit R) (k id : Int) :
    Calls Tryz.prog 36 #[.pointer (some ⟨rb, 0, none⟩), .int .i64 k, .int .i64 id] w (RPost w rb V x7 x8 x9 x10 x11 (n7 R k id) (.int .i64 (c7 R k id))) := by
  have := hf.len0
  have := hf.len1
  have := hf.len2
  have := hf.len3
  have hlw := hf.wsl
  have hlo : R.on.length = R.t3.length := hf.lo
  have hlt := hf.wl
  by_cases g1 : k < 0 ∨ 3 < k
  · have e1 : c7 R k id = 7 := by unfold c7; rw [if_pos g1]
    have e2 : n7 R k id = R := by unfold n7; rw [e1]; rfl
    rw [e1, e2]
    exact (rrem_kind w _ k id g1).mono fun e w' hh => RPost.of_same h hh.1 hh.2
  by_cases g2 : atOf id (tkOf R k) < 0
  · have e1 : c7 R k id = 4 := by unfold c7; rw [if_neg g1, if_pos g2]
    have e2 : n7 R k id = R := by unfold n7; rw [e1]; rfl
    rw [e1, e2]
    obtain rfl | rfl | rfl | rfl : k = 0 ∨ k = 1 ∨ k = 2 ∨ k = 3 := by omega
    · exact (rrem0_no h id (by omega) g2).mono fun e w' hh => RPost.of_same h hh.1 hh.2
    · exact (rrem1_no h id (by omega) g2).mono fun e w' hh => RPost.of_same h hh.1 hh.2
    · exact (rrem2_no h id (by omega) g2).mono fun e w' hh => RPost.of_same h hh.1 hh.2
    · exact (rrem3_no h id (by omega) g2).mono fun e w' hh => RPost.of_same h hh.1 hh.2
  by_cases g3 : busyR R k id = true
  · have e1 : c7 R k id = 6 := by unfold c7; rw [if_neg g1, if_neg g2, if_pos g3]
    have e2 : n7 R k id = R := by unfold n7; rw [e1]; rfl
    rw [e1, e2]
    simp only [busyR, Bool.or_eq_true, Bool.and_eq_true, List.any_eq_true, decide_eq_true_eq] at g3
    rcases g3 with ⟨rfl, x, hx, ex⟩ | ⟨rfl, x, hx, ex⟩
    · obtain ⟨j, hj, rfl⟩ := List.mem_iff_getElem.1 hx
      exact (rrem0_busy h id (by omega) (by omega) (Int.not_lt.1 g2) ⟨j, hj, ex⟩).mono fun e w' hh => RPost.of_same h hh.1 hh.2
    · obtain ⟨j, hj, rfl⟩ := List.mem_iff_getElem.1 hx
      exact (rrem2_busy h id (by omega) (by omega) (by omega) (Int.not_lt.1 g2) ⟨j, hj, ex⟩).mono fun e w' hh => RPost.of_same h hh.1 hh.2
  have e1 : c7 R k id = 0 := by unfold c7; rw [if_neg g1, if_neg g2, if_neg g3]
  unfold n7
  rw [if_pos e1, e1]
  obtain rfl | rfl | rfl | rfl : k = 0 ∨ k = 1 ∨ k = 2 ∨ k = 3 := by omega
  · obtain ⟨j, hj, e, rfl⟩ := atOf_some (id := id) (xs := R.t0) (Int.not_lt.1 g2)
    rw [if_pos rfl, e, Int.toNat_natCast]
    exact rrem0_ok h _ j hj e (by omega) (by omega) (by omega) (by omega) hlo hlt (fun m hm hme => g3 (by
      simp only [busyR, Bool.or_eq_true, Bool.and_eq_true, List.any_eq_true, decide_eq_true_eq]
      exact Or.inl ⟨trivial, _, List.getElem_mem hm, hme⟩))
  · obtain ⟨j, hj, e, rfl⟩ := atOf_some (id := id) (xs := R.t1) (Int.not_lt.1 g2)
    rw [if_neg (by decide), if_pos rfl, e, Int.toNat_natCast]
    exact rrem1_ok h _ j hj e (by omega) (by omega) (by omega) (by omega) hlo hlt
  · obtain ⟨j, hj, e, rfl⟩ := atOf_some (id := id) (xs := R.t2) (Int.not_lt.1 g2)
    rw [if_neg (by decide), if_neg (by decide), if_pos rfl, e, Int.toNat_natCast]
    exact rrem2_ok h _ j hj e (by omega) (by omega) (by omega) (by omega) hlo hlt (fun m hm hme => g3 (by
      simp only [busyR, Bool.or_eq_true, Bool.and_eq_true, List.any_eq_true, decide_eq_true_eq]
      exact Or.inr ⟨trivial, _, List.getElem_mem hm, hme⟩))
  · obtain ⟨j, hj, e, rfl⟩ := atOf_some (id := id) (xs := R.t3) (Int.not_lt.1 g2)
    rw [if_neg (by decide), if_neg (by decide), if_neg (by decide), e, Int.toNat_natCast]
    exact rrem3_ok h _ j hj e (by omega) (by omega) (by omega) (by omega) hlo hlt

theorem r8_any (h : RefAt w rb V x7 x8 x9 x10 x11 R) (hf : Fit R) :
    Calls Tryz.prog 37 #[.pointer (some ⟨rb, 0, none⟩)] w (RPost w rb V x7 x8 x9 x10 x11 (n8 R) (.tuple #[])) := by
  have := hf.len3
  have hlo : R.on.length = R.t3.length := hf.lo
  have hlt := hf.wl
  exact (rtick_any h (by omega) (by omega) hf.wt).mono fun e w' hh => ⟨hh.1, V, hh.2.1, hh.2.2, fun _ hb => Or.inl hb⟩
end
end Go.Proofs.YtjdindfjfpdikaaGreat
