import Derived.Test.YtjdindfjfpdikaaProg
import Derived.Test.YtjdindfjfpdikaaMem
import Derived.Deep.LoopGhost
import Derived.BigRegion
import Derived.BigQuiet
import Derived.Deep.QuietTactic
import Derived.OpenShut
namespace Go.Proofs.Ytjdindfjfpdikaa
open Go.RowKit

/-- A yes or no. -/
structure Ans (e : Ending) (p : Prop) : Prop where
  out : ∃ b, e = .returned (.bool b) ∧ (b = true ↔ p)
theorem veil {p : Prop} (h : p) : Hid p := h

/-- 'within(x, least, most)'. -/
def inB (a b x : Int) : Bool := decide (a ≤ x ∧ x ≤ b)
theorem inB_iff {a b x : Int} : inB a b x = true ↔ a ≤ x ∧ x ≤ b := by simp [inB]
theorem within_any (x a b : Int) (w : World) : Calls Try.prog 65 #[.int .i64 x, .int .i64 a, .int .i64 b] w fun e w' => e = .returned (.bool (inB a b x)) ∧ w' = w := by
  by_cases h0 : a ≤ x
  · by_cases h1 : x ≤ b
    · have e : inB a b x = true := inB_iff.2 ⟨h0, h1⟩
      go_enter Try.func65, Try.ntmps65
      go_wp2
      go_ret
      exact ⟨by first | rfl | (rw [e]; rfl), rfl⟩
    · have e : inB a b x = false := by rw [Bool.eq_false_iff]; exact fun q => h1 (inB_iff.1 q).2
      go_enter Try.func65, Try.ntmps65
      go_wp2
      go_ret
      exact ⟨by first | rfl | (rw [e]; rfl), rfl⟩
  · have e : inB a b x = false := by rw [Bool.eq_false_iff]; exact fun q => h0 (inB_iff.1 q).1
    go_enter Try.func65, Try.ntmps65
    go_wp2
    go_ret
    exact ⟨by first | rfl | (rw [e]; rfl), rfl⟩

set_option maxHeartbeats 4000000 in
/-- 'arcMayBe(a, nodes)'. -/
theorem arcMayBe_any (a : Ar) (N : Int) (w : World) (hN : 0 ≤ N ∧ N ≤ 60) : Calls Try.prog 66 #[.agg #[.int .i64 a.f, .int .i64 a.t, .int .i64 a.c, .int .i64 a.k], .int .i64 N] w fun e w' => Ans e (ArcOk N a) ∧ Below w.heap.size w w' := by
  obtain ⟨f, t, c, k⟩ := a
  have hbw : Below w.heap.size w (w.alloc (.cells #[.int .i64 f, .int .i64 t, .int .i64 c, .int .i64 k] 37)) := (Below.refl _ _).alloc (Nat.le_refl _) _
  by_cases h0 : 0 ≤ f ∧ f ≤ N - 1
  · by_cases h1 : 0 ≤ t ∧ t ≤ N - 1
    · by_cases h2 : 0 ≤ c ∧ c ≤ 1000
      · have d0 : inB 0 (N - 1) f = true := inB_iff.2 h0
        have d1 : inB 0 (N - 1) t = true := inB_iff.2 h1
        have d2 : inB 0 1000 c = true := inB_iff.2 h2
        have H := veil (And.intro h0 (And.intro h1 h2))
        clear h0 h1 h2
        go_enter Try.func66, Try.ntmps66
        go_wp2_with fail
        refine (within_any _ _ _ _).mono ?_
        rintro e w' ⟨rfl, rfl⟩
        rw [d0]
        go_wp2_with fail
        refine (within_any _ _ _ _).mono ?_
        rintro e w' ⟨rfl, rfl⟩
        rw [d1]
        go_wp2_with fail
        refine (within_any _ _ _ _).mono ?_
        rintro e w' ⟨rfl, rfl⟩
        rw [d2]
        go_wp2_with fail
        refine (within_any _ _ _ _).mono ?_
        rintro e w' ⟨rfl, rfl⟩
        go_wp2_with fail
        go_ret
        refine ⟨⟨_, rfl, ?_⟩, hbw⟩
        rw [inB_iff]
        have := H.out
        exact ⟨fun h => ⟨⟨this.1.1, by show f < N; omega⟩, ⟨this.2.1.1, by show t < N; omega⟩, this.2.2, h⟩, fun h => h.2.2.2⟩
      · have d0 : inB 0 (N - 1) f = true := inB_iff.2 h0
        have d1 : inB 0 (N - 1) t = true := inB_iff.2 h1
        have d2 : inB 0 1000 c = false := by rw [Bool.eq_false_iff]; exact fun q => h2 (inB_iff.1 q)
        have H := veil h2
        clear h0 h1 h2
        go_enter Try.func66, Try.ntmps66
        go_wp2_with fail
        refine (within_any _ _ _ _).mono ?_
        rintro e w' ⟨rfl, rfl⟩
        rw [d0]
        go_wp2_with fail
        refine (within_any _ _ _ _).mono ?_
        rintro e w' ⟨rfl, rfl⟩
        rw [d1]
        go_wp2_with fail
        refine (within_any _ _ _ _).mono ?_
        rintro e w' ⟨rfl, rfl⟩
        rw [d2]
        go_wp2_with fail
        go_ret
        exact ⟨⟨_, rfl, ⟨(fun h => by cases h), fun h => absurd h.2.2.1 H.out⟩⟩, hbw⟩
    · have d0 : inB 0 (N - 1) f = true := inB_iff.2 h0
      have d1 : inB 0 (N - 1) t = false := by rw [Bool.eq_false_iff]; exact fun q => h1 (inB_iff.1 q)
      have H := veil h1
      clear h0 h1
      go_enter Try.func66, Try.ntmps66
      go_wp2_with fail
      refine (within_any _ _ _ _).mono ?_
      rintro e w' ⟨rfl, rfl⟩
      rw [d0]
      go_wp2_with fail
      refine (within_any _ _ _ _).mono ?_
      rintro e w' ⟨rfl, rfl⟩
      rw [d1]
      go_wp2_with fail
      go_ret
      exact ⟨⟨_, rfl, ⟨(fun h => by cases h), fun h => absurd ⟨h.2.1.1, by have := h.2.1.2; simp only at this; omega⟩ H.out⟩⟩, hbw⟩
  · have d0 : inB 0 (N - 1) f = false := by rw [Bool.eq_false_iff]; exact fun q => h0 (inB_iff.1 q)
    have H := veil h0
    clear h0
    go_enter Try.func66, Try.ntmps66
    go_wp2_with fail
    refine (within_any _ _ _ _).mono ?_
    rintro e w' ⟨rfl, rfl⟩
    rw [d0]
    go_wp2_with fail
    go_ret
    exact ⟨⟨_, rfl, ⟨(fun h => by cases h), fun h => absurd ⟨h.1.1, by have := h.1.2; simp only at this; omega⟩ H.out⟩⟩, hbw⟩
end Go.Proofs.Ytjdindfjfpdikaa
