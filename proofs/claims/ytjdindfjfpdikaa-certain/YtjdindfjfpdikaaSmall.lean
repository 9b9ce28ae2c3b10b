import Derived.Test.YtjdindfjfpdikaaFacts
import Derived.Below
import Derived.OpenShut
namespace Go.Proofs.Ytjdindfjfpdikaa
open Go.RowKit

theorem ret_int {k : IntKind} {a b : Int} (h : a = b) : Ending.returned (.int k a) = .returned (.int k b) := by rw [h]
theorem ret_bool {a b : Bool} (h : a = b) : Ending.returned (.bool a) = .returned (.bool b) := by rw [h]

/-- Which of n things a raw number speaks of. -/
def pickOf (c n : Int) : Int := if c < 0 then (-(c + 1)).tmod n else c.tmod n

theorem pickOf_bounds (c n : Int) (hn : 0 < n) : 0 ≤ pickOf c n ∧ pickOf c n < n := by
  unfold pickOf
  split
  · rw [Int.tmod_eq_emod_of_nonneg (by omega)]
    exact ⟨Int.emod_nonneg _ (by omega), Int.emod_lt_of_pos _ hn⟩
  · rw [Int.tmod_eq_emod_of_nonneg (by omega)]
    exact ⟨Int.emod_nonneg _ (by omega), Int.emod_lt_of_pos _ hn⟩

set_option maxHeartbeats 400000 in
theorem pick_any (c n : Int) (w : World) (hc : (Lit.int .i64 c).wf = true) (h1 : 1 < n) (h2 : n ≤ 1001) :
    Calls Try.prog 10 #[.int .i64 c, .int .i64 n] w fun e w' => e = .returned (.int .i64 (pickOf c n)) ∧ w' = w := by
  have hb := bounds_i64 hc
  by_cases h : c < 0
  · go_enter Try.func10, Try.ntmps10
    go_wp2
    go_ret
    exact ⟨ret_int (by unfold pickOf; rw [if_pos h, Int.neg_tmod]), rfl⟩
  · go_enter Try.func10, Try.ntmps10
    go_wp2
    go_ret
    exact ⟨ret_int (by unfold pickOf; rw [if_neg (by omega), Int.tmod_eq_emod_of_nonneg (by omega)]), rfl⟩

theorem min2_any (a b : Int) (w : World) : Calls Try.prog 18 #[.int .i64 a, .int .i64 b] w fun e w' => e = .returned (.int .i64 (min a b)) ∧ w' = w := by
  by_cases h : a < b
  · go_enter Try.func18, Try.ntmps18
    go_wp2
    go_ret
    exact ⟨ret_int (by omega), rfl⟩
  · go_enter Try.func18, Try.ntmps18
    go_wp2
    go_ret
    exact ⟨ret_int (by omega), rfl⟩

/-- Whether a number may be a cost. -/
def costB (n : Int) : Bool := decide (0 ≤ n ∧ n ≤ 1000)

theorem isCost_any (n : Int) (w : World) : Calls Try.prog 34 #[.int .i64 n] w fun e w' => e = .returned (.bool (costB n)) ∧ w' = w := by
  by_cases h0 : 0 ≤ n
  · go_enter Try.func34, Try.ntmps34
    go_wp2
    go_ret
    exact ⟨ret_bool (by simp [costB, h0]), rfl⟩
  · have hd : decide (0 ≤ n) = false := by simpa using h0
    go_enter Try.func34, Try.ntmps34
    go_wp2
    go_ret
    exact ⟨ret_bool (by simp [costB]; omega), rfl⟩

/-- cmp.Compare. -/
def cmpOf (a b : Int) : Int := if a < b then -1 else if b < a then 1 else 0

set_option maxHeartbeats 400000 in
theorem compare_any (a b : Int) (w : World) : Calls Try.prog 50 #[.int .i64 a, .int .i64 b] w fun e w' => e = .returned (.int .i64 (cmpOf a b)) ∧ w' = w := by
  by_cases h1 : a < b
  · go_enter Try.func50, Try.ntmps50
    go_wp2
    go_ret
    exact ⟨ret_int (by simp [cmpOf, h1]), rfl⟩
  · by_cases h2 : b < a
    · go_enter Try.func50, Try.ntmps50
      go_wp2
      go_ret
      exact ⟨ret_int (by simp [cmpOf, h2]; omega), rfl⟩
    · go_enter Try.func50, Try.ntmps50
      go_wp2
      go_ret
      exact ⟨ret_int (by unfold cmpOf; rw [if_neg (by omega), if_neg (by omega)]), rfl⟩
end Go.Proofs.Ytjdindfjfpdikaa
