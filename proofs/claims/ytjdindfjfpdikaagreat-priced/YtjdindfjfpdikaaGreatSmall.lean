import Derived.Test.YtjdindfjfpdikaaGreatFacts
import Derived.Below
import Derived.OpenShut
namespace Go.Proofs.YtjdindfjfpdikaaGreat
open Go.RowKit

theorem ret_int {k : IntKind} {a b : Int} (h : a = b) : Ending.returned (.int k a) = .returned (.int k b) := by rw [h]
theorem ret_bool {a b : Bool} (h : a = b) : Ending.returned (.bool a) = .returned (.bool b) := by rw [h]

/-- Whether a number may be a cost. -/
def costB (n : Int) : Bool := decide (0 ≤ n ∧ n ≤ 1000)

theorem isCost_any (n : Int) (w : World) : Calls Tryz.prog 58 #[.int .i64 n] w fun e w' => e = .returned (.bool (costB n)) ∧ w' = w := by
  by_cases h0 : 0 ≤ n
  · go_enter Tryz.func58, Tryz.ntmps58
    go_wp2
    go_ret
    exact ⟨ret_bool (by simp [costB, h0]), rfl⟩
  · have hd : decide (0 ≤ n) = false := by simpa using h0
    go_enter Tryz.func58, Tryz.ntmps58
    go_wp2
    go_ret
    exact ⟨ret_bool (by simp [costB]; omega), rfl⟩

/-- cmp.Compare. -/
def cmpOf (a b : Int) : Int := if a < b then -1 else if b < a then 1 else 0

set_option maxHeartbeats 400000 in
theorem compare_any (a b : Int) (w : World) : Calls Tryz.prog 88 #[.int .i64 a, .int .i64 b] w fun e w' => e = .returned (.int .i64 (cmpOf a b)) ∧ w' = w := by
  by_cases h1 : a < b
  · go_enter Tryz.func88, Tryz.ntmps88
    go_wp2
    go_ret
    exact ⟨ret_int (by simp [cmpOf, h1]), rfl⟩
  · by_cases h2 : b < a
    · go_enter Tryz.func88, Tryz.ntmps88
      go_wp2
      go_ret
      exact ⟨ret_int (by simp [cmpOf, h2]; omega), rfl⟩
    · go_enter Tryz.func88, Tryz.ntmps88
      go_wp2
      go_ret
      exact ⟨ret_int (by unfold cmpOf; rw [if_neg (by omega), if_neg (by omega)]), rfl⟩
end Go.Proofs.YtjdindfjfpdikaaGreat
