import Derived.Test.YtjdindfjfpdikaaGreatRoom
namespace Go.Proofs.YtjdindfjfpdikaaGreat
theorem flat_at (ys : List (Int × Int)) (k : Nat) (hk : k < ys.length) : (flat ys)[k * 2]? = some (.int .i64 ys[k].1) ∧ (flat ys)[k * 2 + 1]? = some (.int .i64 ys[k].2) := by
  induction ys generalizing k with
  | nil => simp at hk
  | cons y ys ih =>
    cases k with
    | zero => simp [flat]
    | succ k =>
      have := ih k (by simpa using hk)
      have e : flat (y :: ys) = .int .i64 y.1 :: .int .i64 y.2 :: flat ys := by simp [flat]
      rw [e, show (k + 1) * 2 = k * 2 + 1 + 1 by omega]
      simpa using this

end Go.Proofs.YtjdindfjfpdikaaGreat
