import Derived.Test.YtjdindfjfpdikaaCostC
import Derived.Test.YtjdindfjfpdikaaSort
namespace Go.Proofs.Ytjdindfjfpdikaa
open Go.RowKit

/-! What there is behind each of Told's calls. -/
def T1 : Things := [((0, 3), (4, 0), 0, 0)]
def T2 : Things := [((0, 3), (4, 0), 0, 0), ((0, 4), (4, 0), 0, 0)]
def T3 : Things := [((0, 3), (4, 0), 0, 0), ((0, 4), (4, 0), 0, 0), ((1, 3), (0, 4), 1, 0)]
def T4 : Things := [((0, 3), (4, 0), 0, 0), ((0, 4), (4, 0), 0, 0), ((1, 3), (0, 4), 1, 0), ((1, 8), (0, 3), 4, 0)]
def T5 (d : Int) : Things := [((0, 3), (4, 0), 0, 0), ((0, 4), (4, 0), 0, 0), ((1, 3), (0, 4), 1, 0), ((1, 8), (0, 3), 4, 0), ((2, 9), (4, 0), 0, d)]
def T6 (d a : Int) : Things := [((0, 3), (4, 0), 0, 0), ((0, 4), (4, 0), 0, 0), ((1, 3), (0, 4), 1, 0), ((1, 8), (0, 3), 4, 0), ((2, 9), (4, 0), 0, d), ((3, 1), (2, 9), 0, a)]

theorem r1 : roomOf [] 0 3 4 = 0 ∧ rackTo [] 3 = T1 := by decide
theorem r2 : roomOf T1 0 4 4 = 0 ∧ rackTo T1 4 = T2 := by decide
theorem r3 : machOf T2 3 4 1 = 0 ∧ machTo T2 3 4 1 = T3 := by decide
theorem r4 : machOf T3 8 3 4 = 0 ∧ machTo T3 8 3 4 = T4 := by decide
theorem r5 (d : Int) (h0 : 0 ≤ d) (h1 : d ≤ 1000) : jobOf T4 9 d = 0 ∧ jobTo T4 9 d = T5 d := by
  have hc : costB d = true := by simp [costB, h0, h1]
  have hr : roomOf T4 2 9 4 = 0 := by decide
  have e : jobOf T4 9 d = 0 := by simp [jobOf, hr, hc]
  exact ⟨e, by unfold jobTo; rw [if_pos e]; simp [T4, T5, put]⟩
theorem r6 (d a : Int) (h0 : 0 ≤ a) (h1 : a ≤ 1000) : taskOf (T5 d) 1 9 a = 0 ∧ taskTo (T5 d) 1 9 a = T6 d a := by
  have hc : costB a = true := by simp [costB, h0, h1]
  have hr : roomOf (T5 d) 3 1 16 = 0 := by simp [roomOf, T5, get, sel]
  have hg : (get (2, 9) (T5 d)).isSome = true := by simp [T5, get]
  have e : taskOf (T5 d) 1 9 a = 0 := by simp [taskOf, hr, hc, hg]
  exact ⟨e, by unfold taskTo; rw [if_pos e]; simp [T5, T6, put]⟩
theorem r7 (d a c : Int) (h0 : 0 ≤ c) (h1 : c ≤ 1000) : prefOf (T6 d a) 1 0 4 c = 0 ∧ prefTo (T6 d a) [] 1 0 4 c = [(((3, 1), (0, 4)), c)] := by
  have hc : costB c = true := by simp [costB, h0, h1]
  have e : prefOf (T6 d a) 1 0 4 c = 0 := by simp [prefOf, T6, get, hc]
  exact ⟨e, by unfold prefTo; rw [if_pos e]; simp [put]⟩
theorem r8 (d a b c : Int) (h0 : 0 ≤ b) (h1 : b ≤ 1000) : prefOf (T6 d a) 1 1 3 b = 0 ∧ prefTo (T6 d a) [(((3, 1), (0, 4)), c)] 1 1 3 b = [(((3, 1), (0, 4)), c), (((3, 1), (1, 3)), b)] := by
  have hc : costB b = true := by simp [costB, h0, h1]
  have e : prefOf (T6 d a) 1 1 3 b = 0 := by simp [prefOf, T6, get, hc]
  exact ⟨e, by unfold prefTo; rw [if_pos e]; simp [put]⟩

theorem sel6 (d a : Int) : sel 3 (T6 d a) = [(3, 1)] := by simp [sel, T6]

section
variable {w : World} {pb b0 b1 b2 b3 : Nat} {l2 : Waits}

/-- A tick, when there is one task and it runs on none. -/
theorem tick_told (d a c : Int) (h : PlanAt w pb b0 b1 b2 b3 (T6 d a) [] l2 [(((3, 1), (0, 4)), c)]) (hw : Waited l2) :
    Calls Try.prog 16 #[.pointer (some ⟨pb, 0, none⟩)] w fun e w' => e = .returned (.tuple #[]) ∧ (∃ l2', PlanAt w' pb b0 b1 b2 b3 (T6 d a) [] l2' [(((3, 1), (0, 4)), c)] ∧ Waited l2' ∧ (get (3, 1) l2').getD 0 = min ((get (3, 1) l2).getD 0 + 1) 100) ∧ Only [b0, b1, b2, b3] w w' := by
  refine (tick_any sortSaid h (by simp [T6]) hw).mono fun e w' ⟨he, ⟨ys, hp, hq⟩, hO⟩ => ⟨he, ⟨_, hq, Waited.many ys hw, ?_⟩, hO⟩
  rw [sel6, List.perm_singleton] at hp
  subst hp
  simp [tickOne, get, get_put]

theorem costs1 {c : Int} (h0 : 0 ≤ c) (h1 : c ≤ 1000) : Costs [(((3, 1), (0, 4)), c)] := by
  intro k n hk
  simp only [get] at hk
  split at hk
  · cases hk; exact ⟨h0, h1⟩
  · cases hk
theorem costs2 {b c : Int} (h0 : 0 ≤ c) (h1 : c ≤ 1000) (h2 : 0 ≤ b) (h3 : b ≤ 1000) : Costs [(((3, 1), (0, 4)), c), (((3, 1), (1, 3)), b)] := by
  intro k n hk
  simp only [get] at hk
  split at hk
  · cases hk; exact ⟨h0, h1⟩
  · split at hk
    · cases hk; exact ⟨h2, h3⟩
    · cases hk

/-- Cost(1, 3) ahead of the second wish. -/
theorem cost_a (d a c : Int) (ha0 : 0 ≤ a) (ha1 : a ≤ 1000) (hc0 : 0 ≤ c) (hc1 : c ≤ 1000) (h : PlanAt w pb b0 b1 b2 b3 (T6 d a) [] l2 [(((3, 1), (0, 4)), c)]) :
    Calls Try.prog 17 #[.pointer (some ⟨pb, 0, none⟩), .int .i64 1, .int .i64 3] w fun e w' => e = .returned (.tuple #[.int .i64 (min a c), .int .i64 0]) ∧ Below w.heap.size w w' := by
  have := cost_on h 1 3 2 9 0 a 0 4 1 0 (by decide) (by simp [T6, get]) (by simp [T6, get]) ha0 ha1 (costs1 hc0 hc1)
  simpa [lesser, get, movesTo] using this
/-- Cost(1, 8). -/
theorem cost_b (d a c : Int) (ha0 : 0 ≤ a) (ha1 : a ≤ 1000) (hc0 : 0 ≤ c) (hc1 : c ≤ 1000) (h : PlanAt w pb b0 b1 b2 b3 (T6 d a) [] l2 [(((3, 1), (0, 4)), c)]) :
    Calls Try.prog 17 #[.pointer (some ⟨pb, 0, none⟩), .int .i64 1, .int .i64 8] w fun e w' => e = .returned (.tuple #[.int .i64 a, .int .i64 0]) ∧ Below w.heap.size w w' := by
  have := cost_on h 1 8 2 9 0 a 0 3 4 0 (by decide) (by simp [T6, get]) (by simp [T6, get]) ha0 ha1 (costs1 hc0 hc1)
  simpa [lesser, get, movesTo] using this
/-- Cost(1, -1). -/
theorem cost_c (d a c n : Int) (hd0 : 0 ≤ d) (hd1 : d ≤ 1000) (hw : Waited l2) (hn : (get (3, 1) l2).getD 0 = n) (h : PlanAt w pb b0 b1 b2 b3 (T6 d a) [] l2 [(((3, 1), (0, 4)), c)]) :
    Calls Try.prog 17 #[.pointer (some ⟨pb, 0, none⟩), .int .i64 1, .int .i64 (-1)] w fun e w' => e = .returned (.tuple #[.int .i64 (d + n), .int .i64 0]) ∧ Below w.heap.size w w' := by
  have := cost_none h 1 2 9 0 a 4 0 0 d (by simp [T6, get]) (by simp [T6, get]) hd0 hd1 hw
  rw [hn] at this
  simpa [get, moves] using this
/-- Cost(1, 3) behind the second wish. -/
theorem cost_d (d a b c : Int) (ha0 : 0 ≤ a) (ha1 : a ≤ 1000) (hb0 : 0 ≤ b) (hb1 : b ≤ 1000) (hc0 : 0 ≤ c) (hc1 : c ≤ 1000) (h : PlanAt w pb b0 b1 b2 b3 (T6 d a) [] l2 [(((3, 1), (0, 4)), c), (((3, 1), (1, 3)), b)]) :
    Calls Try.prog 17 #[.pointer (some ⟨pb, 0, none⟩), .int .i64 1, .int .i64 3] w fun e w' => e = .returned (.tuple #[.int .i64 (min b (min a c)), .int .i64 0]) ∧ Below w.heap.size w w' := by
  have := cost_on h 1 3 2 9 0 a 0 4 1 0 (by decide) (by simp [T6, get]) (by simp [T6, get]) ha0 ha1 (costs2 hc0 hc1 hb0 hb1)
  have e : min (min a b) c = min b (min a c) := by omega
  simpa [lesser, get, movesTo, e] using this
/-- Cost(2, 3). -/
theorem cost_e (d a b c : Int) (h : PlanAt w pb b0 b1 b2 b3 (T6 d a) [] l2 [(((3, 1), (0, 4)), c), (((3, 1), (1, 3)), b)]) :
    Calls Try.prog 17 #[.pointer (some ⟨pb, 0, none⟩), .int .i64 2, .int .i64 3] w fun e w' => e = .returned (.tuple #[.int .i64 0, .int .i64 4]) ∧ Below w.heap.size w w' :=
  cost_no_task h 2 3 (by simp [T6, get])
/-- Where(1). -/
theorem where_a (d a b c : Int) (h : PlanAt w pb b0 b1 b2 b3 (T6 d a) [] l2 [(((3, 1), (0, 4)), c), (((3, 1), (1, 3)), b)]) :
    Calls Try.prog 19 #[.pointer (some ⟨pb, 0, none⟩), .int .i64 1] w fun e w' => e = .returned (.tuple #[.int .i64 (-1), .int .i64 0]) ∧ Below w.heap.size w w' :=
  where_none h 1 (by simp [T6, get]) rfl
end
end Go.Proofs.Ytjdindfjfpdikaa
