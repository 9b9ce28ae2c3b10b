import Derived.Test.YtjdindfjfpdikaaGreatPrefer
namespace Go.Proofs.YtjdindfjfpdikaaGreat
open Go.RowKit

theorem mapAt_made {K V : Type} {ek : K → Value} {ev : V → Value} (w : World) : MapAt ek ev (w.alloc (.map #[] 0)) w.heap.size [] :=
  ⟨#[], 0, (MapKept.heap_alloc w _).1, rfl, by simp, by simp⟩

theorem planAt_made (w : World) (s0 s1 s2 s3 s4 : Value) : PlanAt (((((w.alloc (.map #[] 0)).alloc (.map #[] 0)).alloc (.map #[] 0)).alloc (.map #[] 0)).alloc (.cells #[.map (some w.heap.size), .map (some (w.heap.size + 1)), .map (some (w.heap.size + 1 + 1)), .map (some (w.heap.size + 1 + 1 + 1)), s0, s1, s2, s3, s4] 61))
    (w.heap.size + 1 + 1 + 1 + 1) w.heap.size (w.heap.size + 1) (w.heap.size + 1 + 1) (w.heap.size + 1 + 1 + 1) [] [] [] [] := by
  have e1 : (w.alloc (.map #[] 0)).heap.size = w.heap.size + 1 := by simp
  have e2 : ((w.alloc (.map #[] 0)).alloc (.map #[] 0)).heap.size = w.heap.size + 1 + 1 := by simp
  have e3 : (((w.alloc (.map #[] 0)).alloc (.map #[] 0)).alloc (.map #[] 0)).heap.size = w.heap.size + 1 + 1 + 1 := by simp
  have e4 : ((((w.alloc (.map #[] 0)).alloc (.map #[] 0)).alloc (.map #[] 0)).alloc (.map #[] 0)).heap.size = w.heap.size + 1 + 1 + 1 + 1 := by simp
  refine ⟨?_, ((((mapAt_made w).alloc _).alloc _).alloc _).alloc _, ?_, ?_, ?_, by omega⟩
  · rw [← e4]; exact ⟨s0, s1, s2, s3, s4, (MapKept.heap_alloc _ _).1⟩
  · rw [← e1]; exact (((mapAt_made _).alloc _).alloc _).alloc _
  · rw [← e2]; exact ((mapAt_made _).alloc _).alloc _
  · rw [← e3]; exact (mapAt_made _).alloc _

set_option maxHeartbeats 1000000 in
theorem new_any (w : World) : Calls Tryz.prog 13 #[] w fun e w' => e = .returned (.pointer (some ⟨w.heap.size + 1 + 1 + 1 + 1, 0, none⟩)) ∧
    PlanAt w' (w.heap.size + 1 + 1 + 1 + 1) w.heap.size (w.heap.size + 1) (w.heap.size + 1 + 1) (w.heap.size + 1 + 1 + 1) [] [] [] [] ∧ Below w.heap.size w w' := by
  have hmm := @run_makeMap Tryz.prog
  go_enter Tryz.func13, Tryz.ntmps13
  go_wp2
  go_ret
  exact ⟨rfl, planAt_made w _ _ _ _ _, by repeat (first | exact Below.refl _ _ | refine Below.alloc ?_ (by simp <;> omega) _)⟩
end Go.Proofs.YtjdindfjfpdikaaGreat
