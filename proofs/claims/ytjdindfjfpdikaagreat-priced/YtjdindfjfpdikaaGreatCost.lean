import Derived.Test.YtjdindfjfpdikaaGreatTick
import Derived.BigQuiet
import Derived.Deep.QuietTactic
namespace Go.Proofs.YtjdindfjfpdikaaGreat
open Go.RowKit

theorem field0 (w : World) (a b c d : Int) : (Instr.field 105 (.agg #[.int .i64 a, .int .i64 b, .int .i64 c, .int .i64 d]) 0).run Tryz.prog w = .ok (.agg #[.int .i64 a, .int .i64 b]) w := by kernel_rfl
theorem field2 (w : World) (a b c d : Int) : (Instr.field 105 (.agg #[.int .i64 a, .int .i64 b, .int .i64 c, .int .i64 d]) 2).run Tryz.prog w = .ok (.int .i64 d) w := by kernel_rfl

/-- What a task costs more that would move. -/
def moves (l1 : Runs) (t : Int × Int) : Int := if (get t l1).isSome then 50 else 0

section
variable {w : World} {pb b0 b1 b2 b3 : Nat} {l0 : Things} {l1 : Runs} {l2 : Waits} {l3 : Prefs}

theorem look2 (h : MapAt tv iv w b2 l2) (a : Int × Int) : (Instr.lookup 56 (.map (some b2)) (.agg #[.int .i64 a.1, .int .i64 a.2]) false).run Tryz.prog w = .ok (.int .i64 ((get a l2).getD 0)) w := by
  have := run_look kt79 Tryz.underlying56 h a false (zero3 w)
  cases hq : get a l2 with
  | none => rw [hq] at this; exact this
  | some n => rw [hq] at this; exact this
theorem look1 (h : MapAt tv tv w b1 l1) (a : Int × Int) : (Instr.lookup 55 (.map (some b1)) (.agg #[.int .i64 a.1, .int .i64 a.2]) true).run Tryz.prog w = .ok (.tuple #[.agg #[.int .i64 ((get a l1).getD (0, 0)).1, .int .i64 ((get a l1).getD (0, 0)).2], .bool (get a l1).isSome]) w := by
  have := run_look kt79 Tryz.underlying55 h a true (zero79 w)
  cases hq : get a l1 with
  | none => rw [hq] at this; exact this
  | some n => rw [hq] at this; exact this

set_option maxRecDepth 100000 in
set_option maxHeartbeats 2000000 in
theorem costOnNone_any (h : PlanAt w pb b0 b1 b2 b3 l0 l1 l2 l3) (t1 t2 j1 j2 s a i1 i2 s' base : Int) (ht : get (t1, t2) l0 = some ((j1, j2), s, a)) (hj : get (j1, j2) l0 = some ((i1, i2), s', base)) (hB0 : 0 ≤ base) (hB1 : base ≤ 1000) (hw : Waited l2) :
    Calls Tryz.prog 66 #[.pointer (some ⟨pb, 0, none⟩), .agg #[.int .i64 t1, .int .i64 t2]] w fun e w' => e = .returned (.int .i64 (base + (get (t1, t2) l2).getD 0 + moves l1 (t1, t2))) ∧ Below w.heap.size w w' := by
  have c0 := h.c0
  have c1 := h.c1
  have c2 := h.c2
  have hpb := h.lt
  have hpb1 : pb < w.heap.size + 1 := by omega
  have hpb2 : pb < w.heap.size + 1 + 1 := by omega
  have hs1 : w.heap.size < w.heap.size + 1 + 1 := by omega
  have f0 := field0
  have f2 := field2
  have e1 : ∀ o, (Instr.lookup 54 (.map (some b0)) (.agg #[.int .i64 t1, .int .i64 t2]) false).run Tryz.prog (w.alloc o).drew = .ok (.agg #[.int .i64 j1, .int .i64 j2, .int .i64 s, .int .i64 a]) (w.alloc o).drew := fun o => run_look_yes' kt79 Tryz.underlying54 (h.m0.alloc o).drew (t1, t2) ht _ (zero82 _)
  have e1' : ∀ o o', (Instr.lookup 54 (.map (some b0)) (.agg #[.int .i64 t1, .int .i64 t2]) false).run Tryz.prog ((w.alloc o).alloc o').drew = .ok (.agg #[.int .i64 j1, .int .i64 j2, .int .i64 s, .int .i64 a]) ((w.alloc o).alloc o').drew := fun o o' => run_look_yes' kt79 Tryz.underlying54 ((h.m0.alloc o).alloc o').drew (t1, t2) ht _ (zero82 _)
  have e2 : ∀ o o', (Instr.lookup 54 (.map (some b0)) (.agg #[.int .i64 j1, .int .i64 j2]) false).run Tryz.prog ((w.alloc o).alloc o').drew.drew = .ok (.agg #[.int .i64 i1, .int .i64 i2, .int .i64 s', .int .i64 base]) ((w.alloc o).alloc o').drew.drew := fun o o' => run_look_yes' kt79 Tryz.underlying54 ((h.m0.alloc o).alloc o').drew.drew (j1, j2) hj _ (zero82 _)
  obtain ⟨n, hn, hn0, hn1⟩ : ∃ n, (get (t1, t2) l2).getD 0 = n ∧ 0 ≤ n ∧ n ≤ 100 := ⟨_, rfl, by cases hq : get (t1, t2) l2 with
    | none => simp
    | some n => have := hw _ _ hq; simpa using this⟩
  have e3 : ∀ o o', (Instr.lookup 56 (.map (some b2)) (.agg #[.int .i64 t1, .int .i64 t2]) false).run Tryz.prog ((w.alloc o).alloc o').drew.drew = .ok (.int .i64 n) ((w.alloc o).alloc o').drew.drew := fun o o' => by rw [← hn]; exact look2 ((h.m2.alloc o).alloc o').drew.drew (t1, t2)
  obtain ⟨m1, m2, r, hr⟩ : ∃ m1 m2 r, (((get (t1, t2) l1).getD (0, 0)).1 = m1 ∧ ((get (t1, t2) l1).getD (0, 0)).2 = m2 ∧ (get (t1, t2) l1).isSome = r) := ⟨_, _, _, rfl, rfl, rfl⟩
  have e4 : ∀ o o', (Instr.lookup 55 (.map (some b1)) (.agg #[.int .i64 t1, .int .i64 t2]) true).run Tryz.prog ((w.alloc o).alloc o').drew.drew.drew = .ok (.tuple #[.agg #[.int .i64 m1, .int .i64 m2], .bool r]) ((w.alloc o).alloc o').drew.drew.drew := fun o o' => by rw [← hr.1, ← hr.2.1, ← hr.2.2]; exact look1 ((h.m1.alloc o).alloc o').drew.drew.drew (t1, t2)
  have e5 : ∀ o o' o2, (Instr.lookup 55 (.map (some b1)) (.agg #[.int .i64 t1, .int .i64 t2]) true).run Tryz.prog (((w.alloc o).alloc o').alloc o2).drew.drew.drew = .ok (.tuple #[.agg #[.int .i64 m1, .int .i64 m2], .bool r]) (((w.alloc o).alloc o').alloc o2).drew.drew.drew := fun o o' o2 => by rw [← hr.1, ← hr.2.1, ← hr.2.2]; exact look1 (((h.m1.alloc o).alloc o').alloc o2).drew.drew.drew (t1, t2)
  have hm : moves l1 (t1, t2) = if r = true then 50 else 0 := by unfold moves; rw [hr.2.2]
  rw [hn, hm]
  clear hn hm hr ht hj
  cases r
  · go_enter Tryz.func66, Tryz.ntmps66
    go_wp2
    go_region
    all_goals go_wp2
    all_goals go_region
    all_goals go_wp2
    all_goals go_region
    all_goals
      go_wp2
      go_ret
      exact ⟨ret_int (by simp), by repeat (first | exact Below.refl _ _ | refine Below.drew ?_ | refine Below.alloc ?_ (by simp <;> omega) _)⟩
  · go_enter Tryz.func66, Tryz.ntmps66
    go_wp2
    go_region
    all_goals go_wp2
    all_goals go_region
    all_goals go_wp2
    all_goals go_region
    all_goals
      go_wp2
      go_ret
      exact ⟨ret_int (by simp), by repeat (first | exact Below.refl _ _ | refine Below.drew ?_ | refine Below.alloc ?_ (by simp <;> omega) _)⟩
end
end Go.Proofs.YtjdindfjfpdikaaGreat
