import Derived.Test.YtjdindfjfpdikaaGreatCostB
namespace Go.Proofs.YtjdindfjfpdikaaGreat
open Go.RowKit

section
variable {w : World} {pb b0 b1 b2 b3 : Nat} {l0 : Things} {l1 : Runs} {l2 : Waits} {l3 : Prefs}

set_option maxHeartbeats 1000000 in
theorem cost_no_task (h : PlanAt w pb b0 b1 b2 b3 l0 l1 l2 l3) (task machine : Int) (ht : get (3, task) l0 = none) :
    Calls Tryz.prog 38 #[.pointer (some ⟨pb, 0, none⟩), .int .i64 task, .int .i64 machine] w fun e w' => e = .returned (.tuple #[.int .i64 0, .int .i64 4]) ∧ Below w.heap.size w w' := by
  have hp1 := (h.alloc (.cells #[.int .i64 3, .int .i64 task] 102)).alloc (.cells #[.int .i64 1, .int .i64 machine] 102)
  have hb1 : Below w.heap.size w ((w.alloc (.cells #[.int .i64 3, .int .i64 task] 102)).alloc (.cells #[.int .i64 1, .int .i64 machine] 102)) := ((Below.refl _ _).alloc (Nat.le_refl _) _).alloc (by simp) _
  have Ht := hid ht
  clear ht
  go_enter Tryz.func38, Tryz.ntmps38
  go_wp2_with fail
  refine (has_any hp1 3 task).mono ?_
  rw [Ht.out]
  rintro e w2 ⟨rfl, hb2⟩
  go_wp2
  go_ret2
  exact ⟨rfl, next2 hb1 hb2⟩

set_option maxHeartbeats 1000000 in
theorem cost_none (h : PlanAt w pb b0 b1 b2 b3 l0 l1 l2 l3) (task j1 j2 s a i1 i2 s' base : Int) (ht : get (3, task) l0 = some ((j1, j2), s, a)) (hj : get (j1, j2) l0 = some ((i1, i2), s', base)) (hB0 : 0 ≤ base) (hB1 : base ≤ 1000) (hw : Waited l2) :
    Calls Tryz.prog 38 #[.pointer (some ⟨pb, 0, none⟩), .int .i64 task, .int .i64 (-1)] w fun e w' => e = .returned (.tuple #[.int .i64 (base + (get (3, task) l2).getD 0 + moves l1 (3, task)), .int .i64 0]) ∧ Below w.heap.size w w' := by
  have hp1 := (h.alloc (.cells #[.int .i64 3, .int .i64 task] 102)).alloc (.cells #[.int .i64 1, .int .i64 (-1)] 102)
  have hb1 : Below w.heap.size w ((w.alloc (.cells #[.int .i64 3, .int .i64 task] 102)).alloc (.cells #[.int .i64 1, .int .i64 (-1)] 102)) := ((Below.refl _ _).alloc (Nat.le_refl _) _).alloc (by simp) _
  have Hc := hid (fun (w3 : World) (hb : Below ((w.alloc (.cells #[.int .i64 3, .int .i64 task] 102)).alloc (.cells #[.int .i64 1, .int .i64 (-1)] 102)).heap.size ((w.alloc (.cells #[.int .i64 3, .int .i64 task] 102)).alloc (.cells #[.int .i64 1, .int .i64 (-1)] 102)) w3) => costOnNone_any (hp1.below hb) 3 task j1 j2 s a i1 i2 s' base ht hj hB0 hB1 hw)
  have Ht := hid ht
  clear ht hj
  generalize base + (get (3, task) l2).getD 0 + moves l1 (3, task) = r at Hc ⊢
  go_enter Tryz.func38, Tryz.ntmps38
  go_wp2_with fail
  refine (has_any hp1 3 task).mono ?_
  rw [Ht.out]
  rintro e w2 ⟨rfl, hb2⟩
  obtain ⟨k1, k2, k3, k4⟩ := boxes2 hb2
  go_wp2_with fail
  refine (Hc.out _ hb2).mono ?_
  rintro e w3 ⟨rfl, hb3⟩
  go_wp2
  go_ret2
  exact ⟨rfl, next2 (next2 hb1 hb2) hb3⟩

set_option maxHeartbeats 1000000 in
theorem cost_no_machine (h : PlanAt w pb b0 b1 b2 b3 l0 l1 l2 l3) (task machine : Int) (hm1 : machine ≠ -1) (ht : (get (3, task) l0).isSome = true) (hm : get (1, machine) l0 = none) :
    Calls Tryz.prog 38 #[.pointer (some ⟨pb, 0, none⟩), .int .i64 task, .int .i64 machine] w fun e w' => e = .returned (.tuple #[.int .i64 0, .int .i64 4]) ∧ Below w.heap.size w w' := by
  have hp1 := (h.alloc (.cells #[.int .i64 3, .int .i64 task] 102)).alloc (.cells #[.int .i64 1, .int .i64 machine] 102)
  have hb1 : Below w.heap.size w ((w.alloc (.cells #[.int .i64 3, .int .i64 task] 102)).alloc (.cells #[.int .i64 1, .int .i64 machine] 102)) := ((Below.refl _ _).alloc (Nat.le_refl _) _).alloc (by simp) _
  have Ht := hid ht
  have Hm := hid hm
  have hmb : (machine == -1) = false := by simpa using hm1
  clear ht hm hm1
  go_enter Tryz.func38, Tryz.ntmps38
  go_wp2_with fail
  refine (has_any hp1 3 task).mono ?_
  rw [Ht.out]
  rintro e w2 ⟨rfl, hb2⟩
  obtain ⟨k1, k2, k3, k4⟩ := boxes2 hb2
  go_wp2_with fail
  refine (has_any (hp1.below hb2) 1 machine).mono ?_
  rw [Hm.out]
  rintro e w3 ⟨rfl, hb3⟩
  go_wp2
  go_ret2
  exact ⟨rfl, next2 (next2 hb1 hb2) hb3⟩

set_option maxHeartbeats 1000000 in
theorem cost_on (h : PlanAt w pb b0 b1 b2 b3 l0 l1 l2 l3) (task machine j1 j2 s a r1 r2 s' c' : Int) (hm1 : machine ≠ -1) (ht : get (3, task) l0 = some ((j1, j2), s, a)) (hm : get (1, machine) l0 = some ((r1, r2), s', c')) (ha0 : 0 ≤ a) (ha1 : a ≤ 1000) (hC : Costs l3) :
    Calls Tryz.prog 38 #[.pointer (some ⟨pb, 0, none⟩), .int .i64 task, .int .i64 machine] w fun e w' => e = .returned (.tuple #[.int .i64 (lesser (lesser a (get ((3, task), (1, machine)) l3)) (get ((3, task), (r1, r2)) l3) + movesTo l1 (3, task) (1, machine)), .int .i64 0]) ∧ Below w.heap.size w w' := by
  have hp1 := (h.alloc (.cells #[.int .i64 3, .int .i64 task] 102)).alloc (.cells #[.int .i64 1, .int .i64 machine] 102)
  have hb1 : Below w.heap.size w ((w.alloc (.cells #[.int .i64 3, .int .i64 task] 102)).alloc (.cells #[.int .i64 1, .int .i64 machine] 102)) := ((Below.refl _ _).alloc (Nat.le_refl _) _).alloc (by simp) _
  have Hc := hid (fun (w3 : World) (hb : Below ((w.alloc (.cells #[.int .i64 3, .int .i64 task] 102)).alloc (.cells #[.int .i64 1, .int .i64 machine] 102)).heap.size ((w.alloc (.cells #[.int .i64 3, .int .i64 task] 102)).alloc (.cells #[.int .i64 1, .int .i64 machine] 102)) w3) => costOn_any (hp1.below hb) 3 task 1 machine j1 j2 s a r1 r2 s' c' ht hm ha0 ha1 hC)
  have Ht := hid ht
  have Hm := hid hm
  have hmb : (machine == -1) = false := by simpa using hm1
  clear ht hm hm1
  generalize lesser (lesser a (get ((3, task), (1, machine)) l3)) (get ((3, task), (r1, r2)) l3) + movesTo l1 (3, task) (1, machine) = r at Hc ⊢
  go_enter Tryz.func38, Tryz.ntmps38
  go_wp2_with fail
  refine (has_any hp1 3 task).mono ?_
  rw [Ht.out]
  rintro e w2 ⟨rfl, hb2⟩
  obtain ⟨k1, k2, k3, k4⟩ := boxes2 hb2
  go_wp2_with fail
  refine (has_any (hp1.below hb2) 1 machine).mono ?_
  rw [Hm.out]
  rintro e w3 ⟨rfl, hb3⟩
  obtain ⟨k5, k6, k7, k8⟩ := boxes2 (next2 hb2 hb3)
  go_wp2_with fail
  refine (Hc.out _ (next2 hb2 hb3)).mono ?_
  rintro e w4 ⟨rfl, hb4⟩
  go_wp2
  go_ret2
  exact ⟨rfl, next2 (next2 (next2 hb1 hb2) hb3) hb4⟩

theorem box2 {w w3 : World} {x1 x2 : Value} (h : Below (w.alloc (.cells #[x1, x2] 102)).heap.size (w.alloc (.cells #[x1, x2] 102)) w3) :
    w3.cell? ⟨w.heap.size, 0, none⟩ = some x1 ∧ w3.cell? ⟨w.heap.size, 1, none⟩ = some x2 := by
  have e1 : ∀ i, w3.cell? ⟨w.heap.size, i, none⟩ = #[x1, x2][i]? := fun i => by
    rw [h.cell (p := ⟨w.heap.size, i, none⟩) (by simp), World.cell?_alloc_at _ _ _ _ rfl]
  exact ⟨by rw [e1]; rfl, by rw [e1]; rfl⟩

set_option maxHeartbeats 1000000 in
theorem where_no_task (h : PlanAt w pb b0 b1 b2 b3 l0 l1 l2 l3) (task : Int) (ht : get (3, task) l0 = none) :
    Calls Tryz.prog 40 #[.pointer (some ⟨pb, 0, none⟩), .int .i64 task] w fun e w' => e = .returned (.tuple #[.int .i64 0, .int .i64 4]) ∧ Below w.heap.size w w' := by
  have hp1 := h.alloc (.cells #[.int .i64 3, .int .i64 task] 102)
  have hb1 : Below w.heap.size w (w.alloc (.cells #[.int .i64 3, .int .i64 task] 102)) := (Below.refl _ _).alloc (Nat.le_refl _) _
  have Ht := hid ht
  clear ht
  go_enter Tryz.func40, Tryz.ntmps40
  go_wp2_with fail
  refine (has_any hp1 3 task).mono ?_
  rw [Ht.out]
  rintro e w2 ⟨rfl, hb2⟩
  go_wp2
  go_ret2
  exact ⟨rfl, next2 hb1 hb2⟩

set_option maxRecDepth 100000 in
set_option maxHeartbeats 1000000 in
theorem where_none (h : PlanAt w pb b0 b1 b2 b3 l0 l1 l2 l3) (task : Int) (ht : (get (3, task) l0).isSome = true) (hr : get (3, task) l1 = none) :
    Calls Tryz.prog 40 #[.pointer (some ⟨pb, 0, none⟩), .int .i64 task] w fun e w' => e = .returned (.tuple #[.int .i64 (-1), .int .i64 0]) ∧ Below w.heap.size w w' := by
  have hp1 := h.alloc (.cells #[.int .i64 3, .int .i64 task] 102)
  have hb1 : Below w.heap.size w (w.alloc (.cells #[.int .i64 3, .int .i64 task] 102)) := (Below.refl _ _).alloc (Nat.le_refl _) _
  have Ht := hid ht
  have Hr := hid hr
  clear ht hr
  go_enter Tryz.func40, Tryz.ntmps40
  go_wp2_with fail
  refine (has_any hp1 3 task).mono ?_
  rw [Ht.out]
  rintro e w2 ⟨rfl, hb2⟩
  have hp2 := hp1.below hb2
  obtain ⟨k1, k2⟩ := box2 hb2
  have c1 := hp2.c1
  have hpw := hp2.lt
  have hz1 : w.heap.size < w2.heap.size := by have := hb2.size; simp at this; omega
  have e4 : (Instr.lookup 55 (.map (some b1)) (.agg #[.int .i64 3, .int .i64 task]) true).run Tryz.prog w2.drew = .ok (.tuple #[.agg #[.int .i64 0, .int .i64 0], .bool false]) w2.drew := run_look_no kt79 Tryz.underlying55 hp2.m1.drew (3, task) Hr.out _ (zero79 _)
  have e5 : ∀ o, (Instr.lookup 55 (.map (some b1)) (.agg #[.int .i64 3, .int .i64 task]) true).run Tryz.prog (w2.alloc o).drew = .ok (.tuple #[.agg #[.int .i64 0, .int .i64 0], .bool false]) (w2.alloc o).drew := fun o => run_look_no kt79 Tryz.underlying55 (hp2.m1.alloc o).drew (3, task) Hr.out _ (zero79 _)
  go_wp2
  go_region
  all_goals go_wp2
  all_goals
    go_ret2
    exact ⟨rfl, next2 (next2 hb1 hb2) (((Below.refl _ _).alloc (Nat.le_refl _) _).drew)⟩

set_option maxRecDepth 100000 in
set_option maxHeartbeats 1000000 in
theorem where_on (h : PlanAt w pb b0 b1 b2 b3 l0 l1 l2 l3) (task m1 m2 : Int) (ht : (get (3, task) l0).isSome = true) (hr : get (3, task) l1 = some (m1, m2)) :
    Calls Tryz.prog 40 #[.pointer (some ⟨pb, 0, none⟩), .int .i64 task] w fun e w' => e = .returned (.tuple #[.int .i64 m2, .int .i64 0]) ∧ Below w.heap.size w w' := by
  have hp1 := h.alloc (.cells #[.int .i64 3, .int .i64 task] 102)
  have hb1 : Below w.heap.size w (w.alloc (.cells #[.int .i64 3, .int .i64 task] 102)) := (Below.refl _ _).alloc (Nat.le_refl _) _
  have Ht := hid ht
  have Hr := hid hr
  clear ht hr
  go_enter Tryz.func40, Tryz.ntmps40
  go_wp2_with fail
  refine (has_any hp1 3 task).mono ?_
  rw [Ht.out]
  rintro e w2 ⟨rfl, hb2⟩
  have hp2 := hp1.below hb2
  obtain ⟨k1, k2⟩ := box2 hb2
  have c1 := hp2.c1
  have hpw := hp2.lt
  have hz1 : w.heap.size < w2.heap.size := by have := hb2.size; simp at this; omega
  have e4 : (Instr.lookup 55 (.map (some b1)) (.agg #[.int .i64 3, .int .i64 task]) true).run Tryz.prog w2.drew = .ok (.tuple #[.agg #[.int .i64 m1, .int .i64 m2], .bool true]) w2.drew := run_look_yes kt79 Tryz.underlying55 hp2.m1.drew (3, task) Hr.out _ (zero79 _)
  have e5 : ∀ o, (Instr.lookup 55 (.map (some b1)) (.agg #[.int .i64 3, .int .i64 task]) true).run Tryz.prog (w2.alloc o).drew = .ok (.tuple #[.agg #[.int .i64 m1, .int .i64 m2], .bool true]) (w2.alloc o).drew := fun o => run_look_yes kt79 Tryz.underlying55 (hp2.m1.alloc o).drew (3, task) Hr.out _ (zero79 _)
  go_wp2
  go_region
  all_goals go_wp2
  all_goals
    go_ret2
    exact ⟨rfl, next2 (next2 hb1 hb2) (((Below.refl _ _).alloc (Nat.le_refl _) _).drew)⟩
end
end Go.Proofs.YtjdindfjfpdikaaGreat
