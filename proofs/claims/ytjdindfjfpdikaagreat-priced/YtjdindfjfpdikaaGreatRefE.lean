import Derived.Test.YtjdindfjfpdikaaGreatRefC
namespace Go.Proofs.YtjdindfjfpdikaaGreat
open Go.RowKit

section
variable {w : World} {rb : Nat} {V : RVs} {x7 x8 x9 x10 x11 : Value} {R : RSt}

set_option maxRecDepth 100000 in
set_option maxHeartbeats 4000000 in
theorem make0_no (h : RefAt w rb V x7 x8 x9 x10 x11 R) (id o n : Int) (hl : R.t0.length ≤ 1000) (hne : makeOf (atOf id R.t0) R.t0.length 4 0 n 0 1000 false id ≠ 0) :
    Calls Tryz.prog 34 #[.pointer (some ⟨rb, 0, none⟩), .int .i64 0, .agg #[.int .i64 id, .int .i64 o, .int .i64 n]] w fun e w' => e = .returned (.int .i64 (makeOf (atOf id R.t0) R.t0.length 4 0 n 0 1000 false id)) ∧ Below w.heap.size w w' := by
  have hp1 := h.alloc (.cells #[.int .i64 id, .int .i64 o, .int .i64 n] 76)
  have hb1 : Below w.heap.size w (w.alloc (.cells #[.int .i64 id, .int .i64 o, .int .i64 n] 76)) := (Below.refl _ _).alloc (Nat.le_refl _) _
  have A1 := hid (at_any _ rb 0 V.v0 R.t0 id (by decide) hp1.c0 hp1.r0 hl)
  generalize atOf id R.t0 = q at A1 hne ⊢
  obtain ⟨pp, cap, hv⟩ := slice_of h.r0
  have c0 := h.c0
  have hrb := h.lt
  rw [hv] at c0
  clear hp1 h
  by_cases c1 : id < 0
  · have e1 : makeOf q R.t0.length 4 0 n 0 1000 false id = 1 := by simp [makeOf, c1]
    rw [e1]
    clear e1 hne
    go_enter Tryz.func34, Tryz.ntmps34
    go_wp2_with fail
    refine A1.out.mono ?_
    rintro e w2 ⟨rfl, rfl⟩
    go_wp2
    go_ret
    exact ⟨rfl, hb1⟩
  by_cases c2 : 99 < id
  · have e1 : makeOf q R.t0.length 4 0 n 0 1000 false id = 1 := by simp [makeOf, c2]
    have d1 : decide (id < 0) = false := by simpa using c1
    rw [e1]
    clear e1 hne
    go_enter Tryz.func34, Tryz.ntmps34
    go_wp2_with fail
    refine A1.out.mono ?_
    rintro e w2 ⟨rfl, rfl⟩
    go_wp2
    go_ret
    exact ⟨rfl, hb1⟩
  have d1 : decide (id < 0) = false := by simpa using c1
  have d2 : decide (99 < id) = false := by simpa using c2
  have cc : ¬ (id < 0 ∨ 99 < id) := by omega
  by_cases c3 : 0 ≤ q
  · have e1 : makeOf q R.t0.length 4 0 n 0 1000 false id = 2 := by unfold makeOf; rw [if_neg cc, if_pos c3]
    rw [e1]
    clear e1 hne
    go_enter Tryz.func34, Tryz.ntmps34
    go_wp2_with fail
    refine A1.out.mono ?_
    rintro e w2 ⟨rfl, rfl⟩
    go_wp2
    go_ret
    exact ⟨rfl, hb1⟩
  have d3 : decide (0 ≤ q) = false := by simpa using c3
  by_cases c4 : (4 : Int) ≤ R.t0.length
  · have e1 : makeOf q R.t0.length 4 0 n 0 1000 false id = 3 := by unfold makeOf; rw [if_neg cc, if_neg c3, if_pos c4]
    rw [e1]
    clear e1 hne
    go_enter Tryz.func34, Tryz.ntmps34
    go_wp2_with fail
    refine A1.out.mono ?_
    rintro e w2 ⟨rfl, rfl⟩
    go_wp2_with fail
    go_quiet ((go_at_call 63; exact Calls.quiet_of_same (most0 _)))
    go_wp2
    go_ret
    exact ⟨rfl, ⟨hb1.os, hb1.tape, hb1.output, hb1.size, hb1.block⟩⟩
  have d4 : decide ((4 : Int) ≤ (R.t0.length : Int)) = false := by simpa using c4
  exact absurd (by unfold makeOf; rw [if_neg cc, if_neg c3, if_neg c4, if_neg (by decide), if_neg (by simp)]) hne

set_option maxRecDepth 100000 in
set_option maxHeartbeats 4000000 in
theorem make1_no (h : RefAt w rb V x7 x8 x9 x10 x11 R) (id o n : Int) (hl : R.t1.length ≤ 1000) (hln : R.t0.length ≤ 1000) (hne : makeOf (atOf id R.t1) R.t1.length 8 (atOf o R.t0) n 1 4 true id ≠ 0) :
    Calls Tryz.prog 34 #[.pointer (some ⟨rb, 0, none⟩), .int .i64 1, .agg #[.int .i64 id, .int .i64 o, .int .i64 n]] w fun e w' => e = .returned (.int .i64 (makeOf (atOf id R.t1) R.t1.length 8 (atOf o R.t0) n 1 4 true id)) ∧ Below w.heap.size w w' := by
  have hp1 := h.alloc (.cells #[.int .i64 id, .int .i64 o, .int .i64 n] 76)
  have hb1 : Below w.heap.size w (w.alloc (.cells #[.int .i64 id, .int .i64 o, .int .i64 n] 76)) := (Below.refl _ _).alloc (Nat.le_refl _) _
  have A1 := hid (at_any _ rb 1 V.v1 R.t1 id (by decide) hp1.c1 hp1.r1 hl)
  have A2 := hid (at_any _ rb 0 V.v0 R.t0 o (by decide) hp1.c0 hp1.r0 hln)
  generalize atOf o R.t0 = q2 at A2 hne ⊢
  generalize atOf id R.t1 = q at A1 hne ⊢
  obtain ⟨pp, cap, hv⟩ := slice_of h.r1
  have c0 := h.c1
  have hrb := h.lt
  rw [hv] at c0
  clear hp1 h
  by_cases c1 : id < 0
  · have e1 : makeOf q R.t1.length 8 q2 n 1 4 true id = 1 := by simp [makeOf, c1]
    rw [e1]
    clear e1 hne
    go_enter Tryz.func34, Tryz.ntmps34
    go_wp2_with fail
    refine A1.out.mono ?_
    rintro e w2 ⟨rfl, rfl⟩
    go_wp2_with fail
    refine A2.out.mono ?_
    rintro e w2 ⟨rfl, rfl⟩
    go_wp2
    go_ret
    exact ⟨rfl, hb1⟩
  by_cases c2 : 99 < id
  · have e1 : makeOf q R.t1.length 8 q2 n 1 4 true id = 1 := by simp [makeOf, c2]
    have d1 : decide (id < 0) = false := by simpa using c1
    rw [e1]
    clear e1 hne
    go_enter Tryz.func34, Tryz.ntmps34
    go_wp2_with fail
    refine A1.out.mono ?_
    rintro e w2 ⟨rfl, rfl⟩
    go_wp2_with fail
    refine A2.out.mono ?_
    rintro e w2 ⟨rfl, rfl⟩
    go_wp2
    go_ret
    exact ⟨rfl, hb1⟩
  have d1 : decide (id < 0) = false := by simpa using c1
  have d2 : decide (99 < id) = false := by simpa using c2
  have cc : ¬ (id < 0 ∨ 99 < id) := by omega
  by_cases c3 : 0 ≤ q
  · have e1 : makeOf q R.t1.length 8 q2 n 1 4 true id = 2 := by unfold makeOf; rw [if_neg cc, if_pos c3]
    rw [e1]
    clear e1 hne
    go_enter Tryz.func34, Tryz.ntmps34
    go_wp2_with fail
    refine A1.out.mono ?_
    rintro e w2 ⟨rfl, rfl⟩
    go_wp2_with fail
    refine A2.out.mono ?_
    rintro e w2 ⟨rfl, rfl⟩
    go_wp2
    go_ret
    exact ⟨rfl, hb1⟩
  have d3 : decide (0 ≤ q) = false := by simpa using c3
  by_cases c4 : (8 : Int) ≤ R.t1.length
  · have e1 : makeOf q R.t1.length 8 q2 n 1 4 true id = 3 := by unfold makeOf; rw [if_neg cc, if_neg c3, if_pos c4]
    rw [e1]
    clear e1 hne
    go_enter Tryz.func34, Tryz.ntmps34
    go_wp2_with fail
    refine A1.out.mono ?_
    rintro e w2 ⟨rfl, rfl⟩
    go_wp2_with fail
    refine A2.out.mono ?_
    rintro e w2 ⟨rfl, rfl⟩
    go_wp2_with fail
    go_quiet ((go_at_call 63; exact Calls.quiet_of_same (most1 _)))
    go_wp2
    go_ret
    exact ⟨rfl, ⟨hb1.os, hb1.tape, hb1.output, hb1.size, hb1.block⟩⟩
  have d4 : decide ((8 : Int) ≤ (R.t1.length : Int)) = false := by simpa using c4
  by_cases c5 : q2 < 0
  · have e1 : makeOf q R.t1.length 8 q2 n 1 4 true id = 4 := by unfold makeOf; rw [if_neg cc, if_neg c3, if_neg c4, if_pos c5]
    rw [e1]
    clear e1 hne
    go_enter Tryz.func34, Tryz.ntmps34
    go_wp2_with fail
    refine A1.out.mono ?_
    rintro e w2 ⟨rfl, rfl⟩
    go_wp2_with fail
    refine A2.out.mono ?_
    rintro e w2 ⟨rfl, rfl⟩
    go_wp2_with fail
    go_quiet ((go_at_call 63; exact Calls.quiet_of_same (most1 _)))
    go_wp2
    go_ret
    exact ⟨rfl, ⟨hb1.os, hb1.tape, hb1.output, hb1.size, hb1.block⟩⟩
  have d5 : decide (q2 < 0) = false := by simpa using c5
  by_cases c6 : n < 1
  · have e1 : makeOf q R.t1.length 8 q2 n 1 4 true id = 5 := by unfold makeOf; rw [if_neg cc, if_neg c3, if_neg c4, if_neg c5, if_pos ⟨rfl, Or.inl c6⟩]
    rw [e1]
    clear e1 hne
    go_enter Tryz.func34, Tryz.ntmps34
    go_wp2_with fail
    refine A1.out.mono ?_
    rintro e w2 ⟨rfl, rfl⟩
    go_wp2_with fail
    refine A2.out.mono ?_
    rintro e w2 ⟨rfl, rfl⟩
    go_wp2_with fail
    go_quiet ((go_at_call 63; exact Calls.quiet_of_same (most1 _)))
    go_wp2
    go_ret
    exact ⟨rfl, ⟨hb1.os, hb1.tape, hb1.output, hb1.size, hb1.block⟩⟩
  have d6 : decide (n < 1) = false := by simpa using c6
  by_cases c7 : 4 < n
  · have e1 : makeOf q R.t1.length 8 q2 n 1 4 true id = 5 := by unfold makeOf; rw [if_neg cc, if_neg c3, if_neg c4, if_neg c5, if_pos ⟨rfl, Or.inr c7⟩]
    rw [e1]
    clear e1 hne
    go_enter Tryz.func34, Tryz.ntmps34
    go_wp2_with fail
    refine A1.out.mono ?_
    rintro e w2 ⟨rfl, rfl⟩
    go_wp2_with fail
    refine A2.out.mono ?_
    rintro e w2 ⟨rfl, rfl⟩
    go_wp2_with fail
    go_quiet ((go_at_call 63; exact Calls.quiet_of_same (most1 _)))
    go_wp2
    go_ret
    exact ⟨rfl, ⟨hb1.os, hb1.tape, hb1.output, hb1.size, hb1.block⟩⟩
  exact absurd (by unfold makeOf; rw [if_neg cc, if_neg c3, if_neg c4, if_neg c5, if_neg (by omega)]) hne

set_option maxRecDepth 100000 in
set_option maxHeartbeats 4000000 in
theorem make2_no (h : RefAt w rb V x7 x8 x9 x10 x11 R) (id o n : Int) (hl : R.t2.length ≤ 1000) (hne : makeOf (atOf id R.t2) R.t2.length 4 0 n 0 1000 true id ≠ 0) :
    Calls Tryz.prog 34 #[.pointer (some ⟨rb, 0, none⟩), .int .i64 2, .agg #[.int .i64 id, .int .i64 o, .int .i64 n]] w fun e w' => e = .returned (.int .i64 (makeOf (atOf id R.t2) R.t2.length 4 0 n 0 1000 true id)) ∧ Below w.heap.size w w' := by
  have hp1 := h.alloc (.cells #[.int .i64 id, .int .i64 o, .int .i64 n] 76)
  have hb1 : Below w.heap.size w (w.alloc (.cells #[.int .i64 id, .int .i64 o, .int .i64 n] 76)) := (Below.refl _ _).alloc (Nat.le_refl _) _
  have A1 := hid (at_any _ rb 2 V.v2 R.t2 id (by decide) hp1.c2 hp1.r2 hl)
  generalize atOf id R.t2 = q at A1 hne ⊢
  obtain ⟨pp, cap, hv⟩ := slice_of h.r2
  have c0 := h.c2
  have hrb := h.lt
  rw [hv] at c0
  clear hp1 h
  by_cases c1 : id < 0
  · have e1 : makeOf q R.t2.length 4 0 n 0 1000 true id = 1 := by simp [makeOf, c1]
    rw [e1]
    clear e1 hne
    go_enter Tryz.func34, Tryz.ntmps34
    go_wp2_with fail
    refine A1.out.mono ?_
    rintro e w2 ⟨rfl, rfl⟩
    go_wp2
    go_ret
    exact ⟨rfl, hb1⟩
  by_cases c2 : 99 < id
  · have e1 : makeOf q R.t2.length 4 0 n 0 1000 true id = 1 := by simp [makeOf, c2]
    have d1 : decide (id < 0) = false := by simpa using c1
    rw [e1]
    clear e1 hne
    go_enter Tryz.func34, Tryz.ntmps34
    go_wp2_with fail
    refine A1.out.mono ?_
    rintro e w2 ⟨rfl, rfl⟩
    go_wp2
    go_ret
    exact ⟨rfl, hb1⟩
  have d1 : decide (id < 0) = false := by simpa using c1
  have d2 : decide (99 < id) = false := by simpa using c2
  have cc : ¬ (id < 0 ∨ 99 < id) := by omega
  by_cases c3 : 0 ≤ q
  · have e1 : makeOf q R.t2.length 4 0 n 0 1000 true id = 2 := by unfold makeOf; rw [if_neg cc, if_pos c3]
    rw [e1]
    clear e1 hne
    go_enter Tryz.func34, Tryz.ntmps34
    go_wp2_with fail
    refine A1.out.mono ?_
    rintro e w2 ⟨rfl, rfl⟩
    go_wp2
    go_ret
    exact ⟨rfl, hb1⟩
  have d3 : decide (0 ≤ q) = false := by simpa using c3
  by_cases c4 : (4 : Int) ≤ R.t2.length
  · have e1 : makeOf q R.t2.length 4 0 n 0 1000 true id = 3 := by unfold makeOf; rw [if_neg cc, if_neg c3, if_pos c4]
    rw [e1]
    clear e1 hne
    go_enter Tryz.func34, Tryz.ntmps34
    go_wp2_with fail
    refine A1.out.mono ?_
    rintro e w2 ⟨rfl, rfl⟩
    go_wp2_with fail
    go_quiet ((go_at_call 63; exact Calls.quiet_of_same (most2 _)))
    go_wp2
    go_ret
    exact ⟨rfl, ⟨hb1.os, hb1.tape, hb1.output, hb1.size, hb1.block⟩⟩
  have d4 : decide ((4 : Int) ≤ (R.t2.length : Int)) = false := by simpa using c4
  by_cases c6 : n < 0
  · have e1 : makeOf q R.t2.length 4 0 n 0 1000 true id = 5 := by unfold makeOf; rw [if_neg cc, if_neg c3, if_neg c4, if_neg (by decide), if_pos ⟨rfl, Or.inl c6⟩]
    rw [e1]
    clear e1 hne
    go_enter Tryz.func34, Tryz.ntmps34
    go_wp2_with fail
    refine A1.out.mono ?_
    rintro e w2 ⟨rfl, rfl⟩
    go_wp2_with fail
    go_quiet ((go_at_call 63; exact Calls.quiet_of_same (most2 _)))
    go_wp2
    go_ret
    exact ⟨rfl, ⟨hb1.os, hb1.tape, hb1.output, hb1.size, hb1.block⟩⟩
  have d6 : decide (n < 0) = false := by simpa using c6
  by_cases c7 : 1000 < n
  · have e1 : makeOf q R.t2.length 4 0 n 0 1000 true id = 5 := by unfold makeOf; rw [if_neg cc, if_neg c3, if_neg c4, if_neg (by decide), if_pos ⟨rfl, Or.inr c7⟩]
    rw [e1]
    clear e1 hne
    go_enter Tryz.func34, Tryz.ntmps34
    go_wp2_with fail
    refine A1.out.mono ?_
    rintro e w2 ⟨rfl, rfl⟩
    go_wp2_with fail
    go_quiet ((go_at_call 63; exact Calls.quiet_of_same (most2 _)))
    go_wp2
    go_ret
    exact ⟨rfl, ⟨hb1.os, hb1.tape, hb1.output, hb1.size, hb1.block⟩⟩
  exact absurd (by unfold makeOf; rw [if_neg cc, if_neg c3, if_neg c4, if_neg (by decide), if_neg (by omega)]) hne

set_option maxRecDepth 100000 in
set_option maxHeartbeats 4000000 in
theorem make3_no (h : RefAt w rb V x7 x8 x9 x10 x11 R) (id o n : Int) (hl : R.t3.length ≤ 1000) (hln : R.t2.length ≤ 1000) (hne : makeOf (atOf id R.t3) R.t3.length 16 (atOf o R.t2) n 0 1000 true id ≠ 0) :
    Calls Tryz.prog 34 #[.pointer (some ⟨rb, 0, none⟩), .int .i64 3, .agg #[.int .i64 id, .int .i64 o, .int .i64 n]] w fun e w' => e = .returned (.int .i64 (makeOf (atOf id R.t3) R.t3.length 16 (atOf o R.t2) n 0 1000 true id)) ∧ Below w.heap.size w w' := by
  have hp1 := h.alloc (.cells #[.int .i64 id, .int .i64 o, .int .i64 n] 76)
  have hb1 : Below w.heap.size w (w.alloc (.cells #[.int .i64 id, .int .i64 o, .int .i64 n] 76)) := (Below.refl _ _).alloc (Nat.le_refl _) _
  have A1 := hid (at_any _ rb 3 V.v3 R.t3 id (by decide) hp1.c3 hp1.r3 hl)
  have A2 := hid (at_any _ rb 2 V.v2 R.t2 o (by decide) hp1.c2 hp1.r2 hln)
  generalize atOf o R.t2 = q2 at A2 hne ⊢
  generalize atOf id R.t3 = q at A1 hne ⊢
  obtain ⟨pp, cap, hv⟩ := slice_of h.r3
  have c0 := h.c3
  have hrb := h.lt
  rw [hv] at c0
  clear hp1 h
  by_cases c1 : id < 0
  · have e1 : makeOf q R.t3.length 16 q2 n 0 1000 true id = 1 := by simp [makeOf, c1]
    rw [e1]
    clear e1 hne
    go_enter Tryz.func34, Tryz.ntmps34
    go_wp2_with fail
    refine A1.out.mono ?_
    rintro e w2 ⟨rfl, rfl⟩
    go_wp2_with fail
    refine A2.out.mono ?_
    rintro e w2 ⟨rfl, rfl⟩
    go_wp2
    go_ret
    exact ⟨rfl, hb1⟩
  by_cases c2 : 99 < id
  · have e1 : makeOf q R.t3.length 16 q2 n 0 1000 true id = 1 := by simp [makeOf, c2]
    have d1 : decide (id < 0) = false := by simpa using c1
    rw [e1]
    clear e1 hne
    go_enter Tryz.func34, Tryz.ntmps34
    go_wp2_with fail
    refine A1.out.mono ?_
    rintro e w2 ⟨rfl, rfl⟩
    go_wp2_with fail
    refine A2.out.mono ?_
    rintro e w2 ⟨rfl, rfl⟩
    go_wp2
    go_ret
    exact ⟨rfl, hb1⟩
  have d1 : decide (id < 0) = false := by simpa using c1
  have d2 : decide (99 < id) = false := by simpa using c2
  have cc : ¬ (id < 0 ∨ 99 < id) := by omega
  by_cases c3 : 0 ≤ q
  · have e1 : makeOf q R.t3.length 16 q2 n 0 1000 true id = 2 := by unfold makeOf; rw [if_neg cc, if_pos c3]
    rw [e1]
    clear e1 hne
    go_enter Tryz.func34, Tryz.ntmps34
    go_wp2_with fail
    refine A1.out.mono ?_
    rintro e w2 ⟨rfl, rfl⟩
    go_wp2_with fail
    refine A2.out.mono ?_
    rintro e w2 ⟨rfl, rfl⟩
    go_wp2
    go_ret
    exact ⟨rfl, hb1⟩
  have d3 : decide (0 ≤ q) = false := by simpa using c3
  by_cases c4 : (16 : Int) ≤ R.t3.length
  · have e1 : makeOf q R.t3.length 16 q2 n 0 1000 true id = 3 := by unfold makeOf; rw [if_neg cc, if_neg c3, if_pos c4]
    rw [e1]
    clear e1 hne
    go_enter Tryz.func34, Tryz.ntmps34
    go_wp2_with fail
    refine A1.out.mono ?_
    rintro e w2 ⟨rfl, rfl⟩
    go_wp2_with fail
    refine A2.out.mono ?_
    rintro e w2 ⟨rfl, rfl⟩
    go_wp2_with fail
    go_quiet ((go_at_call 63; exact Calls.quiet_of_same (most3 _)))
    go_wp2
    go_ret
    exact ⟨rfl, ⟨hb1.os, hb1.tape, hb1.output, hb1.size, hb1.block⟩⟩
  have d4 : decide ((16 : Int) ≤ (R.t3.length : Int)) = false := by simpa using c4
  by_cases c5 : q2 < 0
  · have e1 : makeOf q R.t3.length 16 q2 n 0 1000 true id = 4 := by unfold makeOf; rw [if_neg cc, if_neg c3, if_neg c4, if_pos c5]
    rw [e1]
    clear e1 hne
    go_enter Tryz.func34, Tryz.ntmps34
    go_wp2_with fail
    refine A1.out.mono ?_
    rintro e w2 ⟨rfl, rfl⟩
    go_wp2_with fail
    refine A2.out.mono ?_
    rintro e w2 ⟨rfl, rfl⟩
    go_wp2_with fail
    go_quiet ((go_at_call 63; exact Calls.quiet_of_same (most3 _)))
    go_wp2
    go_ret
    exact ⟨rfl, ⟨hb1.os, hb1.tape, hb1.output, hb1.size, hb1.block⟩⟩
  have d5 : decide (q2 < 0) = false := by simpa using c5
  by_cases c6 : n < 0
  · have e1 : makeOf q R.t3.length 16 q2 n 0 1000 true id = 5 := by unfold makeOf; rw [if_neg cc, if_neg c3, if_neg c4, if_neg c5, if_pos ⟨rfl, Or.inl c6⟩]
    rw [e1]
    clear e1 hne
    go_enter Tryz.func34, Tryz.ntmps34
    go_wp2_with fail
    refine A1.out.mono ?_
    rintro e w2 ⟨rfl, rfl⟩
    go_wp2_with fail
    refine A2.out.mono ?_
    rintro e w2 ⟨rfl, rfl⟩
    go_wp2_with fail
    go_quiet ((go_at_call 63; exact Calls.quiet_of_same (most3 _)))
    go_wp2
    go_ret
    exact ⟨rfl, ⟨hb1.os, hb1.tape, hb1.output, hb1.size, hb1.block⟩⟩
  have d6 : decide (n < 0) = false := by simpa using c6
  by_cases c7 : 1000 < n
  · have e1 : makeOf q R.t3.length 16 q2 n 0 1000 true id = 5 := by unfold makeOf; rw [if_neg cc, if_neg c3, if_neg c4, if_neg c5, if_pos ⟨rfl, Or.inr c7⟩]
    rw [e1]
    clear e1 hne
    go_enter Tryz.func34, Tryz.ntmps34
    go_wp2_with fail
    refine A1.out.mono ?_
    rintro e w2 ⟨rfl, rfl⟩
    go_wp2_with fail
    refine A2.out.mono ?_
    rintro e w2 ⟨rfl, rfl⟩
    go_wp2_with fail
    go_quiet ((go_at_call 63; exact Calls.quiet_of_same (most3 _)))
    go_wp2
    go_ret
    exact ⟨rfl, ⟨hb1.os, hb1.tape, hb1.output, hb1.size, hb1.block⟩⟩
  exact absurd (by unfold makeOf; rw [if_neg cc, if_neg c3, if_neg c4, if_neg c5, if_neg (by omega)]) hne
end
end Go.Proofs.YtjdindfjfpdikaaGreat
