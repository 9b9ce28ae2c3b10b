import Derived.Test.YtjdindfjfpdikaaGreatRefC
namespace Go.Proofs.YtjdindfjfpdikaaGreat
open Go.RowKit

section
variable {w : World} {rb : Nat} {V : RVs} {x7 x8 x9 x10 x11 : Value} {R : RSt}

set_option maxHeartbeats 1000000 in
theorem rpref_a (h : RefAt w rb V x7 x8 x9 x10 x11 R) (t kd i c : Int) (hl3 : R.t3.length ≤ 1000) (hat : atOf t R.t3 < 0) :
    Calls Tryz.prog 35 #[.pointer (some ⟨rb, 0, none⟩), .int .i64 t, .int .i64 kd, .int .i64 i, .int .i64 c] w fun e w' => e = .returned (.int .i64 4) ∧ w' = w := by
  have A1 := hid (at_any _ rb 3 V.v3 R.t3 t (by decide) h.c3 h.r3 hl3)
  generalize atOf t R.t3 = q at A1 hat
  go_enter Tryz.func35, Tryz.ntmps35
  go_wp2_with fail
  refine A1.out.mono ?_
  rintro e w2 ⟨rfl, rfl⟩
  go_wp2
  go_ret
  exact ⟨rfl, rfl⟩

set_option maxHeartbeats 1000000 in
theorem rpref_b (h : RefAt w rb V x7 x8 x9 x10 x11 R) (t kd i c : Int) (hl3 : R.t3.length ≤ 1000) (hat : 0 ≤ atOf t R.t3) (h0 : kd ≠ 0) (h1 : kd ≠ 1) :
    Calls Tryz.prog 35 #[.pointer (some ⟨rb, 0, none⟩), .int .i64 t, .int .i64 kd, .int .i64 i, .int .i64 c] w fun e w' => e = .returned (.int .i64 7) ∧ w' = w := by
  have A1 := hid (at_any _ rb 3 V.v3 R.t3 t (by decide) h.c3 h.r3 hl3)
  generalize atOf t R.t3 = q at A1 hat
  have d1 : decide (q < 0) = false := by simp; omega
  have d2 : (kd != 0) = true := by simpa using h0
  have d3 : (kd != 1) = true := by simpa using h1
  clear h0 h1
  go_enter Tryz.func35, Tryz.ntmps35
  go_wp2_with fail
  refine A1.out.mono ?_
  rintro e w2 ⟨rfl, rfl⟩
  go_wp2
  go_ret
  exact ⟨rfl, rfl⟩

set_option maxHeartbeats 1000000 in
theorem rpref0_c (h : RefAt w rb V x7 x8 x9 x10 x11 R) (t i c : Int) (hl3 : R.t3.length ≤ 1000) (hlk : R.t0.length ≤ 1000) (hat : 0 ≤ atOf t R.t3) (hak : atOf i R.t0 < 0) :
    Calls Tryz.prog 35 #[.pointer (some ⟨rb, 0, none⟩), .int .i64 t, .int .i64 0, .int .i64 i, .int .i64 c] w fun e w' => e = .returned (.int .i64 4) ∧ w' = w := by
  have A1 := hid (at_any _ rb 3 V.v3 R.t3 t (by decide) h.c3 h.r3 hl3)
  have A2 := hid (at_any _ rb 0 V.v0 R.t0 i (by decide) h.c0 h.r0 hlk)
  generalize atOf t R.t3 = q at A1 hat
  generalize atOf i R.t0 = q2 at A2 hak
  have d1 : decide (q < 0) = false := by simp; omega
  go_enter Tryz.func35, Tryz.ntmps35
  go_wp2_with fail
  refine A1.out.mono ?_
  rintro e w2 ⟨rfl, rfl⟩
  go_wp2_with fail
  refine A2.out.mono ?_
  rintro e w2 ⟨rfl, rfl⟩
  go_wp2
  go_ret
  exact ⟨rfl, rfl⟩

set_option maxHeartbeats 1000000 in
theorem rpref0_d (h : RefAt w rb V x7 x8 x9 x10 x11 R) (t i c : Int) (hl3 : R.t3.length ≤ 1000) (hlk : R.t0.length ≤ 1000) (hat : 0 ≤ atOf t R.t3) (hak : 0 ≤ atOf i R.t0) (hc : c < 0 ∨ 1000 < c) :
    Calls Tryz.prog 35 #[.pointer (some ⟨rb, 0, none⟩), .int .i64 t, .int .i64 0, .int .i64 i, .int .i64 c] w fun e w' => e = .returned (.int .i64 5) ∧ w' = w := by
  have A1 := hid (at_any _ rb 3 V.v3 R.t3 t (by decide) h.c3 h.r3 hl3)
  have A2 := hid (at_any _ rb 0 V.v0 R.t0 i (by decide) h.c0 h.r0 hlk)
  generalize atOf t R.t3 = q at A1 hat
  generalize atOf i R.t0 = q2 at A2 hak
  have d1 : decide (q < 0) = false := by simp; omega
  have d2 : decide (q2 < 0) = false := by simp; omega
  by_cases hc0 : c < 0
  · clear hc
    go_enter Tryz.func35, Tryz.ntmps35
    go_wp2_with fail
    refine A1.out.mono ?_
    rintro e w2 ⟨rfl, rfl⟩
    go_wp2_with fail
    refine A2.out.mono ?_
    rintro e w2 ⟨rfl, rfl⟩
    go_wp2
    go_ret
    exact ⟨rfl, rfl⟩
  · have d3 : decide (c < 0) = false := by simpa using hc0
    have hc1 : 1000 < c := by omega
    clear hc
    go_enter Tryz.func35, Tryz.ntmps35
    go_wp2_with fail
    refine A1.out.mono ?_
    rintro e w2 ⟨rfl, rfl⟩
    go_wp2_with fail
    refine A2.out.mono ?_
    rintro e w2 ⟨rfl, rfl⟩
    go_wp2
    go_ret
    exact ⟨rfl, rfl⟩

set_option maxHeartbeats 1000000 in
theorem rpref1_c (h : RefAt w rb V x7 x8 x9 x10 x11 R) (t i c : Int) (hl3 : R.t3.length ≤ 1000) (hlk : R.t1.length ≤ 1000) (hat : 0 ≤ atOf t R.t3) (hak : atOf i R.t1 < 0) :
    Calls Tryz.prog 35 #[.pointer (some ⟨rb, 0, none⟩), .int .i64 t, .int .i64 1, .int .i64 i, .int .i64 c] w fun e w' => e = .returned (.int .i64 4) ∧ w' = w := by
  have A1 := hid (at_any _ rb 3 V.v3 R.t3 t (by decide) h.c3 h.r3 hl3)
  have A2 := hid (at_any _ rb 1 V.v1 R.t1 i (by decide) h.c1 h.r1 hlk)
  generalize atOf t R.t3 = q at A1 hat
  generalize atOf i R.t1 = q2 at A2 hak
  have d1 : decide (q < 0) = false := by simp; omega
  go_enter Tryz.func35, Tryz.ntmps35
  go_wp2_with fail
  refine A1.out.mono ?_
  rintro e w2 ⟨rfl, rfl⟩
  go_wp2_with fail
  refine A2.out.mono ?_
  rintro e w2 ⟨rfl, rfl⟩
  go_wp2
  go_ret
  exact ⟨rfl, rfl⟩

set_option maxHeartbeats 1000000 in
theorem rpref1_d (h : RefAt w rb V x7 x8 x9 x10 x11 R) (t i c : Int) (hl3 : R.t3.length ≤ 1000) (hlk : R.t1.length ≤ 1000) (hat : 0 ≤ atOf t R.t3) (hak : 0 ≤ atOf i R.t1) (hc : c < 0 ∨ 1000 < c) :
    Calls Tryz.prog 35 #[.pointer (some ⟨rb, 0, none⟩), .int .i64 t, .int .i64 1, .int .i64 i, .int .i64 c] w fun e w' => e = .returned (.int .i64 5) ∧ w' = w := by
  have A1 := hid (at_any _ rb 3 V.v3 R.t3 t (by decide) h.c3 h.r3 hl3)
  have A2 := hid (at_any _ rb 1 V.v1 R.t1 i (by decide) h.c1 h.r1 hlk)
  generalize atOf t R.t3 = q at A1 hat
  generalize atOf i R.t1 = q2 at A2 hak
  have d1 : decide (q < 0) = false := by simp; omega
  have d2 : decide (q2 < 0) = false := by simp; omega
  by_cases hc0 : c < 0
  · clear hc
    go_enter Tryz.func35, Tryz.ntmps35
    go_wp2_with fail
    refine A1.out.mono ?_
    rintro e w2 ⟨rfl, rfl⟩
    go_wp2_with fail
    refine A2.out.mono ?_
    rintro e w2 ⟨rfl, rfl⟩
    go_wp2
    go_ret
    exact ⟨rfl, rfl⟩
  · have d3 : decide (c < 0) = false := by simpa using hc0
    have hc1 : 1000 < c := by omega
    clear hc
    go_enter Tryz.func35, Tryz.ntmps35
    go_wp2_with fail
    refine A1.out.mono ?_
    rintro e w2 ⟨rfl, rfl⟩
    go_wp2_with fail
    refine A2.out.mono ?_
    rintro e w2 ⟨rfl, rfl⟩
    go_wp2
    go_ret
    exact ⟨rfl, rfl⟩
end
end Go.Proofs.YtjdindfjfpdikaaGreat
