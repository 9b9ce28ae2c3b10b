import Derived.Test.YtjdindfjfpdikaaGreatRefL
namespace Go.Proofs.YtjdindfjfpdikaaGreat
open Go.RowKit
section
variable {w : World} {rb : Nat} {V : RVs} {x7 x8 x9 x10 x11 : Value} {R : RSt}

set_option maxRecDepth 100000 in
theorem rrem_kind (w : World) (p : Value) (kd id : Int) (hk : kd < 0 ∨ 3 < kd) :
    Calls Tryz.prog 36 #[p, .int .i64 kd, .int .i64 id] w fun e w' => e = .returned (.int .i64 7) ∧ w' = w := by
  go_enter Tryz.func36, Tryz.ntmps36
  rcases hk with hk | hk
  · go_wp2_with fail
    go_ret
    exact ⟨rfl, rfl⟩
  · have hk0 : decide (kd < 0) = false := by simp; omega
    go_wp2_with fail
    go_ret
    exact ⟨rfl, rfl⟩

set_option maxRecDepth 100000 in
set_option maxHeartbeats 4000000 in
theorem rrem0_no (h : RefAt w rb V x7 x8 x9 x10 x11 R) (id : Int) (hlk : R.t0.length ≤ 1000) (hat : atOf id R.t0 < 0) :
    Calls Tryz.prog 36 #[.pointer (some ⟨rb, 0, none⟩), .int .i64 0, .int .i64 id] w fun e w' => e = .returned (.int .i64 4) ∧ w' = w := by
  have A1 := hid (at_any _ rb 0 V.v0 R.t0 id (by decide) h.c0 h.r0 hlk)
  generalize atOf id R.t0 = q at A1 hat
  have hrb := h.lt
  go_enter Tryz.func36, Tryz.ntmps36
  go_wp2_with fail
  refine A1.out.mono ?_
  rintro e w2 ⟨rfl, rfl⟩
  go_wp2_with fail
  go_ret
  exact ⟨rfl, rfl⟩

set_option maxRecDepth 100000 in
set_option maxHeartbeats 4000000 in
theorem rrem1_no (h : RefAt w rb V x7 x8 x9 x10 x11 R) (id : Int) (hlk : R.t1.length ≤ 1000) (hat : atOf id R.t1 < 0) :
    Calls Tryz.prog 36 #[.pointer (some ⟨rb, 0, none⟩), .int .i64 1, .int .i64 id] w fun e w' => e = .returned (.int .i64 4) ∧ w' = w := by
  have A1 := hid (at_any _ rb 1 V.v1 R.t1 id (by decide) h.c1 h.r1 hlk)
  generalize atOf id R.t1 = q at A1 hat
  have hrb := h.lt
  go_enter Tryz.func36, Tryz.ntmps36
  go_wp2_with fail
  refine A1.out.mono ?_
  rintro e w2 ⟨rfl, rfl⟩
  go_wp2_with fail
  go_ret
  exact ⟨rfl, rfl⟩

set_option maxRecDepth 100000 in
set_option maxHeartbeats 4000000 in
theorem rrem2_no (h : RefAt w rb V x7 x8 x9 x10 x11 R) (id : Int) (hlk : R.t2.length ≤ 1000) (hat : atOf id R.t2 < 0) :
    Calls Tryz.prog 36 #[.pointer (some ⟨rb, 0, none⟩), .int .i64 2, .int .i64 id] w fun e w' => e = .returned (.int .i64 4) ∧ w' = w := by
  have A1 := hid (at_any _ rb 2 V.v2 R.t2 id (by decide) h.c2 h.r2 hlk)
  generalize atOf id R.t2 = q at A1 hat
  have hrb := h.lt
  go_enter Tryz.func36, Tryz.ntmps36
  go_wp2_with fail
  refine A1.out.mono ?_
  rintro e w2 ⟨rfl, rfl⟩
  go_wp2_with fail
  go_ret
  exact ⟨rfl, rfl⟩

set_option maxRecDepth 100000 in
set_option maxHeartbeats 4000000 in
theorem rrem3_no (h : RefAt w rb V x7 x8 x9 x10 x11 R) (id : Int) (hlk : R.t3.length ≤ 1000) (hat : atOf id R.t3 < 0) :
    Calls Tryz.prog 36 #[.pointer (some ⟨rb, 0, none⟩), .int .i64 3, .int .i64 id] w fun e w' => e = .returned (.int .i64 4) ∧ w' = w := by
  have A1 := hid (at_any _ rb 3 V.v3 R.t3 id (by decide) h.c3 h.r3 hlk)
  generalize atOf id R.t3 = q at A1 hat
  have hrb := h.lt
  go_enter Tryz.func36, Tryz.ntmps36
  go_wp2_with fail
  refine A1.out.mono ?_
  rintro e w2 ⟨rfl, rfl⟩
  go_wp2_with fail
  go_ret
  exact ⟨rfl, rfl⟩

set_option maxRecDepth 100000 in
set_option maxHeartbeats 4000000 in
theorem rrem0_busy (h : RefAt w rb V x7 x8 x9 x10 x11 R) (id : Int) (hlk : R.t0.length ≤ 1000) (hl1 : R.t1.length ≤ 1000) (hat : 0 ≤ atOf id R.t0) (hbusy : ∃ j, ∃ hj : j < R.t1.length, R.t1[j].2.1 = id) :
    Calls Tryz.prog 36 #[.pointer (some ⟨rb, 0, none⟩), .int .i64 0, .int .i64 id] w fun e w' => e = .returned (.int .i64 6) ∧ w' = w := by
  have A1 := hid (at_any _ rb 0 V.v0 R.t0 id (by decide) h.c0 h.r0 hlk)
  generalize atOf id R.t0 = q at A1 hat
  have hqb : decide (q < 0) = false := by simp; omega
  obtain ⟨p1, cp1, hv1⟩ := slice_of h.r1
  obtain ⟨p3, cp3, hv3⟩ := slice_of h.r3
  have c1 := h.c1
  have c3 := h.c3
  have Hs := hid (h.r1.shape (fun _ => rfl))
  rw [hv1] at c1
  rw [hv3] at c3
  have hrb := h.lt
  have Hbu := hid hbusy
  clear hbusy
  go_enter Tryz.func36, Tryz.ntmps36
  go_wp2_with fail
  refine A1.out.mono ?_
  rintro e w2 ⟨rfl, rfl⟩
  go_wp2_with fail
  clear A1
  go_loop [8] (fun i => ∃ j : Nat, j ≤ R.t1.length ∧ i = .int .i64 j ∧ ∀ m, (hm : m < R.t1.length) → m < j → R.t1[m].2.1 ≠ id) (fun i => R.t1.length - (intOf i).toNat)
  case atStart => exact ⟨0, Nat.zero_le _, rfl, fun m _ hm => by omega⟩
  case' round => skip
  obtain ⟨j, hj', rfl, hno⟩ := hrel
  have Hno := hid hno
  clear hno
  by_cases hj : j < R.t1.length
  · have hjI : (j : Int) < (R.t1.length : Int) := by omega
    have hsh := Hs.out
    rcases hsh with ⟨e, e0⟩ | ⟨g, cap, cur, e, _, hgl, _, _, hc⟩
    · rw [e0] at hj; simp at hj
    have ee := hv1.symm.trans e
    simp only [Value.slice.injEq] at ee
    obtain ⟨rfl, _, rfl⟩ := ee
    have q1 := (hc j 1 hj (by decide)).1
    simp only [cellsT, List.getElem?_cons_zero, List.getElem?_cons_succ] at q1
    clear hc e
    by_cases hb : R.t1[j].2.1 = id
    · rw [hb] at q1
      clear hb
      go_wp2
      go_ret
      exact ⟨rfl, rfl⟩
    · have hnb : (R.t1[j].2.1 == id) = false := by simpa using hb
      have Hb := hid hb
      clear hb
      go_wp2
      go_round
      case rel => exact ⟨j + 1, by omega, by go_num, fun m hm hmj => by
        by_cases hmj' : m < j
        · exact Hno.out m hm hmj'
        · obtain rfl : m = j := by omega
          exact Hb.out⟩
      case measure => simp [intOf]; omega
  obtain ⟨m, hm, hmb⟩ := Hbu.out
  exact absurd hmb (Hno.out m hm (by omega))

set_option maxRecDepth 100000 in
set_option maxHeartbeats 4000000 in
theorem rrem2_busy (h : RefAt w rb V x7 x8 x9 x10 x11 R) (id : Int) (hlk : R.t2.length ≤ 1000) (hl1 : R.t1.length ≤ 1000) (hl3 : R.t3.length ≤ 1000) (hat : 0 ≤ atOf id R.t2) (hbusy : ∃ j, ∃ hj : j < R.t3.length, R.t3[j].2.1 = id) :
    Calls Tryz.prog 36 #[.pointer (some ⟨rb, 0, none⟩), .int .i64 2, .int .i64 id] w fun e w' => e = .returned (.int .i64 6) ∧ w' = w := by
  have A1 := hid (at_any _ rb 2 V.v2 R.t2 id (by decide) h.c2 h.r2 hlk)
  generalize atOf id R.t2 = q at A1 hat
  have hqb : decide (q < 0) = false := by simp; omega
  obtain ⟨p1, cp1, hv1⟩ := slice_of h.r1
  obtain ⟨p3, cp3, hv3⟩ := slice_of h.r3
  have c1 := h.c1
  have c3 := h.c3
  have Hs := hid (h.r3.shape (fun _ => rfl))
  rw [hv1] at c1
  rw [hv3] at c3
  have hrb := h.lt
  have Hbu := hid hbusy
  clear hbusy
  go_enter Tryz.func36, Tryz.ntmps36
  go_wp2_with fail
  refine A1.out.mono ?_
  rintro e w2 ⟨rfl, rfl⟩
  go_wp2_with fail
  clear A1
  go_loop [8] (fun i => ∃ j : Nat, j ≤ R.t1.length ∧ i = .int .i64 j) (fun i => R.t1.length - (intOf i).toNat)
  case atStart => exact ⟨0, Nat.zero_le _, rfl⟩
  case' round => skip
  obtain ⟨j, hj', rfl⟩ := hrel
  by_cases hj : j < R.t1.length
  · have hjI : (j : Int) < (R.t1.length : Int) := by omega
    go_wp2
    go_round
    case rel => exact ⟨j + 1, by omega, by go_num⟩
    case measure => simp [intOf]; omega
  go_wp2_with fail
  clear hj hj'
  go_loop [9] (fun i => ∃ j : Nat, j ≤ R.t3.length ∧ i = .int .i64 j ∧ ∀ m, (hm : m < R.t3.length) → m < j → R.t3[m].2.1 ≠ id) (fun i => R.t3.length - (intOf i).toNat)
  case atStart => exact ⟨0, Nat.zero_le _, rfl, fun m _ hm => by omega⟩
  case' round => skip
  obtain ⟨j, hj', rfl, hno⟩ := hrel
  have Hno := hid hno
  clear hno
  by_cases hj : j < R.t3.length
  · have hjI : (j : Int) < (R.t3.length : Int) := by omega
    have hsh := Hs.out
    rcases hsh with ⟨e, e0⟩ | ⟨g, cap, cur, e, _, hgl, _, _, hc⟩
    · rw [e0] at hj; simp at hj
    have ee := hv3.symm.trans e
    simp only [Value.slice.injEq] at ee
    obtain ⟨rfl, _, rfl⟩ := ee
    have q1 := (hc j 1 hj (by decide)).1
    simp only [cellsT, List.getElem?_cons_zero, List.getElem?_cons_succ] at q1
    clear hc e
    by_cases hb : R.t3[j].2.1 = id
    · rw [hb] at q1
      clear hb
      go_wp2
      go_ret
      exact ⟨rfl, rfl⟩
    · have hnb : (R.t3[j].2.1 == id) = false := by simpa using hb
      have Hb := hid hb
      clear hb
      go_wp2
      go_round
      case rel => exact ⟨j + 1, by omega, by go_num, fun m hm hmj => by
        by_cases hmj' : m < j
        · exact Hno.out m hm hmj'
        · obtain rfl : m = j := by omega
          exact Hb.out⟩
      case measure => simp [intOf]; omega
  obtain ⟨m, hm, hmb⟩ := Hbu.out
  exact absurd hmb (Hno.out m hm (by omega))
end
end Go.Proofs.YtjdindfjfpdikaaGreat
