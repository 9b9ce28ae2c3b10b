import Derived.Test.YtjdindfjfpdikaaGreatRfsA
namespace Go.Proofs.YtjdindfjfpdikaaGreat
open Go.RowKit
section
variable {w : World} {rb : Nat} {V : RVs} {x7 x8 x9 x10 x11 : Value} {R : RSt}

set_option maxRecDepth 100000 in
set_option maxHeartbeats 4000000 in
theorem rcost_a (h : RefAt w rb V x7 x8 x9 x10 x11 R) (t m : Int) (hl3 : R.t3.length ≤ 1000) (hat : atOf t R.t3 < 0) :
    Calls Tryz.prog 39 #[.pointer (some ⟨rb, 0, none⟩), .int .i64 t, .int .i64 m] w fun e w' => e = .returned (.tuple #[.int .i64 0, .int .i64 4]) ∧ Below w.heap.size w w' := by
  have A1 := hid (at_any _ rb 3 V.v3 R.t3 t (by decide) h.c3 h.r3 hl3)
  generalize atOf t R.t3 = q at A1 hat
  have hqb : decide (q < 0) = true := by simpa using hat
  go_enter Tryz.func39, Tryz.ntmps39
  go_wp2_with fail
  refine A1.out.mono ?_
  rintro e w2 ⟨rfl, rfl⟩
  go_wp2_with fail
  go_ret2
  exact ⟨rfl, Below.refl _ _⟩

set_option maxRecDepth 100000 in
set_option maxHeartbeats 4000000 in
theorem rcost_b (h : RefAt w rb V x7 x8 x9 x10 x11 R) (t m : Int) (hl3 : R.t3.length ≤ 1000) (hl1 : R.t1.length ≤ 1000) (hat : 0 ≤ atOf t R.t3) (hm : m ≠ -1) (hat1 : atOf m R.t1 < 0) :
    Calls Tryz.prog 39 #[.pointer (some ⟨rb, 0, none⟩), .int .i64 t, .int .i64 m] w fun e w' => e = .returned (.tuple #[.int .i64 0, .int .i64 4]) ∧ Below w.heap.size w w' := by
  have A1 := hid (at_any _ rb 3 V.v3 R.t3 t (by decide) h.c3 h.r3 hl3)
  have A2 := hid (at_any _ rb 1 V.v1 R.t1 m (by decide) h.c1 h.r1 hl1)
  generalize atOf t R.t3 = q at A1 hat
  generalize atOf m R.t1 = q1 at A2 hat1
  have hqb : decide (q < 0) = false := by simpa using hat
  have hqb1 : decide (q1 < 0) = true := by simpa using hat1
  have hmb : ¬ m = -1 := hm
  clear hm
  go_enter Tryz.func39, Tryz.ntmps39
  go_wp2_with fail
  refine A1.out.mono ?_
  rintro e w2 ⟨rfl, rfl⟩
  go_wp2_with fail
  refine A2.out.mono ?_
  rintro e w3 ⟨rfl, rfl⟩
  go_wp2_with fail
  go_ret2
  exact ⟨rfl, Below.refl _ _⟩

set_option maxRecDepth 100000 in
set_option maxHeartbeats 4000000 in
theorem rcost_none (h : RefAt w rb V x7 x8 x9 x10 x11 R) (t : Int) (i j : Nat) (hl3 : R.t3.length ≤ 1000) (hi : i < R.t3.length) (hat : atOf t R.t3 = i) (hio : i < R.on.length) (hit : i < R.wt.length) (hl2 : R.t2.length ≤ 1000) (hj : j < R.t2.length) (hat2 : atOf R.t3[i].2.1 R.t2 = j) (hb0 : 0 ≤ R.t2[j].2.2) (hb1 : R.t2[j].2.2 ≤ 1000) (hw0 : 0 ≤ R.wt[i]) (hw1 : R.wt[i] ≤ 100) :
    Calls Tryz.prog 39 #[.pointer (some ⟨rb, 0, none⟩), .int .i64 t, .int .i64 (-1)] w fun e w' => e = .returned (.tuple #[.int .i64 (R.t2[j].2.2 + R.wt[i] + mvR R.on[i] (-1)), .int .i64 0]) ∧ Below w.heap.size w w' := by
  have A1 := hid (at_any _ rb 3 V.v3 R.t3 t (by decide) h.c3 h.r3 hl3)
  rw [hat] at A1
  have A2 := hid (rprice_none' h i j hi hio hit hl2 hj hat2 hb0 hb1 hw0 hw1)
  have hqb : decide ((i : Int) < 0) = false := by simp
  generalize R.t2[j].2.2 + R.wt[i] + mvR R.on[i] (-1) = ans at A2 ⊢
  clear hat2 hb0 hb1 hw0 hw1
  go_enter Tryz.func39, Tryz.ntmps39
  go_wp2_with fail
  refine A1.out.mono ?_
  rintro e w2 ⟨rfl, rfl⟩
  go_wp2_with fail
  refine A2.out.mono ?_
  rintro e w3 ⟨rfl, hb⟩
  go_wp2_with fail
  go_ret2
  exact ⟨rfl, hb⟩

set_option maxRecDepth 100000 in
set_option maxHeartbeats 4000000 in
theorem rcost_on (h : RefAt w rb V x7 x8 x9 x10 x11 R) (t m : Int) (i j : Nat) (hm : 0 ≤ m) (hl3 : R.t3.length ≤ 1000) (hi : i < R.t3.length) (hat : atOf t R.t3 = i) (hio : i < R.on.length) (hl1 : R.t1.length ≤ 1000) (hj : j < R.t1.length) (hat1 : atOf m R.t1 = j) (hlw : R.ws.length ≤ 1000000000) (hn : 0 ≤ R.t3[i].2.2 ∧ R.t3[i].2.2 ≤ 1000) (hws : ∀ x ∈ R.ws, 0 ≤ x.2.2.2) :
    Calls Tryz.prog 39 #[.pointer (some ⟨rb, 0, none⟩), .int .i64 t, .int .i64 m] w fun e w' => e = .returned (.tuple #[.int .i64 (minW R.t3[i].1 m R.t1[j].2.1 R.t3[i].2.2 R.ws + mvR R.on[i] m), .int .i64 0]) ∧ Below w.heap.size w w' := by
  have A1 := hid (at_any _ rb 3 V.v3 R.t3 t (by decide) h.c3 h.r3 hl3)
  rw [hat] at A1
  have A3 := hid (at_any _ rb 1 V.v1 R.t1 m (by decide) h.c1 h.r1 hl1)
  rw [hat1] at A3
  have A2 := hid (rprice_on' h i j m hm hi hio hl1 hj hat1 hlw hn hws)
  have hqb : decide ((i : Int) < 0) = false := by simp
  have hqb1 : decide ((j : Int) < 0) = false := by simp
  have hmb : ¬ m = -1 := by omega
  generalize minW R.t3[i].1 m R.t1[j].2.1 R.t3[i].2.2 R.ws + mvR R.on[i] m = ans at A2 ⊢
  clear hat1 hm hn hws
  go_enter Tryz.func39, Tryz.ntmps39
  go_wp2_with fail
  refine A1.out.mono ?_
  rintro e w2 ⟨rfl, rfl⟩
  go_wp2_with fail
  refine A3.out.mono ?_
  rintro e w4 ⟨rfl, rfl⟩
  go_wp2_with fail
  refine A2.out.mono ?_
  rintro e w3 ⟨rfl, hb⟩
  go_wp2_with fail
  go_ret2
  exact ⟨rfl, hb⟩

set_option maxRecDepth 100000 in
set_option maxHeartbeats 4000000 in
theorem rwhere_a (h : RefAt w rb V x7 x8 x9 x10 x11 R) (t : Int) (hl3 : R.t3.length ≤ 1000) (hat : atOf t R.t3 < 0) :
    Calls Tryz.prog 41 #[.pointer (some ⟨rb, 0, none⟩), .int .i64 t] w fun e w' => e = .returned (.tuple #[.int .i64 0, .int .i64 4]) ∧ Below w.heap.size w w' := by
  have A1 := hid (at_any _ rb 3 V.v3 R.t3 t (by decide) h.c3 h.r3 hl3)
  generalize atOf t R.t3 = q at A1 hat
  go_enter Tryz.func41, Tryz.ntmps41
  go_wp2_with fail
  refine A1.out.mono ?_
  rintro e w2 ⟨rfl, rfl⟩
  go_wp2_with fail
  go_ret2
  exact ⟨rfl, Below.refl _ _⟩

set_option maxRecDepth 100000 in
set_option maxHeartbeats 4000000 in
theorem rwhere_b (h : RefAt w rb V x7 x8 x9 x10 x11 R) (t : Int) (i : Nat) (hl3 : R.t3.length ≤ 1000) (hat : atOf t R.t3 = i) (hio : i < R.on.length) :
    Calls Tryz.prog 41 #[.pointer (some ⟨rb, 0, none⟩), .int .i64 t] w fun e w' => e = .returned (.tuple #[.int .i64 R.on[i], .int .i64 0]) ∧ Below w.heap.size w w' := by
  have A1 := hid (at_any _ rb 3 V.v3 R.t3 t (by decide) h.c3 h.r3 hl3)
  rw [hat] at A1
  have hqb : decide ((i : Int) < 0) = false := by simp
  rcases h.ro.shape (fun _ => rfl) with ⟨_, e0⟩ | ⟨go, capo, curo, eo, _, hglo, hleo, _, hco⟩
  · rw [e0] at hio; simp at hio
  have q4 := (hco i 0 hio (by decide)).1
  simp only [cellsI, List.getElem?_cons_zero, Nat.add_zero, Nat.mul_one] at q4
  have c5 := h.c5
  rw [eo] at c5
  have hrb := h.lt
  have hioI : (i : Int) < (R.on.length : Int) := by omega
  generalize R.on[i] = ans at q4 ⊢
  clear hco
  go_enter Tryz.func41, Tryz.ntmps41
  go_wp2_with fail
  refine A1.out.mono ?_
  rintro e w2 ⟨rfl, rfl⟩
  go_wp2_with fail
  go_ret2
  exact ⟨rfl, Below.refl _ _⟩
end
end Go.Proofs.YtjdindfjfpdikaaGreat
