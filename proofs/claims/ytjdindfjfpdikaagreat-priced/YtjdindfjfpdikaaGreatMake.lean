import Derived.Test.YtjdindfjfpdikaaGreatRoom
namespace Go.Proofs.YtjdindfjfpdikaaGreat
open Go.RowKit

/-- Of what was there nothing has turned but the blocks of S. -/
structure Only (S : List Nat) (w w' : World) : Prop where
  os : w'.os = w.os
  tape : w'.tape = w.tape
  output : w'.output = w.output
  size : w.heap.size ≤ w'.heap.size
  block : ∀ k, k < w.heap.size → k ∉ S → w'.heap[k]? = w.heap[k]?

theorem Only.of_below {S : List Nat} {w w' : World} (h : Below w.heap.size w w') : Only S w w' := ⟨h.os, h.tape, h.output, h.size, fun k hk _ => h.block k hk⟩
theorem Only.of_grown {S : List Nat} {w w' : World} {b : Nat} (h : w.grownBy w' (some b)) (hb : b ∈ S) : Only S w w' :=
  ⟨h.os, h.tape, h.output, h.size, fun k hk hn => h.block k hk (fun e => hn (by cases e; exact hb))⟩
theorem Only.trans {S : List Nat} {a b c : World} (h : Only S a b) (k : Only S b c) : Only S a c :=
  ⟨k.os.trans h.os, k.tape.trans h.tape, k.output.trans h.output, Nat.le_trans h.size k.size, fun i hi hn => (k.block i (Nat.lt_of_lt_of_le hi h.size) hn).trans (h.block i hi hn)⟩
theorem Only.drew {S : List Nat} {w w' : World} (h : Only S w w') : Only S w w'.drew := ⟨h.os, h.tape, h.output, h.size, h.block⟩

abbrev At (w : World) (pb b0 b1 b2 b3 : Nat) (l0 : Things) (l1 : Runs) (l2 : Waits) (l3 : Prefs) := PlanAt w pb b0 b1 b2 b3 l0 l1 l2 l3

section
variable {w : World} {pb b0 b1 b2 b3 : Nat} {l0 : Things} {l1 : Runs} {l2 : Waits} {l3 : Prefs}

theorem PlanAt.pne (h : PlanAt w pb b0 b1 b2 b3 l0 l1 l2 l3) : pb ≠ b0 ∧ pb ≠ b1 ∧ pb ≠ b2 ∧ pb ≠ b3 := by
  obtain ⟨_, _, _, _, _, hc⟩ := h.cells
  refine ⟨fun e => ?_, fun e => ?_, fun e => ?_, fun e => ?_⟩
  · obtain ⟨es, c, hb, _⟩ := h.m0; rw [← e, hc] at hb; cases hb
  · obtain ⟨es, c, hb, _⟩ := h.m1; rw [← e, hc] at hb; cases hb
  · obtain ⟨es, c, hb, _⟩ := h.m2; rw [← e, hc] at hb; cases hb
  · obtain ⟨es, c, hb, _⟩ := h.m3; rw [← e, hc] at hb; cases hb

theorem PlanAt.drew (h : PlanAt w pb b0 b1 b2 b3 l0 l1 l2 l3) : PlanAt w.drew pb b0 b1 b2 b3 l0 l1 l2 l3 := ⟨h.cells, h.m0, h.m1, h.m2, h.m3, h.ne⟩

/-- Something is stored among the things. -/
theorem PlanAt.put0 (h : PlanAt w pb b0 b1 b2 b3 l0 l1 l2 l3) (a : Int × Int) (f : (Int × Int) × Int × Int) :
    PlanAt (upd Tryz.prog 54 b0 (tv a) (fv f) w) pb b0 b1 b2 b3 (put a f l0) l1 l2 l3 ∧ Only [b0, b1, b2, b3] w (upd Tryz.prog 54 b0 (tv a) (fv f) w) := by
  obtain ⟨_, h2, h3⟩ := run_put kt79 Tryz.underlying54 h.m0 a f
  obtain ⟨n1, n2, n3, n4, n5, n6⟩ := h.ne
  refine ⟨⟨?_, h2, h.m1.grown h3 (by simpa using n1.symm), h.m2.grown h3 (by simpa using n2.symm), h.m3.grown h3 (by simpa using n3.symm), h.ne⟩, Only.of_grown h3 (by simp)⟩
  exact h.cells.move (h3.block pb h.lt (by simpa using h.pne.1))
/-- .. among what was waited. -/
theorem PlanAt.put2 (h : PlanAt w pb b0 b1 b2 b3 l0 l1 l2 l3) (a : Int × Int) (n : Int) :
    PlanAt (upd Tryz.prog 56 b2 (tv a) (iv n) w) pb b0 b1 b2 b3 l0 l1 (put a n l2) l3 ∧ Only [b0, b1, b2, b3] w (upd Tryz.prog 56 b2 (tv a) (iv n) w) := by
  obtain ⟨_, h2, h3⟩ := run_put kt79 Tryz.underlying56 h.m2 a n
  obtain ⟨n1, n2, n3, n4, n5, n6⟩ := h.ne
  refine ⟨⟨?_, h.m0.grown h3 (by simpa using n2), h.m1.grown h3 (by simpa using n4), h2, h.m3.grown h3 (by simpa using n6.symm), h.ne⟩, Only.of_grown h3 (by simp)⟩
  exact h.cells.move (h3.block pb h.lt (by simpa using h.pne.2.2.1))
/-- .. among the wishes. -/
theorem PlanAt.put3 (h : PlanAt w pb b0 b1 b2 b3 l0 l1 l2 l3) (a : (Int × Int) × (Int × Int)) (n : Int) :
    PlanAt (upd Tryz.prog 57 b3 (wv a) (iv n) w) pb b0 b1 b2 b3 l0 l1 l2 (put a n l3) ∧ Only [b0, b1, b2, b3] w (upd Tryz.prog 57 b3 (wv a) (iv n) w) := by
  obtain ⟨_, h2, h3⟩ := run_put kt86 Tryz.underlying57 h.m3 a n
  obtain ⟨n1, n2, n3, n4, n5, n6⟩ := h.ne
  refine ⟨⟨?_, h.m0.grown h3 (by simpa using n3), h.m1.grown h3 (by simpa using n5), h.m2.grown h3 (by simpa using n6), h2, h.ne⟩, Only.of_grown h3 (by simp)⟩
  exact h.cells.move (h3.block pb h.lt (by simpa using h.pne.2.2.2))
end

/-- Rack: what is answered, and what there is behind it. -/
def rackTo (l0 : Things) (id : Int) : Things := if roomOf l0 0 id 4 = 0 then put (0, id) ((4, 0), 0, 0) l0 else l0

set_option maxHeartbeats 1000000 in
theorem rack_any (hS : SortSaid) {w : World} {pb b0 b1 b2 b3 : Nat} {l0 : Things} {l1 : Runs} {l2 : Waits} {l3 : Prefs} (h : PlanAt w pb b0 b1 b2 b3 l0 l1 l2 l3) (id : Int) (hlen : l0.length ≤ 1000) :
    Calls Tryz.prog 27 #[.pointer (some ⟨pb, 0, none⟩), .int .i64 id] w fun e w' => e = .returned (.int .i64 (roomOf l0 0 id 4)) ∧ PlanAt w' pb b0 b1 b2 b3 (rackTo l0 id) l1 l2 l3 ∧ Only [b0, b1, b2, b3] w w' := by
  have hp1 := h.alloc (.cells #[.int .i64 0, .int .i64 id] 102)
  have hb1 : Below w.heap.size w (w.alloc (.cells #[.int .i64 0, .int .i64 id] 102)) := (Below.refl _ _).alloc (Nat.le_refl _) _
  have Hh := hid (room_any hS hp1 0 id 4 hlen)
  have hpb := h.lt
  have c0 := h.c0
  generalize hr : roomOf l0 0 id 4 = r at Hh ⊢
  have Hr := hid hr
  clear hr
  by_cases hz : r = 0
  · subst hz
    go_enter Tryz.func27, Tryz.ntmps27
    go_wp2_with (go_at_call 56; refine Hh.out.mono ?_; rintro e w2 ⟨rfl, hb2⟩; obtain ⟨hc, hf⟩ := bcell hb2; have hu : (Instr.mapUpdate 54 (.map (some b0)) (.agg #[.int .i64 0, .int .i64 id]) (.agg #[.int .i64 4, .int .i64 0, .int .i64 0, .int .i64 0])).run Tryz.prog w2.drew = .ok () (upd Tryz.prog 54 b0 (tv (0, id)) (fv ((4, 0), 0, 0)) w2.drew) := (run_put kt79 Tryz.underlying54 (hp1.below hb2).m0.drew (0, id) ((4, 0), 0, 0)).1)
    go_region
    all_goals
      go_wp2
      go_ret
      have hq := (hp1.below hb2).drew.put0 (0, id) ((4, 0), 0, 0)
      exact ⟨rfl, by unfold rackTo; rw [if_pos Hr.out]; exact hq.1, ((Only.of_below (next2 hb1 hb2)).drew).trans hq.2⟩
  · have hzb : (r != 0) = true := by simpa using hz
    go_enter Tryz.func27, Tryz.ntmps27
    go_wp2_with (go_at_call 56; refine Hh.out.mono ?_; rintro e w2 ⟨rfl, hb2⟩)
    go_ret
    exact ⟨rfl, by unfold rackTo; rw [if_neg (by rw [Hr.out]; exact hz)]; exact hp1.below hb2, Only.of_below (next2 hb1 hb2)⟩
end Go.Proofs.YtjdindfjfpdikaaGreat
