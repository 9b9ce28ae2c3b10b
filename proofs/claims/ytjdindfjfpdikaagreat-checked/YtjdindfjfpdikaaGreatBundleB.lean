import Derived.BigQuiet
import Derived.Deep.QuietTactic
import Derived.Maps.OwnSet
import Derived.Deep.RegionLaw
import Derived.Deep.DeepCutAuto
import Derived.Test.YtjdindfjfpdikaaGreatBundleA
namespace Go.Proofs.YtjdindfjfpdikaaGreat
open Go.RowKit

/-- Of what was there nothing has turned but the blocks of S. -/
structure Only (S : List Nat) (w w' : World) : Prop where
  os : w'.os = w.os
  tape : w'.tape = w.tape
  output : w'.output = w.output
  size : w.heap.size ≤ w'.heap.size
  block : ∀ k, k < w.heap.size → k ∉ S → w'.heap[k]? = w.heap[k]?

theorem Only.of_below {S : List Nat} {w w' : World} (h : Below w.heap.size w w') : Only S w w' := ⟨h.os, h.tape, h.output, h.size, fun k hk _ => h.block k hk⟩
theorem Only.of_grown {S : List Nat} {w w' : World} {b : Nat} (h : w.grownBy w' (some b)) (hb : b ∈ S) : Only S w w' :=
  ⟨h.os, h.tape, h.output, h.size, fun k hk hn => h.block k hk (fun e => hn (by cases e; exact hb))⟩
theorem Only.trans {S : List Nat} {a b c : World} (h : Only S a b) (k : Only S b c) : Only S a c :=
  ⟨k.os.trans h.os, k.tape.trans h.tape, k.output.trans h.output, Nat.le_trans h.size k.size, fun i hi hn => (k.block i (Nat.lt_of_lt_of_le hi h.size) hn).trans (h.block i hi hn)⟩
theorem Only.drew {S : List Nat} {w w' : World} (h : Only S w w') : Only S w w'.drew := ⟨h.os, h.tape, h.output, h.size, h.block⟩

abbrev At (w : World) (pb b0 b1 b2 b3 : Nat) (l0 : Things) (l1 : Runs) (l2 : Waits) (l3 : Prefs) := PlanAt w pb b0 b1 b2 b3 l0 l1 l2 l3

section
variable {w : World} {pb b0 b1 b2 b3 : Nat} {l0 : Things} {l1 : Runs} {l2 : Waits} {l3 : Prefs}

theorem PlanAt.pne (h : PlanAt w pb b0 b1 b2 b3 l0 l1 l2 l3) : pb ≠ b0 ∧ pb ≠ b1 ∧ pb ≠ b2 ∧ pb ≠ b3 := by
  obtain ⟨_, _, _, _, _, hc⟩ := h.cells
  refine ⟨fun e => ?_, fun e => ?_, fun e => ?_, fun e => ?_⟩
  · obtain ⟨es, c, hb, _⟩ := h.m0; rw [← e, hc] at hb; cases hb
  · obtain ⟨es, c, hb, _⟩ := h.m1; rw [← e, hc] at hb; cases hb
  · obtain ⟨es, c, hb, _⟩ := h.m2; rw [← e, hc] at hb; cases hb
  · obtain ⟨es, c, hb, _⟩ := h.m3; rw [← e, hc] at hb; cases hb

theorem PlanAt.drew (h : PlanAt w pb b0 b1 b2 b3 l0 l1 l2 l3) : PlanAt w.drew pb b0 b1 b2 b3 l0 l1 l2 l3 := ⟨h.cells, h.m0, h.m1, h.m2, h.m3, h.ne⟩

/-- Something is stored among the things. -/
theorem PlanAt.put0 (h : PlanAt w pb b0 b1 b2 b3 l0 l1 l2 l3) (a : Int × Int) (f : (Int × Int) × Int × Int) :
    PlanAt (upd Tryz.prog 54 b0 (tv a) (fv f) w) pb b0 b1 b2 b3 (put a f l0) l1 l2 l3 ∧ Only [b0, b1, b2, b3] w (upd Tryz.prog 54 b0 (tv a) (fv f) w) := by
  obtain ⟨_, h2, h3⟩ := run_put kt79 Tryz.underlying54 h.m0 a f
  obtain ⟨n1, n2, n3, n4, n5, n6⟩ := h.ne
  refine ⟨⟨?_, h2, h.m1.grown h3 (by simpa using n1.symm), h.m2.grown h3 (by simpa using n2.symm), h.m3.grown h3 (by simpa using n3.symm), h.ne⟩, Only.of_grown h3 (by simp)⟩
  exact h.cells.move (h3.block pb h.lt (by simpa using h.pne.1))
/-- .. among what was waited. -/
theorem PlanAt.put2 (h : PlanAt w pb b0 b1 b2 b3 l0 l1 l2 l3) (a : Int × Int) (n : Int) :
    PlanAt (upd Tryz.prog 56 b2 (tv a) (iv n) w) pb b0 b1 b2 b3 l0 l1 (put a n l2) l3 ∧ Only [b0, b1, b2, b3] w (upd Tryz.prog 56 b2 (tv a) (iv n) w) := by
  obtain ⟨_, h2, h3⟩ := run_put kt79 Tryz.underlying56 h.m2 a n
  obtain ⟨n1, n2, n3, n4, n5, n6⟩ := h.ne
  refine ⟨⟨?_, h.m0.grown h3 (by simpa using n2), h.m1.grown h3 (by simpa using n4), h2, h.m3.grown h3 (by simpa using n6.symm), h.ne⟩, Only.of_grown h3 (by simp)⟩
  exact h.cells.move (h3.block pb h.lt (by simpa using h.pne.2.2.1))
/-- .. among the wishes. -/
theorem PlanAt.put3 (h : PlanAt w pb b0 b1 b2 b3 l0 l1 l2 l3) (a : (Int × Int) × (Int × Int)) (n : Int) :
    PlanAt (upd Tryz.prog 57 b3 (wv a) (iv n) w) pb b0 b1 b2 b3 l0 l1 l2 (put a n l3) ∧ Only [b0, b1, b2, b3] w (upd Tryz.prog 57 b3 (wv a) (iv n) w) := by
  obtain ⟨_, h2, h3⟩ := run_put kt86 Tryz.underlying57 h.m3 a n
  obtain ⟨n1, n2, n3, n4, n5, n6⟩ := h.ne
  refine ⟨⟨?_, h.m0.grown h3 (by simpa using n3), h.m1.grown h3 (by simpa using n5), h.m2.grown h3 (by simpa using n6), h2, h.ne⟩, Only.of_grown h3 (by simp)⟩
  exact h.cells.move (h3.block pb h.lt (by simpa using h.pne.2.2.2))
end

/-- Rack: what is answered, and what there is behind it. -/
def rackTo (l0 : Things) (id : Int) : Things := if roomOf l0 0 id 4 = 0 then put (0, id) ((4, 0), 0, 0) l0 else l0

set_option maxHeartbeats 1000000 in
theorem rack_any (hS : SortSaid) {w : World} {pb b0 b1 b2 b3 : Nat} {l0 : Things} {l1 : Runs} {l2 : Waits} {l3 : Prefs} (h : PlanAt w pb b0 b1 b2 b3 l0 l1 l2 l3) (id : Int) (hlen : l0.length ≤ 1000) :
    Calls Tryz.prog 27 #[.pointer (some ⟨pb, 0, none⟩), .int .i64 id] w fun e w' => e = .returned (.int .i64 (roomOf l0 0 id 4)) ∧ PlanAt w' pb b0 b1 b2 b3 (rackTo l0 id) l1 l2 l3 ∧ Only [b0, b1, b2, b3] w w' := by
  have hp1 := h.alloc (.cells #[.int .i64 0, .int .i64 id] 102)
  have hb1 : Below w.heap.size w (w.alloc (.cells #[.int .i64 0, .int .i64 id] 102)) := (Below.refl _ _).alloc (Nat.le_refl _) _
  have Hh := hid (room_any hS hp1 0 id 4 hlen)
  have hpb := h.lt
  have c0 := h.c0
  generalize hr : roomOf l0 0 id 4 = r at Hh ⊢
  have Hr := hid hr
  clear hr
  by_cases hz : r = 0
  · subst hz
    go_enter Tryz.func27, Tryz.ntmps27
    go_wp2_with (go_at_call 56; refine Hh.out.mono ?_; rintro e w2 ⟨rfl, hb2⟩; obtain ⟨hc, hf⟩ := bcell hb2; have hu : (Instr.mapUpdate 54 (.map (some b0)) (.agg #[.int .i64 0, .int .i64 id]) (.agg #[.int .i64 4, .int .i64 0, .int .i64 0, .int .i64 0])).run Tryz.prog w2.drew = .ok () (upd Tryz.prog 54 b0 (tv (0, id)) (fv ((4, 0), 0, 0)) w2.drew) := (run_put kt79 Tryz.underlying54 (hp1.below hb2).m0.drew (0, id) ((4, 0), 0, 0)).1)
    go_region
    all_goals
      go_wp2
      go_ret
      have hq := (hp1.below hb2).drew.put0 (0, id) ((4, 0), 0, 0)
      exact ⟨rfl, by unfold rackTo; rw [if_pos Hr.out]; exact hq.1, ((Only.of_below (next2 hb1 hb2)).drew).trans hq.2⟩
  · have hzb : (r != 0) = true := by simpa using hz
    go_enter Tryz.func27, Tryz.ntmps27
    go_wp2_with (go_at_call 56; refine Hh.out.mono ?_; rintro e w2 ⟨rfl, hb2⟩)
    go_ret
    exact ⟨rfl, by unfold rackTo; rw [if_neg (by rw [Hr.out]; exact hz)]; exact hp1.below hb2, Only.of_below (next2 hb1 hb2)⟩
end Go.Proofs.YtjdindfjfpdikaaGreat
namespace Go.Proofs.YtjdindfjfpdikaaGreat
open Go.RowKit

/-- Two boxes of things, laid one behind the other, are still there. -/
theorem boxes2 {w w3 : World} {x1 x2 y1 y2 : Value} (h : Below ((w.alloc (.cells #[x1, x2] 102)).alloc (.cells #[y1, y2] 102)).heap.size ((w.alloc (.cells #[x1, x2] 102)).alloc (.cells #[y1, y2] 102)) w3) :
    w3.cell? ⟨w.heap.size, 0, none⟩ = some x1 ∧ w3.cell? ⟨w.heap.size, 1, none⟩ = some x2 ∧ w3.cell? ⟨w.heap.size + 1, 0, none⟩ = some y1 ∧ w3.cell? ⟨w.heap.size + 1, 1, none⟩ = some y2 := by
  have hs : w.heap.size + 1 = (w.alloc (.cells #[x1, x2] 102)).heap.size := by simp
  have e1 : ∀ i, w3.cell? ⟨w.heap.size, i, none⟩ = #[x1, x2][i]? := fun i => by
    rw [h.cell (p := ⟨w.heap.size, i, none⟩) (by simp; omega), World.cell?_alloc_past _ _ _ (by simp), World.cell?_alloc_at _ _ _ _ rfl]
  have e2 : ∀ i, w3.cell? ⟨w.heap.size + 1, i, none⟩ = #[y1, y2][i]? := fun i => by
    rw [h.cell (p := ⟨w.heap.size + 1, i, none⟩) (by simp), World.cell?_alloc_at _ _ _ _ hs]
  exact ⟨by rw [e1]; rfl, by rw [e1]; rfl, by rw [e2]; rfl, by rw [e2]; rfl⟩

/-- What Machine answers. -/
def machOf (l0 : Things) (id rack slots : Int) : Int :=
  if roomOf l0 1 id 8 = 0 then (if (get (0, rack) l0).isSome then (if slots < 1 ∨ 4 < slots then 5 else 0) else 4) else roomOf l0 1 id 8
def machTo (l0 : Things) (id rack slots : Int) : Things := if machOf l0 id rack slots = 0 then put (1, id) ((0, rack), slots, 0) l0 else l0

set_option maxHeartbeats 2000000 in
theorem machine_any (hS : SortSaid) {w : World} {pb b0 b1 b2 b3 : Nat} {l0 : Things} {l1 : Runs} {l2 : Waits} {l3 : Prefs} (h : PlanAt w pb b0 b1 b2 b3 l0 l1 l2 l3) (id rack slots : Int) (hlen : l0.length ≤ 1000) :
    Calls Tryz.prog 28 #[.pointer (some ⟨pb, 0, none⟩), .int .i64 id, .int .i64 rack, .int .i64 slots] w fun e w' => e = .returned (.int .i64 (machOf l0 id rack slots)) ∧ PlanAt w' pb b0 b1 b2 b3 (machTo l0 id rack slots) l1 l2 l3 ∧ Only [b0, b1, b2, b3] w w' := by
  have hp1 := (h.alloc (.cells #[.int .i64 1, .int .i64 id] 102)).alloc (.cells #[.int .i64 0, .int .i64 rack] 102)
  have hb1 : Below w.heap.size w ((w.alloc (.cells #[.int .i64 1, .int .i64 id] 102)).alloc (.cells #[.int .i64 0, .int .i64 rack] 102)) := ((Below.refl _ _).alloc (Nat.le_refl _) _).alloc (by simp) _
  have Hh := hid (room_any hS hp1 1 id 8 hlen)
  have hpb := h.lt
  have c0 := h.c0
  by_cases hz : roomOf l0 1 id 8 = 0
  · rw [hz] at Hh
    cases hg : get (0, rack) l0 with
    | none =>
      have e1 : machOf l0 id rack slots = 4 := by simp [machOf, hz, hg]
      have e2 : machTo l0 id rack slots = l0 := by simp [machTo, e1]
      rw [e1, e2]
      clear e1 e2 hz
      go_enter Tryz.func28, Tryz.ntmps28
      go_wp2_with (first
        | (go_at_call 56; refine Hh.out.mono ?_; rintro e w2 ⟨rfl, hb2⟩; obtain ⟨hc, hf⟩ := bcell hb2)
        | (go_at_call 57; refine (has_any (hp1.below hb2) 0 rack).mono ?_; rw [hg]; rintro e w3 ⟨rfl, hb3⟩))
      go_ret
      exact ⟨rfl, (hp1.below hb2).below hb3, Only.of_below (next2 (next2 hb1 hb2) hb3)⟩
    | some f =>
      by_cases hs : slots < 1 ∨ 4 < slots
      · have e1 : machOf l0 id rack slots = 5 := by simp [machOf, hz, hg, hs]
        have e2 : machTo l0 id rack slots = l0 := by simp [machTo, e1]
        rw [e1, e2]
        clear e1 e2 hz
        by_cases hs1 : slots < 1
        · clear hs
          go_enter Tryz.func28, Tryz.ntmps28
          go_wp2_with (first
            | (go_at_call 56; refine Hh.out.mono ?_; rintro e w2 ⟨rfl, hb2⟩; obtain ⟨hc, hf⟩ := bcell hb2)
            | (go_at_call 57; refine (has_any (hp1.below hb2) 0 rack).mono ?_; rw [hg]; rintro e w3 ⟨rfl, hb3⟩))
          go_ret
          exact ⟨rfl, (hp1.below hb2).below hb3, Only.of_below (next2 (next2 hb1 hb2) hb3)⟩
        · have hs2 : 4 < slots := by omega
          have hd : decide (slots < 1) = false := by simpa using hs1
          clear hs
          go_enter Tryz.func28, Tryz.ntmps28
          go_wp2_with (first
            | (go_at_call 56; refine Hh.out.mono ?_; rintro e w2 ⟨rfl, hb2⟩; obtain ⟨hc, hf⟩ := bcell hb2)
            | (go_at_call 57; refine (has_any (hp1.below hb2) 0 rack).mono ?_; rw [hg]; rintro e w3 ⟨rfl, hb3⟩))
          go_ret
          exact ⟨rfl, (hp1.below hb2).below hb3, Only.of_below (next2 (next2 hb1 hb2) hb3)⟩
      · have e1 : machOf l0 id rack slots = 0 := by unfold machOf; rw [if_pos hz, hg, if_neg hs]; rfl
        have e2 : machTo l0 id rack slots = put (1, id) ((0, rack), slots, 0) l0 := by simp [machTo, e1]
        rw [e1, e2]
        clear e1 e2 hz
        have hd : decide (slots < 1) = false := by simp; omega
        have hd2 : decide (4 < slots) = false := by simp; omega
        clear hs
        go_enter Tryz.func28, Tryz.ntmps28
        go_wp2_with (first
          | (go_at_call 56; refine Hh.out.mono ?_; rintro e w2 ⟨rfl, hb2⟩; obtain ⟨hc, hf⟩ := bcell hb2)
          | (go_at_call 57; refine (has_any (hp1.below hb2) 0 rack).mono ?_; rw [hg]; rintro e w3 ⟨rfl, hb3⟩; obtain ⟨k1, k2, k3, k4⟩ := boxes2 (next2 hb2 hb3); have k5 := ((hp1.below hb2).below hb3).c0; have hu : (Instr.mapUpdate 54 (.map (some b0)) (.agg #[.int .i64 1, .int .i64 id]) (.agg #[.int .i64 0, .int .i64 rack, .int .i64 slots, .int .i64 0])).run Tryz.prog w3.drew = .ok () (upd Tryz.prog 54 b0 (tv (1, id)) (fv ((0, rack), slots, 0)) w3.drew) := (run_put kt79 Tryz.underlying54 ((hp1.below hb2).below hb3).m0.drew (1, id) ((0, rack), slots, 0)).1))
        go_region
        all_goals
          go_wp2
          go_ret
          have hq := ((hp1.below hb2).below hb3).drew.put0 (1, id) ((0, rack), slots, 0)
          exact ⟨rfl, hq.1, ((Only.of_below (next2 (next2 hb1 hb2) hb3)).drew).trans hq.2⟩
  · have hzb : (roomOf l0 1 id 8 != 0) = true := by simpa using hz
    have e1 : machOf l0 id rack slots = roomOf l0 1 id 8 := by simp [machOf, hz]
    have e2 : machTo l0 id rack slots = l0 := by simp [machTo, e1, hz]
    rw [e1, e2]
    clear e1 e2 hz
    generalize roomOf l0 1 id 8 = r at Hh hzb ⊢
    go_enter Tryz.func28, Tryz.ntmps28
    go_wp2_with (go_at_call 56; refine Hh.out.mono ?_; rintro e w2 ⟨rfl, hb2⟩)
    go_ret
    exact ⟨rfl, hp1.below hb2, Only.of_below (next2 hb1 hb2)⟩
end Go.Proofs.YtjdindfjfpdikaaGreat
namespace Go.Proofs.YtjdindfjfpdikaaGreat
open Go.RowKit

/-- What Job answers. -/
def jobOf (l0 : Things) (id base : Int) : Int := if roomOf l0 2 id 4 = 0 then (if costB base then 0 else 5) else roomOf l0 2 id 4
def jobTo (l0 : Things) (id base : Int) : Things := if jobOf l0 id base = 0 then put (2, id) ((4, 0), 0, base) l0 else l0

set_option maxHeartbeats 2000000 in
theorem job_any (hS : SortSaid) {w : World} {pb b0 b1 b2 b3 : Nat} {l0 : Things} {l1 : Runs} {l2 : Waits} {l3 : Prefs} (h : PlanAt w pb b0 b1 b2 b3 l0 l1 l2 l3) (id base : Int) (hlen : l0.length ≤ 1000) :
    Calls Tryz.prog 29 #[.pointer (some ⟨pb, 0, none⟩), .int .i64 id, .int .i64 base] w fun e w' => e = .returned (.int .i64 (jobOf l0 id base)) ∧ PlanAt w' pb b0 b1 b2 b3 (jobTo l0 id base) l1 l2 l3 ∧ Only [b0, b1, b2, b3] w w' := by
  have hp1 := h.alloc (.cells #[.int .i64 2, .int .i64 id] 102)
  have hb1 : Below w.heap.size w (w.alloc (.cells #[.int .i64 2, .int .i64 id] 102)) := (Below.refl _ _).alloc (Nat.le_refl _) _
  have Hh := hid (room_any hS hp1 2 id 4 hlen)
  have hpb := h.lt
  have c0 := h.c0
  by_cases hz : roomOf l0 2 id 4 = 0
  · rw [hz] at Hh
    cases hcb : costB base with
    | false =>
      have e1 : jobOf l0 id base = 5 := by simp [jobOf, hz, hcb]
      have e2 : jobTo l0 id base = l0 := by simp [jobTo, e1]
      rw [e1, e2]
      clear e1 e2 hz
      have Hc := hid hcb
      clear hcb
      go_enter Tryz.func29, Tryz.ntmps29
      go_wp2_with (first
        | (go_at_call 56; refine Hh.out.mono ?_; rintro e w2 ⟨rfl, hb2⟩)
        | (go_at_call 58; refine (isCost_any base _).mono ?_; rw [Hc.out]; rintro e w3 ⟨rfl, rfl⟩))
      go_ret
      exact ⟨rfl, hp1.below hb2, Only.of_below (next2 hb1 hb2)⟩
    | true =>
      have e1 : jobOf l0 id base = 0 := by simp [jobOf, hz, hcb]
      have e2 : jobTo l0 id base = put (2, id) ((4, 0), 0, base) l0 := by simp [jobTo, e1]
      rw [e1, e2]
      clear e1 e2 hz
      have Hc := hid hcb
      clear hcb
      go_enter Tryz.func29, Tryz.ntmps29
      go_wp2_with (first
        | (go_at_call 56; refine Hh.out.mono ?_; rintro e w2 ⟨rfl, hb2⟩; obtain ⟨hc, hf⟩ := bcell hb2; have hu : (Instr.mapUpdate 54 (.map (some b0)) (.agg #[.int .i64 2, .int .i64 id]) (.agg #[.int .i64 4, .int .i64 0, .int .i64 0, .int .i64 base])).run Tryz.prog w2.drew = .ok () (upd Tryz.prog 54 b0 (tv (2, id)) (fv ((4, 0), 0, base)) w2.drew) := (run_put kt79 Tryz.underlying54 (hp1.below hb2).m0.drew (2, id) ((4, 0), 0, base)).1)
        | (go_at_call 58; refine (isCost_any base _).mono ?_; rw [Hc.out]; rintro e w3 ⟨rfl, rfl⟩))
      go_region
      all_goals
        go_wp2
        go_ret
        have hq := (hp1.below hb2).drew.put0 (2, id) ((4, 0), 0, base)
        exact ⟨rfl, hq.1, ((Only.of_below (next2 hb1 hb2)).drew).trans hq.2⟩
  · have hzb : (roomOf l0 2 id 4 != 0) = true := by simpa using hz
    have e1 : jobOf l0 id base = roomOf l0 2 id 4 := by simp [jobOf, hz]
    have e2 : jobTo l0 id base = l0 := by simp [jobTo, e1, hz]
    rw [e1, e2]
    clear e1 e2 hz
    generalize roomOf l0 2 id 4 = r at Hh hzb ⊢
    go_enter Tryz.func29, Tryz.ntmps29
    go_wp2_with (go_at_call 56; refine Hh.out.mono ?_; rintro e w2 ⟨rfl, hb2⟩)
    go_ret
    exact ⟨rfl, hp1.below hb2, Only.of_below (next2 hb1 hb2)⟩

/-- What Task answers. -/
def taskOf (l0 : Things) (id job any : Int) : Int :=
  if roomOf l0 3 id 16 = 0 then (if (get (2, job) l0).isSome then (if costB any then 0 else 5) else 4) else roomOf l0 3 id 16
def taskTo (l0 : Things) (id job any : Int) : Things := if taskOf l0 id job any = 0 then put (3, id) ((2, job), 0, any) l0 else l0

set_option maxHeartbeats 2000000 in
theorem task_any (hS : SortSaid) {w : World} {pb b0 b1 b2 b3 : Nat} {l0 : Things} {l1 : Runs} {l2 : Waits} {l3 : Prefs} (h : PlanAt w pb b0 b1 b2 b3 l0 l1 l2 l3) (id job any : Int) (hlen : l0.length ≤ 1000) :
    Calls Tryz.prog 30 #[.pointer (some ⟨pb, 0, none⟩), .int .i64 id, .int .i64 job, .int .i64 any] w fun e w' => e = .returned (.int .i64 (taskOf l0 id job any)) ∧ PlanAt w' pb b0 b1 b2 b3 (taskTo l0 id job any) l1 l2 l3 ∧ Only [b0, b1, b2, b3] w w' := by
  have hp1 := (h.alloc (.cells #[.int .i64 3, .int .i64 id] 102)).alloc (.cells #[.int .i64 2, .int .i64 job] 102)
  have hb1 : Below w.heap.size w ((w.alloc (.cells #[.int .i64 3, .int .i64 id] 102)).alloc (.cells #[.int .i64 2, .int .i64 job] 102)) := ((Below.refl _ _).alloc (Nat.le_refl _) _).alloc (by simp) _
  have Hh := hid (room_any hS hp1 3 id 16 hlen)
  have hpb := h.lt
  have c0 := h.c0
  by_cases hz : roomOf l0 3 id 16 = 0
  · rw [hz] at Hh
    cases hg : get (2, job) l0 with
    | none =>
      have e1 : taskOf l0 id job any = 4 := by simp [taskOf, hz, hg]
      have e2 : taskTo l0 id job any = l0 := by simp [taskTo, e1]
      rw [e1, e2]
      clear e1 e2 hz
      go_enter Tryz.func30, Tryz.ntmps30
      go_wp2_with (first
        | (go_at_call 56; refine Hh.out.mono ?_; rintro e w2 ⟨rfl, hb2⟩; obtain ⟨hc, hf⟩ := bcell hb2)
        | (go_at_call 57; refine (has_any (hp1.below hb2) 2 job).mono ?_; rw [hg]; rintro e w3 ⟨rfl, hb3⟩))
      go_ret
      exact ⟨rfl, (hp1.below hb2).below hb3, Only.of_below (next2 (next2 hb1 hb2) hb3)⟩
    | some f =>
      cases hcb : costB any with
      | false =>
        have e1 : taskOf l0 id job any = 5 := by simp [taskOf, hz, hg, hcb]
        have e2 : taskTo l0 id job any = l0 := by simp [taskTo, e1]
        rw [e1, e2]
        clear e1 e2 hz
        have Hc := hid hcb
        clear hcb
        go_enter Tryz.func30, Tryz.ntmps30
        go_wp2_with (first
          | (go_at_call 56; refine Hh.out.mono ?_; rintro e w2 ⟨rfl, hb2⟩; obtain ⟨hc, hf⟩ := bcell hb2)
          | (go_at_call 57; refine (has_any (hp1.below hb2) 2 job).mono ?_; rw [hg]; rintro e w3 ⟨rfl, hb3⟩)
          | (go_at_call 58; refine (isCost_any any _).mono ?_; rw [Hc.out]; rintro e w4 ⟨rfl, rfl⟩))
        go_ret
        exact ⟨rfl, (hp1.below hb2).below hb3, Only.of_below (next2 (next2 hb1 hb2) hb3)⟩
      | true =>
        have e1 : taskOf l0 id job any = 0 := by simp [taskOf, hz, hg, hcb]
        have e2 : taskTo l0 id job any = put (3, id) ((2, job), 0, any) l0 := by simp [taskTo, e1]
        rw [e1, e2]
        clear e1 e2 hz
        have Hc := hid hcb
        clear hcb
        go_enter Tryz.func30, Tryz.ntmps30
        go_wp2_with (first
          | (go_at_call 56; refine Hh.out.mono ?_; rintro e w2 ⟨rfl, hb2⟩; obtain ⟨hc, hf⟩ := bcell hb2)
          | (go_at_call 57; refine (has_any (hp1.below hb2) 2 job).mono ?_; rw [hg]; rintro e w3 ⟨rfl, hb3⟩; obtain ⟨k1, k2, k3, k4⟩ := boxes2 (next2 hb2 hb3); have k5 := ((hp1.below hb2).below hb3).c0; have hu : (Instr.mapUpdate 54 (.map (some b0)) (.agg #[.int .i64 3, .int .i64 id]) (.agg #[.int .i64 2, .int .i64 job, .int .i64 0, .int .i64 any])).run Tryz.prog w3.drew = .ok () (upd Tryz.prog 54 b0 (tv (3, id)) (fv ((2, job), 0, any)) w3.drew) := (run_put kt79 Tryz.underlying54 ((hp1.below hb2).below hb3).m0.drew (3, id) ((2, job), 0, any)).1)
          | (go_at_call 58; refine (isCost_any any _).mono ?_; rw [Hc.out]; rintro e w4 ⟨rfl, rfl⟩))
        go_region
        all_goals
          go_wp2
          go_ret
          have hq := ((hp1.below hb2).below hb3).drew.put0 (3, id) ((2, job), 0, any)
          exact ⟨rfl, hq.1, ((Only.of_below (next2 (next2 hb1 hb2) hb3)).drew).trans hq.2⟩
  · have hzb : (roomOf l0 3 id 16 != 0) = true := by simpa using hz
    have e1 : taskOf l0 id job any = roomOf l0 3 id 16 := by simp [taskOf, hz]
    have e2 : taskTo l0 id job any = l0 := by simp [taskTo, e1, hz]
    rw [e1, e2]
    clear e1 e2 hz
    generalize roomOf l0 3 id 16 = r at Hh hzb ⊢
    go_enter Tryz.func30, Tryz.ntmps30
    go_wp2_with (go_at_call 56; refine Hh.out.mono ?_; rintro e w2 ⟨rfl, hb2⟩)
    go_ret
    exact ⟨rfl, hp1.below hb2, Only.of_below (next2 hb1 hb2)⟩
end Go.Proofs.YtjdindfjfpdikaaGreat
namespace Go.Proofs.YtjdindfjfpdikaaGreat
open Go.RowKit

/-- What Prefer answers. -/
def prefOf (l0 : Things) (task kind id cost : Int) : Int :=
  if (get (3, task) l0).isSome then (if kind = 1 ∨ kind = 0 then (if (get (kind, id) l0).isSome then (if costB cost then 0 else 5) else 4) else 7) else 4
def prefTo (l0 : Things) (l3 : Prefs) (task kind id cost : Int) : Prefs := if prefOf l0 task kind id cost = 0 then put ((3, task), (kind, id)) cost l3 else l3

/-- A box of a wish is still there. -/
theorem box4 {w w3 : World} {x1 x2 x3 x4 : Value} (h : Below (w.alloc (.cells #[x1, x2, x3, x4] 109)).heap.size (w.alloc (.cells #[x1, x2, x3, x4] 109)) w3) :
    w3.cell? ⟨w.heap.size, 0, none⟩ = some x1 ∧ w3.cell? ⟨w.heap.size, 1, none⟩ = some x2 ∧ w3.cell? ⟨w.heap.size, 2, none⟩ = some x3 ∧ w3.cell? ⟨w.heap.size, 3, none⟩ = some x4 := by
  have e1 : ∀ i, w3.cell? ⟨w.heap.size, i, none⟩ = #[x1, x2, x3, x4][i]? := fun i => by
    rw [h.cell (p := ⟨w.heap.size, i, none⟩) (by simp), World.cell?_alloc_at _ _ _ _ rfl]
  exact ⟨by rw [e1]; rfl, by rw [e1]; rfl, by rw [e1]; rfl, by rw [e1]; rfl⟩

section
variable {w : World} {pb b0 b1 b2 b3 : Nat} {l0 : Things} {l1 : Runs} {l2 : Waits} {l3 : Prefs}

set_option maxHeartbeats 1000000 in
theorem prefer_a (h : PlanAt w pb b0 b1 b2 b3 l0 l1 l2 l3) (task kind id cost : Int) (hg : get (3, task) l0 = none) :
    Calls Tryz.prog 31 #[.pointer (some ⟨pb, 0, none⟩), .int .i64 task, .int .i64 kind, .int .i64 id, .int .i64 cost] w fun e w' => e = .returned (.int .i64 4) ∧ Below w.heap.size w w' := by
  have hp1 := h.alloc (.cells #[.int .i64 3, .int .i64 task, .int .i64 kind, .int .i64 id] 109)
  have hb1 : Below w.heap.size w (w.alloc (.cells #[.int .i64 3, .int .i64 task, .int .i64 kind, .int .i64 id] 109)) := (Below.refl _ _).alloc (Nat.le_refl _) _
  go_enter Tryz.func31, Tryz.ntmps31
  go_wp2_with (go_at_call 57; refine (has_any hp1 3 task).mono ?_; rw [hg]; rintro e w2 ⟨rfl, hb2⟩)
  go_ret
  exact ⟨rfl, next2 hb1 hb2⟩

set_option maxHeartbeats 1000000 in
theorem prefer_b (h : PlanAt w pb b0 b1 b2 b3 l0 l1 l2 l3) (task kind id cost : Int) (hg : (get (3, task) l0).isSome = true) (hk1 : kind ≠ 1) (hk0 : kind ≠ 0) :
    Calls Tryz.prog 31 #[.pointer (some ⟨pb, 0, none⟩), .int .i64 task, .int .i64 kind, .int .i64 id, .int .i64 cost] w fun e w' => e = .returned (.int .i64 7) ∧ Below w.heap.size w w' := by
  have hp1 := h.alloc (.cells #[.int .i64 3, .int .i64 task, .int .i64 kind, .int .i64 id] 109)
  have hb1 : Below w.heap.size w (w.alloc (.cells #[.int .i64 3, .int .i64 task, .int .i64 kind, .int .i64 id] 109)) := (Below.refl _ _).alloc (Nat.le_refl _) _
  have hd1 : (kind != 1) = true := by simpa using hk1
  have hd0 : (kind != 0) = true := by simpa using hk0
  have Hg := hid hg
  clear hg hk1 hk0
  go_enter Tryz.func31, Tryz.ntmps31
  go_wp2_with (go_at_call 57; refine (has_any hp1 3 task).mono ?_; rw [Hg.out]; rintro e w2 ⟨rfl, hb2⟩; obtain ⟨k1, k2, k3, k4⟩ := box4 hb2)
  go_ret
  exact ⟨rfl, next2 hb1 hb2⟩

set_option maxHeartbeats 1000000 in
theorem prefer_c0 (h : PlanAt w pb b0 b1 b2 b3 l0 l1 l2 l3) (task id cost : Int) (hg : (get (3, task) l0).isSome = true) (hq : (get (0, id) l0).isSome = false) :
    Calls Tryz.prog 31 #[.pointer (some ⟨pb, 0, none⟩), .int .i64 task, .int .i64 0, .int .i64 id, .int .i64 cost] w fun e w' => e = .returned (.int .i64 4) ∧ Below w.heap.size w w' := by
  have hp1 := h.alloc (.cells #[.int .i64 3, .int .i64 task, .int .i64 0, .int .i64 id] 109)
  have hb1 : Below w.heap.size w (w.alloc (.cells #[.int .i64 3, .int .i64 task, .int .i64 0, .int .i64 id] 109)) := (Below.refl _ _).alloc (Nat.le_refl _) _
  have Hg := hid hg
  clear hg
  have Hq := hid hq
  clear hq
  go_enter Tryz.func31, Tryz.ntmps31
  go_wp2_with fail
  refine (has_any hp1 3 task).mono ?_
  rw [Hg.out]
  rintro e w2 ⟨rfl, hb2⟩
  obtain ⟨k1, k2, k3, k4⟩ := box4 hb2
  go_wp2_with fail
  refine (has_any (hp1.below hb2) 0 id).mono ?_
  rw [Hq.out]
  rintro e w3 ⟨rfl, hb3⟩
  go_wp2
  go_ret
  exact ⟨rfl, next2 (next2 hb1 hb2) hb3⟩

set_option maxHeartbeats 1000000 in
theorem prefer_d0 (h : PlanAt w pb b0 b1 b2 b3 l0 l1 l2 l3) (task id cost : Int) (hg : (get (3, task) l0).isSome = true) (hq : (get (0, id) l0).isSome = true) (hc : costB cost = false) :
    Calls Tryz.prog 31 #[.pointer (some ⟨pb, 0, none⟩), .int .i64 task, .int .i64 0, .int .i64 id, .int .i64 cost] w fun e w' => e = .returned (.int .i64 5) ∧ Below w.heap.size w w' := by
  have hp1 := h.alloc (.cells #[.int .i64 3, .int .i64 task, .int .i64 0, .int .i64 id] 109)
  have hb1 : Below w.heap.size w (w.alloc (.cells #[.int .i64 3, .int .i64 task, .int .i64 0, .int .i64 id] 109)) := (Below.refl _ _).alloc (Nat.le_refl _) _
  have Hg := hid hg
  clear hg
  have Hq := hid hq
  have Hc := hid hc
  clear hq hc
  go_enter Tryz.func31, Tryz.ntmps31
  go_wp2_with fail
  refine (has_any hp1 3 task).mono ?_
  rw [Hg.out]
  rintro e w2 ⟨rfl, hb2⟩
  obtain ⟨k1, k2, k3, k4⟩ := box4 hb2
  go_wp2_with fail
  refine (has_any (hp1.below hb2) 0 id).mono ?_
  rw [Hq.out]
  rintro e w3 ⟨rfl, hb3⟩
  go_wp2_with fail
  refine (isCost_any cost _).mono ?_
  rw [Hc.out]
  rintro e w4 ⟨rfl, rfl⟩
  go_wp2
  go_ret
  exact ⟨rfl, next2 (next2 hb1 hb2) hb3⟩

set_option maxHeartbeats 1000000 in
theorem prefer_e0 (h : PlanAt w pb b0 b1 b2 b3 l0 l1 l2 l3) (task id cost : Int) (hg : (get (3, task) l0).isSome = true) (hq : (get (0, id) l0).isSome = true) (hc : costB cost = true) :
    Calls Tryz.prog 31 #[.pointer (some ⟨pb, 0, none⟩), .int .i64 task, .int .i64 0, .int .i64 id, .int .i64 cost] w fun e w' => e = .returned (.int .i64 0) ∧ PlanAt w' pb b0 b1 b2 b3 l0 l1 l2 (put ((3, task), (0, id)) cost l3) ∧ Only [b0, b1, b2, b3] w w' := by
  have hp1 := h.alloc (.cells #[.int .i64 3, .int .i64 task, .int .i64 0, .int .i64 id] 109)
  have hb1 : Below w.heap.size w (w.alloc (.cells #[.int .i64 3, .int .i64 task, .int .i64 0, .int .i64 id] 109)) := (Below.refl _ _).alloc (Nat.le_refl _) _
  have Hg := hid hg
  clear hg
  have Hq := hid hq
  have Hc := hid hc
  clear hq hc
  go_enter Tryz.func31, Tryz.ntmps31
  go_wp2_with fail
  refine (has_any hp1 3 task).mono ?_
  rw [Hg.out]
  rintro e w2 ⟨rfl, hb2⟩
  obtain ⟨k1, k2, k3, k4⟩ := box4 hb2
  go_wp2_with fail
  refine (has_any (hp1.below hb2) 0 id).mono ?_
  rw [Hq.out]
  rintro e w3 ⟨rfl, hb3⟩
  go_wp2_with fail
  refine (isCost_any cost _).mono ?_
  rw [Hc.out]
  rintro e w4 ⟨rfl, rfl⟩
  obtain ⟨k5, k6, k7, k8⟩ := box4 (next2 hb2 hb3)
  have k9 := ((hp1.below hb2).below hb3).c3
  have hu : (Instr.mapUpdate 57 (.map (some b3)) (.agg #[.int .i64 3, .int .i64 task, .int .i64 0, .int .i64 id]) (.int .i64 cost)).run Tryz.prog w4.drew = .ok () (upd Tryz.prog 57 b3 (wv ((3, task), (0, id))) (iv cost) w4.drew) := (run_put kt86 Tryz.underlying57 ((hp1.below hb2).below hb3).m3.drew ((3, task), (0, id)) cost).1
  go_wp2
  go_region
  all_goals
    go_wp2
    go_ret
    have hq := ((hp1.below hb2).below hb3).drew.put3 ((3, task), (0, id)) cost
    exact ⟨rfl, hq.1, ((Only.of_below (next2 (next2 hb1 hb2) hb3)).drew).trans hq.2⟩

set_option maxHeartbeats 1000000 in
theorem prefer_c1 (h : PlanAt w pb b0 b1 b2 b3 l0 l1 l2 l3) (task id cost : Int) (hg : (get (3, task) l0).isSome = true) (hq : (get (1, id) l0).isSome = false) :
    Calls Tryz.prog 31 #[.pointer (some ⟨pb, 0, none⟩), .int .i64 task, .int .i64 1, .int .i64 id, .int .i64 cost] w fun e w' => e = .returned (.int .i64 4) ∧ Below w.heap.size w w' := by
  have hp1 := h.alloc (.cells #[.int .i64 3, .int .i64 task, .int .i64 1, .int .i64 id] 109)
  have hb1 : Below w.heap.size w (w.alloc (.cells #[.int .i64 3, .int .i64 task, .int .i64 1, .int .i64 id] 109)) := (Below.refl _ _).alloc (Nat.le_refl _) _
  have Hg := hid hg
  clear hg
  have Hq := hid hq
  clear hq
  go_enter Tryz.func31, Tryz.ntmps31
  go_wp2_with fail
  refine (has_any hp1 3 task).mono ?_
  rw [Hg.out]
  rintro e w2 ⟨rfl, hb2⟩
  obtain ⟨k1, k2, k3, k4⟩ := box4 hb2
  go_wp2_with fail
  refine (has_any (hp1.below hb2) 1 id).mono ?_
  rw [Hq.out]
  rintro e w3 ⟨rfl, hb3⟩
  go_wp2
  go_ret
  exact ⟨rfl, next2 (next2 hb1 hb2) hb3⟩

set_option maxHeartbeats 1000000 in
theorem prefer_d1 (h : PlanAt w pb b0 b1 b2 b3 l0 l1 l2 l3) (task id cost : Int) (hg : (get (3, task) l0).isSome = true) (hq : (get (1, id) l0).isSome = true) (hc : costB cost = false) :
    Calls Tryz.prog 31 #[.pointer (some ⟨pb, 0, none⟩), .int .i64 task, .int .i64 1, .int .i64 id, .int .i64 cost] w fun e w' => e = .returned (.int .i64 5) ∧ Below w.heap.size w w' := by
  have hp1 := h.alloc (.cells #[.int .i64 3, .int .i64 task, .int .i64 1, .int .i64 id] 109)
  have hb1 : Below w.heap.size w (w.alloc (.cells #[.int .i64 3, .int .i64 task, .int .i64 1, .int .i64 id] 109)) := (Below.refl _ _).alloc (Nat.le_refl _) _
  have Hg := hid hg
  clear hg
  have Hq := hid hq
  have Hc := hid hc
  clear hq hc
  go_enter Tryz.func31, Tryz.ntmps31
  go_wp2_with fail
  refine (has_any hp1 3 task).mono ?_
  rw [Hg.out]
  rintro e w2 ⟨rfl, hb2⟩
  obtain ⟨k1, k2, k3, k4⟩ := box4 hb2
  go_wp2_with fail
  refine (has_any (hp1.below hb2) 1 id).mono ?_
  rw [Hq.out]
  rintro e w3 ⟨rfl, hb3⟩
  go_wp2_with fail
  refine (isCost_any cost _).mono ?_
  rw [Hc.out]
  rintro e w4 ⟨rfl, rfl⟩
  go_wp2
  go_ret
  exact ⟨rfl, next2 (next2 hb1 hb2) hb3⟩

set_option maxHeartbeats 1000000 in
theorem prefer_e1 (h : PlanAt w pb b0 b1 b2 b3 l0 l1 l2 l3) (task id cost : Int) (hg : (get (3, task) l0).isSome = true) (hq : (get (1, id) l0).isSome = true) (hc : costB cost = true) :
    Calls Tryz.prog 31 #[.pointer (some ⟨pb, 0, none⟩), .int .i64 task, .int .i64 1, .int .i64 id, .int .i64 cost] w fun e w' => e = .returned (.int .i64 0) ∧ PlanAt w' pb b0 b1 b2 b3 l0 l1 l2 (put ((3, task), (1, id)) cost l3) ∧ Only [b0, b1, b2, b3] w w' := by
  have hp1 := h.alloc (.cells #[.int .i64 3, .int .i64 task, .int .i64 1, .int .i64 id] 109)
  have hb1 : Below w.heap.size w (w.alloc (.cells #[.int .i64 3, .int .i64 task, .int .i64 1, .int .i64 id] 109)) := (Below.refl _ _).alloc (Nat.le_refl _) _
  have Hg := hid hg
  clear hg
  have Hq := hid hq
  have Hc := hid hc
  clear hq hc
  go_enter Tryz.func31, Tryz.ntmps31
  go_wp2_with fail
  refine (has_any hp1 3 task).mono ?_
  rw [Hg.out]
  rintro e w2 ⟨rfl, hb2⟩
  obtain ⟨k1, k2, k3, k4⟩ := box4 hb2
  go_wp2_with fail
  refine (has_any (hp1.below hb2) 1 id).mono ?_
  rw [Hq.out]
  rintro e w3 ⟨rfl, hb3⟩
  go_wp2_with fail
  refine (isCost_any cost _).mono ?_
  rw [Hc.out]
  rintro e w4 ⟨rfl, rfl⟩
  obtain ⟨k5, k6, k7, k8⟩ := box4 (next2 hb2 hb3)
  have k9 := ((hp1.below hb2).below hb3).c3
  have hu : (Instr.mapUpdate 57 (.map (some b3)) (.agg #[.int .i64 3, .int .i64 task, .int .i64 1, .int .i64 id]) (.int .i64 cost)).run Tryz.prog w4.drew = .ok () (upd Tryz.prog 57 b3 (wv ((3, task), (1, id))) (iv cost) w4.drew) := (run_put kt86 Tryz.underlying57 ((hp1.below hb2).below hb3).m3.drew ((3, task), (1, id)) cost).1
  go_wp2
  go_region
  all_goals
    go_wp2
    go_ret
    have hq := ((hp1.below hb2).below hb3).drew.put3 ((3, task), (1, id)) cost
    exact ⟨rfl, hq.1, ((Only.of_below (next2 (next2 hb1 hb2) hb3)).drew).trans hq.2⟩

theorem prefer_any (h : PlanAt w pb b0 b1 b2 b3 l0 l1 l2 l3) (task kind id cost : Int) :
    Calls Tryz.prog 31 #[.pointer (some ⟨pb, 0, none⟩), .int .i64 task, .int .i64 kind, .int .i64 id, .int .i64 cost] w fun e w' => e = .returned (.int .i64 (prefOf l0 task kind id cost)) ∧ PlanAt w' pb b0 b1 b2 b3 l0 l1 l2 (prefTo l0 l3 task kind id cost) ∧ Only [b0, b1, b2, b3] w w' := by
  have fin : ∀ r : Int, r ≠ 0 → prefOf l0 task kind id cost = r → (Calls Tryz.prog 31 #[.pointer (some ⟨pb, 0, none⟩), .int .i64 task, .int .i64 kind, .int .i64 id, .int .i64 cost] w fun e w' => e = .returned (.int .i64 r) ∧ Below w.heap.size w w') →
      Calls Tryz.prog 31 #[.pointer (some ⟨pb, 0, none⟩), .int .i64 task, .int .i64 kind, .int .i64 id, .int .i64 cost] w fun e w' => e = .returned (.int .i64 (prefOf l0 task kind id cost)) ∧ PlanAt w' pb b0 b1 b2 b3 l0 l1 l2 (prefTo l0 l3 task kind id cost) ∧ Only [b0, b1, b2, b3] w w' := fun r hr he hc =>
    hc.mono fun e w' ⟨h1, h2⟩ => ⟨by rw [he]; exact h1, by unfold prefTo; rw [he, if_neg hr]; exact h.below h2, Only.of_below h2⟩
  cases hg : (get (3, task) l0).isSome with
  | false => exact fin 4 (by decide) (by simp [prefOf, hg]) (prefer_a h task kind id cost (by simpa using hg))
  | true =>
    by_cases hk : kind = 1 ∨ kind = 0
    · cases hq : (get (kind, id) l0).isSome with
      | false =>
        refine fin 4 (by decide) (by simp [prefOf, hg, hk, hq]) ?_
        rcases hk with rfl | rfl
        · exact prefer_c1 h task id cost hg hq
        · exact prefer_c0 h task id cost hg hq
      | true =>
        cases hc : costB cost with
        | false =>
          refine fin 5 (by decide) (by simp [prefOf, hg, hk, hq, hc]) ?_
          rcases hk with rfl | rfl
          · exact prefer_d1 h task id cost hg hq hc
          · exact prefer_d0 h task id cost hg hq hc
        | true =>
          have e0 : prefOf l0 task kind id cost = 0 := by simp [prefOf, hg, hk, hq, hc]
          have e1 : prefTo l0 l3 task kind id cost = put ((3, task), (kind, id)) cost l3 := by simp [prefTo, e0]
          rw [e0, e1]
          rcases hk with rfl | rfl
          · exact prefer_e1 h task id cost hg hq hc
          · exact prefer_e0 h task id cost hg hq hc
    · exact fin 7 (by decide) (by simp [prefOf, hg, hk]) (prefer_b h task kind id cost hg (fun e => hk (Or.inl e)) (fun e => hk (Or.inr e)))
end
end Go.Proofs.YtjdindfjfpdikaaGreat
namespace Go.Proofs.YtjdindfjfpdikaaGreat
open Go.RowKit

theorem mapAt_made {K V : Type} {ek : K → Value} {ev : V → Value} (w : World) : MapAt ek ev (w.alloc (.map #[] 0)) w.heap.size [] :=
  ⟨#[], 0, (MapKept.heap_alloc w _).1, rfl, by simp, by simp⟩

theorem planAt_made (w : World) (s0 s1 s2 s3 s4 : Value) : PlanAt (((((w.alloc (.map #[] 0)).alloc (.map #[] 0)).alloc (.map #[] 0)).alloc (.map #[] 0)).alloc (.cells #[.map (some w.heap.size), .map (some (w.heap.size + 1)), .map (some (w.heap.size + 1 + 1)), .map (some (w.heap.size + 1 + 1 + 1)), s0, s1, s2, s3, s4] 61))
    (w.heap.size + 1 + 1 + 1 + 1) w.heap.size (w.heap.size + 1) (w.heap.size + 1 + 1) (w.heap.size + 1 + 1 + 1) [] [] [] [] := by
  have e1 : (w.alloc (.map #[] 0)).heap.size = w.heap.size + 1 := by simp
  have e2 : ((w.alloc (.map #[] 0)).alloc (.map #[] 0)).heap.size = w.heap.size + 1 + 1 := by simp
  have e3 : (((w.alloc (.map #[] 0)).alloc (.map #[] 0)).alloc (.map #[] 0)).heap.size = w.heap.size + 1 + 1 + 1 := by simp
  have e4 : ((((w.alloc (.map #[] 0)).alloc (.map #[] 0)).alloc (.map #[] 0)).alloc (.map #[] 0)).heap.size = w.heap.size + 1 + 1 + 1 + 1 := by simp
  refine ⟨?_, ((((mapAt_made w).alloc _).alloc _).alloc _).alloc _, ?_, ?_, ?_, by omega⟩
  · rw [← e4]; exact ⟨s0, s1, s2, s3, s4, (MapKept.heap_alloc _ _).1⟩
  · rw [← e1]; exact (((mapAt_made _).alloc _).alloc _).alloc _
  · rw [← e2]; exact ((mapAt_made _).alloc _).alloc _
  · rw [← e3]; exact (mapAt_made _).alloc _

set_option maxHeartbeats 1000000 in
theorem new_any (w : World) : Calls Tryz.prog 13 #[] w fun e w' => e = .returned (.pointer (some ⟨w.heap.size + 1 + 1 + 1 + 1, 0, none⟩)) ∧
    PlanAt w' (w.heap.size + 1 + 1 + 1 + 1) w.heap.size (w.heap.size + 1) (w.heap.size + 1 + 1) (w.heap.size + 1 + 1 + 1) [] [] [] [] ∧ Below w.heap.size w w' := by
  have hmm := @run_makeMap Tryz.prog
  go_enter Tryz.func13, Tryz.ntmps13
  go_wp2
  go_ret
  exact ⟨rfl, planAt_made w _ _ _ _ _, by repeat (first | exact Below.refl _ _ | refine Below.alloc ?_ (by simp <;> omega) _)⟩
end Go.Proofs.YtjdindfjfpdikaaGreat
namespace Go.Proofs.YtjdindfjfpdikaaGreat
open Go.RowKit

section
variable {K V : Type} [DecidableEq K]
theorem get_put (a b : K) (v : V) : ∀ l : List (K × V), get a (put b v l) = if a = b then some v else get a l
  | [] => by simp [put, get]
  | x :: r => by
    have ih := get_put a b v r
    unfold put
    by_cases hb : b = x.1
    · rw [if_pos hb]
      by_cases ha : a = b
      · simp [get, ha]
      · have : a ≠ x.1 := fun e => ha (e.trans hb.symm)
        simp [get, ha, this]
    · rw [if_neg hb]
      by_cases hx : a = x.1
      · have : a ≠ b := fun e => hb (e.symm.trans hx)
        simp [get, hx]
        intro e
        exact absurd (hx.trans e) this
      · simp only [get, if_neg hx]
        exact ih
end

/-- One task's tick. -/
def tickOne (l1 : Runs) (l2 : Waits) (t : Int × Int) : Waits := if (get t l1).isSome then l2 else put t (min ((get t l2).getD 0 + 1) 100) l2

theorem get_tickOne (l1 : Runs) (l2 : Waits) (t a : Int × Int) : get a (tickOne l1 l2 t) = if a = t ∧ get a l1 = none then some (min ((get a l2).getD 0 + 1) 100) else get a l2 := by
  unfold tickOne
  by_cases ha : a = t
  · subst ha
    cases hg : get a l1 with
    | none => simp [get_put]
    | some m => simp
  · cases hg : get t l1 with
    | none => simp [get_put, ha]
    | some m => simp [ha]

theorem get_ticks (l1 : Runs) : ∀ (ys : List (Int × Int)) (l2 : Waits) (a : Int × Int), ys.Nodup → get a (ys.foldl (tickOne l1) l2) = if a ∈ ys ∧ get a l1 = none then some (min ((get a l2).getD 0 + 1) 100) else get a l2
  | [], l2, a, _ => by simp
  | t :: ys, l2, a, hn => by
    obtain ⟨h1, h2⟩ := List.nodup_cons.1 hn
    rw [List.foldl_cons, get_ticks l1 ys _ a h2, get_tickOne]
    by_cases ha : a = t
    · subst ha
      simp [h1]
    · simp [ha]

/-- Ticks stay within their bounds. -/
def Waited (l2 : Waits) : Prop := ∀ a n, get a l2 = some n → 0 ≤ n ∧ n ≤ 100
theorem Waited.one {l1 : Runs} {l2 : Waits} (h : Waited l2) (t : Int × Int) : Waited (tickOne l1 l2 t) := by
  intro a n hn
  rw [get_tickOne] at hn
  split at hn
  · cases hn
    cases hg : get a l2 with
    | none => simp; omega
    | some m => have := h a m hg; simp; omega
  · exact h a n hn
theorem Waited.many {l1 : Runs} : ∀ (ys : List (Int × Int)) {l2 : Waits}, Waited l2 → Waited (ys.foldl (tickOne l1) l2)
  | [], _, h => h
  | t :: ys, _, h => Waited.many ys (h.one t)

section
variable {w : World} {pb b0 b1 b2 b3 : Nat} {l0 : Things} {l1 : Runs} {l2 : Waits} {l3 : Prefs}

theorem row_cell {wr : World} {g : Nat} {cur : Array Value} {ys : List (Int × Int)} {k : Nat} (hg : wr.heap[g]? = some (.cells cur 102)) (ht : cur.toList.take (ys.length * 2) = flat ys) (hk : k < ys.length) :
    wr.cell? ⟨g, k * 2, none⟩ = some (.int .i64 ys[k].1) ∧ wr.cell? ⟨g, k * 2 + 1, none⟩ = some (.int .i64 ys[k].2) := by
  have h := flat_at ys k hk
  rw [← ht] at h
  obtain ⟨h1, h2⟩ := h
  rw [List.getElem?_take_of_lt (by omega), Array.getElem?_toList] at h1 h2
  simp [World.cell?, hg, h1, h2]

set_option maxRecDepth 100000 in
set_option maxHeartbeats 2000000 in
theorem tick_any (hS : SortSaid) (h : PlanAt w pb b0 b1 b2 b3 l0 l1 l2 l3) (hlen : l0.length ≤ 1000) (hw : Waited l2) :
    Calls Tryz.prog 33 #[.pointer (some ⟨pb, 0, none⟩)] w fun e w' => e = .returned (.tuple #[]) ∧ (∃ ys : List (Int × Int), ys.Perm (sel 3 l0) ∧ PlanAt w' pb b0 b1 b2 b3 l0 l1 (ys.foldl (tickOne l1) l2) l3) ∧ Only [b0, b1, b2, b3] w w' := by
  have Hh := hid (all_any hS h 3 hlen)
  have hpb := h.lt
  have hp0 : b0 < w.heap.size ∧ b1 < w.heap.size ∧ b2 < w.heap.size ∧ b3 < w.heap.size := ⟨h.m0.lt, h.m1.lt, h.m2.lt, h.m3.lt⟩
  go_enter Tryz.func33, Tryz.ntmps33
  go_wp2_with (go_at_call 61; refine Hh.out.mono ?_; rintro e w1 ⟨v, ys, rfl, hperm, hrow, hb1, _⟩; obtain ⟨pp, cap, rfl⟩ := ownsRow_shape hrow)
  try go_frame
  have hp1 := h.below hb1
  clear h Hh
  rcases hrow.2 with ⟨hnil, hn0⟩ | ⟨g, cap', cur, hv, hbase, hgb, hle, hm, hs, htake⟩
  · obtain rfl : ys = [] := List.eq_nil_of_length_eq_zero hn0
    refine wp_loop_rounds 1 ?_
    rw [rounds_succ]
    go_wp2
    go_end0
    exact ⟨rfl, ⟨[], hperm, hp1⟩, Only.of_below hb1⟩
  · cases hv
    have hyl : ys.length ≤ 1000 := by
      have h1 := hperm.length_eq
      have h2 : (sel 3 l0).length ≤ l0.length := by simp [sel]; exact List.length_filter_le _ _
      omega
    have hgl : g < w1.heap.size := (Array.getElem?_eq_some_iff.1 hgb).1
    have hgn : g ≠ pb ∧ g ≠ b0 ∧ g ≠ b1 ∧ g ≠ b2 ∧ g ≠ b3 := by
      have := hp0.1; have := hp0.2.1; have := hp0.2.2.1; have := hp0.2.2.2
      omega
    go_loopg [9] ys.length (fun gk i wr => ∃ k : Nat, k ≤ ys.length ∧ ys.length - k ≤ gk ∧ i = .int .i64 k ∧ PlanAt wr pb b0 b1 b2 b3 l0 l1 ((ys.take k).foldl (tickOne l1) l2) l3 ∧ wr.heap[g]? = some (.cells cur 102) ∧ Only [b0, b1, b2, b3] w wr)
    case atStart => exact ⟨0, Nat.zero_le _, by omega, rfl, hp1, hgb, Only.of_below hb1⟩
    case round =>
      obtain ⟨k, hk, hgk, rfl, hp, hgw, hO⟩ := hrel
      by_cases hlt : k < ys.length
      · obtain ⟨x1, x2, hx⟩ : ∃ x1 x2, ys[k] = (x1, x2) := ⟨_, _, rfl⟩
        have q0 := row_cell hgw htake hlt
        rw [hx] at q0
        obtain ⟨q0, q1⟩ := q0
        have c1 := hp.c1
        have c2 := hp.c2
        have hpw := hp.lt
        have hgwl : g < wr.heap.size := (Array.getElem?_eq_some_iff.1 hgw).1
        have hfold : (ys.take (k + 1)).foldl (tickOne l1) l2 = tickOne l1 ((ys.take k).foldl (tickOne l1) l2) (x1, x2) := by
          rw [List.take_succ_eq_append_getElem hlt, List.foldl_append, hx]; rfl
        have Hf := hid hfold
        have hW := Waited.many (l1 := l1) (ys.take k) hw
        clear hfold hx hw hgb hrow htake
        generalize (ys.take k).foldl (tickOne l1) l2 = lk at hp Hf hW
        cases hr : get (x1, x2) l1 with
        | some m =>
          obtain ⟨_, _, _, e3, _, e5, _, _⟩ := pack hp.m1 (F := fun w' => (Instr.lookup 55 (.map (some b1)) (.agg #[.int .i64 x1, .int .i64 x2]) true).run Tryz.prog w' = .ok (.tuple #[.agg #[.int .i64 m.1, .int .i64 m.2], .bool true]) w')
            (fun w' h => run_look_yes kt79 Tryz.underlying55 h (x1, x2) hr _ (zero79 w'))
          have Hr := hid hr
          clear hr
          go_wp2
          go_region
          all_goals
            go_wp2
            go_roundg (ys.length - (k + 1))
            case measure => omega
            case rel =>
              have hb2 : Below wr.heap.size wr ((wr.alloc (Obj.cells #[.int .i64 x1, .int .i64 x2] 102)).alloc (Obj.cells #[.int .i64 m.1, .int .i64 m.2] 102)) := ((Below.refl _ _).alloc (Nat.le_refl _) _).alloc (by simp) _
              refine ⟨k + 1, by omega, Nat.le_refl _, by go_num, ?_, ?_, ?_⟩
              · rw [Hf.out, tickOne, Hr.out]
                exact ((hp.alloc _).alloc _).drew
              · exact (hb2.block g hgwl).trans hgw
              · exact hO.trans ((Only.of_below hb2).drew)
        | none =>
          obtain ⟨_, _, _, e3, _, e5, _, _⟩ := pack hp.m1 (F := fun w' => (Instr.lookup 55 (.map (some b1)) (.agg #[.int .i64 x1, .int .i64 x2]) true).run Tryz.prog w' = .ok (.tuple #[.agg #[.int .i64 0, .int .i64 0], .bool false]) w')
            (fun w' h => run_look_no kt79 Tryz.underlying55 h (x1, x2) hr _ (zero79 w'))
          obtain ⟨n, hn, hn0, hn1⟩ : ∃ n, (get (x1, x2) lk).getD 0 = n ∧ 0 ≤ n ∧ n ≤ 100 := ⟨_, rfl, by cases hq : get (x1, x2) lk with
            | none => simp
            | some n => have := hW _ _ hq; simpa using this⟩
          have e9 : ∀ o1 o2, (Instr.lookup 56 (.map (some b2)) (.agg #[.int .i64 x1, .int .i64 x2]) false).run Tryz.prog ((wr.alloc o1).alloc o2).drew.drew = .ok (.int .i64 n) ((wr.alloc o1).alloc o2).drew.drew := fun o1 o2 => by
            have hm : MapAt tv iv ((wr.alloc o1).alloc o2).drew.drew b2 lk := ((hp.m2.alloc o1).alloc o2).drew.drew
            have := run_look kt79 Tryz.underlying56 hm (x1, x2) false (zero3 _)
            cases hq : get (x1, x2) lk with
            | none => rw [hq] at this hn; simp at hn; subst hn; exact this
            | some n' => rw [hq] at this hn; simp at hn; subst hn; exact this
          have eu : ∀ v o1 o2, (Instr.mapUpdate 56 (.map (some b2)) (.agg #[.int .i64 x1, .int .i64 x2]) (.int .i64 v)).run Tryz.prog ((wr.alloc o1).alloc o2).drew.drew = .ok () (upd Tryz.prog 56 b2 (tv (x1, x2)) (iv v) ((wr.alloc o1).alloc o2).drew.drew) := fun v o1 o2 =>
            (run_put kt79 Tryz.underlying56 ((hp.m2.alloc o1).alloc o2).drew.drew (x1, x2) v).1
          have Fin := hid (show ∀ (u : Int) (o1 o2 : Obj), u = min (n + 1) 100 → PlanAt (upd Tryz.prog 56 b2 (tv (x1, x2)) (iv u) ((wr.alloc o1).alloc o2).drew.drew) pb b0 b1 b2 b3 l0 l1 ((ys.take (k + 1)).foldl (tickOne l1) l2) l3 ∧
              (upd Tryz.prog 56 b2 (tv (x1, x2)) (iv u) ((wr.alloc o1).alloc o2).drew.drew).heap[g]? = some (.cells cur 102) ∧ Only [b0, b1, b2, b3] w (upd Tryz.prog 56 b2 (tv (x1, x2)) (iv u) ((wr.alloc o1).alloc o2).drew.drew) from fun u o1 o2 hu => by
            have hq := ((hp.alloc o1).alloc o2).drew.drew.put2 (x1, x2) u
            have hb2 : Below wr.heap.size wr ((wr.alloc o1).alloc o2) := ((Below.refl _ _).alloc (Nat.le_refl _) _).alloc (by simp) _
            refine ⟨?_, ?_, ?_⟩
            · rw [Hf.out, tickOne, hr, hn, ← hu]; exact hq.1
            · rw [hq.2.block g (by simp; omega) (by simp; omega)]
              exact (hb2.block g hgwl).trans hgw
            · exact hO.trans ((Only.of_below hb2).drew.drew.trans hq.2))
          clear hr hn
          go_wp2
          go_region
          all_goals go_wp2
          all_goals go_region
          all_goals go_wp2
          all_goals
            go_roundg (ys.length - (k + 1))
            case measure => omega
            case rel => exact ⟨k + 1, by omega, Nat.le_refl _, by go_num, Fin.out _ _ _ (by omega)⟩
      · go_wp2
        go_end0
        obtain rfl : k = ys.length := by omega
        rw [List.take_length] at hp
        exact ⟨rfl, ⟨ys, hperm, hp⟩, hO⟩
end
end Go.Proofs.YtjdindfjfpdikaaGreat
namespace Go.Proofs.YtjdindfjfpdikaaGreat
open Go.RowKit

theorem field0 (w : World) (a b c d : Int) : (Instr.field 105 (.agg #[.int .i64 a, .int .i64 b, .int .i64 c, .int .i64 d]) 0).run Tryz.prog w = .ok (.agg #[.int .i64 a, .int .i64 b]) w := by kernel_rfl
theorem field2 (w : World) (a b c d : Int) : (Instr.field 105 (.agg #[.int .i64 a, .int .i64 b, .int .i64 c, .int .i64 d]) 2).run Tryz.prog w = .ok (.int .i64 d) w := by kernel_rfl

/-- What a task costs more that would move. -/
def moves (l1 : Runs) (t : Int × Int) : Int := if (get t l1).isSome then 50 else 0

section
variable {w : World} {pb b0 b1 b2 b3 : Nat} {l0 : Things} {l1 : Runs} {l2 : Waits} {l3 : Prefs}

theorem look2 (h : MapAt tv iv w b2 l2) (a : Int × Int) : (Instr.lookup 56 (.map (some b2)) (.agg #[.int .i64 a.1, .int .i64 a.2]) false).run Tryz.prog w = .ok (.int .i64 ((get a l2).getD 0)) w := by
  have := run_look kt79 Tryz.underlying56 h a false (zero3 w)
  cases hq : get a l2 with
  | none => rw [hq] at this; exact this
  | some n => rw [hq] at this; exact this
theorem look1 (h : MapAt tv tv w b1 l1) (a : Int × Int) : (Instr.lookup 55 (.map (some b1)) (.agg #[.int .i64 a.1, .int .i64 a.2]) true).run Tryz.prog w = .ok (.tuple #[.agg #[.int .i64 ((get a l1).getD (0, 0)).1, .int .i64 ((get a l1).getD (0, 0)).2], .bool (get a l1).isSome]) w := by
  have := run_look kt79 Tryz.underlying55 h a true (zero79 w)
  cases hq : get a l1 with
  | none => rw [hq] at this; exact this
  | some n => rw [hq] at this; exact this

set_option maxRecDepth 100000 in
set_option maxHeartbeats 2000000 in
theorem costOnNone_any (h : PlanAt w pb b0 b1 b2 b3 l0 l1 l2 l3) (t1 t2 j1 j2 s a i1 i2 s' base : Int) (ht : get (t1, t2) l0 = some ((j1, j2), s, a)) (hj : get (j1, j2) l0 = some ((i1, i2), s', base)) (hB0 : 0 ≤ base) (hB1 : base ≤ 1000) (hw : Waited l2) :
    Calls Tryz.prog 66 #[.pointer (some ⟨pb, 0, none⟩), .agg #[.int .i64 t1, .int .i64 t2]] w fun e w' => e = .returned (.int .i64 (base + (get (t1, t2) l2).getD 0 + moves l1 (t1, t2))) ∧ Below w.heap.size w w' := by
  have c0 := h.c0
  have c1 := h.c1
  have c2 := h.c2
  have hpb := h.lt
  have hpb1 : pb < w.heap.size + 1 := by omega
  have hpb2 : pb < w.heap.size + 1 + 1 := by omega
  have hs1 : w.heap.size < w.heap.size + 1 + 1 := by omega
  have f0 := field0
  have f2 := field2
  have e1 : ∀ o, (Instr.lookup 54 (.map (some b0)) (.agg #[.int .i64 t1, .int .i64 t2]) false).run Tryz.prog (w.alloc o).drew = .ok (.agg #[.int .i64 j1, .int .i64 j2, .int .i64 s, .int .i64 a]) (w.alloc o).drew := fun o => run_look_yes' kt79 Tryz.underlying54 (h.m0.alloc o).drew (t1, t2) ht _ (zero82 _)
  have e1' : ∀ o o', (Instr.lookup 54 (.map (some b0)) (.agg #[.int .i64 t1, .int .i64 t2]) false).run Tryz.prog ((w.alloc o).alloc o').drew = .ok (.agg #[.int .i64 j1, .int .i64 j2, .int .i64 s, .int .i64 a]) ((w.alloc o).alloc o').drew := fun o o' => run_look_yes' kt79 Tryz.underlying54 ((h.m0.alloc o).alloc o').drew (t1, t2) ht _ (zero82 _)
  have e2 : ∀ o o', (Instr.lookup 54 (.map (some b0)) (.agg #[.int .i64 j1, .int .i64 j2]) false).run Tryz.prog ((w.alloc o).alloc o').drew.drew = .ok (.agg #[.int .i64 i1, .int .i64 i2, .int .i64 s', .int .i64 base]) ((w.alloc o).alloc o').drew.drew := fun o o' => run_look_yes' kt79 Tryz.underlying54 ((h.m0.alloc o).alloc o').drew.drew (j1, j2) hj _ (zero82 _)
  obtain ⟨n, hn, hn0, hn1⟩ : ∃ n, (get (t1, t2) l2).getD 0 = n ∧ 0 ≤ n ∧ n ≤ 100 := ⟨_, rfl, by cases hq : get (t1, t2) l2 with
    | none => simp
    | some n => have := hw _ _ hq; simpa using this⟩
  have e3 : ∀ o o', (Instr.lookup 56 (.map (some b2)) (.agg #[.int .i64 t1, .int .i64 t2]) false).run Tryz.prog ((w.alloc o).alloc o').drew.drew = .ok (.int .i64 n) ((w.alloc o).alloc o').drew.drew := fun o o' => by rw [← hn]; exact look2 ((h.m2.alloc o).alloc o').drew.drew (t1, t2)
  obtain ⟨m1, m2, r, hr⟩ : ∃ m1 m2 r, (((get (t1, t2) l1).getD (0, 0)).1 = m1 ∧ ((get (t1, t2) l1).getD (0, 0)).2 = m2 ∧ (get (t1, t2) l1).isSome = r) := ⟨_, _, _, rfl, rfl, rfl⟩
  have e4 : ∀ o o', (Instr.lookup 55 (.map (some b1)) (.agg #[.int .i64 t1, .int .i64 t2]) true).run Tryz.prog ((w.alloc o).alloc o').drew.drew.drew = .ok (.tuple #[.agg #[.int .i64 m1, .int .i64 m2], .bool r]) ((w.alloc o).alloc o').drew.drew.drew := fun o o' => by rw [← hr.1, ← hr.2.1, ← hr.2.2]; exact look1 ((h.m1.alloc o).alloc o').drew.drew.drew (t1, t2)
  have e5 : ∀ o o' o2, (Instr.lookup 55 (.map (some b1)) (.agg #[.int .i64 t1, .int .i64 t2]) true).run Tryz.prog (((w.alloc o).alloc o').alloc o2).drew.drew.drew = .ok (.tuple #[.agg #[.int .i64 m1, .int .i64 m2], .bool r]) (((w.alloc o).alloc o').alloc o2).drew.drew.drew := fun o o' o2 => by rw [← hr.1, ← hr.2.1, ← hr.2.2]; exact look1 (((h.m1.alloc o).alloc o').alloc o2).drew.drew.drew (t1, t2)
  have hm : moves l1 (t1, t2) = if r = true then 50 else 0 := by unfold moves; rw [hr.2.2]
  rw [hn, hm]
  clear hn hm hr ht hj
  cases r
  · go_enter Tryz.func66, Tryz.ntmps66
    go_wp2
    go_region
    all_goals go_wp2
    all_goals go_region
    all_goals go_wp2
    all_goals go_region
    all_goals
      go_wp2
      go_ret
      exact ⟨ret_int (by simp), by repeat (first | exact Below.refl _ _ | refine Below.drew ?_ | refine Below.alloc ?_ (by simp <;> omega) _)⟩
  · go_enter Tryz.func66, Tryz.ntmps66
    go_wp2
    go_region
    all_goals go_wp2
    all_goals go_region
    all_goals go_wp2
    all_goals go_region
    all_goals
      go_wp2
      go_ret
      exact ⟨ret_int (by simp), by repeat (first | exact Below.refl _ _ | refine Below.drew ?_ | refine Below.alloc ?_ (by simp <;> omega) _)⟩
end
end Go.Proofs.YtjdindfjfpdikaaGreat
namespace Go.Proofs.YtjdindfjfpdikaaGreat
open Go.RowKit

theorem index0 (w : World) (a b c d : Int) : (Instr.index 137 (.agg #[.int .i64 a, .int .i64 b, .int .i64 c, .int .i64 d]) (.int .i64 0)).run Tryz.prog w = .ok (.agg #[.int .i64 a, .int .i64 b]) w := by kernel_rfl
theorem index1 (w : World) (a b c d : Int) : (Instr.index 137 (.agg #[.int .i64 a, .int .i64 b, .int .i64 c, .int .i64 d]) (.int .i64 1)).run Tryz.prog w = .ok (.agg #[.int .i64 c, .int .i64 d]) w := by kernel_rfl

theorem neq79 (w : World) (a b : Int × Int) : (binOp .neq 102 (tv a) (tv b)).run Tryz.prog w = .ok (.bool (!decide (a = b))) w := by
  have h := eq79 w a b
  unfold Op.equal Op.maxDepth at h
  unfold tv at h ⊢
  rw [run_neq_struct, h]
  rfl

/-- The lesser of a cost and a wish's, if there is one. -/
def lesser (a : Int) : Option Int → Int
  | some c => min a c
  | none => a
def Costs (l3 : Prefs) : Prop := ∀ k n, get k l3 = some n → 0 ≤ n ∧ n ≤ 1000

theorem lesser_bounds {a : Int} {o : Option Int} (h0 : 0 ≤ a) (h1 : a ≤ 1000) (ho : ∀ n, o = some n → 0 ≤ n ∧ n ≤ 1000) : 0 ≤ lesser a o ∧ lesser a o ≤ 1000 := by
  cases o with
  | none => exact ⟨h0, h1⟩
  | some n => have := ho n rfl; show 0 ≤ min a n ∧ min a n ≤ 1000; omega

/-- What a task costs more on a machine, if it runs on another. -/
def movesTo (l1 : Runs) (t m : Int × Int) : Int := match get t l1 with
  | some n => if n = m then 0 else 50
  | none => 0

section
variable {w : World} {pb b0 b1 b2 b3 : Nat} {l0 : Things} {l1 : Runs} {l2 : Waits} {l3 : Prefs}

set_option maxRecDepth 100000 in
set_option maxHeartbeats 4000000 in
theorem costOn_any (h : PlanAt w pb b0 b1 b2 b3 l0 l1 l2 l3) (t1 t2 m1 m2 j1 j2 s a r1 r2 s' c' : Int) (ht : get (t1, t2) l0 = some ((j1, j2), s, a)) (hm : get (m1, m2) l0 = some ((r1, r2), s', c')) (ha0 : 0 ≤ a) (ha1 : a ≤ 1000) (hC : Costs l3) :
    Calls Tryz.prog 67 #[.pointer (some ⟨pb, 0, none⟩), .agg #[.int .i64 t1, .int .i64 t2], .agg #[.int .i64 m1, .int .i64 m2]] w fun e w' =>
      e = .returned (.int .i64 (lesser (lesser a (get ((t1, t2), (m1, m2)) l3)) (get ((t1, t2), (r1, r2)) l3) + movesTo l1 (t1, t2) (m1, m2))) ∧ Below w.heap.size w w' := by
  have c0 := h.c0
  have hpb := h.lt
  have hpb1 : pb < w.heap.size + 1 := by omega
  have hpb2 : pb < w.heap.size + 1 + 1 := by omega
  have hs1 : w.heap.size < w.heap.size + 1 + 1 := by omega
  have f0 := field0
  have f2 := field2
  have i0 := index0
  have i1 := index1
  have e1 : ∀ o o', (Instr.lookup 54 (.map (some b0)) (.agg #[.int .i64 t1, .int .i64 t2]) false).run Tryz.prog ((w.alloc o).alloc o').drew = .ok (.agg #[.int .i64 j1, .int .i64 j2, .int .i64 s, .int .i64 a]) ((w.alloc o).alloc o').drew := fun o o' => run_look_yes' kt79 Tryz.underlying54 ((h.m0.alloc o).alloc o').drew (t1, t2) ht _ (zero82 _)
  have e2 : ∀ o o', (Instr.lookup 54 (.map (some b0)) (.agg #[.int .i64 m1, .int .i64 m2]) false).run Tryz.prog ((w.alloc o).alloc o').drew.drew = .ok (.agg #[.int .i64 r1, .int .i64 r2, .int .i64 s', .int .i64 c']) ((w.alloc o).alloc o').drew.drew := fun o o' => run_look_yes' kt79 Tryz.underlying54 ((h.m0.alloc o).alloc o').drew.drew (m1, m2) hm _ (zero82 _)
  clear ht hm
  go_enter Tryz.func67, Tryz.ntmps67
  go_wp2
  go_region
  all_goals go_wp2
  all_goals go_region
  go_wp2
  have hp1 := (h.alloc (.cells #[.int .i64 t1, .int .i64 t2] 102)).alloc (.cells #[.int .i64 m1, .int .i64 m2] 102)
  have hb1 : Below w.heap.size w ((w.alloc (.cells #[.int .i64 t1, .int .i64 t2] 102)).alloc (.cells #[.int .i64 m1, .int .i64 m2] 102)) := ((Below.refl _ _).alloc (Nat.le_refl _) _).alloc (by simp) _
  clear e1 e2 c0 h
  generalize hL1 : lesser a (get ((t1, t2), (m1, m2)) l3) = L1
  generalize hL2 : lesser L1 (get ((t1, t2), (r1, r2)) l3) = L2
  have hB1 : 0 ≤ L1 ∧ L1 ≤ 1000 := hL1 ▸ lesser_bounds ha0 ha1 (fun n hn => hC _ _ hn)
  have hB2 : 0 ≤ L2 ∧ L2 ≤ 1000 := hL2 ▸ lesser_bounds hB1.1 hB1.2 (fun n hn => hC _ _ hn)
  have HL := hid (And.intro hL1 hL2)
  clear hL1 hL2
  go_loopg [7, 30] 2 (fun gk v i wr => ∃ k : Nat, k ≤ 2 ∧ 2 - k ≤ gk ∧ i = .int .i64 k ∧ v = .int .i64 (if k = 0 then a else if k = 1 then L1 else L2) ∧ Below ((w.alloc (.cells #[.int .i64 t1, .int .i64 t2] 102)).alloc (.cells #[.int .i64 m1, .int .i64 m2] 102)).heap.size ((w.alloc (.cells #[.int .i64 t1, .int .i64 t2] 102)).alloc (.cells #[.int .i64 m1, .int .i64 m2] 102)) wr)
  case atStart => exact ⟨0, by omega, by omega, rfl, rfl, (Below.refl _ _).drew.drew⟩
  case round =>
    obtain ⟨k, hk, hgk, rfl, rfl, hbw⟩ := hrel
    have hp := hp1.below hbw
    obtain ⟨k1, k2, k3, k4⟩ := boxes2 hbw
    have c3 := hp.c3
    have c1 := hp.c1
    have hpw := hp.lt
    have hz := hbw.size
    have hz1 : w.heap.size < wr.heap.size := by simp at hz; omega
    have hz2 : w.heap.size + 1 < wr.heap.size := by simp at hz; omega
    clear hz
    obtain rfl | rfl | rfl : k = 0 ∨ k = 1 ∨ k = 2 := by omega
    · cases hq : get ((t1, t2), (m1, m2)) l3 with
      | none =>
        have e3 : ∀ o, (Instr.lookup 57 (.map (some b3)) (.agg #[.int .i64 t1, .int .i64 t2, .int .i64 m1, .int .i64 m2]) true).run Tryz.prog (wr.alloc o).drew = .ok (.tuple #[.int .i64 0, .bool false]) (wr.alloc o).drew := fun o => run_look_no kt86 Tryz.underlying57 (hp.m3.alloc o).drew ((t1, t2), (m1, m2)) hq _ (zero3 _)
        have Hl := hid (show a = L1 by have := HL.out.1; rw [hq] at this; exact this)
        clear hq
        go_wp2
        go_region
        all_goals go_wp2
        all_goals
          go_roundg 1
          case measure => omega
          case rel => exact ⟨1, by omega, by omega, rfl, by simp [Hl.out], (hbw.alloc hbw.size _).drew⟩
      | some c =>
        have e3 : ∀ o, (Instr.lookup 57 (.map (some b3)) (.agg #[.int .i64 t1, .int .i64 t2, .int .i64 m1, .int .i64 m2]) true).run Tryz.prog (wr.alloc o).drew = .ok (.tuple #[.int .i64 c, .bool true]) (wr.alloc o).drew := fun o => run_look_yes kt86 Tryz.underlying57 (hp.m3.alloc o).drew ((t1, t2), (m1, m2)) hq _ (zero3 _)
        have hl : min a c = L1 := by have := HL.out.1; rw [hq] at this; exact this
        have Hl := hid hl
        have hcb := hC _ _ hq
        clear hq hl
        go_wp2
        go_region
        all_goals go_wp2
        all_goals
          go_roundg 1
          case measure => omega
          case rel => exact ⟨1, by omega, by omega, rfl, congrArg (Value.int .i64) (by have := Hl.out; simp; omega), (hbw.alloc hbw.size _).drew⟩
    · cases hq : get ((t1, t2), (r1, r2)) l3 with
      | none =>
        have e3 : ∀ o, (Instr.lookup 57 (.map (some b3)) (.agg #[.int .i64 t1, .int .i64 t2, .int .i64 r1, .int .i64 r2]) true).run Tryz.prog (wr.alloc o).drew = .ok (.tuple #[.int .i64 0, .bool false]) (wr.alloc o).drew := fun o => run_look_no kt86 Tryz.underlying57 (hp.m3.alloc o).drew ((t1, t2), (r1, r2)) hq _ (zero3 _)
        have Hl := hid (show L1 = L2 by have := HL.out.2; rw [hq] at this; exact this)
        clear hq
        go_wp2
        go_region
        all_goals go_wp2
        all_goals
          go_roundg 0
          case measure => omega
          case rel => exact ⟨2, by omega, by omega, rfl, by simp [Hl.out], (hbw.alloc hbw.size _).drew⟩
      | some c =>
        have e3 : ∀ o, (Instr.lookup 57 (.map (some b3)) (.agg #[.int .i64 t1, .int .i64 t2, .int .i64 r1, .int .i64 r2]) true).run Tryz.prog (wr.alloc o).drew = .ok (.tuple #[.int .i64 c, .bool true]) (wr.alloc o).drew := fun o => run_look_yes kt86 Tryz.underlying57 (hp.m3.alloc o).drew ((t1, t2), (r1, r2)) hq _ (zero3 _)
        have hl : min L1 c = L2 := by have := HL.out.2; rw [hq] at this; exact this
        have Hl := hid hl
        have hcb := hC _ _ hq
        clear hq hl
        go_wp2
        go_region
        all_goals go_wp2
        all_goals
          go_roundg 0
          case measure => omega
          case rel => exact ⟨2, by omega, by omega, rfl, congrArg (Value.int .i64) (by have := Hl.out; simp; omega), (hbw.alloc hbw.size _).drew⟩
    · cases hr : get (t1, t2) l1 with
      | none =>
        have e4 : (Instr.lookup 55 (.map (some b1)) (.agg #[.int .i64 t1, .int .i64 t2]) true).run Tryz.prog wr.drew = .ok (.tuple #[.agg #[.int .i64 0, .int .i64 0], .bool false]) wr.drew := run_look_no kt79 Tryz.underlying55 hp.m1.drew (t1, t2) hr _ (zero79 _)
        have e5 : ∀ o, (Instr.lookup 55 (.map (some b1)) (.agg #[.int .i64 t1, .int .i64 t2]) true).run Tryz.prog (wr.alloc o).drew = .ok (.tuple #[.agg #[.int .i64 0, .int .i64 0], .bool false]) (wr.alloc o).drew := fun o => run_look_no kt79 Tryz.underlying55 (hp.m1.alloc o).drew (t1, t2) hr _ (zero79 _)
        have Hm := hid (show movesTo l1 (t1, t2) (m1, m2) = 0 by simp [movesTo, hr])
        clear hr
        go_wp2
        go_region
        all_goals go_wp2
        all_goals
          go_ret
          exact ⟨ret_int (by rw [HL.out.1, HL.out.2, Hm.out, Int.add_zero]), next2 hb1 ((hbw.alloc hbw.size _).drew)⟩
      | some n =>
        obtain ⟨n1, n2⟩ := n
        have e4 : (Instr.lookup 55 (.map (some b1)) (.agg #[.int .i64 t1, .int .i64 t2]) true).run Tryz.prog wr.drew = .ok (.tuple #[.agg #[.int .i64 n1, .int .i64 n2], .bool true]) wr.drew := run_look_yes kt79 Tryz.underlying55 hp.m1.drew (t1, t2) hr _ (zero79 _)
        have e5 : ∀ o, (Instr.lookup 55 (.map (some b1)) (.agg #[.int .i64 t1, .int .i64 t2]) true).run Tryz.prog (wr.alloc o).drew = .ok (.tuple #[.agg #[.int .i64 n1, .int .i64 n2], .bool true]) (wr.alloc o).drew := fun o => run_look_yes kt79 Tryz.underlying55 (hp.m1.alloc o).drew (t1, t2) hr _ (zero79 _)
        have hne : ∀ w' : World, (binOp .neq 102 (.agg #[.int .i64 n1, .int .i64 n2]) (.agg #[.int .i64 m1, .int .i64 m2])).run Tryz.prog w' = .ok (.bool (!decide ((n1, n2) = (m1, m2)))) w' := fun w' => neq79 w' (n1, n2) (m1, m2)
        by_cases hn : n1 = m1 ∧ n2 = m2
        · obtain ⟨rfl, rfl⟩ := hn
          have hne' : ∀ w' : World, (binOp .neq 102 (.agg #[.int .i64 n1, .int .i64 n2]) (.agg #[.int .i64 n1, .int .i64 n2])).run Tryz.prog w' = .ok (.bool false) w' := fun w' => by rw [hne w']; simp
          clear hne
          have Hm := hid (show movesTo l1 (t1, t2) (n1, n2) = 0 by simp [movesTo, hr])
          clear hr
          go_wp2
          go_region
          all_goals go_wp2
          all_goals
            go_ret
            exact ⟨ret_int (by rw [HL.out.1, HL.out.2, Hm.out, Int.add_zero]), next2 hb1 ((hbw.alloc hbw.size _).drew)⟩
        · have Hm := hid (show movesTo l1 (t1, t2) (m1, m2) = 50 by simp [movesTo, hr, hn])
          clear hr
          have hne' : ∀ w' : World, (binOp .neq 102 (.agg #[.int .i64 n1, .int .i64 n2]) (.agg #[.int .i64 m1, .int .i64 m2])).run Tryz.prog w' = .ok (.bool true) w' := fun w' => by rw [hne w']; simp [hn]
          clear hne hn
          go_wp2
          go_region
          all_goals go_wp2
          all_goals
            go_ret
            exact ⟨ret_int (by rw [HL.out.1, HL.out.2, Hm.out]), next2 hb1 ((hbw.alloc hbw.size _).drew)⟩
end
end Go.Proofs.YtjdindfjfpdikaaGreat
namespace Go.Proofs.YtjdindfjfpdikaaGreat
open Go.RowKit

section
variable {w : World} {pb b0 b1 b2 b3 : Nat} {l0 : Things} {l1 : Runs} {l2 : Waits} {l3 : Prefs}

set_option maxHeartbeats 1000000 in
theorem cost_no_task (h : PlanAt w pb b0 b1 b2 b3 l0 l1 l2 l3) (task machine : Int) (ht : get (3, task) l0 = none) :
    Calls Tryz.prog 38 #[.pointer (some ⟨pb, 0, none⟩), .int .i64 task, .int .i64 machine] w fun e w' => e = .returned (.tuple #[.int .i64 0, .int .i64 4]) ∧ Below w.heap.size w w' := by
  have hp1 := (h.alloc (.cells #[.int .i64 3, .int .i64 task] 102)).alloc (.cells #[.int .i64 1, .int .i64 machine] 102)
  have hb1 : Below w.heap.size w ((w.alloc (.cells #[.int .i64 3, .int .i64 task] 102)).alloc (.cells #[.int .i64 1, .int .i64 machine] 102)) := ((Below.refl _ _).alloc (Nat.le_refl _) _).alloc (by simp) _
  have Ht := hid ht
  clear ht
  go_enter Tryz.func38, Tryz.ntmps38
  go_wp2_with fail
  refine (has_any hp1 3 task).mono ?_
  rw [Ht.out]
  rintro e w2 ⟨rfl, hb2⟩
  go_wp2
  go_ret2
  exact ⟨rfl, next2 hb1 hb2⟩

set_option maxHeartbeats 1000000 in
theorem cost_none (h : PlanAt w pb b0 b1 b2 b3 l0 l1 l2 l3) (task j1 j2 s a i1 i2 s' base : Int) (ht : get (3, task) l0 = some ((j1, j2), s, a)) (hj : get (j1, j2) l0 = some ((i1, i2), s', base)) (hB0 : 0 ≤ base) (hB1 : base ≤ 1000) (hw : Waited l2) :
    Calls Tryz.prog 38 #[.pointer (some ⟨pb, 0, none⟩), .int .i64 task, .int .i64 (-1)] w fun e w' => e = .returned (.tuple #[.int .i64 (base + (get (3, task) l2).getD 0 + moves l1 (3, task)), .int .i64 0]) ∧ Below w.heap.size w w' := by
  have hp1 := (h.alloc (.cells #[.int .i64 3, .int .i64 task] 102)).alloc (.cells #[.int .i64 1, .int .i64 (-1)] 102)
  have hb1 : Below w.heap.size w ((w.alloc (.cells #[.int .i64 3, .int .i64 task] 102)).alloc (.cells #[.int .i64 1, .int .i64 (-1)] 102)) := ((Below.refl _ _).alloc (Nat.le_refl _) _).alloc (by simp) _
  have Hc := hid (fun (w3 : World) (hb : Below ((w.alloc (.cells #[.int .i64 3, .int .i64 task] 102)).alloc (.cells #[.int .i64 1, .int .i64 (-1)] 102)).heap.size ((w.alloc (.cells #[.int .i64 3, .int .i64 task] 102)).alloc (.cells #[.int .i64 1, .int .i64 (-1)] 102)) w3) => costOnNone_any (hp1.below hb) 3 task j1 j2 s a i1 i2 s' base ht hj hB0 hB1 hw)
  have Ht := hid ht
  clear ht hj
  generalize base + (get (3, task) l2).getD 0 + moves l1 (3, task) = r at Hc ⊢
  go_enter Tryz.func38, Tryz.ntmps38
  go_wp2_with fail
  refine (has_any hp1 3 task).mono ?_
  rw [Ht.out]
  rintro e w2 ⟨rfl, hb2⟩
  obtain ⟨k1, k2, k3, k4⟩ := boxes2 hb2
  go_wp2_with fail
  refine (Hc.out _ hb2).mono ?_
  rintro e w3 ⟨rfl, hb3⟩
  go_wp2
  go_ret2
  exact ⟨rfl, next2 (next2 hb1 hb2) hb3⟩

set_option maxHeartbeats 1000000 in
theorem cost_no_machine (h : PlanAt w pb b0 b1 b2 b3 l0 l1 l2 l3) (task machine : Int) (hm1 : machine ≠ -1) (ht : (get (3, task) l0).isSome = true) (hm : get (1, machine) l0 = none) :
    Calls Tryz.prog 38 #[.pointer (some ⟨pb, 0, none⟩), .int .i64 task, .int .i64 machine] w fun e w' => e = .returned (.tuple #[.int .i64 0, .int .i64 4]) ∧ Below w.heap.size w w' := by
  have hp1 := (h.alloc (.cells #[.int .i64 3, .int .i64 task] 102)).alloc (.cells #[.int .i64 1, .int .i64 machine] 102)
  have hb1 : Below w.heap.size w ((w.alloc (.cells #[.int .i64 3, .int .i64 task] 102)).alloc (.cells #[.int .i64 1, .int .i64 machine] 102)) := ((Below.refl _ _).alloc (Nat.le_refl _) _).alloc (by simp) _
  have Ht := hid ht
  have Hm := hid hm
  have hmb : (machine == -1) = false := by simpa using hm1
  clear ht hm hm1
  go_enter Tryz.func38, Tryz.ntmps38
  go_wp2_with fail
  refine (has_any hp1 3 task).mono ?_
  rw [Ht.out]
  rintro e w2 ⟨rfl, hb2⟩
  obtain ⟨k1, k2, k3, k4⟩ := boxes2 hb2
  go_wp2_with fail
  refine (has_any (hp1.below hb2) 1 machine).mono ?_
  rw [Hm.out]
  rintro e w3 ⟨rfl, hb3⟩
  go_wp2
  go_ret2
  exact ⟨rfl, next2 (next2 hb1 hb2) hb3⟩

set_option maxHeartbeats 1000000 in
theorem cost_on (h : PlanAt w pb b0 b1 b2 b3 l0 l1 l2 l3) (task machine j1 j2 s a r1 r2 s' c' : Int) (hm1 : machine ≠ -1) (ht : get (3, task) l0 = some ((j1, j2), s, a)) (hm : get (1, machine) l0 = some ((r1, r2), s', c')) (ha0 : 0 ≤ a) (ha1 : a ≤ 1000) (hC : Costs l3) :
    Calls Tryz.prog 38 #[.pointer (some ⟨pb, 0, none⟩), .int .i64 task, .int .i64 machine] w fun e w' => e = .returned (.tuple #[.int .i64 (lesser (lesser a (get ((3, task), (1, machine)) l3)) (get ((3, task), (r1, r2)) l3) + movesTo l1 (3, task) (1, machine)), .int .i64 0]) ∧ Below w.heap.size w w' := by
  have hp1 := (h.alloc (.cells #[.int .i64 3, .int .i64 task] 102)).alloc (.cells #[.int .i64 1, .int .i64 machine] 102)
  have hb1 : Below w.heap.size w ((w.alloc (.cells #[.int .i64 3, .int .i64 task] 102)).alloc (.cells #[.int .i64 1, .int .i64 machine] 102)) := ((Below.refl _ _).alloc (Nat.le_refl _) _).alloc (by simp) _
  have Hc := hid (fun (w3 : World) (hb : Below ((w.alloc (.cells #[.int .i64 3, .int .i64 task] 102)).alloc (.cells #[.int .i64 1, .int .i64 machine] 102)).heap.size ((w.alloc (.cells #[.int .i64 3, .int .i64 task] 102)).alloc (.cells #[.int .i64 1, .int .i64 machine] 102)) w3) => costOn_any (hp1.below hb) 3 task 1 machine j1 j2 s a r1 r2 s' c' ht hm ha0 ha1 hC)
  have Ht := hid ht
  have Hm := hid hm
  have hmb : (machine == -1) = false := by simpa using hm1
  clear ht hm hm1
  generalize lesser (lesser a (get ((3, task), (1, machine)) l3)) (get ((3, task), (r1, r2)) l3) + movesTo l1 (3, task) (1, machine) = r at Hc ⊢
  go_enter Tryz.func38, Tryz.ntmps38
  go_wp2_with fail
  refine (has_any hp1 3 task).mono ?_
  rw [Ht.out]
  rintro e w2 ⟨rfl, hb2⟩
  obtain ⟨k1, k2, k3, k4⟩ := boxes2 hb2
  go_wp2_with fail
  refine (has_any (hp1.below hb2) 1 machine).mono ?_
  rw [Hm.out]
  rintro e w3 ⟨rfl, hb3⟩
  obtain ⟨k5, k6, k7, k8⟩ := boxes2 (next2 hb2 hb3)
  go_wp2_with fail
  refine (Hc.out _ (next2 hb2 hb3)).mono ?_
  rintro e w4 ⟨rfl, hb4⟩
  go_wp2
  go_ret2
  exact ⟨rfl, next2 (next2 (next2 hb1 hb2) hb3) hb4⟩

theorem box2 {w w3 : World} {x1 x2 : Value} (h : Below (w.alloc (.cells #[x1, x2] 102)).heap.size (w.alloc (.cells #[x1, x2] 102)) w3) :
    w3.cell? ⟨w.heap.size, 0, none⟩ = some x1 ∧ w3.cell? ⟨w.heap.size, 1, none⟩ = some x2 := by
  have e1 : ∀ i, w3.cell? ⟨w.heap.size, i, none⟩ = #[x1, x2][i]? := fun i => by
    rw [h.cell (p := ⟨w.heap.size, i, none⟩) (by simp), World.cell?_alloc_at _ _ _ _ rfl]
  exact ⟨by rw [e1]; rfl, by rw [e1]; rfl⟩

set_option maxHeartbeats 1000000 in
theorem where_no_task (h : PlanAt w pb b0 b1 b2 b3 l0 l1 l2 l3) (task : Int) (ht : get (3, task) l0 = none) :
    Calls Tryz.prog 40 #[.pointer (some ⟨pb, 0, none⟩), .int .i64 task] w fun e w' => e = .returned (.tuple #[.int .i64 0, .int .i64 4]) ∧ Below w.heap.size w w' := by
  have hp1 := h.alloc (.cells #[.int .i64 3, .int .i64 task] 102)
  have hb1 : Below w.heap.size w (w.alloc (.cells #[.int .i64 3, .int .i64 task] 102)) := (Below.refl _ _).alloc (Nat.le_refl _) _
  have Ht := hid ht
  clear ht
  go_enter Tryz.func40, Tryz.ntmps40
  go_wp2_with fail
  refine (has_any hp1 3 task).mono ?_
  rw [Ht.out]
  rintro e w2 ⟨rfl, hb2⟩
  go_wp2
  go_ret2
  exact ⟨rfl, next2 hb1 hb2⟩

set_option maxRecDepth 100000 in
set_option maxHeartbeats 1000000 in
theorem where_none (h : PlanAt w pb b0 b1 b2 b3 l0 l1 l2 l3) (task : Int) (ht : (get (3, task) l0).isSome = true) (hr : get (3, task) l1 = none) :
    Calls Tryz.prog 40 #[.pointer (some ⟨pb, 0, none⟩), .int .i64 task] w fun e w' => e = .returned (.tuple #[.int .i64 (-1), .int .i64 0]) ∧ Below w.heap.size w w' := by
  have hp1 := h.alloc (.cells #[.int .i64 3, .int .i64 task] 102)
  have hb1 : Below w.heap.size w (w.alloc (.cells #[.int .i64 3, .int .i64 task] 102)) := (Below.refl _ _).alloc (Nat.le_refl _) _
  have Ht := hid ht
  have Hr := hid hr
  clear ht hr
  go_enter Tryz.func40, Tryz.ntmps40
  go_wp2_with fail
  refine (has_any hp1 3 task).mono ?_
  rw [Ht.out]
  rintro e w2 ⟨rfl, hb2⟩
  have hp2 := hp1.below hb2
  obtain ⟨k1, k2⟩ := box2 hb2
  have c1 := hp2.c1
  have hpw := hp2.lt
  have hz1 : w.heap.size < w2.heap.size := by have := hb2.size; simp at this; omega
  have e4 : (Instr.lookup 55 (.map (some b1)) (.agg #[.int .i64 3, .int .i64 task]) true).run Tryz.prog w2.drew = .ok (.tuple #[.agg #[.int .i64 0, .int .i64 0], .bool false]) w2.drew := run_look_no kt79 Tryz.underlying55 hp2.m1.drew (3, task) Hr.out _ (zero79 _)
  have e5 : ∀ o, (Instr.lookup 55 (.map (some b1)) (.agg #[.int .i64 3, .int .i64 task]) true).run Tryz.prog (w2.alloc o).drew = .ok (.tuple #[.agg #[.int .i64 0, .int .i64 0], .bool false]) (w2.alloc o).drew := fun o => run_look_no kt79 Tryz.underlying55 (hp2.m1.alloc o).drew (3, task) Hr.out _ (zero79 _)
  go_wp2
  go_region
  all_goals go_wp2
  all_goals
    go_ret2
    exact ⟨rfl, next2 (next2 hb1 hb2) (((Below.refl _ _).alloc (Nat.le_refl _) _).drew)⟩

set_option maxRecDepth 100000 in
set_option maxHeartbeats 1000000 in
theorem where_on (h : PlanAt w pb b0 b1 b2 b3 l0 l1 l2 l3) (task m1 m2 : Int) (ht : (get (3, task) l0).isSome = true) (hr : get (3, task) l1 = some (m1, m2)) :
    Calls Tryz.prog 40 #[.pointer (some ⟨pb, 0, none⟩), .int .i64 task] w fun e w' => e = .returned (.tuple #[.int .i64 m2, .int .i64 0]) ∧ Below w.heap.size w w' := by
  have hp1 := h.alloc (.cells #[.int .i64 3, .int .i64 task] 102)
  have hb1 : Below w.heap.size w (w.alloc (.cells #[.int .i64 3, .int .i64 task] 102)) := (Below.refl _ _).alloc (Nat.le_refl _) _
  have Ht := hid ht
  have Hr := hid hr
  clear ht hr
  go_enter Tryz.func40, Tryz.ntmps40
  go_wp2_with fail
  refine (has_any hp1 3 task).mono ?_
  rw [Ht.out]
  rintro e w2 ⟨rfl, hb2⟩
  have hp2 := hp1.below hb2
  obtain ⟨k1, k2⟩ := box2 hb2
  have c1 := hp2.c1
  have hpw := hp2.lt
  have hz1 : w.heap.size < w2.heap.size := by have := hb2.size; simp at this; omega
  have e4 : (Instr.lookup 55 (.map (some b1)) (.agg #[.int .i64 3, .int .i64 task]) true).run Tryz.prog w2.drew = .ok (.tuple #[.agg #[.int .i64 m1, .int .i64 m2], .bool true]) w2.drew := run_look_yes kt79 Tryz.underlying55 hp2.m1.drew (3, task) Hr.out _ (zero79 _)
  have e5 : ∀ o, (Instr.lookup 55 (.map (some b1)) (.agg #[.int .i64 3, .int .i64 task]) true).run Tryz.prog (w2.alloc o).drew = .ok (.tuple #[.agg #[.int .i64 m1, .int .i64 m2], .bool true]) (w2.alloc o).drew := fun o => run_look_yes kt79 Tryz.underlying55 (hp2.m1.alloc o).drew (3, task) Hr.out _ (zero79 _)
  go_wp2
  go_region
  all_goals go_wp2
  all_goals
    go_ret2
    exact ⟨rfl, next2 (next2 hb1 hb2) (((Below.refl _ _).alloc (Nat.le_refl _) _).drew)⟩
end
end Go.Proofs.YtjdindfjfpdikaaGreat
namespace Go.Proofs.YtjdindfjfpdikaaGreat
open Go.MapKept (heap_set)
open Go.RowKit

theorem filter_erase {α : Type} (p : α → Bool) : ∀ (l : List α) (k : Nat) (x : α), l[k]? = some x → p x = false → (l.eraseIdx k).filter p = l.filter p
  | [], _, _, h, _ => by simp at h
  | y :: r, 0, x, h, hp => by
    simp at h
    subst h
    simp [hp]
  | y :: r, k + 1, x, h, hp => by
    have := filter_erase p r k x (by simpa using h) hp
    simp [List.filter_cons, this]

section
variable {K V : Type} [DecidableEq K] {ek : K → Value} {ev : V → Value} {w : World} {b r : Nat} {l rest : List (K × V)} {P : Program} {kt et t : TypeId}

/-- 'delete(m, k)' in the midst of a range over m, of what has come already. -/
theorem run_del_ranging (KT : KeyTy P kt K ek) (ht : P.underlying t = some (.map kt et)) (h : Ranging ek ev w b r l rest) (hn : KN l) (a : K) (ha : a ∉ rest.map (·.1)) (ty : TypeId) :
    (Builtin.delete_ #[t, kt] ty #[.map (some b), ek a]).run P w = .ok (.tuple #[]) (dropped P t kt b (ek a) w) ∧ Ranging ek ev (dropped P t kt b (ek a) w) b r (del a l) rest ∧ w.grownBy (dropped P t kt b (ek a) w) (some b) := by
  have h0 := run_del KT ht h.mapAt hn a ty
  obtain ⟨es, clock, seen, hb, hl, hs, hnb, hr, hrest⟩ := h
  have hne : b ≠ r := fun e => by rw [e, hr] at hb; cases hb
  have hr' : (dropped P t kt b (ek a) w).heap[r]? = some (.mapIter (some b) clock seen clock) := by
    rw [h0.2.2.block r (Array.getElem?_eq_some_iff.1 hr).1 (by simpa using hne.symm)]; exact hr
  refine ⟨h0.1, ?_, h0.2.2⟩
  have hf := run_find KT w a es.toList l hl
  cases hp : pos a l 0 with
  | none =>
    obtain ⟨h1, _⟩ := pos_none a l 0 hp
    have hd : del a l = l := List.filter_eq_self.2 fun y hy => by simpa using h1 y hy
    have hrun : ∀ ty, (Builtin.delete_ #[t, kt] ty #[.map (some b), ek a]).run P w = .ok (.tuple #[]) { w with heap := w.heap.setIfInBounds b (.map es clock) } := fun ty => by
      simp [Builtin.delete_, run_underlying ht, MapKept.run_getObj_map hb, KT.check, hf, hp, MapKept.run_setObj_map _ hb]
    have hu : dropped P t kt b (ek a) w = { w with heap := w.heap.setIfInBounds b (.map es clock) } := by unfold dropped; rw [hrun]
    rw [hd]
    exact ⟨es, clock, seen, by rw [hu]; exact (heap_set hb).1, hl, hs, hnb, hr', hrest⟩
  | some p =>
    obtain ⟨j, u⟩ := p
    obtain ⟨k, rfl, h1, _⟩ := pos_some a l 0 j u hp
    have hrun : ∀ ty, (Builtin.delete_ #[t, kt] ty #[.map (some b), ek a]).run P w = .ok (.tuple #[]) { w with heap := w.heap.setIfInBounds b (.map (es.eraseIdxIfInBounds k) clock) } := fun ty => by
      simp [Builtin.delete_, run_underlying ht, MapKept.run_getObj_map hb, KT.check, hf, hp, MapKept.run_setObj_map _ hb]
    have hu : dropped P t kt b (ek a) w = { w with heap := w.heap.setIfInBounds b (.map (es.eraseIdxIfInBounds k) clock) } := by unfold dropped; rw [hrun]
    have he : (es.eraseIdxIfInBounds k).toList = es.toList.eraseIdx k := by simp
    rw [filter_eraseIdx a l k u hn h1]
    refine ⟨_, clock, seen, by rw [hu]; exact (heap_set hb).1, ?_, ?_, ?_, hr', ?_⟩
    · rw [he, ChangeMaps.map_eraseIdx, ChangeMaps.map_eraseIdx, hl]
    · rw [he]; exact fun x hx => hs x ((List.eraseIdx_sublist _ _).subset hx)
    · rw [he]; exact hnb.sublist ((List.eraseIdx_sublist _ _).map _)
    · have hkv : ∃ e0, es.toList[k]? = some e0 ∧ e0.key = ek a := by
        have h3 := congrArg (fun z => z[k]?) hl
        simp only [List.getElem?_map, h1, Option.map_some] at h3
        cases he0 : es.toList[k]? with
        | none => rw [he0] at h3; simp at h3
        | some e0 =>
          rw [he0] at h3
          simp only [Option.map_some, Option.some.injEq, Prod.mk.injEq] at h3
          exact ⟨e0, rfl, h3.1⟩
      obtain ⟨e0, he0, hek⟩ := hkv
      have hseen : (!seen.contains e0.born) = false := by
        cases hq : (!seen.contains e0.born) with
        | false => rfl
        | true =>
          exfalso
          have hm : e0 ∈ (leftOf es seen).toList := by
            unfold leftOf
            simp only [Array.toList_filter, List.mem_filter]
            exact ⟨List.mem_of_getElem? he0, hq⟩
          have := List.mem_map_of_mem (f := fun e : MapEntry => (e.key, e.val)) hm
          rw [hrest] at this
          obtain ⟨y, hy, hye⟩ := List.mem_map.1 this
          simp only [Prod.mk.injEq] at hye
          have : y.1 = a := KT.inj _ _ (hye.1.trans hek)
          exact ha (List.mem_map.2 ⟨y, hy, this⟩)
      unfold leftOf at hrest ⊢
      simp only [Array.toList_filter] at hrest ⊢
      rw [he, filter_erase _ _ _ _ he0 hseen]
      exact hrest
end

theorem eql79 (w : World) (a b : Int × Int) : (binOp .eql 102 (tv a) (tv b)).run Tryz.prog w = .ok (.bool (decide (a = b))) w := by
  have h := eq79 w a b
  unfold Op.equal Op.maxDepth at h
  unfold tv at h ⊢
  rw [run_eql_struct, h]
  rfl

section
variable {w : World} {pb b0 b1 b2 b3 : Nat} {l0 : Things} {l1 : Runs} {l2 : Waits} {l3 : Prefs}

set_option maxHeartbeats 1000000 in
/-- 'p.busy(t)'. -/
theorem busy_any (h : PlanAt w pb b0 b1 b2 b3 l0 l1 l2 l3) (a1 a2 : Int) :
    Calls Tryz.prog 59 #[.pointer (some ⟨pb, 0, none⟩), .agg #[.int .i64 a1, .int .i64 a2]] w fun e w' => e = .returned (.bool (l0.any fun x => decide (x.2.1 = (a1, a2)))) ∧ Below w.heap.size w w' := by
  have hpb := h.lt
  have c0 := h.c0
  have m0 := (h.alloc (.cells #[.int .i64 a1, .int .i64 a2] 102)).m0
  have hb1 : Below w.heap.size w (w.alloc (.cells #[.int .i64 a1, .int .i64 a2] 102)) := (Below.refl _ _).alloc (Nat.le_refl _) _
  clear h
  go_enter Tryz.func59, Tryz.ntmps59
  go_wp2_with (first
    | (at_range; refine wpList_range_mine _ rfl _ 54 rfl Tryz.underlying54 rfl m0 ?_; intro ob hrg0)
    | go_in)
  go_frame
  rw [show (w.alloc (.cells #[.int .i64 a1, .int .i64 a2] 102)).heap.size = w.heap.size + 1 by simp] at hrg0 ⊢
  go_loopg [4] l0.length (fun gk v wr => ∃ rest, rest.length ≤ gk ∧ Ranging tv fv wr b0 (w.heap.size + 1) l0 rest ∧ (l0.any fun x => decide (x.2.1 = (a1, a2))) = (rest.any fun x => decide (x.2.1 = (a1, a2))) ∧ Below w.heap.size w wr ∧ wr.cell? ⟨w.heap.size, 0, none⟩ = some (.int .i64 a1) ∧ wr.cell? ⟨w.heap.size, 1, none⟩ = some (.int .i64 a2) ∧ w.heap.size < wr.heap.size)
  case atStart =>
    refine ⟨l0, Nat.le_refl _, hrg0, rfl, hb1.alloc (by simp) _, ?_, ?_, by simp <;> omega⟩
    · rw [World.cell?_alloc_past _ _ _ (by simp), World.cell?_alloc_at _ _ _ _ rfl]; rfl
    · rw [World.cell?_alloc_past _ _ _ (by simp), World.cell?_alloc_at _ _ _ _ rfl]; rfl
  case round =>
    obtain ⟨rest, hgk, hrg, hany, hbel, k1, k2, hz⟩ := hrel
    have Hany := hid hany
    clear hany
    go_wp2_with (first
      | (at_next; refine wpList_next_mine _ rfl _ rfl rfl hrg ?_ ?_)
      | go_in)
    · intro hr0
      subst hr0
      go_wp2
      go_ret
      exact ⟨ret_bool (by rw [Hany.out]; rfl), hbel⟩
    · intro x1 x2 f1 f2 f3 f4 rest' w1 hp hen hrg1 hg1 hs1
      simp only [tv, fv] at hen ⊢
      have hsz : wr.heap.size ≤ w1.heap.size := by omega
      clear hs1
      have hz1 : w.heap.size < w1.heap.size := by omega
      have k3 : w1.cell? ⟨w.heap.size, 0, none⟩ = some (.int .i64 a1) := hg1.cell k1 (by simp)
      have k4 : w1.cell? ⟨w.heap.size, 1, none⟩ = some (.int .i64 a2) := hg1.cell k2 (by simp)
      have hbel1 : Below w.heap.size w w1 := hbel.grown hg1 hbel.size (fun j hj => by cases hj; omega)
      have Hp := hid hp
      have hpl := hp.length_eq
      simp only [List.length_cons] at hpl
      have hpl' : rest'.length < rest.length := by omega
      clear hp hpl
      by_cases hq : (f1, f2) = (a1, a2)
      · have he : ∀ w' : World, (binOp .eql 102 (.agg #[.int .i64 f1, .int .i64 f2]) (.agg #[.int .i64 a1, .int .i64 a2])).run Tryz.prog w' = .ok (.bool true) w' := fun w' => by have := eql79 w' (f1, f2) (a1, a2); rw [decide_eq_true hq] at this; exact this
        have Hq := hid hq
        clear hq
        go_wp2
        go_ret
        refine ⟨ret_bool ?_, hbel1.alloc hbel1.size _⟩
        rw [Hany.out, Hp.out.any_eq]
        simp [Hq.out]
      · have he : ∀ w' : World, (binOp .eql 102 (.agg #[.int .i64 f1, .int .i64 f2]) (.agg #[.int .i64 a1, .int .i64 a2])).run Tryz.prog w' = .ok (.bool false) w' := fun w' => by have := eql79 w' (f1, f2) (a1, a2); rw [decide_eq_false hq] at this; exact this
        have Hq := hid hq
        clear hq
        go_wp2
        go_roundg rest'.length
        case measure => omega
        case rel =>
          refine ⟨rest', Nat.le_refl _, hrg1.kept (World.grownBy_alloc _ _ none) (by simp) (by simp), ?_, hbel1.alloc hbel1.size _, ?_, ?_, by simp; omega⟩
          · rw [Hany.out, Hp.out.any_eq]
            simp only [List.any_cons]
            rw [decide_eq_false Hq.out, Bool.false_or]
          · rw [World.cell?_alloc_past _ _ _ hz1]; exact k3
          · rw [World.cell?_alloc_past _ _ _ hz1]; exact k4
end
end Go.Proofs.YtjdindfjfpdikaaGreat
namespace Go.Proofs.YtjdindfjfpdikaaGreat
open Go.RowKit

theorem wpList_del_mine {P : Program} (w : World) {ops : Array Oper} {rs : List Oper} {o : Oper} {a : Act} {Q : Exit → Act → World → Prop} (hg : o.guard = none) (m x : Operand) (t kt : TypeId)
    (hop : o.op = Op.call { callee := Callee.builtin Builtin.delete, args := #[m, x], argTypes := #[t, kt] }) (b : Nat) (key : Value) (hm : a.eval m = .map (some b)) (hx : a.eval x = key) (w' : World)
    (hrun : ∀ ty, (Builtin.delete_ #[t, kt] ty #[.map (some b), key]).run P w = .ok (.tuple #[]) w') (hK : wpList P ops Q rs (a.put o.dst (.tuple #[])) w') : wpList P ops Q (o :: rs) a w := by
  refine wpList_plain hg fun K' hK' => ?_
  unfold Oper.wp execOp
  simp only [hop, resolve, invoke, builtin, Sem.run_bind, Sem.run_pure, Result.andThen_ok, List.map_toArray, List.map_cons, List.map_nil, hm, hx, hrun]
  exact hK' _ _ hK

theorem step_del {P : Program} {ops : Array Oper} {o : Oper} {a : Act} {w : World} {K : Act → World → Prop} {Q : Exit → Act → World → Prop} {E : Prop} (hg : o.guard = none) (m x : Operand) (t kt : TypeId)
    (hop : o.op = Op.call { callee := Callee.builtin Builtin.delete, args := #[m, x], argTypes := #[t, kt] }) (b : Nat) (key : Value) (hm : a.eval m = .map (some b)) (hx : a.eval x = key) (w' : World)
    (hrun : ∀ ty, (Builtin.delete_ #[t, kt] ty #[.map (some b), key]).run P w = .ok (.tuple #[]) w') (hK : K (a.put o.dst (.tuple #[])) w') :
    if Region.wanted o (yielded ops a.tmps) = true then Oper.wp P o a w K Q else E := by
  have hw : Region.wanted o (yielded ops a.tmps) = true := by simp [Region.wanted, hg]
  rw [if_pos hw]
  unfold Oper.wp execOp
  simp only [hop, resolve, invoke, builtin, Sem.run_bind, Sem.run_pure, Result.andThen_ok, List.map_toArray, List.map_cons, List.map_nil, hm, hx, hrun]
  exact hK

theorem grown_of_below {w w' : World} (h : Below w.heap.size w w') (row : Option Nat) : w.grownBy w' row := ⟨h.os, h.tape, h.output, h.size, fun k hk _ => h.block k hk⟩

/-- Does a wish speak of a thing? -/
def speaks (t : Int × Int) (k : (Int × Int) × (Int × Int)) : Bool := decide (k.1 = t) || decide (k.2 = t)

set_option maxHeartbeats 1000000 in
theorem closure102 (k1 k2 k3 k4 n t1 t2 : Int) (tb : Nat) (w : World) (c0 : w.cell? ⟨tb, 0, none⟩ = some (.int .i64 t1)) (c1 : w.cell? ⟨tb, 1, none⟩ = some (.int .i64 t2)) (hz : tb < w.heap.size) :
    Calls Tryz.prog 85 #[.agg #[.int .i64 k1, .int .i64 k2, .int .i64 k3, .int .i64 k4], .int .i64 n, .pointer (some ⟨tb, 0, none⟩)] w fun e w' => e = .returned (.bool (speaks (t1, t2) ((k1, k2), (k3, k4)))) ∧ Below w.heap.size w w' := by
  have e1 : ∀ w' : World, (binOp .eql 102 (.agg #[.int .i64 k1, .int .i64 k2]) (.agg #[.int .i64 t1, .int .i64 t2])).run Tryz.prog w' = .ok (.bool (decide ((k1, k2) = (t1, t2)))) w' := fun w' => eql79 w' (k1, k2) (t1, t2)
  have e2 : ∀ w' : World, (binOp .eql 102 (.agg #[.int .i64 k3, .int .i64 k4]) (.agg #[.int .i64 t1, .int .i64 t2])).run Tryz.prog w' = .ok (.bool (decide ((k3, k4) = (t1, t2)))) w' := fun w' => eql79 w' (k3, k4) (t1, t2)
  unfold speaks
  generalize decide (((k1, k2), (k3, k4)).2 = (t1, t2)) = q2 at e2 ⊢
  cases q1 : decide (((k1, k2), (k3, k4)).1 = (t1, t2)) with
  | true =>
    rw [show decide ((k1, k2) = (t1, t2)) = true from q1] at e1
    clear q1
    go_enter Tryz.func85, Tryz.ntmps85
    go_wp2
    go_ret
    exact ⟨rfl, (Below.refl _ _).alloc (Nat.le_refl _) _⟩
  | false =>
    rw [show decide ((k1, k2) = (t1, t2)) = false from q1] at e1
    clear q1
    go_enter Tryz.func85, Tryz.ntmps85
    go_wp2
    go_ret
    exact ⟨by simp, (Below.refl _ _).alloc (Nat.le_refl _) _⟩

section
variable {K V : Type} [DecidableEq K]
/-- What is left of a list when some of it has been gone through. -/
def leftBy (keep : K → Bool) (rest l : List (K × V)) : List (K × V) := l.filter fun x => keep x.1 || decide (x.1 ∈ rest.map (·.1))

theorem leftBy_start (keep : K → Bool) (l : List (K × V)) : leftBy keep l l = l :=
  List.filter_eq_self.2 fun x hx => by simp only [Bool.or_eq_true, decide_eq_true_eq]; exact Or.inr (List.mem_map_of_mem hx)
theorem leftBy_end (keep : K → Bool) (l : List (K × V)) : leftBy keep [] l = l.filter fun x => keep x.1 := by simp [leftBy]
theorem KN.leftBy {keep : K → Bool} {rest l : List (K × V)} (h : KN l) : KN (leftBy keep rest l) := h.sublist (List.filter_sublist.map _)
theorem leftBy_keep {keep : K → Bool} {rest rest' l : List (K × V)} {x : K × V} (hp : rest.Perm (x :: rest')) (hk : keep x.1 = true) : leftBy keep rest l = leftBy keep rest' l := by
  unfold leftBy
  refine List.filter_congr fun y _ => ?_
  have hm : y.1 ∈ rest.map (·.1) ↔ y.1 = x.1 ∨ y.1 ∈ rest'.map (·.1) := by
    rw [(hp.map (·.1)).mem_iff]; simp
  by_cases hy : y.1 = x.1
  · simp [hy, hk]
  · have : decide (y.1 ∈ rest.map (·.1)) = decide (y.1 ∈ rest'.map (·.1)) := decide_eq_decide.2 (by rw [hm]; simp only [hy, false_or])
    rw [this]
theorem leftBy_drop {keep : K → Bool} {rest rest' l : List (K × V)} {x : K × V} (hp : rest.Perm (x :: rest')) (hn : (rest.map (·.1)).Nodup) (hk : keep x.1 = false) : del x.1 (leftBy keep rest l) = leftBy keep rest' l := by
  unfold leftBy del
  rw [List.filter_filter]
  refine List.filter_congr fun y _ => ?_
  have hm : y.1 ∈ rest.map (·.1) ↔ y.1 = x.1 ∨ y.1 ∈ rest'.map (·.1) := by
    rw [(hp.map (·.1)).mem_iff]; simp
  have hx : x.1 ∉ rest'.map (·.1) := by
    have := (hp.map (·.1)).nodup_iff.1 hn
    simp only [List.map_cons, List.nodup_cons] at this
    exact this.1
  by_cases hy : y.1 = x.1
  · have : y.1 ∉ rest'.map (·.1) := by rw [hy]; exact hx
    simp [hy, hk]
    simpa [hy] using this
  · have : decide (y.1 ∈ rest.map (·.1)) = decide (y.1 ∈ rest'.map (·.1)) := decide_eq_decide.2 (by rw [hm]; simp only [hy, false_or])
    rw [this]
    simp [hy]
end

set_option maxHeartbeats 2000000 in
/-- maps.DeleteFunc, of the wishes that speak of a thing. -/
theorem drop101 (t1 t2 : Int) (tb b : Nat) (l3 : Prefs) (w : World) (m3 : MapAt wv iv w b l3) (hn : KN l3) (c0 : w.cell? ⟨tb, 0, none⟩ = some (.int .i64 t1)) (c1 : w.cell? ⟨tb, 1, none⟩ = some (.int .i64 t2)) (hz : tb < w.heap.size) (hne : tb ≠ b) :
    Calls Tryz.prog 84 #[.map (some b), .func (.func 85) #[] #[.pointer (some ⟨tb, 0, none⟩)]] w fun e w' => e = .returned (.tuple #[]) ∧ MapAt wv iv w' b (l3.filter fun x => !speaks (t1, t2) x.1) ∧ w.grownBy w' (some b) := by
  have hb := m3.lt
  go_enter Tryz.func84, Tryz.ntmps84
  go_wp2_with (first
    | (at_range; refine wpList_range_mine _ rfl _ 57 rfl Tryz.underlying57 rfl m3 ?_; intro ob hrg0)
    | go_in)
  go_frame
  go_loopg [4] l3.length (fun gk _ wr => ∃ rest, rest.length ≤ gk ∧ Ranging wv iv wr b w.heap.size (leftBy (fun k => !speaks (t1, t2) k) rest l3) rest ∧ (rest.map (·.1)).Nodup ∧ w.grownBy wr (some b))
  case atStart => exact ⟨l3, Nat.le_refl _, by rw [leftBy_start]; exact hrg0, hn, World.grownBy_alloc _ _ _⟩
  case round =>
    obtain ⟨rest, hgk, hrg, hnd, hg⟩ := hrel
    go_wp2_with (first
      | (at_next; refine wpList_next_mine _ rfl _ rfl rfl hrg ?_ ?_)
      | go_in)
    · intro hr0
      subst hr0
      go_wp2
      go_end0
      exact ⟨rfl, by have := hrg.mapAt; rw [leftBy_end] at this; exact this, hg⟩
    · intro k1 k2 k3 k4 n rest' w1 hp hen hrg1 hg1 hs1
      simp only [wv, iv] at hen ⊢
      have hpl := hp.length_eq
      simp only [List.length_cons] at hpl
      have hpl' : rest'.length < rest.length := by omega
      have hz1 : tb < w1.heap.size := by have := hg.size; omega
      have hg2 : w.grownBy w1 (some b) := hg.andThen hg1 (fun j hj => by cases hj; exact Or.inl (Nat.le_refl _))
      have k5 : w1.cell? ⟨tb, 0, none⟩ = some (.int .i64 t1) := hg2.cell c0 (by simpa using hne)
      have k6 : w1.cell? ⟨tb, 1, none⟩ = some (.int .i64 t2) := hg2.cell c1 (by simpa using hne)
      have hsz : w.heap.size ≤ w1.heap.size := hg2.size
      have Hp := hid hp
      clear hp hpl hs1
      have hnd' : (rest'.map (·.1)).Nodup := by
        have := (Hp.out.map (·.1)).nodup_iff.1 hnd
        exact (List.nodup_cons.1 this).2
      have hx : ((k1, k2), (k3, k4)) ∉ rest'.map (·.1) := by
        have := (Hp.out.map (·.1)).nodup_iff.1 hnd
        exact (List.nodup_cons.1 this).1
      have Hx := hid (And.intro hnd' hx)
      clear hnd' hx
      cases hs : speaks (t1, t2) ((k1, k2), (k3, k4)) with
      | false =>
        have Hs := hid hs
        clear hs
        go_wp2_with (go_at_call 85; refine (closure102 k1 k2 k3 k4 n t1 t2 tb _ (by go_simp) (by go_simp) (by simp; omega)).mono ?_; rw [Hs.out]; rintro e w2 ⟨rfl, hb2⟩)
        go_roundg rest'.length
        case measure => omega
        case rel =>
          have hb3 : Below w1.heap.size w1 w2 := next2 ((Below.refl _ _).alloc (Nat.le_refl _) _) hb2
          refine ⟨rest', Nat.le_refl _, ?_, Hx.out.1, hg2.andThen (grown_of_below hb3 none) (by simp)⟩
          rw [← leftBy_keep Hp.out (by simp [Hs.out])]
          exact hrg1.kept (grown_of_below hb3 none) (by simp) (by simp)
      | true =>
        have Hs := hid hs
        clear hs
        go_wp2_with (first
          | (go_at_call 85; refine (closure102 k1 k2 k3 k4 n t1 t2 tb _ (by go_simp) (by go_simp) (by simp; omega)).mono ?_; rw [Hs.out]; rintro e w2 ⟨rfl, hb2⟩; have hb3 : Below w1.heap.size w1 w2 := next2 ((Below.refl _ _).alloc (Nat.le_refl _) _) hb2; obtain ⟨q1, q2, q3, q4⟩ := box4 hb2; have hrg2 := hrg1.kept (grown_of_below hb3 none) (by simp) (by simp))
          | (at_delete; refine wpList_del_mine _ rfl _ _ 57 109 rfl b _ rfl rfl (dropped Tryz.prog 57 109 b (wv ((k1, k2), (k3, k4))) w2) (fun ty => (run_del_ranging kt86 Tryz.underlying57 hrg2 hn.leftBy ((k1, k2), (k3, k4)) Hx.out.2 ty).1) ?_))
        go_wp2
        go_roundg rest'.length
        case measure => omega
        case rel =>
          have hd := run_del_ranging kt86 Tryz.underlying57 hrg2 hn.leftBy ((k1, k2), (k3, k4)) Hx.out.2 0
          refine ⟨rest', Nat.le_refl _, ?_, Hx.out.1, (hg2.andThen (grown_of_below hb3 none) (by simp)).andThen hd.2.2 (fun j hj => Or.inr hj)⟩
          rw [← leftBy_drop Hp.out hnd (by simp [Hs.out])]
          exact hd.2.1
end Go.Proofs.YtjdindfjfpdikaaGreat
namespace Go.Proofs.YtjdindfjfpdikaaGreat
open Go.RowKit

set_option maxHeartbeats 1000000 in
theorem closure100 (k1 k2 k3 k4 t1 t2 : Int) (tb : Nat) (w : World) (c0 : w.cell? ⟨tb, 0, none⟩ = some (.int .i64 t1)) (c1 : w.cell? ⟨tb, 1, none⟩ = some (.int .i64 t2)) (hz : tb < w.heap.size) :
    Calls Tryz.prog 83 #[.agg #[.int .i64 k1, .int .i64 k2], .agg #[.int .i64 k3, .int .i64 k4], .pointer (some ⟨tb, 0, none⟩)] w fun e w' => e = .returned (.bool (speaks (t1, t2) ((k1, k2), (k3, k4)))) ∧ Below w.heap.size w w' := by
  have e1 : ∀ w' : World, (binOp .eql 102 (.agg #[.int .i64 k1, .int .i64 k2]) (.agg #[.int .i64 t1, .int .i64 t2])).run Tryz.prog w' = .ok (.bool (decide ((k1, k2) = (t1, t2)))) w' := fun w' => eql79 w' (k1, k2) (t1, t2)
  have e2 : ∀ w' : World, (binOp .eql 102 (.agg #[.int .i64 k3, .int .i64 k4]) (.agg #[.int .i64 t1, .int .i64 t2])).run Tryz.prog w' = .ok (.bool (decide ((k3, k4) = (t1, t2)))) w' := fun w' => eql79 w' (k3, k4) (t1, t2)
  unfold speaks
  generalize decide (((k1, k2), (k3, k4)).2 = (t1, t2)) = q2 at e2 ⊢
  cases q1 : decide (((k1, k2), (k3, k4)).1 = (t1, t2)) with
  | true =>
    rw [show decide ((k1, k2) = (t1, t2)) = true from q1] at e1
    clear q1
    go_enter Tryz.func83, Tryz.ntmps83
    go_wp2
    go_ret
    exact ⟨rfl, by repeat (first | exact Below.refl _ _ | refine Below.alloc ?_ (by simp <;> omega) _)⟩
  | false =>
    rw [show decide ((k1, k2) = (t1, t2)) = false from q1] at e1
    clear q1
    go_enter Tryz.func83, Tryz.ntmps83
    go_wp2
    go_ret
    exact ⟨by simp, by repeat (first | exact Below.refl _ _ | refine Below.alloc ?_ (by simp <;> omega) _)⟩

theorem box_two {w w2 : World} {x y : Value} {t : TypeId} {o2 : Obj} (hb : Below ((w.alloc (.cells #[x, y] t)).alloc o2).heap.size ((w.alloc (.cells #[x, y] t)).alloc o2) w2) :
    w2.cell? ⟨w.heap.size, 0, none⟩ = some x ∧ w2.cell? ⟨w.heap.size, 1, none⟩ = some y ∧ w.heap.size < w2.heap.size := by
  have hz : ((w.alloc (.cells #[x, y] t)).alloc o2).heap.size = w.heap.size + 1 + 1 := by simp
  have hs := hb.size
  rw [hz] at hs
  have h1 : w2.heap[w.heap.size]? = some (.cells #[x, y] t) := by
    rw [hb.block _ (by omega), Below.heap_alloc _ _ _ (by simp)]
    exact (MapKept.heap_alloc w _).1
  exact ⟨by simp [World.cell?, h1], by simp [World.cell?, h1], by omega⟩

/-- Which tasks stay when something goes: by their keys. -/
def keepR (t : Int × Int) (l1 : Runs) (k : Int × Int) : Bool := match get k l1 with
  | some m => !speaks t (k, m)
  | none => true
theorem get_there {K V : Type} [DecidableEq K] : ∀ {l : List (K × V)}, KN l → ∀ {x : K × V}, x ∈ l → get x.1 l = some x.2
  | [], _, x, hx => by cases hx
  | y :: r, hn, x, hx => by
    have hn' : KN r := (List.nodup_cons.1 hn).2
    have hy : y.1 ∉ r.map (·.1) := (List.nodup_cons.1 hn).1
    rcases List.mem_cons.1 hx with rfl | hx
    · simp [get]
    · have : x.1 ≠ y.1 := fun e => hy (by rw [← e]; exact List.mem_map_of_mem hx)
      simp only [get, if_neg this]
      exact get_there hn' hx
theorem keepR_of {t : Int × Int} {l1 : Runs} (hn : KN l1) {x : (Int × Int) × (Int × Int)} (hx : x ∈ l1) : keepR t l1 x.1 = !speaks t x := by
  unfold keepR
  rw [get_there hn hx]

set_option maxHeartbeats 2000000 in
/-- maps.DeleteFunc, of what runs. -/
theorem drop99 (t1 t2 : Int) (tb b : Nat) (l1 : Runs) (w : World) (m1 : MapAt tv tv w b l1) (hn : KN l1) (c0 : w.cell? ⟨tb, 0, none⟩ = some (.int .i64 t1)) (c1 : w.cell? ⟨tb, 1, none⟩ = some (.int .i64 t2)) (hz : tb < w.heap.size) (hne : tb ≠ b) :
    Calls Tryz.prog 82 #[.map (some b), .func (.func 83) #[] #[.pointer (some ⟨tb, 0, none⟩)]] w fun e w' => e = .returned (.tuple #[]) ∧ MapAt tv tv w' b (l1.filter fun x => !speaks (t1, t2) x) ∧ w.grownBy w' (some b) := by
  have hb := m1.lt
  go_enter Tryz.func82, Tryz.ntmps82
  go_wp2_with (first
    | (at_range; refine wpList_range_mine _ rfl _ 55 rfl Tryz.underlying55 rfl m1 ?_; intro ob hrg0)
    | go_in)
  go_frame
  go_loopg [4] l1.length (fun gk _ wr => ∃ rest, rest.length ≤ gk ∧ Ranging tv tv wr b w.heap.size (leftBy (keepR (t1, t2) l1) rest l1) rest ∧ (rest.map (·.1)).Nodup ∧ (∀ x ∈ rest, x ∈ l1) ∧ w.grownBy wr (some b))
  case atStart => exact ⟨l1, Nat.le_refl _, by rw [leftBy_start]; exact hrg0, hn, fun _ q => q, World.grownBy_alloc _ _ _⟩
  case round =>
    obtain ⟨rest, hgk, hrg, hnd, hsub, hg⟩ := hrel
    go_wp2_with (first
      | (at_next; refine wpList_next_mine _ rfl _ rfl rfl hrg ?_ ?_)
      | go_in)
    · intro hr0
      subst hr0
      go_wp2
      go_end0
      refine ⟨rfl, ?_, hg⟩
      have := hrg.mapAt
      rw [leftBy_end, List.filter_congr (q := fun x => !speaks (t1, t2) x) (fun x hx => keepR_of hn hx)] at this
      exact this
    · intro k1 k2 k3 k4 rest' w1 hp hen hrg1 hg1 hs1
      simp only [tv] at hen ⊢
      have hpl := hp.length_eq
      simp only [List.length_cons] at hpl
      have hpl' : rest'.length < rest.length := by omega
      have hz1 : tb < w1.heap.size := by have := hg.size; omega
      have hg2 : w.grownBy w1 (some b) := hg.andThen hg1 (fun j hj => by cases hj; exact Or.inl (Nat.le_refl _))
      have k5 : w1.cell? ⟨tb, 0, none⟩ = some (.int .i64 t1) := hg2.cell c0 (by simpa using hne)
      have k6 : w1.cell? ⟨tb, 1, none⟩ = some (.int .i64 t2) := hg2.cell c1 (by simpa using hne)
      have hsz : w.heap.size ≤ w1.heap.size := hg2.size
      have hkp := keepR_of (t := (t1, t2)) hn (hsub _ (hp.symm.subset List.mem_cons_self))
      have hsub' : ∀ x ∈ rest', x ∈ l1 := fun x hx => hsub x (hp.symm.subset (List.mem_cons_of_mem _ hx))
      have Hp := hid (And.intro hp (And.intro hkp hsub'))
      clear hp hpl hs1 hkp hsub' hsub
      have hnd' : (rest'.map (·.1)).Nodup := by
        have := (Hp.out.1.map (·.1)).nodup_iff.1 hnd
        exact (List.nodup_cons.1 this).2
      have hx : (k1, k2) ∉ rest'.map (·.1) := by
        have := (Hp.out.1.map (·.1)).nodup_iff.1 hnd
        exact (List.nodup_cons.1 this).1
      have Hx := hid (And.intro hnd' hx)
      clear hnd' hx
      cases hs : speaks (t1, t2) ((k1, k2), (k3, k4)) with
      | false =>
        have Hs := hid hs
        clear hs
        go_wp2_with (go_at_call 83; refine (closure100 k1 k2 k3 k4 t1 t2 tb _ (by go_simp) (by go_simp) (by simp; omega)).mono ?_; rw [Hs.out]; rintro e w2 ⟨rfl, hb2⟩)
        go_roundg rest'.length
        case measure => omega
        case rel =>
          have hb3 : Below w1.heap.size w1 w2 := next2 (by repeat (first | exact Below.refl _ _ | refine Below.alloc ?_ (by simp <;> omega) _)) hb2
          refine ⟨rest', Nat.le_refl _, ?_, Hx.out.1, Hp.out.2.2, hg2.andThen (grown_of_below hb3 none) (by simp)⟩
          rw [← leftBy_keep Hp.out.1 (by rw [Hp.out.2.1, Hs.out]; rfl)]
          exact hrg1.kept (grown_of_below hb3 none) (by simp) (by simp)
      | true =>
        have Hs := hid hs
        clear hs
        go_wp2_with (first
          | (go_at_call 83; refine (closure100 k1 k2 k3 k4 t1 t2 tb _ (by go_simp) (by go_simp) (by simp; omega)).mono ?_; rw [Hs.out]; rintro e w2 ⟨rfl, hb2⟩; have hb3 : Below w1.heap.size w1 w2 := next2 (by repeat (first | exact Below.refl _ _ | refine Below.alloc ?_ (by simp <;> omega) _)) hb2; obtain ⟨q1, q2, q3⟩ := box_two hb2; have hrg2 := hrg1.kept (grown_of_below hb3 none) (by simp) (by simp))
          | (at_delete; refine wpList_del_mine _ rfl _ _ 55 102 rfl b _ rfl rfl (dropped Tryz.prog 55 102 b (tv (k1, k2)) w2) (fun ty => (run_del_ranging kt79 Tryz.underlying55 hrg2 hn.leftBy (k1, k2) Hx.out.2 ty).1) ?_))
        go_wp2
        go_roundg rest'.length
        case measure => omega
        case rel =>
          have hd := run_del_ranging kt79 Tryz.underlying55 hrg2 hn.leftBy (k1, k2) Hx.out.2 0
          refine ⟨rest', Nat.le_refl _, ?_, Hx.out.1, Hp.out.2.2, (hg2.andThen (grown_of_below hb3 none) (by simp)).andThen hd.2.2 (fun j hj => Or.inr hj)⟩
          rw [← leftBy_drop Hp.out.1 hnd (by rw [Hp.out.2.1, Hs.out]; rfl)]
          exact hd.2.1

section
variable {w : World} {pb b0 b1 b2 b3 : Nat} {l0 : Things} {l2 : Waits} {l3 : Prefs}

theorem PlanAt.del0 {l1 : Runs} (h : PlanAt w pb b0 b1 b2 b3 l0 l1 l2 l3) (hn : KN l0) (a : Int × Int) :
    (∀ ty, (Builtin.delete_ #[54, 102] ty #[.map (some b0), tv a]).run Tryz.prog w = .ok (.tuple #[]) (dropped Tryz.prog 54 102 b0 (tv a) w)) ∧ PlanAt (dropped Tryz.prog 54 102 b0 (tv a) w) pb b0 b1 b2 b3 (del a l0) l1 l2 l3 ∧ Only [b0, b1, b2, b3] w (dropped Tryz.prog 54 102 b0 (tv a) w) ∧ w.grownBy (dropped Tryz.prog 54 102 b0 (tv a) w) (some b0) := by
  obtain ⟨_, h2, h3⟩ := run_del kt79 Tryz.underlying54 h.m0 hn a 0
  obtain ⟨n1, n2, n3, n4, n5, n6⟩ := h.ne
  refine ⟨fun ty => (run_del kt79 Tryz.underlying54 h.m0 hn a ty).1, ⟨?_, h2, h.m1.grown h3 (by simpa using n1.symm), h.m2.grown h3 (by simpa using n2.symm), h.m3.grown h3 (by simpa using n3.symm), h.ne⟩, Only.of_grown h3 (by simp), h3⟩
  exact h.cells.move (h3.block pb h.lt (by simpa using h.pne.1))
theorem PlanAt.del2 {l1 : Runs} (h : PlanAt w pb b0 b1 b2 b3 l0 l1 l2 l3) (hn : KN l2) (a : Int × Int) :
    (∀ ty, (Builtin.delete_ #[56, 102] ty #[.map (some b2), tv a]).run Tryz.prog w = .ok (.tuple #[]) (dropped Tryz.prog 56 102 b2 (tv a) w)) ∧ PlanAt (dropped Tryz.prog 56 102 b2 (tv a) w) pb b0 b1 b2 b3 l0 l1 (del a l2) l3 ∧ Only [b0, b1, b2, b3] w (dropped Tryz.prog 56 102 b2 (tv a) w) ∧ w.grownBy (dropped Tryz.prog 56 102 b2 (tv a) w) (some b2) := by
  obtain ⟨_, h2, h3⟩ := run_del kt79 Tryz.underlying56 h.m2 hn a 0
  obtain ⟨n1, n2, n3, n4, n5, n6⟩ := h.ne
  refine ⟨fun ty => (run_del kt79 Tryz.underlying56 h.m2 hn a ty).1, ⟨?_, h.m0.grown h3 (by simpa using n2), h.m1.grown h3 (by simpa using n4), h2, h.m3.grown h3 (by simpa using n6.symm), h.ne⟩, Only.of_grown h3 (by simp), h3⟩
  exact h.cells.move (h3.block pb h.lt (by simpa using h.pne.2.2.1))

set_option maxRecDepth 100000 in
set_option maxHeartbeats 2000000 in
/-- 'p.forget(t)'. -/
theorem forget_any {l1 : Runs} (h : PlanAt w pb b0 b1 b2 b3 l0 l1 l2 l3) (hn0 : KN l0) (hn1 : KN l1) (hn2 : KN l2) (hn3 : KN l3) (t1 t2 : Int) :
    Calls Tryz.prog 60 #[.pointer (some ⟨pb, 0, none⟩), .agg #[.int .i64 t1, .int .i64 t2]] w fun e w' => e = .returned (.tuple #[]) ∧ PlanAt w' pb b0 b1 b2 b3 (del (t1, t2) l0) (l1.filter fun x => !speaks (t1, t2) x) (del (t1, t2) l2) (l3.filter fun x => !speaks (t1, t2) x.1) ∧ Only [b0, b1, b2, b3] w w' := by
  have hpb := h.lt
  have c0 := h.c0
  have hp1 := h.alloc (.cells #[.int .i64 t1, .int .i64 t2] 102)
  have hb1 : Below w.heap.size w (w.alloc (.cells #[.int .i64 t1, .int .i64 t2] 102)) := (Below.refl _ _).alloc (Nat.le_refl _) _
  have HB := hid (show b0 < w.heap.size ∧ b1 < w.heap.size ∧ b2 < w.heap.size ∧ b3 < w.heap.size from ⟨h.m0.lt, h.m1.lt, h.m2.lt, h.m3.lt⟩)
  obtain ⟨d1, d2, d3, d4⟩ := hp1.drew.del0 hn0 (t1, t2)
  have D1 := hid d1
  clear d1
  go_enter Tryz.func60, Tryz.ntmps60
  go_wp2
  go_cut [8] (fun _ wx => wx = dropped Tryz.prog 54 102 b0 (tv (t1, t2)) (w.alloc (.cells #[.int .i64 t1, .int .i64 t2] 102)).drew)
  case first =>
    go_region_law (refine step_del rfl _ _ 54 102 rfl b0 _ rfl rfl _ D1.out ?_)
    all_goals go_wp2_with fail
    all_goals go_meet
    all_goals exact rfl
  case rest =>
    subst hcut
    have hB := HB.out
    have k1 : (dropped Tryz.prog 54 102 b0 (tv (t1, t2)) (w.alloc (.cells #[.int .i64 t1, .int .i64 t2] 102)).drew).cell? ⟨w.heap.size, 0, none⟩ = some (.int .i64 t1) := d4.cell (by show (w.alloc _).cell? _ = _; rw [World.cell?_alloc_at _ _ _ _ rfl]; rfl) (by simp; omega)
    have k2 : (dropped Tryz.prog 54 102 b0 (tv (t1, t2)) (w.alloc (.cells #[.int .i64 t1, .int .i64 t2] 102)).drew).cell? ⟨w.heap.size, 1, none⟩ = some (.int .i64 t2) := d4.cell (by show (w.alloc _).cell? _ = _; rw [World.cell?_alloc_at _ _ _ _ rfl]; rfl) (by simp; omega)
    have hO1 := (Only.of_below (S := [b0, b1, b2, b3]) hb1).drew.trans d3
    have hz1 : w.heap.size < (dropped Tryz.prog 54 102 b0 (tv (t1, t2)) (w.alloc (.cells #[.int .i64 t1, .int .i64 t2] 102)).drew).heap.size := by have := d4.size; simp at this; omega
    clear D1 d3 d4 hp1 hb1 h c0
    generalize dropped Tryz.prog 54 102 b0 (tv (t1, t2)) (w.alloc (.cells #[.int .i64 t1, .int .i64 t2] 102)).drew = W1 at d2 k1 k2 hO1 hz1 ⊢
    obtain ⟨f1, f2, f3, f4⟩ := d2.drew.del2 hn2 (t1, t2)
    have F1 := hid f1
    have c2 := d2.c2
    have hpw := d2.lt
    clear f1
    go_wp2
    go_cut [13] (fun _ wx => wx = dropped Tryz.prog 56 102 b2 (tv (t1, t2)) W1.drew)
    case first =>
      go_region_law (refine step_del rfl _ _ 56 102 rfl b2 _ rfl rfl _ F1.out ?_)
      all_goals go_wp2_with fail
      all_goals go_meet
      all_goals exact rfl
    case rest =>
      subst hcut
      have k3 : (dropped Tryz.prog 56 102 b2 (tv (t1, t2)) W1.drew).cell? ⟨w.heap.size, 0, none⟩ = some (.int .i64 t1) := f4.cell (by exact k1) (by simp; omega)
      have k4 : (dropped Tryz.prog 56 102 b2 (tv (t1, t2)) W1.drew).cell? ⟨w.heap.size, 1, none⟩ = some (.int .i64 t2) := f4.cell (by exact k2) (by simp; omega)
      have hO2 := hO1.drew.trans f3
      have hz2 : w.heap.size < (dropped Tryz.prog 56 102 b2 (tv (t1, t2)) W1.drew).heap.size := Nat.lt_of_lt_of_le hz1 f4.size
      clear F1 f3 f4 d2 k1 k2 hO1 hz1 c2 hpw
      generalize dropped Tryz.prog 56 102 b2 (tv (t1, t2)) W1.drew = W2 at f2 k3 k4 hO2 hz2 ⊢
      have c1 := f2.c1
      have hpw := f2.lt
      go_wp2_with fail
      refine (drop99 t1 t2 w.heap.size b1 _ _ f2.m1 hn1 k3 k4 hz2 (by have := HB.out; omega)).mono ?_
      rintro e W3 ⟨rfl, m1', hg3⟩
      obtain ⟨u1, u2, u3, u4, u5, u6⟩ := f2.ne
      have f5 : PlanAt W3 pb b0 b1 b2 b3 (del (t1, t2) l0) (l1.filter fun x => !speaks (t1, t2) x) (del (t1, t2) l2) l3 := ⟨f2.cells.move (hg3.block pb f2.lt (by simpa using f2.pne.2.1)), f2.m0.grown hg3 (by simpa using u1), m1', f2.m2.grown hg3 (by simpa using u4.symm), f2.m3.grown hg3 (by simpa using u5.symm), f2.ne⟩
      have c3 := f5.c3
      have hpw3 := f5.lt
      have k5 : W3.cell? ⟨w.heap.size, 0, none⟩ = some (.int .i64 t1) := hg3.cell k3 (by have := HB.out; simp; omega)
      have k6 : W3.cell? ⟨w.heap.size, 1, none⟩ = some (.int .i64 t2) := hg3.cell k4 (by have := HB.out; simp; omega)
      go_wp2_with fail
      refine (drop101 t1 t2 w.heap.size b3 l3 _ f5.m3 hn3 k5 k6 (Nat.lt_of_lt_of_le hz2 hg3.size) (by have := HB.out; omega)).mono ?_
      rintro e W4 ⟨rfl, m3, hg⟩
      go_wp2
      go_end0
      obtain ⟨n1, n2, n3, n4, n5, n6⟩ := f5.ne
      refine ⟨rfl, ⟨?_, f5.m0.grown hg (by simpa using n3), f5.m1.grown hg (by simpa using n5), f5.m2.grown hg (by simpa using n6), m3, f5.ne⟩, hO2.trans ((Only.of_grown hg3 (by simp)).trans (Only.of_grown hg (by simp)))⟩
      exact f5.cells.move (hg.block pb f5.lt (by simpa using f5.pne.2.2.2))

/-- What Remove answers. -/
def remOf (l0 : Things) (kind id : Int) : Int :=
  if kind < 0 ∨ 3 < kind then 7 else if (get (kind, id) l0).isSome then (if l0.any (fun x => decide (x.2.1 = (kind, id))) then 6 else 0) else 4

def rem0 (l0 : Things) (kind id : Int) : Things := if remOf l0 kind id = 0 then del (kind, id) l0 else l0
def rem2 (l0 : Things) (l2 : Waits) (kind id : Int) : Waits := if remOf l0 kind id = 0 then del (kind, id) l2 else l2
def rem3 (l0 : Things) (l3 : Prefs) (kind id : Int) : Prefs := if remOf l0 kind id = 0 then (l3.filter fun x => !speaks (kind, id) x.1) else l3

def rem1 (l0 : Things) (l1 : Runs) (kind id : Int) : Runs := if remOf l0 kind id = 0 then (l1.filter fun x => !speaks (kind, id) x) else l1

set_option maxHeartbeats 2000000 in
theorem remove_runs {l1 : Runs} (h : PlanAt w pb b0 b1 b2 b3 l0 l1 l2 l3) (hn0 : KN l0) (hn1 : KN l1) (hn2 : KN l2) (hn3 : KN l3) (kind id : Int) :
    Calls Tryz.prog 32 #[.pointer (some ⟨pb, 0, none⟩), .int .i64 kind, .int .i64 id] w fun e w' => e = .returned (.int .i64 (remOf l0 kind id)) ∧
      PlanAt w' pb b0 b1 b2 b3 (rem0 l0 kind id) (rem1 l0 l1 kind id) (rem2 l0 l2 kind id) (rem3 l0 l3 kind id) ∧ Only [b0, b1, b2, b3] w w' := by
  have hp1 := h.alloc (.cells #[.int .i64 kind, .int .i64 id] 102)
  have hb1 : Below w.heap.size w (w.alloc (.cells #[.int .i64 kind, .int .i64 id] 102)) := (Below.refl _ _).alloc (Nat.le_refl _) _
  by_cases hk0 : kind < 0
  · have e1 : remOf l0 kind id = 7 := by simp [remOf, hk0]
    rw [e1, show rem0 l0 kind id = l0 by simp [rem0, e1], show rem1 l0 l1 kind id = l1 by simp [rem1, e1], show rem2 l0 l2 kind id = l2 by simp [rem2, e1], show rem3 l0 l3 kind id = l3 by simp [rem3, e1]]
    clear e1
    go_enter Tryz.func32, Tryz.ntmps32
    go_wp2
    go_ret
    exact ⟨rfl, hp1, Only.of_below hb1⟩
  by_cases hk3 : 3 < kind
  · have e1 : remOf l0 kind id = 7 := by simp [remOf, hk3]
    rw [e1, show rem0 l0 kind id = l0 by simp [rem0, e1], show rem1 l0 l1 kind id = l1 by simp [rem1, e1], show rem2 l0 l2 kind id = l2 by simp [rem2, e1], show rem3 l0 l3 kind id = l3 by simp [rem3, e1]]
    clear e1
    have hd : decide (kind < 0) = false := by simpa using hk0
    go_enter Tryz.func32, Tryz.ntmps32
    go_wp2
    go_ret
    exact ⟨rfl, hp1, Only.of_below hb1⟩
  have hd : decide (kind < 0) = false := by simpa using hk0
  have hd3 : decide (3 < kind) = false := by simpa using hk3
  have hk : ¬ (kind < 0 ∨ 3 < kind) := by omega
  cases hg : (get (kind, id) l0).isSome with
  | false =>
    have e1 : remOf l0 kind id = 4 := by unfold remOf; rw [if_neg hk, hg]; rfl
    rw [e1, show rem0 l0 kind id = l0 by simp [rem0, e1], show rem1 l0 l1 kind id = l1 by simp [rem1, e1], show rem2 l0 l2 kind id = l2 by simp [rem2, e1], show rem3 l0 l3 kind id = l3 by simp [rem3, e1]]
    have Hg := hid hg
    clear e1 hg
    go_enter Tryz.func32, Tryz.ntmps32
    go_wp2_with (go_at_call 57; refine (has_any hp1 kind id).mono ?_; rw [Hg.out]; rintro e w2 ⟨rfl, hb2⟩)
    go_ret
    exact ⟨rfl, hp1.below hb2, Only.of_below (next2 hb1 hb2)⟩
  | true =>
    have Hg := hid hg
    cases ha : l0.any (fun x => decide (x.2.1 = (kind, id))) with
    | true =>
      have e1 : remOf l0 kind id = 6 := by unfold remOf; rw [if_neg hk, hg, ha]; rfl
      rw [e1, show rem0 l0 kind id = l0 by simp [rem0, e1], show rem1 l0 l1 kind id = l1 by simp [rem1, e1], show rem2 l0 l2 kind id = l2 by simp [rem2, e1], show rem3 l0 l3 kind id = l3 by simp [rem3, e1]]
      have Ha := hid ha
      clear e1 hg ha
      go_enter Tryz.func32, Tryz.ntmps32
      go_wp2_with (first
        | (go_at_call 57; refine (has_any hp1 kind id).mono ?_; rw [Hg.out]; rintro e w2 ⟨rfl, hb2⟩; obtain ⟨k1, k2⟩ := box2 hb2)
        | (go_at_call 59; refine (busy_any (hp1.below hb2) kind id).mono ?_; rw [Ha.out]; rintro e w3 ⟨rfl, hb3⟩))
      go_ret
      exact ⟨rfl, (hp1.below hb2).below hb3, Only.of_below (next2 (next2 hb1 hb2) hb3)⟩
    | false =>
      have e1 : remOf l0 kind id = 0 := by unfold remOf; rw [if_neg hk, hg, ha]; rfl
      rw [e1, show rem0 l0 kind id = del (kind, id) l0 by simp [rem0, e1], show rem1 l0 l1 kind id = (l1.filter fun x => !speaks (kind, id) x) by simp [rem1, e1], show rem2 l0 l2 kind id = del (kind, id) l2 by simp [rem2, e1], show rem3 l0 l3 kind id = (l3.filter fun x => !speaks (kind, id) x.1) by simp [rem3, e1]]
      have Ha := hid ha
      clear e1 hg ha
      go_enter Tryz.func32, Tryz.ntmps32
      go_wp2_with (first
        | (go_at_call 57; refine (has_any hp1 kind id).mono ?_; rw [Hg.out]; rintro e w2 ⟨rfl, hb2⟩; obtain ⟨k1, k2⟩ := box2 hb2)
        | (go_at_call 59; refine (busy_any (hp1.below hb2) kind id).mono ?_; rw [Ha.out]; rintro e w3 ⟨rfl, hb3⟩; obtain ⟨k3, k4⟩ := box2 (next2 hb2 hb3))
        | (go_at_call 60; refine (forget_any ((hp1.below hb2).below hb3) hn0 hn1 hn2 hn3 kind id).mono ?_; rintro e w4 ⟨rfl, hp4, hO4⟩))
      go_ret
      exact ⟨rfl, hp4, (Only.of_below (next2 (next2 hb1 hb2) hb3)).trans hO4⟩

/-- Where nothing runs. -/
theorem remove_any (h : PlanAt w pb b0 b1 b2 b3 l0 [] l2 l3) (hn0 : KN l0) (hn2 : KN l2) (hn3 : KN l3) (kind id : Int) :
    Calls Tryz.prog 32 #[.pointer (some ⟨pb, 0, none⟩), .int .i64 kind, .int .i64 id] w fun e w' => e = .returned (.int .i64 (remOf l0 kind id)) ∧
      PlanAt w' pb b0 b1 b2 b3 (rem0 l0 kind id) [] (rem2 l0 l2 kind id) (rem3 l0 l3 kind id) ∧ Only [b0, b1, b2, b3] w w' := by
  have := remove_runs h hn0 List.nodup_nil hn2 hn3 kind id
  rw [show rem1 l0 [] kind id = [] by unfold rem1; split <;> rfl] at this
  exact this
end
end Go.Proofs.YtjdindfjfpdikaaGreat
