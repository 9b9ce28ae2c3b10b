import Derived.Test.YtjdindfjfpdikaaGreatMake
namespace Go.Proofs.YtjdindfjfpdikaaGreat
open Go.RowKit

/-- Two boxes of things, laid one behind the other, are still there. -/
theorem boxes2 {w w3 : World} {x1 x2 y1 y2 : Value} (h : Below ((w.alloc (.cells #[x1, x2] 102)).alloc (.cells #[y1, y2] 102)).heap.size ((w.alloc (.cells #[x1, x2] 102)).alloc (.cells #[y1, y2] 102)) w3) :
    w3.cell? ⟨w.heap.size, 0, none⟩ = some x1 ∧ w3.cell? ⟨w.heap.size, 1, none⟩ = some x2 ∧ w3.cell? ⟨w.heap.size + 1, 0, none⟩ = some y1 ∧ w3.cell? ⟨w.heap.size + 1, 1, none⟩ = some y2 := by
  have hs : w.heap.size + 1 = (w.alloc (.cells #[x1, x2] 102)).heap.size := by simp
  have e1 : ∀ i, w3.cell? ⟨w.heap.size, i, none⟩ = #[x1, x2][i]? := fun i => by
    rw [h.cell (p := ⟨w.heap.size, i, none⟩) (by simp; omega), World.cell?_alloc_past _ _ _ (by simp), World.cell?_alloc_at _ _ _ _ rfl]
  have e2 : ∀ i, w3.cell? ⟨w.heap.size + 1, i, none⟩ = #[y1, y2][i]? := fun i => by
    rw [h.cell (p := ⟨w.heap.size + 1, i, none⟩) (by simp), World.cell?_alloc_at _ _ _ _ hs]
  exact ⟨by rw [e1]; rfl, by rw [e1]; rfl, by rw [e2]; rfl, by rw [e2]; rfl⟩

/-- What Machine answers. -/
def machOf (l0 : Things) (id rack slots : Int) : Int :=
  if roomOf l0 1 id 8 = 0 then (if (get (0, rack) l0).isSome then (if slots < 1 ∨ 4 < slots then 5 else 0) else 4) else roomOf l0 1 id 8
def machTo (l0 : Things) (id rack slots : Int) : Things := if machOf l0 id rack slots = 0 then put (1, id) ((0, rack), slots, 0) l0 else l0

set_option maxHeartbeats 2000000 in
theorem machine_any (hS : SortSaid) {w : World} {pb b0 b1 b2 b3 : Nat} {l0 : Things} {l1 : Runs} {l2 : Waits} {l3 : Prefs} (h : PlanAt w pb b0 b1 b2 b3 l0 l1 l2 l3) (id rack slots : Int) (hlen : l0.length ≤ 1000) :
    Calls Tryz.prog 28 #[.pointer (some ⟨pb, 0, none⟩), .int .i64 id, .int .i64 rack, .int .i64 slots] w fun e w' => e = .returned (.int .i64 (machOf l0 id rack slots)) ∧ PlanAt w' pb b0 b1 b2 b3 (machTo l0 id rack slots) l1 l2 l3 ∧ Only [b0, b1, b2, b3] w w' := by
  have hp1 := (h.alloc (.cells #[.int .i64 1, .int .i64 id] 102)).alloc (.cells #[.int .i64 0, .int .i64 rack] 102)
  have hb1 : Below w.heap.size w ((w.alloc (.cells #[.int .i64 1, .int .i64 id] 102)).alloc (.cells #[.int .i64 0, .int .i64 rack] 102)) := ((Below.refl _ _).alloc (Nat.le_refl _) _).alloc (by simp) _
  have Hh := hid (room_any hS hp1 1 id 8 hlen)
  have hpb := h.lt
  have c0 := h.c0
  by_cases hz : roomOf l0 1 id 8 = 0
  · rw [hz] at Hh
    cases hg : get (0, rack) l0 with
    | none =>
      have e1 : machOf l0 id rack slots = 4 := by simp [machOf, hz, hg]
      have e2 : machTo l0 id rack slots = l0 := by simp [machTo, e1]
      rw [e1, e2]
      clear e1 e2 hz
      go_enter Tryz.func28, Tryz.ntmps28
      go_wp2_with (first
        | (go_at_call 56; refine Hh.out.mono ?_; rintro e w2 ⟨rfl, hb2⟩; obtain ⟨hc, hf⟩ := bcell hb2)
        | (go_at_call 57; refine (has_any (hp1.below hb2) 0 rack).mono ?_; rw [hg]; rintro e w3 ⟨rfl, hb3⟩))
      go_ret
      exact ⟨rfl, (hp1.below hb2).below hb3, Only.of_below (next2 (next2 hb1 hb2) hb3)⟩
    | some f =>
      by_cases hs : slots < 1 ∨ 4 < slots
      · have e1 : machOf l0 id rack slots = 5 := by simp [machOf, hz, hg, hs]
        have e2 : machTo l0 id rack slots = l0 := by simp [machTo, e1]
        rw [e1, e2]
        clear e1 e2 hz
        by_cases hs1 : slots < 1
        · clear hs
          go_enter Tryz.func28, Tryz.ntmps28
          go_wp2_with (first
            | (go_at_call 56; refine Hh.out.mono ?_; rintro e w2 ⟨rfl, hb2⟩; obtain ⟨hc, hf⟩ := bcell hb2)
            | (go_at_call 57; refine (has_any (hp1.below hb2) 0 rack).mono ?_; rw [hg]; rintro e w3 ⟨rfl, hb3⟩))
          go_ret
          exact ⟨rfl, (hp1.below hb2).below hb3, Only.of_below (next2 (next2 hb1 hb2) hb3)⟩
        · have hs2 : 4 < slots := by omega
          have hd : decide (slots < 1) = false := by simpa using hs1
          clear hs
          go_enter Tryz.func28, Tryz.ntmps28
          go_wp2_with (first
            | (go_at_call 56; refine Hh.out.mono ?_; rintro e w2 ⟨rfl, hb2⟩; obtain ⟨hc, hf⟩ := bcell hb2)
            | (go_at_call 57; refine (has_any (hp1.below hb2) 0 rack).mono ?_; rw [hg]; rintro e w3 ⟨rfl, hb3⟩))
          go_ret
          exact ⟨rfl, (hp1.below hb2).below hb3, Only.of_below (next2 (next2 hb1 hb2) hb3)⟩
      · have e1 : machOf l0 id rack slots = 0 := by unfold machOf; rw [if_pos hz, hg, if_neg hs]; rfl
        have e2 : machTo l0 id rack slots = put (1, id) ((0, rack), slots, 0) l0 := by simp [machTo, e1]
        rw [e1, e2]
        clear e1 e2 hz
        have hd : decide (slots < 1) = false := by simp; omega
        have hd2 : decide (4 < slots) = false := by simp; omega
        clear hs
        go_enter Tryz.func28, Tryz.ntmps28
        go_wp2_with (first
          | (go_at_call 56; refine Hh.out.mono ?_; rintro e w2 ⟨rfl, hb2⟩; obtain ⟨hc, hf⟩ := bcell hb2)
          | (go_at_call 57; refine (has_any (hp1.below hb2) 0 rack).mono ?_; rw [hg]; rintro e w3 ⟨rfl, hb3⟩; obtain ⟨k1, k2, k3, k4⟩ := boxes2 (next2 hb2 hb3); have k5 := ((hp1.below hb2).below hb3).c0; have hu : (Instr.mapUpdate 54 (.map (some b0)) (.agg #[.int .i64 1, .int .i64 id]) (.agg #[.int .i64 0, .int .i64 rack, .int .i64 slots, .int .i64 0])).run Tryz.prog w3.drew = .ok () (upd Tryz.prog 54 b0 (tv (1, id)) (fv ((0, rack), slots, 0)) w3.drew) := (run_put kt79 Tryz.underlying54 ((hp1.below hb2).below hb3).m0.drew (1, id) ((0, rack), slots, 0)).1))
        go_region
        all_goals
          go_wp2
          go_ret
          have hq := ((hp1.below hb2).below hb3).drew.put0 (1, id) ((0, rack), slots, 0)
          exact ⟨rfl, hq.1, ((Only.of_below (next2 (next2 hb1 hb2) hb3)).drew).trans hq.2⟩
  · have hzb : (roomOf l0 1 id 8 != 0) = true := by simpa using hz
    have e1 : machOf l0 id rack slots = roomOf l0 1 id 8 := by simp [machOf, hz]
    have e2 : machTo l0 id rack slots = l0 := by simp [machTo, e1, hz]
    rw [e1, e2]
    clear e1 e2 hz
    generalize roomOf l0 1 id 8 = r at Hh hzb ⊢
    go_enter Tryz.func28, Tryz.ntmps28
    go_wp2_with (go_at_call 56; refine Hh.out.mono ?_; rintro e w2 ⟨rfl, hb2⟩)
    go_ret
    exact ⟨rfl, hp1.below hb2, Only.of_below (next2 hb1 hb2)⟩
end Go.Proofs.YtjdindfjfpdikaaGreat
