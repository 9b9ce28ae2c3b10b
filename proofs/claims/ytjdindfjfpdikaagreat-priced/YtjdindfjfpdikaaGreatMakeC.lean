import Derived.Test.YtjdindfjfpdikaaGreatMakeB
namespace Go.Proofs.YtjdindfjfpdikaaGreat
open Go.RowKit

/-- What Job answers. -/
def jobOf (l0 : Things) (id base : Int) : Int := if roomOf l0 2 id 4 = 0 then (if costB base then 0 else 5) else roomOf l0 2 id 4
def jobTo (l0 : Things) (id base : Int) : Things := if jobOf l0 id base = 0 then put (2, id) ((4, 0), 0, base) l0 else l0

set_option maxHeartbeats 2000000 in
theorem job_any (hS : SortSaid) {w : World} {pb b0 b1 b2 b3 : Nat} {l0 : Things} {l1 : Runs} {l2 : Waits} {l3 : Prefs} (h : PlanAt w pb b0 b1 b2 b3 l0 l1 l2 l3) (id base : Int) (hlen : l0.length ≤ 1000) :
    Calls Tryz.prog 29 #[.pointer (some ⟨pb, 0, none⟩), .int .i64 id, .int .i64 base] w fun e w' => e = .returned (.int .i64 (jobOf l0 id base)) ∧ PlanAt w' pb b0 b1 b2 b3 (jobTo l0 id base) l1 l2 l3 ∧ Only [b0, b1, b2, b3] w w' := by
  have hp1 := h.alloc (.cells #[.int .i64 2, .int .i64 id] 102)
  have hb1 : Below w.heap.size w (w.alloc (.cells #[.int .i64 2, .int .i64 id] 102)) := (Below.refl _ _).alloc (Nat.le_refl _) _
  have Hh := hid (room_any hS hp1 2 id 4 hlen)
  have hpb := h.lt
  have c0 := h.c0
  by_cases hz : roomOf l0 2 id 4 = 0
  · rw [hz] at Hh
    cases hcb : costB base with
    | false =>
      have e1 : jobOf l0 id base = 5 := by simp [jobOf, hz, hcb]
      have e2 : jobTo l0 id base = l0 := by simp [jobTo, e1]
      rw [e1, e2]
      clear e1 e2 hz
      have Hc := hid hcb
      clear hcb
      go_enter Tryz.func29, Tryz.ntmps29
      go_wp2_with (first
        | (go_at_call 56; refine Hh.out.mono ?_; rintro e w2 ⟨rfl, hb2⟩)
        | (go_at_call 58; refine (isCost_any base _).mono ?_; rw [Hc.out]; rintro e w3 ⟨rfl, rfl⟩))
      go_ret
      exact ⟨rfl, hp1.below hb2, Only.of_below (next2 hb1 hb2)⟩
    | true =>
      have e1 : jobOf l0 id base = 0 := by simp [jobOf, hz, hcb]
      have e2 : jobTo l0 id base = put (2, id) ((4, 0), 0, base) l0 := by simp [jobTo, e1]
      rw [e1, e2]
      clear e1 e2 hz
      have Hc := hid hcb
      clear hcb
      go_enter Tryz.func29, Tryz.ntmps29
      go_wp2_with (first
        | (go_at_call 56; refine Hh.out.mono ?_; rintro e w2 ⟨rfl, hb2⟩; obtain ⟨hc, hf⟩ := bcell hb2; have hu : (Instr.mapUpdate 54 (.map (some b0)) (.agg #[.int .i64 2, .int .i64 id]) (.agg #[.int .i64 4, .int .i64 0, .int .i64 0, .int .i64 base])).run Tryz.prog w2.drew = .ok () (upd Tryz.prog 54 b0 (tv (2, id)) (fv ((4, 0), 0, base)) w2.drew) := (run_put kt79 Tryz.underlying54 (hp1.below hb2).m0.drew (2, id) ((4, 0), 0, base)).1)
        | (go_at_call 58; refine (isCost_any base _).mono ?_; rw [Hc.out]; rintro e w3 ⟨rfl, rfl⟩))
      go_region
      all_goals
        go_wp2
        go_ret
        have hq := (hp1.below hb2).drew.put0 (2, id) ((4, 0), 0, base)
        exact ⟨rfl, hq.1, ((Only.of_below (next2 hb1 hb2)).drew).trans hq.2⟩
  · have hzb : (roomOf l0 2 id 4 != 0) = true := by simpa using hz
    have e1 : jobOf l0 id base = roomOf l0 2 id 4 := by simp [jobOf, hz]
    have e2 : jobTo l0 id base = l0 := by simp [jobTo, e1, hz]
    rw [e1, e2]
    clear e1 e2 hz
    generalize roomOf l0 2 id 4 = r at Hh hzb ⊢
    go_enter Tryz.func29, Tryz.ntmps29
    go_wp2_with (go_at_call 56; refine Hh.out.mono ?_; rintro e w2 ⟨rfl, hb2⟩)
    go_ret
    exact ⟨rfl, hp1.below hb2, Only.of_below (next2 hb1 hb2)⟩

/-- What Task answers. -/
def taskOf (l0 : Things) (id job any : Int) : Int :=
  if roomOf l0 3 id 16 = 0 then (if (get (2, job) l0).isSome then (if costB any then 0 else 5) else 4) else roomOf l0 3 id 16
def taskTo (l0 : Things) (id job any : Int) : Things := if taskOf l0 id job any = 0 then put (3, id) ((2, job), 0, any) l0 else l0

set_option maxHeartbeats 2000000 in
theorem task_any (hS : SortSaid) {w : World} {pb b0 b1 b2 b3 : Nat} {l0 : Things} {l1 : Runs} {l2 : Waits} {l3 : Prefs} (h : PlanAt w pb b0 b1 b2 b3 l0 l1 l2 l3) (id job any : Int) (hlen : l0.length ≤ 1000) :
    Calls Tryz.prog 30 #[.pointer (some ⟨pb, 0, none⟩), .int .i64 id, .int .i64 job, .int .i64 any] w fun e w' => e = .returned (.int .i64 (taskOf l0 id job any)) ∧ PlanAt w' pb b0 b1 b2 b3 (taskTo l0 id job any) l1 l2 l3 ∧ Only [b0, b1, b2, b3] w w' := by
  have hp1 := (h.alloc (.cells #[.int .i64 3, .int .i64 id] 102)).alloc (.cells #[.int .i64 2, .int .i64 job] 102)
  have hb1 : Below w.heap.size w ((w.alloc (.cells #[.int .i64 3, .int .i64 id] 102)).alloc (.cells #[.int .i64 2, .int .i64 job] 102)) := ((Below.refl _ _).alloc (Nat.le_refl _) _).alloc (by simp) _
  have Hh := hid (room_any hS hp1 3 id 16 hlen)
  have hpb := h.lt
  have c0 := h.c0
  by_cases hz : roomOf l0 3 id 16 = 0
  · rw [hz] at Hh
    cases hg : get (2, job) l0 with
    | none =>
      have e1 : taskOf l0 id job any = 4 := by simp [taskOf, hz, hg]
      have e2 : taskTo l0 id job any = l0 := by simp [taskTo, e1]
      rw [e1, e2]
      clear e1 e2 hz
      go_enter Tryz.func30, Tryz.ntmps30
      go_wp2_with (first
        | (go_at_call 56; refine Hh.out.mono ?_; rintro e w2 ⟨rfl, hb2⟩; obtain ⟨hc, hf⟩ := bcell hb2)
        | (go_at_call 57; refine (has_any (hp1.below hb2) 2 job).mono ?_; rw [hg]; rintro e w3 ⟨rfl, hb3⟩))
      go_ret
      exact ⟨rfl, (hp1.below hb2).below hb3, Only.of_below (next2 (next2 hb1 hb2) hb3)⟩
    | some f =>
      cases hcb : costB any with
      | false =>
        have e1 : taskOf l0 id job any = 5 := by simp [taskOf, hz, hg, hcb]
        have e2 : taskTo l0 id job any = l0 := by simp [taskTo, e1]
        rw [e1, e2]
        clear e1 e2 hz
        have Hc := hid hcb
        clear hcb
        go_enter Tryz.func30, Tryz.ntmps30
        go_wp2_with (first
          | (go_at_call 56; refine Hh.out.mono ?_; rintro e w2 ⟨rfl, hb2⟩; obtain ⟨hc, hf⟩ := bcell hb2)
          | (go_at_call 57; refine (has_any (hp1.below hb2) 2 job).mono ?_; rw [hg]; rintro e w3 ⟨rfl, hb3⟩)
          | (go_at_call 58; refine (isCost_any any _).mono ?_; rw [Hc.out]; rintro e w4 ⟨rfl, rfl⟩))
        go_ret
        exact ⟨rfl, (hp1.below hb2).below hb3, Only.of_below (next2 (next2 hb1 hb2) hb3)⟩
      | true =>
        have e1 : taskOf l0 id job any = 0 := by simp [taskOf, hz, hg, hcb]
        have e2 : taskTo l0 id job any = put (3, id) ((2, job), 0, any) l0 := by simp [taskTo, e1]
        rw [e1, e2]
        clear e1 e2 hz
        have Hc := hid hcb
        clear hcb
        go_enter Tryz.func30, Tryz.ntmps30
        go_wp2_with (first
          | (go_at_call 56; refine Hh.out.mono ?_; rintro e w2 ⟨rfl, hb2⟩; obtain ⟨hc, hf⟩ := bcell hb2)
          | (go_at_call 57; refine (has_any (hp1.below hb2) 2 job).mono ?_; rw [hg]; rintro e w3 ⟨rfl, hb3⟩; obtain ⟨k1, k2, k3, k4⟩ := boxes2 (next2 hb2 hb3); have k5 := ((hp1.below hb2).below hb3).c0; have hu : (Instr.mapUpdate 54 (.map (some b0)) (.agg #[.int .i64 3, .int .i64 id]) (.agg #[.int .i64 2, .int .i64 job, .int .i64 0, .int .i64 any])).run Tryz.prog w3.drew = .ok () (upd Tryz.prog 54 b0 (tv (3, id)) (fv ((2, job), 0, any)) w3.drew) := (run_put kt79 Tryz.underlying54 ((hp1.below hb2).below hb3).m0.drew (3, id) ((2, job), 0, any)).1)
          | (go_at_call 58; refine (isCost_any any _).mono ?_; rw [Hc.out]; rintro e w4 ⟨rfl, rfl⟩))
        go_region
        all_goals
          go_wp2
          go_ret
          have hq := ((hp1.below hb2).below hb3).drew.put0 (3, id) ((2, job), 0, any)
          exact ⟨rfl, hq.1, ((Only.of_below (next2 (next2 hb1 hb2) hb3)).drew).trans hq.2⟩
  · have hzb : (roomOf l0 3 id 16 != 0) = true := by simpa using hz
    have e1 : taskOf l0 id job any = roomOf l0 3 id 16 := by simp [taskOf, hz]
    have e2 : taskTo l0 id job any = l0 := by simp [taskTo, e1, hz]
    rw [e1, e2]
    clear e1 e2 hz
    generalize roomOf l0 3 id 16 = r at Hh hzb ⊢
    go_enter Tryz.func30, Tryz.ntmps30
    go_wp2_with (go_at_call 56; refine Hh.out.mono ?_; rintro e w2 ⟨rfl, hb2⟩)
    go_ret
    exact ⟨rfl, hp1.below hb2, Only.of_below (next2 hb1 hb2)⟩
end Go.Proofs.YtjdindfjfpdikaaGreat
