import Derived.Test.YtjdindfjfpdikaaToldA
namespace Go.Proofs.Ytjdindfjfpdikaa
open Go.RowKit

theorem below_only {S : List Nat} {w a c : World} (h : Below w.heap.size w a) (hO : Only S a c) (hS : ∀ b ∈ S, w.heap.size ≤ b) : Below w.heap.size w c :=
  h.trans ⟨hO.os, hO.tape, hO.output, hO.size, fun k hk => hO.block k (Nat.lt_of_lt_of_le hk h.size) (fun hm => by have := hS k hm; omega)⟩

set_option maxRecDepth 100000 in
set_option maxHeartbeats 4000000 in
theorem told_walk (x0 x1 x2 x3 x4 : Int) (w0 : (Lit.int .i64 x0).wf = true) (w1 : (Lit.int .i64 x1).wf = true) (w2 : (Lit.int .i64 x2).wf = true) (w3 : (Lit.int .i64 x3).wf = true) (w4 : (Lit.int .i64 x4).wf = true) (w : World) :
    Calls Try.prog 3 #[.int .i64 x0, .int .i64 x1, .int .i64 x2, .int .i64 x3, .int .i64 x4] w fun e w' => e = .returned (.bool true) ∧ Below w.heap.size w w' := by
  have P0 := hid (fun W => pick_any x0 1001 W w0 (by decide) (by decide))
  have P1 := hid (fun W => pick_any x1 1001 W w1 (by decide) (by decide))
  have P2 := hid (fun W => pick_any x2 1001 W w2 (by decide) (by decide))
  have P3 := hid (fun W => pick_any x3 1001 W w3 (by decide) (by decide))
  have P4 := hid (fun W => pick_any x4 200 W w4 (by decide) (by decide))
  have ha := pickOf_bounds x0 1001 (by decide)
  have hb := pickOf_bounds x1 1001 (by decide)
  have hc := pickOf_bounds x2 1001 (by decide)
  have hd := pickOf_bounds x3 1001 (by decide)
  have ht := pickOf_bounds x4 200 (by decide)
  generalize pickOf x0 1001 = a at P0 ha
  generalize pickOf x1 1001 = b at P1 hb
  generalize pickOf x2 1001 = c at P2 hc
  generalize pickOf x3 1001 = d at P3 hd
  generalize pickOf x4 200 = t at P4 ht
  have ha1 : a ≤ 1000 := by omega
  have hb1 : b ≤ 1000 := by omega
  have hc1 : c ≤ 1000 := by omega
  have hd1 : d ≤ 1000 := by omega
  clear w0 w1 w2 w3 w4
  go_enter Try.func3, Try.ntmps3
  go_wp2_with fail
  refine (new_any w).mono ?_
  rintro e wa ⟨rfl, hpa, hbl⟩
  generalize hpb : w.heap.size + 1 + 1 + 1 + 1 = pb at hpa ⊢
  obtain ⟨b0, hb0⟩ : ∃ n, n = w.heap.size := ⟨_, rfl⟩
  obtain ⟨b1, hb1'⟩ : ∃ n, n = w.heap.size + 1 := ⟨_, rfl⟩
  obtain ⟨b2, hb2⟩ : ∃ n, n = w.heap.size + 1 + 1 := ⟨_, rfl⟩
  obtain ⟨b3, hb3⟩ : ∃ n, n = w.heap.size + 1 + 1 + 1 := ⟨_, rfl⟩
  rw [← hb3, ← hb2, ← hb1', ← hb0] at hpa
  have HB := hid (show w.heap.size ≤ b0 ∧ w.heap.size ≤ b1 ∧ w.heap.size ≤ b2 ∧ w.heap.size ≤ b3 by omega)
  clear hb0 hb1' hb2 hb3 hpb
  go_wp2_with fail
  refine (P0.out _).mono ?_
  rintro e wz ⟨rfl, rfl⟩
  go_wp2_with fail
  refine (P1.out _).mono ?_
  rintro e wz' ⟨rfl, rfl⟩
  go_wp2_with fail
  refine (P2.out _).mono ?_
  rintro e wz'' ⟨rfl, rfl⟩
  go_wp2_with fail
  refine (P3.out _).mono ?_
  rintro e wz3 ⟨rfl, rfl⟩
  go_wp2_with fail
  refine (P4.out _).mono ?_
  rintro e wz4 ⟨rfl, rfl⟩
  go_wp2_with fail
  refine (rack_any sortSaid hpa 3 (by simp)).mono ?_
  rw [r1.1, r1.2]
  rintro e w1 ⟨rfl, hp1, hO1⟩
  go_wp2_with fail
  refine (rack_any sortSaid hp1 4 (by simp [T1])).mono ?_
  rw [r2.1, r2.2]
  rintro e w2 ⟨rfl, hp2, hO2⟩
  go_wp2_with fail
  refine (machine_any sortSaid hp2 3 4 1 (by simp [T2])).mono ?_
  rw [r3.1, r3.2]
  rintro e w3 ⟨rfl, hp3, hO3⟩
  go_wp2_with fail
  refine (machine_any sortSaid hp3 8 3 4 (by simp [T3])).mono ?_
  rw [r4.1, r4.2]
  rintro e w4 ⟨rfl, hp4, hO4⟩
  go_wp2_with fail
  refine (job_any sortSaid hp4 9 d (by simp [T4])).mono ?_
  rw [(r5 d hd.1 hd1).1, (r5 d hd.1 hd1).2]
  rintro e w5 ⟨rfl, hp5, hO5⟩
  go_wp2_with fail
  refine (task_any sortSaid hp5 1 9 a (by simp [T5])).mono ?_
  rw [(r6 d a ha.1 ha1).1, (r6 d a ha.1 ha1).2]
  rintro e w6 ⟨rfl, hp6, hO6⟩
  go_wp2_with fail
  refine (prefer_any hp6 1 0 4 c).mono ?_
  rw [(r7 d a c hc.1 hc1).1, (r7 d a c hc.1 hc1).2]
  rintro e w7 ⟨rfl, hp7, hO7⟩
  have hO : Only [b0, b1, b2, b3] wz4 w7 := hO1.trans (hO2.trans (hO3.trans (hO4.trans (hO5.trans (hO6.trans hO7)))))
  clear hpa hp1 hp2 hp3 hp4 hp5 hp6 hO1 hO2 hO3 hO4 hO5 hO6 hO7
  go_wp2_with fail
  have hp8 := hp7.alloc (.cells #[.int .i64 0, .int .i64 0, .int .i64 0, .int .i64 0, .int .i64 0, .int .i64 0, .int .i64 0] 25)
  have hO8 : Only [b0, b1, b2, b3] wz4 (w7.alloc (.cells #[.int .i64 0, .int .i64 0, .int .i64 0, .int .i64 0, .int .i64 0, .int .i64 0, .int .i64 0] 25)) := hO.trans (Only.of_below ((Below.refl _ _).alloc (Nat.le_refl _) _))
  have hz8 : ∀ k : Nat, k < 7 → (w7.alloc (.cells #[.int .i64 0, .int .i64 0, .int .i64 0, .int .i64 0, .int .i64 0, .int .i64 0, .int .i64 0] 25)).cell? ⟨w7.heap.size, k, none⟩ = some (.int .i64 0) := fun k hk => by
    rw [World.cell?_alloc_at _ _ _ _ rfl]
    obtain rfl | rfl | rfl | rfl | rfl | rfl | rfl : k = 0 ∨ k = 1 ∨ k = 2 ∨ k = 3 ∨ k = 4 ∨ k = 5 ∨ k = 6 := by omega
    all_goals rfl
  generalize w7.alloc (.cells #[.int .i64 0, .int .i64 0, .int .i64 0, .int .i64 0, .int .i64 0, .int .i64 0, .int .i64 0] 25) = w8 at hp8 hO8 hz8 ⊢
  generalize w7.heap.size = g8 at hz8 ⊢
  clear hp7 hO
  go_loop [18] (fun i => ∃ k : Nat, k ≤ 7 ∧ i = .int .i64 k) (fun i => 7 - (intOf i).toNat)
  case atStart => exact ⟨0, by omega, rfl⟩
  case round =>
    obtain ⟨k, hk, rfl⟩ := hrel
    by_cases hlt : k < 7
    · have hk7 : (k : Int) < 7 := by omega
      have hz := hz8 k hlt
      clear hz8
      go_wp2
      go_round
      case rel => exact ⟨k + 1, by omega, by go_num⟩
      case measure => simp [intOf]; omega
    · go_wp2_with fail
      clear hz8 hlt hk
      go_loopg [19] t.toNat (fun gk i wr => ∃ k : Nat, (k : Int) ≤ t ∧ t.toNat - k ≤ gk ∧ i = .int .i64 k ∧ ∃ l2, PlanAt wr pb b0 b1 b2 b3 (T6 d a) [] l2 [(((3, 1), (0, 4)), c)] ∧ Waited l2 ∧ (get (3, 1) l2).getD 0 = min (k : Int) 100 ∧ Only [b0, b1, b2, b3] wz4 wr)
      case atStart => exact ⟨0, ht.1, Nat.le_refl _, rfl, [], hp8, (fun _ _ h => by cases h), by decide, hO8⟩
      case round =>
        clear hp8 hO8
        obtain ⟨q, hq, hgk, rfl, l2, hp, hW, hn, hO⟩ := hrel
        have Hn := hid hn
        clear hn
        by_cases hlt : (q : Int) < t
        · go_wp2_with fail
          refine (tick_told d a c hp hW).mono ?_
          rintro e w9 ⟨rfl, ⟨l2', hp', hW', hn'⟩, hO'⟩
          have Hn' := hid hn'
          clear hn'
          go_wp2
          go_roundg (t.toNat - (q + 1))
          case measure => omega
          case rel => exact ⟨q + 1, by omega, Nat.le_refl _, by go_num, l2', hp', hW', by rw [Hn'.out, Hn.out]; omega, hO.trans hO'⟩
        · obtain rfl : t = (q : Int) := by omega
          have M1 := hid (fun W => min2_any a c W)
          have M2 := hid (fun W => min2_any (q : Int) 100 W)
          have M3 := hid (fun W => min2_any b (min a c) W)
          have C1 := hid (cost_a d a c ha.1 ha1 hc.1 hc1 hp)
          have C2 := hid (fun (W : World) (hh : Below wr.heap.size wr W) => cost_b d a c ha.1 ha1 hc.1 hc1 (hp.below hh))
          have C3 := hid (fun (W : World) (hh : Below wr.heap.size wr W) => cost_c d a c _ hd.1 hd1 hW Hn.out (hp.below hh))
          have C4 := hid (fun (W : World) (hh : Below wr.heap.size wr W) => by
            have := prefer_any (hp.below hh) 1 1 3 b
            rw [(r8 d a b c hb.1 hb1).1, (r8 d a b c hb.1 hb1).2] at this
            exact this)
          have C5 := hid (fun (W : World) (hh : PlanAt W pb b0 b1 b2 b3 (T6 d a) [] l2 [(((3, 1), (0, 4)), c), (((3, 1), (1, 3)), b)]) => cost_d d a b c ha.1 ha1 hb.1 hb1 hc.1 hc1 hh)
          have hX : 0 ≤ min a c ∧ min a c ≤ 1000 := by omega
          have hN : 0 ≤ min (q : Int) 100 ∧ min (q : Int) 100 ≤ 100 := by omega
          generalize min (q : Int) 100 = n at M2 C3 hN
          generalize min a c = X at M1 M3 C1 C5 hX
          generalize min b X = Y at M3 C5
          clear Hn
          go_wp2_with fail
          refine C1.out.mono ?_
          rintro e v1 ⟨rfl, hv1⟩
          go_wp2_with fail
          refine (C2.out _ hv1).mono ?_
          rintro e v2 ⟨rfl, hv2⟩
          go_wp2_with fail
          refine (C3.out _ (next2 hv1 hv2)).mono ?_
          rintro e v3 ⟨rfl, hv3⟩
          go_wp2_with fail
          refine (M1.out _).mono ?_
          rintro e v4 ⟨rfl, rfl⟩
          go_wp2_with fail
          refine (M2.out _).mono ?_
          rintro e v5 ⟨rfl, rfl⟩
          go_wp2_with fail
          refine (C4.out _ (next2 (next2 hv1 hv2) hv3)).mono ?_
          rintro e v6 ⟨rfl, hv6, hO6⟩
          go_wp2_with fail
          refine (C5.out _ hv6).mono ?_
          rintro e v7 ⟨rfl, hv7⟩
          go_wp2_with fail
          refine (where_a d a b c (hv6.below hv7)).mono ?_
          rintro e v8 ⟨rfl, hv8⟩
          go_wp2_with fail
          refine (cost_e d a b c ((hv6.below hv7).below hv8)).mono ?_
          rintro e v9 ⟨rfl, hv9⟩
          go_wp2_with fail
          refine (M1.out _).mono ?_
          rintro e v10 ⟨rfl, rfl⟩
          go_wp2_with fail
          refine (M3.out _).mono ?_
          rintro e v11 ⟨rfl, rfl⟩
          go_wp2
          go_ret
          exact ⟨rfl, below_only hbl (hO.trans ((Only.of_below (next2 (next2 hv1 hv2) hv3)).trans (hO6.trans (Only.of_below (next2 (next2 hv7 hv8) hv9))))) (by
            have := HB.out
            simp only [List.mem_cons, List.not_mem_nil, or_false]
            rintro x (rfl | rfl | rfl | rfl) <;> omega)⟩
end Go.Proofs.Ytjdindfjfpdikaa
