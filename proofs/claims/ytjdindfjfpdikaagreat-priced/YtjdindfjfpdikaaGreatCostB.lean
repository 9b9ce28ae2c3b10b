import Derived.Test.YtjdindfjfpdikaaGreatCost
namespace Go.Proofs.YtjdindfjfpdikaaGreat
open Go.RowKit

theorem index0 (w : World) (a b c d : Int) : (Instr.index 137 (.agg #[.int .i64 a, .int .i64 b, .int .i64 c, .int .i64 d]) (.int .i64 0)).run Tryz.prog w = .ok (.agg #[.int .i64 a, .int .i64 b]) w := by kernel_rfl
theorem index1 (w : World) (a b c d : Int) : (Instr.index 137 (.agg #[.int .i64 a, .int .i64 b, .int .i64 c, .int .i64 d]) (.int .i64 1)).run Tryz.prog w = .ok (.agg #[.int .i64 c, .int .i64 d]) w := by kernel_rfl

theorem neq79 (w : World) (a b : Int × Int) : (binOp .neq 102 (tv a) (tv b)).run Tryz.prog w = .ok (.bool (!decide (a = b))) w := by
  have h := eq79 w a b
  unfold Op.equal Op.maxDepth at h
  unfold tv at h ⊢
  rw [run_neq_struct, h]
  rfl

/-- The lesser of a cost and a wish's, if there is one. -/
def lesser (a : Int) : Option Int → Int
  | some c => min a c
  | none => a
def Costs (l3 : Prefs) : Prop := ∀ k n, get k l3 = some n → 0 ≤ n ∧ n ≤ 1000

theorem lesser_bounds {a : Int} {o : Option Int} (h0 : 0 ≤ a) (h1 : a ≤ 1000) (ho : ∀ n, o = some n → 0 ≤ n ∧ n ≤ 1000) : 0 ≤ lesser a o ∧ lesser a o ≤ 1000 := by
  cases o with
  | none => exact ⟨h0, h1⟩
  | some n => have := ho n rfl; show 0 ≤ min a n ∧ min a n ≤ 1000; omega

/-- What a task costs more on a machine, if it runs on another. -/
def movesTo (l1 : Runs) (t m : Int × Int) : Int := match get t l1 with
  | some n => if n = m then 0 else 50
  | none => 0

section
variable {w : World} {pb b0 b1 b2 b3 : Nat} {l0 : Things} {l1 : Runs} {l2 : Waits} {l3 : Prefs}

set_option maxRecDepth 100000 in
set_option maxHeartbeats 4000000 in
theorem costOn_any (h : PlanAt w pb b0 b1 b2 b3 l0 l1 l2 l3) (t1 t2 m1 m2 j1 j2 s a r1 r2 s' c' : Int) (ht : get (t1, t2) l0 = some ((j1, j2), s, a)) (hm : get (m1, m2) l0 = some ((r1, r2), s', c')) (ha0 : 0 ≤ a) (ha1 : a ≤ 1000) (hC : Costs l3) :
    Calls Tryz.prog 67 #[.pointer (some ⟨pb, 0, none⟩), .agg #[.int .i64 t1, .int .i64 t2], .agg #[.int .i64 m1, .int .i64 m2]] w fun e w' =>
      e = .returned (.int .i64 (lesser (lesser a (get ((t1, t2), (m1, m2)) l3)) (get ((t1, t2), (r1, r2)) l3) + movesTo l1 (t1, t2) (m1, m2))) ∧ Below w.heap.size w w' := by
  have c0 := h.c0
  have hpb := h.lt
  have hpb1 : pb < w.heap.size + 1 := by omega
  have hpb2 : pb < w.heap.size + 1 + 1 := by omega
  have hs1 : w.heap.size < w.heap.size + 1 + 1 := by omega
  have f0 := field0
  have f2 := field2
  have i0 := index0
  have i1 := index1
  have e1 : ∀ o o', (Instr.lookup 54 (.map (some b0)) (.agg #[.int .i64 t1, .int .i64 t2]) false).run Tryz.prog ((w.alloc o).alloc o').drew = .ok (.agg #[.int .i64 j1, .int .i64 j2, .int .i64 s, .int .i64 a]) ((w.alloc o).alloc o').drew := fun o o' => run_look_yes' kt79 Tryz.underlying54 ((h.m0.alloc o).alloc o').drew (t1, t2) ht _ (zero82 _)
  have e2 : ∀ o o', (Instr.lookup 54 (.map (some b0)) (.agg #[.int .i64 m1, .int .i64 m2]) false).run Tryz.prog ((w.alloc o).alloc o').drew.drew = .ok (.agg #[.int .i64 r1, .int .i64 r2, .int .i64 s', .int .i64 c']) ((w.alloc o).alloc o').drew.drew := fun o o' => run_look_yes' kt79 Tryz.underlying54 ((h.m0.alloc o).alloc o').drew.drew (m1, m2) hm _ (zero82 _)
  clear ht hm
  go_enter Tryz.func67, Tryz.ntmps67
  go_wp2
  go_region
  all_goals go_wp2
  all_goals go_region
  go_wp2
  have hp1 := (h.alloc (.cells #[.int .i64 t1, .int .i64 t2] 102)).alloc (.cells #[.int .i64 m1, .int .i64 m2] 102)
  have hb1 : Below w.heap.size w ((w.alloc (.cells #[.int .i64 t1, .int .i64 t2] 102)).alloc (.cells #[.int .i64 m1, .int .i64 m2] 102)) := ((Below.refl _ _).alloc (Nat.le_refl _) _).alloc (by simp) _
  clear e1 e2 c0 h
  generalize hL1 : lesser a (get ((t1, t2), (m1, m2)) l3) = L1
  generalize hL2 : lesser L1 (get ((t1, t2), (r1, r2)) l3) = L2
  have hB1 : 0 ≤ L1 ∧ L1 ≤ 1000 := hL1 ▸ lesser_bounds ha0 ha1 (fun n hn => hC _ _ hn)
  have hB2 : 0 ≤ L2 ∧ L2 ≤ 1000 := hL2 ▸ lesser_bounds hB1.1 hB1.2 (fun n hn => hC _ _ hn)
  have HL := hid (And.intro hL1 hL2)
  clear hL1 hL2
  go_loopg [7, 30] 2 (fun gk v i wr => ∃ k : Nat, k ≤ 2 ∧ 2 - k ≤ gk ∧ i = .int .i64 k ∧ v = .int .i64 (if k = 0 then a else if k = 1 then L1 else L2) ∧ Below ((w.alloc (.cells #[.int .i64 t1, .int .i64 t2] 102)).alloc (.cells #[.int .i64 m1, .int .i64 m2] 102)).heap.size ((w.alloc (.cells #[.int .i64 t1, .int .i64 t2] 102)).alloc (.cells #[.int .i64 m1, .int .i64 m2] 102)) wr)
  case atStart => exact ⟨0, by omega, by omega, rfl, rfl, (Below.refl _ _).drew.drew⟩
  case round =>
    obtain ⟨k, hk, hgk, rfl, rfl, hbw⟩ := hrel
    have hp := hp1.below hbw
    obtain ⟨k1, k2, k3, k4⟩ := boxes2 hbw
    have c3 := hp.c3
    have c1 := hp.c1
    have hpw := hp.lt
    have hz := hbw.size
    have hz1 : w.heap.size < wr.heap.size := by simp at hz; omega
    have hz2 : w.heap.size + 1 < wr.heap.size := by simp at hz; omega
    clear hz
    obtain rfl | rfl | rfl : k = 0 ∨ k = 1 ∨ k = 2 := by omega
    · cases hq : get ((t1, t2), (m1, m2)) l3 with
      | none =>
        have e3 : ∀ o, (Instr.lookup 57 (.map (some b3)) (.agg #[.int .i64 t1, .int .i64 t2, .int .i64 m1, .int .i64 m2]) true).run Tryz.prog (wr.alloc o).drew = .ok (.tuple #[.int .i64 0, .bool false]) (wr.alloc o).drew := fun o => run_look_no kt86 Tryz.underlying57 (hp.m3.alloc o).drew ((t1, t2), (m1, m2)) hq _ (zero3 _)
        have Hl := hid (show a = L1 by have := HL.out.1; rw [hq] at this; exact this)
        clear hq
        go_wp2
        go_region
        all_goals go_wp2
        all_goals
          go_roundg 1
          case measure => omega
          case rel => exact ⟨1, by omega, by omega, rfl, by simp [Hl.out], (hbw.alloc hbw.size _).drew⟩
      | some c =>
        have e3 : ∀ o, (Instr.lookup 57 (.map (some b3)) (.agg #[.int .i64 t1, .int .i64 t2, .int .i64 m1, .int .i64 m2]) true).run Tryz.prog (wr.alloc o).drew = .ok (.tuple #[.int .i64 c, .bool true]) (wr.alloc o).drew := fun o => run_look_yes kt86 Tryz.underlying57 (hp.m3.alloc o).drew ((t1, t2), (m1, m2)) hq _ (zero3 _)
        have hl : min a c = L1 := by have := HL.out.1; rw [hq] at this; exact this
        have Hl := hid hl
        have hcb := hC _ _ hq
        clear hq hl
        go_wp2
        go_region
        all_goals go_wp2
        all_goals
          go_roundg 1
          case measure => omega
          case rel => exact ⟨1, by omega, by omega, rfl, congrArg (Value.int .i64) (by have := Hl.out; simp; omega), (hbw.alloc hbw.size _).drew⟩
    · cases hq : get ((t1, t2), (r1, r2)) l3 with
      | none =>
        have e3 : ∀ o, (Instr.lookup 57 (.map (some b3)) (.agg #[.int .i64 t1, .int .i64 t2, .int .i64 r1, .int .i64 r2]) true).run Tryz.prog (wr.alloc o).drew = .ok (.tuple #[.int .i64 0, .bool false]) (wr.alloc o).drew := fun o => run_look_no kt86 Tryz.underlying57 (hp.m3.alloc o).drew ((t1, t2), (r1, r2)) hq _ (zero3 _)
        have Hl := hid (show L1 = L2 by have := HL.out.2; rw [hq] at this; exact this)
        clear hq
        go_wp2
        go_region
        all_goals go_wp2
        all_goals
          go_roundg 0
          case measure => omega
          case rel => exact ⟨2, by omega, by omega, rfl, by simp [Hl.out], (hbw.alloc hbw.size _).drew⟩
      | some c =>
        have e3 : ∀ o, (Instr.lookup 57 (.map (some b3)) (.agg #[.int .i64 t1, .int .i64 t2, .int .i64 r1, .int .i64 r2]) true).run Tryz.prog (wr.alloc o).drew = .ok (.tuple #[.int .i64 c, .bool true]) (wr.alloc o).drew := fun o => run_look_yes kt86 Tryz.underlying57 (hp.m3.alloc o).drew ((t1, t2), (r1, r2)) hq _ (zero3 _)
        have hl : min L1 c = L2 := by have := HL.out.2; rw [hq] at this; exact this
        have Hl := hid hl
        have hcb := hC _ _ hq
        clear hq hl
        go_wp2
        go_region
        all_goals go_wp2
        all_goals
          go_roundg 0
          case measure => omega
          case rel => exact ⟨2, by omega, by omega, rfl, congrArg (Value.int .i64) (by have := Hl.out; simp; omega), (hbw.alloc hbw.size _).drew⟩
    · cases hr : get (t1, t2) l1 with
      | none =>
        have e4 : (Instr.lookup 55 (.map (some b1)) (.agg #[.int .i64 t1, .int .i64 t2]) true).run Tryz.prog wr.drew = .ok (.tuple #[.agg #[.int .i64 0, .int .i64 0], .bool false]) wr.drew := run_look_no kt79 Tryz.underlying55 hp.m1.drew (t1, t2) hr _ (zero79 _)
        have e5 : ∀ o, (Instr.lookup 55 (.map (some b1)) (.agg #[.int .i64 t1, .int .i64 t2]) true).run Tryz.prog (wr.alloc o).drew = .ok (.tuple #[.agg #[.int .i64 0, .int .i64 0], .bool false]) (wr.alloc o).drew := fun o => run_look_no kt79 Tryz.underlying55 (hp.m1.alloc o).drew (t1, t2) hr _ (zero79 _)
        have Hm := hid (show movesTo l1 (t1, t2) (m1, m2) = 0 by simp [movesTo, hr])
        clear hr
        go_wp2
        go_region
        all_goals go_wp2
        all_goals
          go_ret
          exact ⟨ret_int (by rw [HL.out.1, HL.out.2, Hm.out, Int.add_zero]), next2 hb1 ((hbw.alloc hbw.size _).drew)⟩
      | some n =>
        obtain ⟨n1, n2⟩ := n
        have e4 : (Instr.lookup 55 (.map (some b1)) (.agg #[.int .i64 t1, .int .i64 t2]) true).run Tryz.prog wr.drew = .ok (.tuple #[.agg #[.int .i64 n1, .int .i64 n2], .bool true]) wr.drew := run_look_yes kt79 Tryz.underlying55 hp.m1.drew (t1, t2) hr _ (zero79 _)
        have e5 : ∀ o, (Instr.lookup 55 (.map (some b1)) (.agg #[.int .i64 t1, .int .i64 t2]) true).run Tryz.prog (wr.alloc o).drew = .ok (.tuple #[.agg #[.int .i64 n1, .int .i64 n2], .bool true]) (wr.alloc o).drew := fun o => run_look_yes kt79 Tryz.underlying55 (hp.m1.alloc o).drew (t1, t2) hr _ (zero79 _)
        have hne : ∀ w' : World, (binOp .neq 102 (.agg #[.int .i64 n1, .int .i64 n2]) (.agg #[.int .i64 m1, .int .i64 m2])).run Tryz.prog w' = .ok (.bool (!decide ((n1, n2) = (m1, m2)))) w' := fun w' => neq79 w' (n1, n2) (m1, m2)
        by_cases hn : n1 = m1 ∧ n2 = m2
        · obtain ⟨rfl, rfl⟩ := hn
          have hne' : ∀ w' : World, (binOp .neq 102 (.agg #[.int .i64 n1, .int .i64 n2]) (.agg #[.int .i64 n1, .int .i64 n2])).run Tryz.prog w' = .ok (.bool false) w' := fun w' => by rw [hne w']; simp
          clear hne
          have Hm := hid (show movesTo l1 (t1, t2) (n1, n2) = 0 by simp [movesTo, hr])
          clear hr
          go_wp2
          go_region
          all_goals go_wp2
          all_goals
            go_ret
            exact ⟨ret_int (by rw [HL.out.1, HL.out.2, Hm.out, Int.add_zero]), next2 hb1 ((hbw.alloc hbw.size _).drew)⟩
        · have Hm := hid (show movesTo l1 (t1, t2) (m1, m2) = 50 by simp [movesTo, hr, hn])
          clear hr
          have hne' : ∀ w' : World, (binOp .neq 102 (.agg #[.int .i64 n1, .int .i64 n2]) (.agg #[.int .i64 m1, .int .i64 m2])).run Tryz.prog w' = .ok (.bool true) w' := fun w' => by rw [hne w']; simp [hn]
          clear hne hn
          go_wp2
          go_region
          all_goals go_wp2
          all_goals
            go_ret
            exact ⟨ret_int (by rw [HL.out.1, HL.out.2, Hm.out]), next2 hb1 ((hbw.alloc hbw.size _).drew)⟩
end
end Go.Proofs.YtjdindfjfpdikaaGreat
