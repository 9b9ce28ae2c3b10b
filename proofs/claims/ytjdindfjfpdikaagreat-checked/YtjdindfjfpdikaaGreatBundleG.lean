import Derived.BigRegion
import Derived.Deep.LoopGhost
import Derived.Deep.Slices
import Derived.KernelRfl
import Derived.Test.YtjdindfjfpdikaaGreatBundleE
import Derived.Test.YtjdindfjfpdikaaGreatBundleF
import Derived.Test.YtjdindfjfpdikaaGreatBundleB
namespace Go.Proofs.YtjdindfjfpdikaaGreat
open Go.RowKit

/-- What a call of a kind answers, and what it leaves. -/
def code (R : RSt) (k a b c d : Int) : Int := if k = 2 then c2 R a else if k = 3 then c3 R a b c else if k = 4 then c4 R a b else if k = 5 then c5 R a b c else if k = 6 then c6 R a b c d else if k = 7 then c7 R a b else 0
def next (R : RSt) (k a b c d : Int) : RSt := if k = 2 then n2 R a else if k = 3 then n3 R a b c else if k = 4 then n4 R a b else if k = 5 then n5 R a b c else if k = 6 then n6 R a b c d else if k = 7 then n7 R a b else n8 R

/-- One call of a script. -/
def opV (k m a b c d : Int) (y6 y7 y8 y9 y10 : Value) : Value := .agg #[.int .i64 k, .int .i64 m, .int .i64 a, .int .i64 b, .int .i64 c, .int .i64 d, y6, y7, y8, y9, y10]

/-- What a call leaves of a plan of the program. -/
def PPost (w : World) (pb b0 b1 b2 b3 : Nat) (R : RSt) (a : Value) (e : Ending) (w' : World) : Prop :=
  e = .returned a ∧ ∃ l0 l1 l2 l3, PlanAt w' pb b0 b1 b2 b3 l0 l1 l2 l3 ∧ Sim l0 l1 l2 l3 R ∧ Only [b0, b1, b2, b3] w w'

section
variable {w : World} {pb b0 b1 b2 b3 : Nat} {l0 : Things} {l1 : Runs} {l2 : Waits} {l3 : Prefs} {R : RSt}

set_option maxRecDepth 100000 in
set_option maxHeartbeats 4000000 in
theorem builds2 (h : PlanAt w pb b0 b1 b2 b3 l0 l1 l2 l3) (hs : Sim l0 l1 l2 l3 R) (m a b c d : Int) (y6 y7 y8 y9 y10 : Value) :
    Calls Tryz.prog 15 #[.pointer (some ⟨pb, 0, none⟩), .agg #[.int .i64 2, .int .i64 m, .int .i64 a, .int .i64 b, .int .i64 c, .int .i64 d, y6, y7, y8, y9, y10]] w (PPost w pb b0 b1 b2 b3 (n2 R a) (.int .i64 (c2 R a))) := by
  have hp1 := h.alloc (.cells #[.int .i64 2, .int .i64 m, .int .i64 a, .int .i64 b, .int .i64 c, .int .i64 d, y6, y7, y8, y9, y10] 37)
  have hb1 : Below w.heap.size w (w.alloc (.cells #[.int .i64 2, .int .i64 m, .int .i64 a, .int .i64 b, .int .i64 c, .int .i64 d, y6, y7, y8, y9, y10] 37)) := (Below.refl _ _).alloc (Nat.le_refl _) _
  have hq := sim_rack hs a
  have A1 := hid (rack_any sortSaid hp1 a hs.len)
  rw [hq.1] at A1
  have HS := hid hq.2
  clear hq
  go_enter Tryz.func15, Tryz.ntmps15
  go_wp2_with fail
  refine A1.out.mono ?_
  rintro e w2 ⟨rfl, hp2, ho2⟩
  go_wp2_with fail
  go_ret
  exact ⟨rfl, _, _, _, _, hp2, HS.out, (Only.of_below hb1).trans ho2⟩

set_option maxRecDepth 100000 in
set_option maxHeartbeats 4000000 in
theorem builds3 (h : PlanAt w pb b0 b1 b2 b3 l0 l1 l2 l3) (hs : Sim l0 l1 l2 l3 R) (m a b c d : Int) (y6 y7 y8 y9 y10 : Value) :
    Calls Tryz.prog 15 #[.pointer (some ⟨pb, 0, none⟩), .agg #[.int .i64 3, .int .i64 m, .int .i64 a, .int .i64 b, .int .i64 c, .int .i64 d, y6, y7, y8, y9, y10]] w (PPost w pb b0 b1 b2 b3 (n3 R a b c) (.int .i64 (c3 R a b c))) := by
  have hp1 := h.alloc (.cells #[.int .i64 3, .int .i64 m, .int .i64 a, .int .i64 b, .int .i64 c, .int .i64 d, y6, y7, y8, y9, y10] 37)
  have hb1 : Below w.heap.size w (w.alloc (.cells #[.int .i64 3, .int .i64 m, .int .i64 a, .int .i64 b, .int .i64 c, .int .i64 d, y6, y7, y8, y9, y10] 37)) := (Below.refl _ _).alloc (Nat.le_refl _) _
  have hq := sim_mach hs a b c
  have A1 := hid (machine_any sortSaid hp1 a b c hs.len)
  rw [hq.1] at A1
  have HS := hid hq.2
  clear hq
  go_enter Tryz.func15, Tryz.ntmps15
  go_wp2_with fail
  refine A1.out.mono ?_
  rintro e w2 ⟨rfl, hp2, ho2⟩
  go_wp2_with fail
  go_ret
  exact ⟨rfl, _, _, _, _, hp2, HS.out, (Only.of_below hb1).trans ho2⟩

set_option maxRecDepth 100000 in
set_option maxHeartbeats 4000000 in
theorem builds4 (h : PlanAt w pb b0 b1 b2 b3 l0 l1 l2 l3) (hs : Sim l0 l1 l2 l3 R) (m a b c d : Int) (y6 y7 y8 y9 y10 : Value) :
    Calls Tryz.prog 15 #[.pointer (some ⟨pb, 0, none⟩), .agg #[.int .i64 4, .int .i64 m, .int .i64 a, .int .i64 b, .int .i64 c, .int .i64 d, y6, y7, y8, y9, y10]] w (PPost w pb b0 b1 b2 b3 (n4 R a b) (.int .i64 (c4 R a b))) := by
  have hp1 := h.alloc (.cells #[.int .i64 4, .int .i64 m, .int .i64 a, .int .i64 b, .int .i64 c, .int .i64 d, y6, y7, y8, y9, y10] 37)
  have hb1 : Below w.heap.size w (w.alloc (.cells #[.int .i64 4, .int .i64 m, .int .i64 a, .int .i64 b, .int .i64 c, .int .i64 d, y6, y7, y8, y9, y10] 37)) := (Below.refl _ _).alloc (Nat.le_refl _) _
  have hq := sim_job hs a b
  have A1 := hid (job_any sortSaid hp1 a b hs.len)
  rw [hq.1] at A1
  have HS := hid hq.2
  clear hq
  go_enter Tryz.func15, Tryz.ntmps15
  go_wp2_with fail
  refine A1.out.mono ?_
  rintro e w2 ⟨rfl, hp2, ho2⟩
  go_wp2_with fail
  go_ret
  exact ⟨rfl, _, _, _, _, hp2, HS.out, (Only.of_below hb1).trans ho2⟩

set_option maxRecDepth 100000 in
set_option maxHeartbeats 4000000 in
theorem builds5 (h : PlanAt w pb b0 b1 b2 b3 l0 l1 l2 l3) (hs : Sim l0 l1 l2 l3 R) (m a b c d : Int) (y6 y7 y8 y9 y10 : Value) :
    Calls Tryz.prog 15 #[.pointer (some ⟨pb, 0, none⟩), .agg #[.int .i64 5, .int .i64 m, .int .i64 a, .int .i64 b, .int .i64 c, .int .i64 d, y6, y7, y8, y9, y10]] w (PPost w pb b0 b1 b2 b3 (n5 R a b c) (.int .i64 (c5 R a b c))) := by
  have hp1 := h.alloc (.cells #[.int .i64 5, .int .i64 m, .int .i64 a, .int .i64 b, .int .i64 c, .int .i64 d, y6, y7, y8, y9, y10] 37)
  have hb1 : Below w.heap.size w (w.alloc (.cells #[.int .i64 5, .int .i64 m, .int .i64 a, .int .i64 b, .int .i64 c, .int .i64 d, y6, y7, y8, y9, y10] 37)) := (Below.refl _ _).alloc (Nat.le_refl _) _
  have hq := sim_task hs a b c
  have A1 := hid (task_any sortSaid hp1 a b c hs.len)
  rw [hq.1] at A1
  have HS := hid hq.2
  clear hq
  go_enter Tryz.func15, Tryz.ntmps15
  go_wp2_with fail
  refine A1.out.mono ?_
  rintro e w2 ⟨rfl, hp2, ho2⟩
  go_wp2_with fail
  go_ret
  exact ⟨rfl, _, _, _, _, hp2, HS.out, (Only.of_below hb1).trans ho2⟩

set_option maxRecDepth 100000 in
set_option maxHeartbeats 4000000 in
theorem builds6 (h : PlanAt w pb b0 b1 b2 b3 l0 l1 l2 l3) (hs : Sim l0 l1 l2 l3 R) (m a b c d : Int) (y6 y7 y8 y9 y10 : Value) :
    Calls Tryz.prog 15 #[.pointer (some ⟨pb, 0, none⟩), .agg #[.int .i64 6, .int .i64 m, .int .i64 a, .int .i64 b, .int .i64 c, .int .i64 d, y6, y7, y8, y9, y10]] w (PPost w pb b0 b1 b2 b3 (n6 R a b c d) (.int .i64 (c6 R a b c d))) := by
  have hp1 := h.alloc (.cells #[.int .i64 6, .int .i64 m, .int .i64 a, .int .i64 b, .int .i64 c, .int .i64 d, y6, y7, y8, y9, y10] 37)
  have hb1 : Below w.heap.size w (w.alloc (.cells #[.int .i64 6, .int .i64 m, .int .i64 a, .int .i64 b, .int .i64 c, .int .i64 d, y6, y7, y8, y9, y10] 37)) := (Below.refl _ _).alloc (Nat.le_refl _) _
  have hq := sim_pref hs a b c d
  have A1 := hid (prefer_any hp1 a b c d)
  rw [hq.1] at A1
  have HS := hid hq.2
  clear hq
  go_enter Tryz.func15, Tryz.ntmps15
  go_wp2_with fail
  refine A1.out.mono ?_
  rintro e w2 ⟨rfl, hp2, ho2⟩
  go_wp2_with fail
  go_ret
  exact ⟨rfl, _, _, _, _, hp2, HS.out, (Only.of_below hb1).trans ho2⟩

set_option maxRecDepth 100000 in
set_option maxHeartbeats 4000000 in
theorem builds7 (h : PlanAt w pb b0 b1 b2 b3 l0 l1 l2 l3) (hs : Sim l0 l1 l2 l3 R) (m a b c d : Int) (y6 y7 y8 y9 y10 : Value) :
    Calls Tryz.prog 15 #[.pointer (some ⟨pb, 0, none⟩), .agg #[.int .i64 7, .int .i64 m, .int .i64 a, .int .i64 b, .int .i64 c, .int .i64 d, y6, y7, y8, y9, y10]] w (PPost w pb b0 b1 b2 b3 (n7 R a b) (.int .i64 (c7 R a b))) := by
  have hp1 := h.alloc (.cells #[.int .i64 7, .int .i64 m, .int .i64 a, .int .i64 b, .int .i64 c, .int .i64 d, y6, y7, y8, y9, y10] 37)
  have hb1 : Below w.heap.size w (w.alloc (.cells #[.int .i64 7, .int .i64 m, .int .i64 a, .int .i64 b, .int .i64 c, .int .i64 d, y6, y7, y8, y9, y10] 37)) := (Below.refl _ _).alloc (Nat.le_refl _) _
  have hq := sim_rem hs a b
  have A1 := hid (remove_runs hp1 hs.kn0 hs.runs.kn1 hs.kn2 hs.kn3 a b)
  rw [hq.1] at A1
  have HS := hid hq.2
  clear hq
  go_enter Tryz.func15, Tryz.ntmps15
  go_wp2_with fail
  refine A1.out.mono ?_
  rintro e w2 ⟨rfl, hp2, ho2⟩
  go_wp2_with fail
  go_ret
  exact ⟨rfl, _, _, _, _, hp2, HS.out, (Only.of_below hb1).trans ho2⟩

set_option maxRecDepth 100000 in
set_option maxHeartbeats 4000000 in
theorem builds8 (h : PlanAt w pb b0 b1 b2 b3 l0 l1 l2 l3) (hs : Sim l0 l1 l2 l3 R) (m a b c d : Int) (y6 y7 y8 y9 y10 : Value) :
    Calls Tryz.prog 15 #[.pointer (some ⟨pb, 0, none⟩), .agg #[.int .i64 8, .int .i64 m, .int .i64 a, .int .i64 b, .int .i64 c, .int .i64 d, y6, y7, y8, y9, y10]] w (PPost w pb b0 b1 b2 b3 (n8 R) (.int .i64 (0))) := by
  have hp1 := h.alloc (.cells #[.int .i64 8, .int .i64 m, .int .i64 a, .int .i64 b, .int .i64 c, .int .i64 d, y6, y7, y8, y9, y10] 37)
  have hb1 : Below w.heap.size w (w.alloc (.cells #[.int .i64 8, .int .i64 m, .int .i64 a, .int .i64 b, .int .i64 c, .int .i64 d, y6, y7, y8, y9, y10] 37)) := (Below.refl _ _).alloc (Nat.le_refl _) _
  have A1 := hid (tick_any sortSaid hp1 hs.len hs.wd)
  go_enter Tryz.func15, Tryz.ntmps15
  go_wp2_with fail
  refine A1.out.mono ?_
  rintro e w2 ⟨rfl, ⟨ys, hy, hp2⟩, ho2⟩
  go_wp2_with fail
  go_ret
  exact ⟨rfl, _, _, _, _, hp2, sim_tick hs ys hy, (Only.of_below hb1).trans ho2⟩

theorem builds_any (h : PlanAt w pb b0 b1 b2 b3 l0 l1 l2 l3) (hs : Sim l0 l1 l2 l3 R) (k m a b c d : Int) (y6 y7 y8 y9 y10 : Value) (hk : 2 ≤ k ∧ k ≤ 8) :
    Calls Tryz.prog 15 #[.pointer (some ⟨pb, 0, none⟩), opV k m a b c d y6 y7 y8 y9 y10] w (PPost w pb b0 b1 b2 b3 (next R k a b c d) (.int .i64 (code R k a b c d))) := by
  obtain rfl | rfl | rfl | rfl | rfl | rfl | rfl : k = 2 ∨ k = 3 ∨ k = 4 ∨ k = 5 ∨ k = 6 ∨ k = 7 ∨ k = 8 := by omega
  · exact builds2 h hs m a b c d y6 y7 y8 y9 y10
  · exact builds3 h hs m a b c d y6 y7 y8 y9 y10
  · exact builds4 h hs m a b c d y6 y7 y8 y9 y10
  · exact builds5 h hs m a b c d y6 y7 y8 y9 y10
  · exact builds6 h hs m a b c d y6 y7 y8 y9 y10
  · exact builds7 h hs m a b c d y6 y7 y8 y9 y10
  · exact builds8 h hs m a b c d y6 y7 y8 y9 y10
end

section
variable {w : World} {rb : Nat} {V : RVs} {x7 x8 x9 x10 x11 : Value} {R : RSt}

set_option maxRecDepth 100000 in
set_option maxHeartbeats 4000000 in
theorem built2 (h : RefAt w rb V x7 x8 x9 x10 x11 R) (hf : Fit R) (m a b c d : Int) (y6 y7 y8 y9 y10 : Value) :
    Calls Tryz.prog 16 #[.pointer (some ⟨rb, 0, none⟩), .agg #[.int .i64 2, .int .i64 m, .int .i64 a, .int .i64 b, .int .i64 c, .int .i64 d, y6, y7, y8, y9, y10]] w (RPost w rb V x7 x8 x9 x10 x11 (n2 R a) (.int .i64 (c2 R a))) := by
  have hp1 := h.alloc (.cells #[.int .i64 2, .int .i64 m, .int .i64 a, .int .i64 b, .int .i64 c, .int .i64 d, y6, y7, y8, y9, y10] 37)
  have hb1 : Below w.heap.size w (w.alloc (.cells #[.int .i64 2, .int .i64 m, .int .i64 a, .int .i64 b, .int .i64 c, .int .i64 d, y6, y7, y8, y9, y10] 37)) := (Below.refl _ _).alloc (Nat.le_refl _) _
  have A1 := hid (r2_any hp1 hf a)
  go_enter Tryz.func16, Tryz.ntmps16
  go_wp2_with fail
  refine A1.out.mono ?_
  rintro e w2 ⟨rfl, V2, hr2, ho2, hv2⟩
  go_wp2_with fail
  go_ret
  exact ⟨rfl, V2, hr2, (Only.of_below hb1).trans ho2, fun b hb => (hv2 b hb).imp_right (fun hh => Nat.le_trans hb1.size hh)⟩

set_option maxRecDepth 100000 in
set_option maxHeartbeats 4000000 in
theorem built3 (h : RefAt w rb V x7 x8 x9 x10 x11 R) (hf : Fit R) (m a b c d : Int) (y6 y7 y8 y9 y10 : Value) :
    Calls Tryz.prog 16 #[.pointer (some ⟨rb, 0, none⟩), .agg #[.int .i64 3, .int .i64 m, .int .i64 a, .int .i64 b, .int .i64 c, .int .i64 d, y6, y7, y8, y9, y10]] w (RPost w rb V x7 x8 x9 x10 x11 (n3 R a b c) (.int .i64 (c3 R a b c))) := by
  have hp1 := h.alloc (.cells #[.int .i64 3, .int .i64 m, .int .i64 a, .int .i64 b, .int .i64 c, .int .i64 d, y6, y7, y8, y9, y10] 37)
  have hb1 : Below w.heap.size w (w.alloc (.cells #[.int .i64 3, .int .i64 m, .int .i64 a, .int .i64 b, .int .i64 c, .int .i64 d, y6, y7, y8, y9, y10] 37)) := (Below.refl _ _).alloc (Nat.le_refl _) _
  have A1 := hid (r3_any hp1 hf a b c)
  go_enter Tryz.func16, Tryz.ntmps16
  go_wp2_with fail
  refine A1.out.mono ?_
  rintro e w2 ⟨rfl, V2, hr2, ho2, hv2⟩
  go_wp2_with fail
  go_ret
  exact ⟨rfl, V2, hr2, (Only.of_below hb1).trans ho2, fun b hb => (hv2 b hb).imp_right (fun hh => Nat.le_trans hb1.size hh)⟩

set_option maxRecDepth 100000 in
set_option maxHeartbeats 4000000 in
theorem built4 (h : RefAt w rb V x7 x8 x9 x10 x11 R) (hf : Fit R) (m a b c d : Int) (y6 y7 y8 y9 y10 : Value) :
    Calls Tryz.prog 16 #[.pointer (some ⟨rb, 0, none⟩), .agg #[.int .i64 4, .int .i64 m, .int .i64 a, .int .i64 b, .int .i64 c, .int .i64 d, y6, y7, y8, y9, y10]] w (RPost w rb V x7 x8 x9 x10 x11 (n4 R a b) (.int .i64 (c4 R a b))) := by
  have hp1 := h.alloc (.cells #[.int .i64 4, .int .i64 m, .int .i64 a, .int .i64 b, .int .i64 c, .int .i64 d, y6, y7, y8, y9, y10] 37)
  have hb1 : Below w.heap.size w (w.alloc (.cells #[.int .i64 4, .int .i64 m, .int .i64 a, .int .i64 b, .int .i64 c, .int .i64 d, y6, y7, y8, y9, y10] 37)) := (Below.refl _ _).alloc (Nat.le_refl _) _
  have A1 := hid (r4_any hp1 hf a b)
  go_enter Tryz.func16, Tryz.ntmps16
  go_wp2_with fail
  refine A1.out.mono ?_
  rintro e w2 ⟨rfl, V2, hr2, ho2, hv2⟩
  go_wp2_with fail
  go_ret
  exact ⟨rfl, V2, hr2, (Only.of_below hb1).trans ho2, fun b hb => (hv2 b hb).imp_right (fun hh => Nat.le_trans hb1.size hh)⟩

set_option maxRecDepth 100000 in
set_option maxHeartbeats 4000000 in
theorem built5 (h : RefAt w rb V x7 x8 x9 x10 x11 R) (hf : Fit R) (m a b c d : Int) (y6 y7 y8 y9 y10 : Value) :
    Calls Tryz.prog 16 #[.pointer (some ⟨rb, 0, none⟩), .agg #[.int .i64 5, .int .i64 m, .int .i64 a, .int .i64 b, .int .i64 c, .int .i64 d, y6, y7, y8, y9, y10]] w (RPost w rb V x7 x8 x9 x10 x11 (n5 R a b c) (.int .i64 (c5 R a b c))) := by
  have hp1 := h.alloc (.cells #[.int .i64 5, .int .i64 m, .int .i64 a, .int .i64 b, .int .i64 c, .int .i64 d, y6, y7, y8, y9, y10] 37)
  have hb1 : Below w.heap.size w (w.alloc (.cells #[.int .i64 5, .int .i64 m, .int .i64 a, .int .i64 b, .int .i64 c, .int .i64 d, y6, y7, y8, y9, y10] 37)) := (Below.refl _ _).alloc (Nat.le_refl _) _
  have A1 := hid (r5_any hp1 hf a b c)
  go_enter Tryz.func16, Tryz.ntmps16
  go_wp2_with fail
  refine A1.out.mono ?_
  rintro e w2 ⟨rfl, V2, hr2, ho2, hv2⟩
  go_wp2_with fail
  go_ret
  exact ⟨rfl, V2, hr2, (Only.of_below hb1).trans ho2, fun b hb => (hv2 b hb).imp_right (fun hh => Nat.le_trans hb1.size hh)⟩

set_option maxRecDepth 100000 in
set_option maxHeartbeats 4000000 in
theorem built6 (h : RefAt w rb V x7 x8 x9 x10 x11 R) (hf : Fit R) (m a b c d : Int) (y6 y7 y8 y9 y10 : Value) :
    Calls Tryz.prog 16 #[.pointer (some ⟨rb, 0, none⟩), .agg #[.int .i64 6, .int .i64 m, .int .i64 a, .int .i64 b, .int .i64 c, .int .i64 d, y6, y7, y8, y9, y10]] w (RPost w rb V x7 x8 x9 x10 x11 (n6 R a b c d) (.int .i64 (c6 R a b c d))) := by
  have hp1 := h.alloc (.cells #[.int .i64 6, .int .i64 m, .int .i64 a, .int .i64 b, .int .i64 c, .int .i64 d, y6, y7, y8, y9, y10] 37)
  have hb1 : Below w.heap.size w (w.alloc (.cells #[.int .i64 6, .int .i64 m, .int .i64 a, .int .i64 b, .int .i64 c, .int .i64 d, y6, y7, y8, y9, y10] 37)) := (Below.refl _ _).alloc (Nat.le_refl _) _
  have A1 := hid (r6_any hp1 hf a b c d)
  go_enter Tryz.func16, Tryz.ntmps16
  go_wp2_with fail
  refine A1.out.mono ?_
  rintro e w2 ⟨rfl, V2, hr2, ho2, hv2⟩
  go_wp2_with fail
  go_ret
  exact ⟨rfl, V2, hr2, (Only.of_below hb1).trans ho2, fun b hb => (hv2 b hb).imp_right (fun hh => Nat.le_trans hb1.size hh)⟩

set_option maxRecDepth 100000 in
set_option maxHeartbeats 4000000 in
theorem built7 (h : RefAt w rb V x7 x8 x9 x10 x11 R) (hf : Fit R) (m a b c d : Int) (y6 y7 y8 y9 y10 : Value) :
    Calls Tryz.prog 16 #[.pointer (some ⟨rb, 0, none⟩), .agg #[.int .i64 7, .int .i64 m, .int .i64 a, .int .i64 b, .int .i64 c, .int .i64 d, y6, y7, y8, y9, y10]] w (RPost w rb V x7 x8 x9 x10 x11 (n7 R a b) (.int .i64 (c7 R a b))) := by
  have hp1 := h.alloc (.cells #[.int .i64 7, .int .i64 m, .int .i64 a, .int .i64 b, .int .i64 c, .int .i64 d, y6, y7, y8, y9, y10] 37)
  have hb1 : Below w.heap.size w (w.alloc (.cells #[.int .i64 7, .int .i64 m, .int .i64 a, .int .i64 b, .int .i64 c, .int .i64 d, y6, y7, y8, y9, y10] 37)) := (Below.refl _ _).alloc (Nat.le_refl _) _
  have A1 := hid (r7_any hp1 hf a b)
  go_enter Tryz.func16, Tryz.ntmps16
  go_wp2_with fail
  refine A1.out.mono ?_
  rintro e w2 ⟨rfl, V2, hr2, ho2, hv2⟩
  go_wp2_with fail
  go_ret
  exact ⟨rfl, V2, hr2, (Only.of_below hb1).trans ho2, fun b hb => (hv2 b hb).imp_right (fun hh => Nat.le_trans hb1.size hh)⟩

set_option maxRecDepth 100000 in
set_option maxHeartbeats 4000000 in
theorem built8 (h : RefAt w rb V x7 x8 x9 x10 x11 R) (hf : Fit R) (m a b c d : Int) (y6 y7 y8 y9 y10 : Value) :
    Calls Tryz.prog 16 #[.pointer (some ⟨rb, 0, none⟩), .agg #[.int .i64 8, .int .i64 m, .int .i64 a, .int .i64 b, .int .i64 c, .int .i64 d, y6, y7, y8, y9, y10]] w (RPost w rb V x7 x8 x9 x10 x11 (n8 R) (.int .i64 (0))) := by
  have hp1 := h.alloc (.cells #[.int .i64 8, .int .i64 m, .int .i64 a, .int .i64 b, .int .i64 c, .int .i64 d, y6, y7, y8, y9, y10] 37)
  have hb1 : Below w.heap.size w (w.alloc (.cells #[.int .i64 8, .int .i64 m, .int .i64 a, .int .i64 b, .int .i64 c, .int .i64 d, y6, y7, y8, y9, y10] 37)) := (Below.refl _ _).alloc (Nat.le_refl _) _
  have A1 := hid (r8_any hp1 hf)
  go_enter Tryz.func16, Tryz.ntmps16
  go_wp2_with fail
  refine A1.out.mono ?_
  rintro e w2 ⟨rfl, V2, hr2, ho2, hv2⟩
  go_wp2_with fail
  go_ret
  exact ⟨rfl, V2, hr2, (Only.of_below hb1).trans ho2, fun b hb => (hv2 b hb).imp_right (fun hh => Nat.le_trans hb1.size hh)⟩

theorem built_any (h : RefAt w rb V x7 x8 x9 x10 x11 R) (hf : Fit R) (k m a b c d : Int) (y6 y7 y8 y9 y10 : Value) (hk : 2 ≤ k ∧ k ≤ 8) :
    Calls Tryz.prog 16 #[.pointer (some ⟨rb, 0, none⟩), opV k m a b c d y6 y7 y8 y9 y10] w (RPost w rb V x7 x8 x9 x10 x11 (next R k a b c d) (.int .i64 (code R k a b c d))) := by
  obtain rfl | rfl | rfl | rfl | rfl | rfl | rfl : k = 2 ∨ k = 3 ∨ k = 4 ∨ k = 5 ∨ k = 6 ∨ k = 7 ∨ k = 8 := by omega
  · exact built2 h hf m a b c d y6 y7 y8 y9 y10
  · exact built3 h hf m a b c d y6 y7 y8 y9 y10
  · exact built4 h hf m a b c d y6 y7 y8 y9 y10
  · exact built5 h hf m a b c d y6 y7 y8 y9 y10
  · exact built6 h hf m a b c d y6 y7 y8 y9 y10
  · exact built7 h hf m a b c d y6 y7 y8 y9 y10
  · exact built8 h hf m a b c d y6 y7 y8 y9 y10
end
end Go.Proofs.YtjdindfjfpdikaaGreat
namespace Go.Proofs.YtjdindfjfpdikaaGreat
open Go.RowKit

theorem two_boxes {w w2 : World} {o1 o2 : Obj} (hb : Below ((w.alloc o1).alloc o2).heap.size ((w.alloc o1).alloc o2) w2) :
    w2.heap[w.heap.size]? = some o1 ∧ w2.heap[w.heap.size + 1]? = some o2 ∧ w.heap.size < w2.heap.size ∧ w.heap.size + 1 < w2.heap.size := by
  have hz : ((w.alloc o1).alloc o2).heap.size = w.heap.size + 1 + 1 := by simp
  have hs := hb.size
  rw [hz] at hs
  refine ⟨?_, ?_, by omega, by omega⟩
  · rw [hb.block _ (by omega), Below.heap_alloc _ _ _ (by simp)]
    exact (MapKept.heap_alloc w o1).1
  · rw [hb.block _ (by omega)]
    have := (MapKept.heap_alloc (w.alloc o1) o2).1
    rwa [show (w.alloc o1).heap.size = w.heap.size + 1 by simp] at this

theorem cell_of {w : World} {b : Nat} {cs : Array Value} {t : TypeId} (h : w.heap[b]? = some (.cells cs t)) (i : Nat) : w.cell? ⟨b, i, none⟩ = cs[i]? := by simp [World.cell?, h]

section
variable {w : World} {pb qb rb b0 b1 b2 b3 : Nat} {l0 : Things} {l1 : Runs} {l2 : Waits} {l3 : Prefs} {V : RVs} {x7 x8 x9 x10 x11 : Value} {R : RSt}

set_option maxRecDepth 100000 in
set_option maxHeartbeats 4000000 in
theorem asks9 (h : PlanAt w pb b0 b1 b2 b3 l0 l1 l2 l3) (hr : RefAt w rb V x7 x8 x9 x10 x11 R) (hs : Sim l0 l1 l2 l3 R) (m a b c d : Int) (y6 y7 y8 y9 y10 : Value) :
    Calls Tryz.prog 17 #[.agg #[.pointer (some ⟨pb, 0, none⟩), .pointer (some ⟨qb, 0, none⟩), .pointer (some ⟨rb, 0, none⟩)], .agg #[.int .i64 9, .int .i64 m, .int .i64 a, .int .i64 b, .int .i64 c, .int .i64 d, y6, y7, y8, y9, y10]] w fun e w' => e = .returned (.bool true) ∧ Below w.heap.size w w' := by
  obtain ⟨x, y, A1, A2⟩ := ask_cost hs a b
  have HA := hid (And.intro A1 A2)
  clear A1 A2
  have hb1 : Below w.heap.size w ((w.alloc (.cells #[.pointer (some ⟨pb, 0, none⟩), .pointer (some ⟨qb, 0, none⟩), .pointer (some ⟨rb, 0, none⟩)] 47)).alloc (.cells #[.int .i64 9, .int .i64 m, .int .i64 a, .int .i64 b, .int .i64 c, .int .i64 d, y6, y7, y8, y9, y10] 37)) := ((Below.refl _ _).alloc (Nat.le_refl _) _).alloc (by simp) _
  have Hp := hid (h.below hb1)
  have Hr := hid (hr.below hb1)
  clear h hr
  go_enter Tryz.func17, Tryz.ntmps17
  go_wp2_with fail
  refine (HA.out.1 _ _ _ _ _ _ Hp.out).mono ?_
  rintro e w2 ⟨rfl, hb2⟩
  obtain ⟨o1, o2, s1, s2⟩ := two_boxes hb2
  have k2 := cell_of o1 2
  have j2 := cell_of o2 2
  have j3 := cell_of o2 3
  simp only [List.getElem?_toArray, List.getElem?_cons_succ, List.getElem?_cons_zero] at k2 j2 j3
  clear o1 o2
  have Hr2 := hid (Hr.out.below hb2)
  go_wp2_with fail
  refine (HA.out.2 _ _ _ _ _ _ _ _ Hr2.out).mono ?_
  rintro e w3 ⟨rfl, hb3⟩
  go_wp2_with fail
  go_ret
  exact ⟨rfl, next2 hb1 (next2 hb2 hb3)⟩

set_option maxRecDepth 100000 in
set_option maxHeartbeats 4000000 in
theorem asks10 (h : PlanAt w pb b0 b1 b2 b3 l0 l1 l2 l3) (hr : RefAt w rb V x7 x8 x9 x10 x11 R) (hs : Sim l0 l1 l2 l3 R) (m a b c d : Int) (y6 y7 y8 y9 y10 : Value) :
    Calls Tryz.prog 17 #[.agg #[.pointer (some ⟨pb, 0, none⟩), .pointer (some ⟨qb, 0, none⟩), .pointer (some ⟨rb, 0, none⟩)], .agg #[.int .i64 10, .int .i64 m, .int .i64 a, .int .i64 b, .int .i64 c, .int .i64 d, y6, y7, y8, y9, y10]] w fun e w' => e = .returned (.bool true) ∧ Below w.heap.size w w' := by
  obtain ⟨x, y, A1, A2⟩ := ask_where hs a
  have HA := hid (And.intro A1 A2)
  clear A1 A2
  have hb1 : Below w.heap.size w ((w.alloc (.cells #[.pointer (some ⟨pb, 0, none⟩), .pointer (some ⟨qb, 0, none⟩), .pointer (some ⟨rb, 0, none⟩)] 47)).alloc (.cells #[.int .i64 10, .int .i64 m, .int .i64 a, .int .i64 b, .int .i64 c, .int .i64 d, y6, y7, y8, y9, y10] 37)) := ((Below.refl _ _).alloc (Nat.le_refl _) _).alloc (by simp) _
  have Hp := hid (h.below hb1)
  have Hr := hid (hr.below hb1)
  clear h hr
  go_enter Tryz.func17, Tryz.ntmps17
  go_wp2_with fail
  refine (HA.out.1 _ _ _ _ _ _ Hp.out).mono ?_
  rintro e w2 ⟨rfl, hb2⟩
  obtain ⟨o1, o2, s1, s2⟩ := two_boxes hb2
  have k2 := cell_of o1 2
  have j2 := cell_of o2 2
  have j3 := cell_of o2 3
  simp only [List.getElem?_toArray, List.getElem?_cons_succ, List.getElem?_cons_zero] at k2 j2 j3
  clear o1 o2
  have Hr2 := hid (Hr.out.below hb2)
  go_wp2_with fail
  refine (HA.out.2 _ _ _ _ _ _ _ _ Hr2.out).mono ?_
  rintro e w3 ⟨rfl, hb3⟩
  go_wp2_with fail
  go_ret
  exact ⟨rfl, next2 hb1 (next2 hb2 hb3)⟩
end
end Go.Proofs.YtjdindfjfpdikaaGreat
namespace Go.Proofs.YtjdindfjfpdikaaGreat
open Go.RowKit

abbrev Pa := Nat × Nat × Nat
def cellsP (x : Pa) : List Value := [.pointer (some ⟨x.1, 0, none⟩), .pointer (some ⟨x.2.1, 0, none⟩), .pointer (some ⟨x.2.2, 0, none⟩)]
theorem info103 : (Tryz.prog.info? 47).map (fun i => (i.zero, i.size, i.bytes)) = some (some (.agg #[.pointer none, .pointer none, .pointer none]), 3, 24) := by kernel_rfl

set_option maxRecDepth 100000 in
theorem looks_none (w : World) (wb : Nat) (v : Value) (h : w.heap[wb]? = some (.cells #[v, .slice none 0 0] 29)) :
    Calls Tryz.prog 12 #[.pointer (some ⟨wb, 0, none⟩)] w fun e w' => e = .returned (.bool true) ∧ w' = w := by
  have c1 := cell_of h 1
  simp only [List.getElem?_toArray, List.getElem?_cons_succ, List.getElem?_cons_zero] at c1
  have hl : wb < w.heap.size := (Array.getElem?_eq_some_iff.1 h).1
  clear h
  go_enter Tryz.func12, Tryz.ntmps12
  go_wp2_with fail
  go_loop [3] (fun i => i = .int .i64 0) (fun _ => 0)
  case atStart => rfl
  case' round => skip
  subst hrel
  go_wp2
  go_ret
  exact ⟨rfl, rfl⟩

/-- A plan of the document's, new. -/
def R0 : RSt := ⟨[], [], [], [], [], [], []⟩
def V0 : RVs := ⟨.slice none 0 0, .slice none 0 0, .slice none 0 0, .slice none 0 0, .slice none 0 0, .slice none 0 0, .slice none 0 0⟩

theorem refAt_new {w : World} {rb : Nat} {x7 x8 x9 x10 x11 : Value} (h : w.heap[rb]? = some (.cells #[.slice none 0 0, .slice none 0 0, .slice none 0 0, .slice none 0 0, .slice none 0 0, .slice none 0 0, .slice none 0 0, x7, x8, x9, x10, x11] 45)) : RefAt w rb V0 x7 x8 x9 x10 x11 R0 :=
  ⟨h, World.ownsRow_nil _ _ _ _, World.ownsRow_nil _ _ _ _, World.ownsRow_nil _ _ _ _, World.ownsRow_nil _ _ _ _, World.ownsRow_nil _ _ _ _, World.ownsRow_nil _ _ _ _, World.ownsRow_nil _ _ _ _, by show ([] : List Nat).Nodup; exact List.nodup_nil⟩

theorem fit0 : Fit R0 := by
  refine ⟨by simp [R0], by simp [R0], by simp [R0], by simp [R0], ?_, ?_, ?_, ?_, ?_, ?_, ?_, rfl, rfl, ?_, ?_, ?_, ⟨?_, ?_, ?_, ?_⟩⟩ <;> simp [R0, encP, KN]
theorem sim0 : Sim [] [] [] [] R0 := ⟨fit0, List.Perm.refl _, List.Perm.refl _, List.nodup_nil, rfl, fun a h => absurd rfl h, (fun a n h => by cases h), ⟨List.nodup_nil, rfl, (fun a m h => by cases h)⟩⟩

theorem RowAt.move {α : Type} {w w' : World} {e size : Nat} {enc : α → List Value} {v : Value} {xs : List α} (h : RowAt w e size enc v xs) (hb : ∀ b, v.ownBlock = some b → w'.heap[b]? = w.heap[b]?) : RowAt w' e size enc v xs := by
  refine ⟨h.1, ?_⟩
  rcases h.2 with h2 | ⟨g, cap, cur, hv, h0, hg, hr⟩
  · exact Or.inl h2
  · exact Or.inr ⟨g, cap, cur, hv, h0, (hb g (by rw [hv]; rfl)).trans hg, hr⟩

/-- What begin leaves. -/
structure Begun (w : World) (wb : Nat) (v vh : Value) (ps : List Pa) (w' : World) (v' : Value) (p b0 b1 b2 b3 q c0 c1 c2 c3 r m : Nat) : Prop where
  hp : PlanAt w' p b0 b1 b2 b3 [] [] [] []
  hq : PlanAt w' q c0 c1 c2 c3 [] [] [] []
  hr : RefAt w' r V0 (.int .i64 0) (.bool false) (.int .i64 0) (.slice none 0 0) (.slice none 0 0) R0
  cells : w'.heap[wb]? = some (.cells #[v', vh] 29)
  row : RowAt w' 47 3 cellsP v' (ps ++ [(p, q, r)])
  only : Only (wb :: v.ownBlock.toList) w w'
  loc : v'.ownBlock = v.ownBlock ∨ (∀ n, v'.ownBlock = some n → r < n)
  bp : ∀ b ∈ [p, b0, b1, b2, b3], w.heap.size ≤ b ∧ b < m
  bq : ∀ b ∈ [q, c0, c1, c2, c3], m ≤ b ∧ b < r
  br : w.heap.size ≤ m ∧ m ≤ r

theorem PlanAt.move {w w' : World} {pb b0 b1 b2 b3 : Nat} {l0 : Things} {l1 : Runs} {l2 : Waits} {l3 : Prefs} (h : PlanAt w pb b0 b1 b2 b3 l0 l1 l2 l3) (hb : ∀ b ∈ [pb, b0, b1, b2, b3], w'.heap[b]? = w.heap[b]?) : PlanAt w' pb b0 b1 b2 b3 l0 l1 l2 l3 :=
  ⟨h.cells.move (hb pb (by simp)), h.m0.of_block (hb b0 (by simp)), h.m1.of_block (hb b1 (by simp)), h.m2.of_block (hb b2 (by simp)), h.m3.of_block (hb b3 (by simp)), h.ne⟩
theorem PlanAt.lts {w : World} {pb b0 b1 b2 b3 : Nat} {l0 : Things} {l1 : Runs} {l2 : Waits} {l3 : Prefs} (h : PlanAt w pb b0 b1 b2 b3 l0 l1 l2 l3) : ∀ b ∈ [pb, b0, b1, b2, b3], b < w.heap.size := by
  intro b hb
  simp only [List.mem_cons, List.not_mem_nil, or_false] at hb
  rcases hb with rfl | rfl | rfl | rfl | rfl
  · exact h.lt
  · exact h.m0.lt
  · exact h.m1.lt
  · exact h.m2.lt
  · exact h.m3.lt

theorem new3b (w : World) (o : Obj) (x y z : Value) (t : TypeId) : ∀ (j : Nat) (u : Value), [x, y, z][j]? = some u → ((w.alloc o).alloc (.cells #[x, y, z] t)).cell? ((⟨w.heap.size + 1, 0, none⟩ : Addr).add j) = some u := by
  have := new3 (w.alloc o) x y z t
  rwa [show (w.alloc o).heap.size = w.heap.size + 1 by simp] at this

theorem begun_of {w w1 w2 W w5 : World} {wb : Nat} {v vh u : Value} {ps : List Pa} (h : w.heap[wb]? = some (.cells #[v, vh] 29)) (hr : RowAt w 47 3 cellsP v ps) (hne : v.ownBlock ≠ some wb)
    (hp1 : PlanAt w1 (w.heap.size + 1 + 1 + 1 + 1) w.heap.size (w.heap.size + 1) (w.heap.size + 1 + 1) (w.heap.size + 1 + 1 + 1) [] [] [] []) (hb1 : Below w.heap.size w w1)
    (hp2 : PlanAt w2 (w1.heap.size + 1 + 1 + 1 + 1) w1.heap.size (w1.heap.size + 1) (w1.heap.size + 1 + 1) (w1.heap.size + 1 + 1 + 1) [] [] [] []) (hb2 : Below w1.heap.size w1 w2)
    (hbW : Below w2.heap.size w2 W) (hR : W.heap[w2.heap.size]? = some (.cells #[.slice none 0 0, .slice none 0 0, .slice none 0 0, .slice none 0 0, .slice none 0 0, .slice none 0 0, .slice none 0 0, .int .i64 0, .bool false, .int .i64 0, .slice none 0 0, .slice none 0 0] 45))
    (hg5 : W.grownBy w5 v.ownBlock) (h5 : w5.heap[wb]? = some (.cells #[v, vh] 29))
    (hrow5 : RowAt w5 47 3 cellsP u (ps ++ [(w.heap.size + 1 + 1 + 1 + 1, w1.heap.size + 1 + 1 + 1 + 1, w2.heap.size)])) (hloc : u.ownBlock = v.ownBlock ∨ u.ownBlock = some W.heap.size) :
    Begun w wb v vh ps (w5.setCell ⟨wb, 0, none⟩ u) u (w.heap.size + 1 + 1 + 1 + 1) w.heap.size (w.heap.size + 1) (w.heap.size + 1 + 1) (w.heap.size + 1 + 1 + 1) (w1.heap.size + 1 + 1 + 1 + 1) w1.heap.size (w1.heap.size + 1) (w1.heap.size + 1 + 1) (w1.heap.size + 1 + 1 + 1) w2.heap.size w1.heap.size := by
  have hl : wb < w.heap.size := (Array.getElem?_eq_some_iff.1 h).1
  have s1 := hb1.size
  have s2 := hb2.size
  have sW : w2.heap.size < W.heap.size := (Array.getElem?_eq_some_iff.1 hR).1
  have bp : ∀ b ∈ [w.heap.size + 1 + 1 + 1 + 1, w.heap.size, w.heap.size + 1, w.heap.size + 1 + 1, w.heap.size + 1 + 1 + 1], w.heap.size ≤ b ∧ b < w1.heap.size := fun b hb => ⟨by simp at hb; omega, hp1.lts b hb⟩
  have bq : ∀ b ∈ [w1.heap.size + 1 + 1 + 1 + 1, w1.heap.size, w1.heap.size + 1, w1.heap.size + 1 + 1, w1.heap.size + 1 + 1 + 1], w1.heap.size ≤ b ∧ b < w2.heap.size := fun b hb => ⟨by simp at hb; omega, hp2.lts b hb⟩
  have mv : ∀ b, w.heap.size ≤ b → b < W.heap.size → (w5.setCell ⟨wb, 0, none⟩ u).heap[b]? = W.heap[b]? := fun b h1 h2 => by
    rw [Below.heap_setCell w5 ⟨wb, 0, none⟩ u b (by simp; omega)]
    refine hg5.block b h2 (fun e => ?_)
    have := hr.lt e.symm
    omega
  have hset := grown_setCell w5 ⟨wb, 0, none⟩ u
  have hub : u.ownBlock ≠ some wb := by
    rcases hloc with e | e
    · rw [e]; exact hne
    · rw [e]; simp; omega
  refine ⟨hp1.move (fun b hb => ?_), hp2.move (fun b hb => ?_), refAt_new ((mv _ (by omega) sW).trans hR), ?_, hrow5.kept hset (Or.inr (by simpa using hub)), ?_, ?_, bp, bq, s1, s2⟩
  · obtain ⟨h1, h2⟩ := bp b hb
    rw [mv b h1 (by omega), hbW.block b (by omega), hb2.block b h2]
  · obtain ⟨h1, h2⟩ := bq b hb
    rw [mv b (by omega) (by omega), hbW.block b h2]
  · exact heap_setCell h5 0 u
  · have hbw : Below w.heap.size w W := next2 (next2 hb1 hb2) hbW
    exact (Only.of_below hbw).trans ((Only.of_grown' hg5 (fun b hb => by simp [hb])).trans (Only.of_grown' hset (fun b hb => by cases hb; exact List.mem_cons_self)))
  · rcases hloc with e | e
    · exact Or.inl e
    · exact Or.inr (fun n hn => by rw [e] at hn; cases hn; exact sW)

set_option maxRecDepth 100000 in
set_option maxHeartbeats 4000000 in
theorem begin_any (w : World) (wb : Nat) (v vh : Value) (ps : List Pa) (h : w.heap[wb]? = some (.cells #[v, vh] 29)) (hr : RowAt w 47 3 cellsP v ps) (hlen : ps.length < 1000000000000) :
    Calls Tryz.prog 10 #[.pointer (some ⟨wb, 0, none⟩)] w fun e w' => e = .returned (.bool true) ∧ ∃ v' p b0 b1 b2 b3 q c0 c1 c2 c3 r m, Begun w wb v vh ps w' v' p b0 b1 b2 b3 q c0 c1 c2 c3 r m := by
  have hl : wb < w.heap.size := (Array.getElem?_eq_some_iff.1 h).1
  have hne : v.ownBlock ≠ some wb := fun e => by
    obtain ⟨cur, hq⟩ := hr.elem e
    rw [h] at hq
    simp at hq
  obtain ⟨pv, cv, rfl⟩ := slice_of hr
  obtain ⟨i4, hi4, hy0, hy1, hy2⟩ := info_parts info103
  go_enter Tryz.func10, Tryz.ntmps10
  go_wp2_with fail
  refine (new_any w).mono ?_
  rintro e w1 ⟨rfl, hp1, hb1⟩
  go_wp2_with fail
  refine (new_any w1).mono ?_
  rintro e w2 ⟨rfl, hp2, hb2⟩
  have hb12 := next2 hb1 hb2
  have h2 := (hb12.block wb hl).trans h
  have hl2 : wb < w2.heap.size := (Array.getElem?_eq_some_iff.1 h2).1
  have hl3 : wb < w2.heap.size + 1 := by omega
  have c0 := cell_of h2 0
  simp only [List.getElem?_toArray, List.getElem?_cons_zero] at c0
  have Hp := hid (And.intro hp1 hp2)
  have hb4 : Below w2.heap.size w2 ((w2.alloc (.cells #[.slice none 0 0, .slice none 0 0, .slice none 0 0, .slice none 0 0, .slice none 0 0, .slice none 0 0, .slice none 0 0, .int .i64 0, .bool false, .int .i64 0, .slice none 0 0, .slice none 0 0] 45)).alloc (.cells #[.pointer (some ⟨w.heap.size + 1 + 1 + 1 + 1, 0, none⟩), .pointer (some ⟨w1.heap.size + 1 + 1 + 1 + 1, 0, none⟩), .pointer (some ⟨w2.heap.size, 0, none⟩)] 47)) := ((Below.refl _ _).alloc (Nat.le_refl _) _).alloc (by simp) _
  have hr4 := (hr.below hb12).below hb4
  have h4 := (hb4.block wb hl2).trans h2
  have HR := hid (two_boxes (Below.refl _ ((w2.alloc (.cells #[.slice none 0 0, .slice none 0 0, .slice none 0 0, .slice none 0 0, .slice none 0 0, .slice none 0 0, .slice none 0 0, .int .i64 0, .bool false, .int .i64 0, .slice none 0 0, .slice none 0 0] 45)).alloc (.cells #[.pointer (some ⟨w.heap.size + 1 + 1 + 1 + 1, 0, none⟩), .pointer (some ⟨w1.heap.size + 1 + 1 + 1 + 1, 0, none⟩), .pointer (some ⟨w2.heap.size, 0, none⟩)] 47)))).1
  have Hb := hid hb4
  clear hp1 hp2 hb4
  go_wp2_with (first
    | (at_builtin; refine wpList_append_own_at _ rfl _ _ 26 rfl 0 47 i4 (.agg #[.pointer none, .pointer none, .pointer none]) 3 24 Tryz.underlying26 hi4 hy0 hy1 hy2 rfl (by decide) _ _ _ rfl hr4 ⟨w2.heap.size + 1, 0, none⟩ 1 1 [.pointer (some ⟨w.heap.size + 1 + 1 + 1 + 1, 0, none⟩), .pointer (some ⟨w1.heap.size + 1 + 1 + 1 + 1, 0, none⟩), .pointer (some ⟨w2.heap.size, 0, none⟩)] rfl rfl (new3b _ _ _ _ _ _) (by intro u hu; simp at hu; rcases hu with rfl | rfl | rfl <;> rfl) (by unfold maxLen; omega) (by omega) (Nat.zero_le _) ?_; intro u w5 hrow5 hg5 _ hloc5; obtain ⟨pu, cu, rfl⟩ := ownsRow_shape hrow5; have h5 := (hg5.block wb (by have := Hb.out.size; omega) hne.symm).trans h4; have q0 := cell_of h5 0; simp only [List.getElem?_toArray, List.getElem?_cons_zero] at q0; have q1 : w5.frozen? ⟨wb, 0, none⟩ = false := (by simp [World.frozen?, h5]); have q2 : wb < w5.heap.size := (Array.getElem?_eq_some_iff.1 h5).1; have Hrow5 := hid hrow5; clear hrow5)
    | go_in)
  go_ret
  exact ⟨rfl, _, _, _, _, _, _, _, _, _, _, _, _, _, begun_of h hr hne Hp.out.1 hb1 Hp.out.2 hb2 Hb.out HR.out hg5 h5 (by unfold RowAt; simpa [cellsP] using Hrow5.out) hloc5⟩
end Go.Proofs.YtjdindfjfpdikaaGreat
namespace Go.Proofs.YtjdindfjfpdikaaGreat
open Go.RowKit

/-- A plan, its twin and the document's. -/
structure Pr where
  pb : Nat
  b0 : Nat
  b1 : Nat
  b2 : Nat
  b3 : Nat
  qb : Nat
  c0 : Nat
  c1 : Nat
  c2 : Nat
  c3 : Nat
  rb : Nat
  V : RVs
  x7 : Value
  x8 : Value
  x9 : Value
  x10 : Value
  x11 : Value
  R : RSt
  l0 : Things
  l1 : Runs
  l2 : Waits
  l3 : Prefs
  m0 : Things
  m1 : Runs
  m2 : Waits
  m3 : Prefs

def Pr.P (x : Pr) : List Nat := [x.pb, x.b0, x.b1, x.b2, x.b3]
def Pr.Q (x : Pr) : List Nat := [x.qb, x.c0, x.c1, x.c2, x.c3]
def Pr.F (x : Pr) : List Nat := x.P ++ (x.Q ++ foot x.rb x.V)
def Pr.a (x : Pr) : Pa := (x.pb, x.qb, x.rb)

structure Pr.ok (x : Pr) (w : World) : Prop where
  p : PlanAt w x.pb x.b0 x.b1 x.b2 x.b3 x.l0 x.l1 x.l2 x.l3
  q : PlanAt w x.qb x.c0 x.c1 x.c2 x.c3 x.m0 x.m1 x.m2 x.m3
  r : RefAt w x.rb x.V x.x7 x.x8 x.x9 x.x10 x.x11 x.R
  sp : Sim x.l0 x.l1 x.l2 x.l3 x.R
  sq : Sim x.m0 x.m1 x.m2 x.m3 x.R
  d1 : ∀ b ∈ x.P, b ∉ x.Q
  d2 : ∀ b ∈ x.P, b ∉ foot x.rb x.V
  d3 : ∀ b ∈ x.Q, b ∉ foot x.rb x.V

theorem RefAt.move {w w' : World} {rb : Nat} {V : RVs} {x7 x8 x9 x10 x11 : Value} {R : RSt} (h : RefAt w rb V x7 x8 x9 x10 x11 R) (hb : ∀ b ∈ foot rb V, w'.heap[b]? = w.heap[b]?) : RefAt w' rb V x7 x8 x9 x10 x11 R := by
  have hv : ∀ b ∈ V.blocks, w'.heap[b]? = w.heap[b]? := fun b hm => hb b (List.mem_cons_of_mem _ hm)
  exact ⟨(hb rb List.mem_cons_self).trans h.cells, h.r0.move (fun b e => hv b (mem_blocks.2 (by simp [e]))), h.r1.move (fun b e => hv b (mem_blocks.2 (by simp [e]))), h.r2.move (fun b e => hv b (mem_blocks.2 (by simp [e]))), h.r3.move (fun b e => hv b (mem_blocks.2 (by simp [e]))), h.rw.move (fun b e => hv b (mem_blocks.2 (by simp [e]))), h.ro.move (fun b e => hv b (mem_blocks.2 (by simp [e]))), h.rt.move (fun b e => hv b (mem_blocks.2 (by simp [e]))), h.apart⟩
theorem RefAt.lts {w : World} {rb : Nat} {V : RVs} {x7 x8 x9 x10 x11 : Value} {R : RSt} (h : RefAt w rb V x7 x8 x9 x10 x11 R) : ∀ b ∈ foot rb V, b < w.heap.size := fun b hb => by
  rcases List.mem_cons.1 hb with rfl | hb
  · exact h.lt
  · exact h.rlt b hb

theorem Pr.ok.lt {x : Pr} {w : World} (h : x.ok w) : ∀ b ∈ x.F, b < w.heap.size := fun b hb => by
  rcases List.mem_append.1 hb with hb | hb
  · exact h.p.lts b hb
  · rcases List.mem_append.1 hb with hb | hb
    · exact h.q.lts b hb
    · exact h.r.lts b hb

theorem Pr.ok.move {x : Pr} {w w' : World} (h : x.ok w) (hb : ∀ b ∈ x.F, w'.heap[b]? = w.heap[b]?) : x.ok w' :=
  ⟨h.p.move (fun b hm => hb b (List.mem_append_left _ hm)), h.q.move (fun b hm => hb b (List.mem_append_right _ (List.mem_append_left _ hm))), h.r.move (fun b hm => hb b (List.mem_append_right _ (List.mem_append_right _ hm))), h.sp, h.sq, h.d1, h.d2, h.d3⟩

theorem Pr.ok.only {x : Pr} {w w' : World} {S : List Nat} (h : x.ok w) (ho : Only S w w') (hd : ∀ b ∈ x.F, b ∉ S) : x.ok w' :=
  h.move (fun b hb => ho.block b (h.lt b hb) (hd b hb))

theorem Only.mono {S T : List Nat} {w w' : World} (h : Only S w w') (hs : ∀ b ∈ S, b ∈ T) : Only T w w' := ⟨h.os, h.tape, h.output, h.size, fun k hk hn => h.block k hk (fun hm => hn (hs k hm))⟩

/-- All plans of a play. -/
structure WAt (w : World) (base wb : Nat) (v vh : Value) (xs : List Pr) : Prop where
  cells : w.heap[wb]? = some (.cells #[v, vh] 29)
  row : RowAt w 47 3 cellsP v (xs.map Pr.a)
  ok : ∀ x ∈ xs, x.ok w
  dis : xs.Pairwise (fun x y => ∀ b ∈ x.F, b ∉ y.F)
  dw : ∀ x ∈ xs, wb ∉ x.F
  dv : ∀ x ∈ xs, ∀ b, v.ownBlock = some b → b ∉ x.F
  lw : base ≤ wb
  lv : ∀ b, v.ownBlock = some b → base ≤ b
  lx : ∀ x ∈ xs, ∀ b ∈ x.F, base ≤ b

/-- All their blocks. -/
def FW (wb : Nat) (v : Value) (xs : List Pr) : List Nat := wb :: (v.ownBlock.toList ++ xs.flatMap Pr.F)

section
variable {w : World} {base wb : Nat} {v vh : Value} {xs : List Pr}

theorem WAt.foots (h : WAt w base wb v vh xs) : ∀ b ∈ FW wb v xs, base ≤ b ∧ b < w.heap.size := fun b hb => by
  rcases List.mem_cons.1 hb with rfl | hb
  · exact ⟨h.lw, (Array.getElem?_eq_some_iff.1 h.cells).1⟩
  · rcases List.mem_append.1 hb with hb | hb
    · have e : v.ownBlock = some b := by simpa using hb
      exact ⟨h.lv b e, h.row.lt e⟩
    · obtain ⟨x, hx, hm⟩ := List.mem_flatMap.1 hb
      exact ⟨h.lx x hx b hm, (h.ok x hx).lt b hm⟩

theorem WAt.below {w' : World} (h : WAt w base wb v vh xs) (hb : Below w.heap.size w w') : WAt w' base wb v vh xs :=
  ⟨(hb.block wb (Array.getElem?_eq_some_iff.1 h.cells).1).trans h.cells, h.row.below hb, fun x hx => (h.ok x hx).move (fun b hm => hb.block b ((h.ok x hx).lt b hm)), h.dis, h.dw, h.dv, h.lw, h.lv, h.lx⟩

theorem below_of_only {S : List Nat} {w w' : World} (h : Only S w w') (hs : ∀ b ∈ S, base ≤ b) (hl : base ≤ w.heap.size) : Below base w w' :=
  ⟨h.os, h.tape, h.output, h.size, fun k hk => h.block k (by omega) (fun hm => by have := hs k hm; omega)⟩

/-- One of them has changed. -/
theorem WAt.upd {w' : World} (h : WAt w base wb v vh xs) {i : Nat} (hi : i < xs.length) {y : Pr} (hy : y.ok w') (ho : Only xs[i].F w w') (hF : ∀ b ∈ y.F, b ∈ xs[i].F ∨ w.heap.size ≤ b) (ha : y.a = xs[i].a) : WAt w' base wb v vh (xs.set i y) := by
  have hm := List.getElem_mem hi
  have hlw : wb < w.heap.size := (Array.getElem?_eq_some_iff.1 h.cells).1
  have hb : base ≤ w.heap.size := by have := h.lw; omega
  have hmap : (xs.set i y).map Pr.a = xs.map Pr.a := by
    rw [List.map_set, ha]
    have : (xs.map Pr.a)[i]'(by simpa using hi) = xs[i].a := by simp
    rw [← this, List.set_getElem_self]
  have sym : ∀ x y : Pr, (∀ b ∈ x.F, b ∉ y.F) → (∀ b ∈ y.F, b ∉ x.F) := fun x y hh b hb hx => hh b hx hb
  have hother : ∀ j, (hj : j < xs.length) → j ≠ i → ∀ b ∈ xs[j].F, b ∉ xs[i].F := fun j hj hne => by
    rcases Nat.lt_or_gt_of_ne hne with hlt | hgt
    · exact (List.pairwise_iff_getElem.1 h.dis) j i hj hi hlt
    · exact sym _ _ ((List.pairwise_iff_getElem.1 h.dis) i j hi hj hgt)
  have hyo : ∀ j, (hj : j < xs.length) → j ≠ i → ∀ b ∈ y.F, b ∉ xs[j].F := fun j hj hne b hb hx => by
    rcases hF b hb with h1 | h1
    · exact hother j hj hne b hx h1
    · have := (h.ok _ (List.getElem_mem hj)).lt b hx
      omega
  have each : ∀ {p : Pr → Prop}, p y → (∀ j, (hj : j < xs.length) → j ≠ i → p xs[j]) → ∀ x ∈ xs.set i y, p x := fun {p} h1 h2 x hx => by
    obtain ⟨j, hj, rfl⟩ := List.mem_iff_getElem.1 hx
    rw [List.getElem_set]
    by_cases e : i = j
    · rw [if_pos e]; exact h1
    · rw [if_neg e]; exact h2 j (by simpa using hj) (Ne.symm e)
  refine ⟨(ho.block wb hlw (h.dw _ hm)).trans h.cells, ?_, ?_, ?_, ?_, ?_, h.lw, h.lv, ?_⟩
  · rw [hmap]
    exact h.row.move (fun b e => ho.block b (h.row.lt e) (h.dv _ hm b e))
  · exact each hy (fun j hj hne => (h.ok _ (List.getElem_mem hj)).only ho (hother j hj hne))
  · rw [List.pairwise_iff_getElem]
    intro j k hj hk hjk
    have hj' : j < xs.length := by simpa using hj
    have hk' : k < xs.length := by simpa using hk
    rw [List.getElem_set, List.getElem_set]
    by_cases e1 : i = j
    · rw [if_pos e1, if_neg (by omega)]
      exact hyo k hk' (by omega)
    · rw [if_neg e1]
      by_cases e2 : i = k
      · rw [if_pos e2]
        exact sym _ _ (hyo j hj' (by omega))
      · rw [if_neg e2]
        exact (List.pairwise_iff_getElem.1 h.dis) j k hj' hk' hjk
  · refine each (fun hx => ?_) (fun j hj _ => h.dw _ (List.getElem_mem hj))
    rcases hF wb hx with h1 | h1
    · exact h.dw _ hm h1
    · omega
  · refine each (fun b e hx => ?_) (fun j hj _ => h.dv _ (List.getElem_mem hj))
    rcases hF b hx with h1 | h1
    · exact h.dv _ hm b e h1
    · have := h.row.lt e
      omega
  · refine each (fun b hx => ?_) (fun j hj _ => h.lx _ (List.getElem_mem hj))
    rcases hF b hx with h1 | h1
    · exact h.lx _ hm b h1
    · omega

/-- A plan more. -/
theorem WAt.begun {w' : World} {v' : Value} {p b0 b1 b2 b3 q c0 c1 c2 c3 r m : Nat} (h : WAt w base wb v vh xs) (hb : Begun w wb v vh (xs.map Pr.a) w' v' p b0 b1 b2 b3 q c0 c1 c2 c3 r m) :
    ∃ y : Pr, WAt w' base wb v' vh (xs ++ [y]) ∧ Only (FW wb v xs) w w' ∧ ∀ b ∈ FW wb v' (xs ++ [y]), b ∈ FW wb v xs ∨ w.heap.size ≤ b := by
  have hlw : wb < w.heap.size := (Array.getElem?_eq_some_iff.1 h.cells).1
  have hlb := h.lw
  have hbr := hb.br
  let y : Pr := ⟨p, b0, b1, b2, b3, q, c0, c1, c2, c3, r, V0, .int .i64 0, .bool false, .int .i64 0, .slice none 0 0, .slice none 0 0, R0, [], [], [], [], [], [], [], []⟩
  have hfoot : ∀ b ∈ foot r V0, b = r := fun b hm => by
    rcases List.mem_cons.1 hm with rfl | hm
    · rfl
    · exact absurd hm (by show b ∉ ([] : List Nat); simp)
  have hyF : ∀ b ∈ y.F, w.heap.size ≤ b ∧ b ≤ r := fun b hm => by
    rcases List.mem_append.1 hm with hm | hm
    · have := hb.bp b hm; omega
    · rcases List.mem_append.1 hm with hm | hm
      · have := hb.bq b hm; omega
      · have := hfoot b hm; omega
  have hyok : y.ok w' := ⟨hb.hp, hb.hq, hb.hr, sim0, sim0, fun b h1 h2 => by
      have := hb.bp b h1
      have := hb.bq b h2
      omega, fun b h1 h2 => by
      have := hb.bp b h1
      have := hfoot b h2
      omega, fun b h1 h2 => by
      have := hb.bq b h1
      have := hfoot b h2
      omega⟩
  have hS : ∀ x ∈ xs, ∀ b ∈ x.F, b ∉ wb :: v.ownBlock.toList := fun x hx b hm hs => by
    rcases List.mem_cons.1 hs with rfl | hs
    · exact h.dw x hx hm
    · exact h.dv x hx b (by simpa using hs) hm
  have hv' : ∀ b, v'.ownBlock = some b → v.ownBlock = some b ∨ r < b := fun b e => by
    rcases hb.loc with h1 | h1
    · left; rw [← h1]; exact e
    · right; exact h1 b e
  refine ⟨y, ⟨hb.cells, by simpa [Pr.a] using hb.row, fun x hx => ?_, ?_, fun x hx => ?_, fun x hx b e => ?_, h.lw, fun b e => ?_, fun x hx b hm => ?_⟩, hb.only.mono (fun b hm => ?_), fun b hm => ?_⟩
  · rcases mem_snoc.1 hx with hx | rfl
    · exact (h.ok x hx).only hb.only (hS x hx)
    · exact hyok
  · rw [List.pairwise_append]
    refine ⟨h.dis, List.pairwise_singleton _ _, fun x hx z hz b h1 h2 => ?_⟩
    rw [List.mem_singleton.1 hz] at h2
    have := (h.ok x hx).lt b h1
    have := hyF b h2
    omega
  · rcases mem_snoc.1 hx with hx | rfl
    · exact h.dw x hx
    · intro hm
      have := hyF wb hm
      omega
  · rcases mem_snoc.1 hx with hx | rfl
    · rcases hv' b e with h1 | h1
      · exact h.dv x hx b h1
      · intro hm
        have := (h.ok x hx).lt b hm
        omega
    · intro hm
      have h2 := hyF b hm
      rcases hv' b e with h1 | h1
      · have := h.row.lt h1; omega
      · omega
  · rcases hv' b e with h1 | h1
    · exact h.lv b h1
    · omega
  · rcases mem_snoc.1 hx with hx | rfl
    · exact h.lx x hx b hm
    · have := hyF b hm; omega
  · rcases List.mem_cons.1 hm with rfl | hm
    · exact List.mem_cons_self
    · exact List.mem_cons_of_mem _ (List.mem_append_left _ hm)
  · rcases List.mem_cons.1 hm with rfl | hm
    · exact Or.inl List.mem_cons_self
    rcases List.mem_append.1 hm with hm | hm
    · rcases hv' b (by simpa using hm) with h1 | h1
      · exact Or.inl (List.mem_cons_of_mem _ (List.mem_append_left _ (by simpa using h1)))
      · exact Or.inr (by omega)
    · obtain ⟨x, hx, hxm⟩ := List.mem_flatMap.1 hm
      rcases mem_snoc.1 hx with hx | rfl
      · exact Or.inl (List.mem_cons_of_mem _ (List.mem_append_right _ (List.mem_flatMap.2 ⟨x, hx, hxm⟩)))
      · exact Or.inr (hyF b hxm).1

theorem FW_set {i : Nat} (hi : i < xs.length) {y : Pr} {n : Nat} (hF : ∀ b ∈ y.F, b ∈ xs[i].F ∨ n ≤ b) : ∀ b ∈ FW wb v (xs.set i y), b ∈ FW wb v xs ∨ n ≤ b := fun b hm => by
  rcases List.mem_cons.1 hm with rfl | hm
  · exact Or.inl List.mem_cons_self
  rcases List.mem_append.1 hm with hm | hm
  · exact Or.inl (List.mem_cons_of_mem _ (List.mem_append_left _ hm))
  · obtain ⟨x, hx, hxm⟩ := List.mem_flatMap.1 hm
    rcases List.mem_or_eq_of_mem_set hx with hx | rfl
    · exact Or.inl (List.mem_cons_of_mem _ (List.mem_append_right _ (List.mem_flatMap.2 ⟨x, hx, hxm⟩)))
    · rcases hF b hxm with h1 | h1
      · exact Or.inl (List.mem_cons_of_mem _ (List.mem_append_right _ (List.mem_flatMap.2 ⟨_, List.getElem_mem hi, h1⟩)))
      · exact Or.inr h1
end
end Go.Proofs.YtjdindfjfpdikaaGreat
namespace Go.Proofs.YtjdindfjfpdikaaGreat
open Go.RowKit

theorem spot (m : Int) (n : Nat) (hn : 0 < n) : ∃ i : Nat, i < n ∧ (m.tmod n + n).tmod n = i ∧ -(n : Int) < m.tmod n ∧ m.tmod n < n := by
  have h1 : -(n : Int) < m.tmod n ∧ m.tmod n < n := by
    rcases Int.le_total 0 m with hm | hm
    · rw [Int.tmod_eq_emod_of_nonneg hm]
      have := Int.emod_nonneg m (b := (n : Int)) (by omega)
      have := Int.emod_lt_of_pos m (b := (n : Int)) (by omega)
      omega
    · have e : m = -(-m) := by omega
      rw [e, Int.neg_tmod, Int.tmod_eq_emod_of_nonneg (by omega)]
      have := Int.emod_nonneg (-m) (b := (n : Int)) (by omega)
      have := Int.emod_lt_of_pos (-m) (b := (n : Int)) (by omega)
      omega
  have h2 := Int.tmod_eq_emod_of_nonneg (a := m.tmod n + n) (b := n) (by omega)
  have h3 := Int.emod_nonneg (m.tmod n + n) (b := (n : Int)) (by omega)
  have h4 := Int.emod_lt_of_pos (m.tmod n + n) (b := (n : Int)) (by omega)
  exact ⟨((m.tmod n + n) % n).toNat, by omega, by rw [h2]; omega, h1.1, h1.2⟩

theorem cells11 {w : World} {b : Nat} {z0 z1 z2 z3 z4 z5 z6 z7 z8 z9 z10 : Value} {t : TypeId} (h : w.heap[b]? = some (.cells #[z0, z1, z2, z3, z4, z5, z6, z7, z8, z9, z10] t)) :
    w.cell? ⟨b, 0, none⟩ = some z0 ∧ w.cell? ⟨b, 1, none⟩ = some z1 ∧ w.cell? ⟨b, 2, none⟩ = some z2 ∧ w.cell? ⟨b, 3, none⟩ = some z3 ∧ w.cell? ⟨b, 4, none⟩ = some z4 ∧ w.cell? ⟨b, 5, none⟩ = some z5 ∧ w.cell? ⟨b, 6, none⟩ = some z6 ∧ w.cell? ⟨b, 7, none⟩ = some z7 ∧ w.cell? ⟨b, 8, none⟩ = some z8 ∧ w.cell? ⟨b, 9, none⟩ = some z9 ∧ w.cell? ⟨b, 10, none⟩ = some z10 := by
  simp [World.cell?, h]
theorem cells3 {w : World} {b : Nat} {z0 z1 z2 : Value} {t : TypeId} (h : w.heap[b]? = some (.cells #[z0, z1, z2] t)) :
    w.cell? ⟨b, 0, none⟩ = some z0 ∧ w.cell? ⟨b, 1, none⟩ = some z1 ∧ w.cell? ⟨b, 2, none⟩ = some z2 := by
  simp [World.cell?, h]

section
variable {w : World} {base wb : Nat} {v vh : Value} {xs : List Pr}

set_option maxRecDepth 100000 in
set_option maxHeartbeats 4000000 in
theorem step_else (h : WAt w base wb v vh xs) (hn : 0 < xs.length) (hlen : xs.length < 1000000000000) (k m a b c d : Int) (y6 y7 y8 y9 y10 : Value) (hk : k ≤ 0) :
    Calls Tryz.prog 11 #[.pointer (some ⟨wb, 0, none⟩), .agg #[.int .i64 k, .int .i64 m, .int .i64 a, .int .i64 b, .int .i64 c, .int .i64 d, y6, y7, y8, y9, y10]] w fun e w' => e = .returned (.bool true) ∧ Below w.heap.size w w' := by
  obtain ⟨i, hi, hI, hm0, hm1⟩ := spot m xs.length hn
  have hl : wb < w.heap.size := (Array.getElem?_eq_some_iff.1 h.cells).1
  have hl1 : wb < w.heap.size + 1 := by omega
  have hl2 : w.heap.size < w.heap.size + 1 := by omega
  have c0 := cell_of h.cells 0
  simp only [List.getElem?_toArray, List.getElem?_cons_zero] at c0
  rcases h.row.shape (fun _ => rfl) with ⟨_, e0⟩ | ⟨g, cap, cur, hv, _, hgl, hle, _, hc⟩
  · simp at e0; subst e0; simp at hn
  rw [List.length_map] at hv hle
  rw [hv] at c0
  have q0 := (hc i 0 (by simpa using hi) (by decide)).1
  have q1 := (hc i 1 (by simpa using hi) (by decide)).1
  have q2 := (hc i 2 (by simpa using hi) (by decide)).1
  simp only [cellsP, Pr.a, List.getElem?_cons_zero, List.getElem?_cons_succ, Nat.add_zero, List.getElem_map] at q0 q1 q2
  have hgl1 : g < w.heap.size + 1 := by omega
  have hiI : (i : Int) < (xs.length : Int) := by omega
  have hnz : ¬ (xs.length : Int) = 0 := by omega
  have k1 : (k == 1) = false := by simp; omega
  have k11 : (k == 11) = false := by simp; omega
  have k2 : decide (2 ≤ k) = false := by simp; omega
  have k9 : (k == 9) = false := by simp; omega
  have k10 : (k == 10) = false := by simp; omega
  have k12 : (k == 12) = false := by simp; omega
  have k13 : (k == 13) = false := by simp; omega
  clear hk
  clear hc
  go_enter Tryz.func11, Tryz.ntmps11
  go_wp2_with fail
  go_region
  go_wp2_with fail
  go_ret
  exact ⟨rfl, (((Below.refl _ _).alloc (Nat.le_refl _) _).alloc (by simp) _).drew⟩

set_option maxRecDepth 100000 in
set_option maxHeartbeats 4000000 in
theorem step_new (h : WAt w base wb v vh xs) (hlen : xs.length < 1000000000000) (m a b c d : Int) (y6 y7 y8 y9 y10 : Value) :
    Calls Tryz.prog 11 #[.pointer (some ⟨wb, 0, none⟩), .agg #[.int .i64 1, .int .i64 m, .int .i64 a, .int .i64 b, .int .i64 c, .int .i64 d, y6, y7, y8, y9, y10]] w fun e w' => e = .returned (.bool true) ∧ ∃ v' y, WAt w' base wb v' vh (xs ++ [y]) ∧ Only (FW wb v xs) w w' ∧ ∀ b ∈ FW wb v' (xs ++ [y]), b ∈ FW wb v xs ∨ w.heap.size ≤ b := by
  have hb1 : Below w.heap.size w (w.alloc (.cells #[.int .i64 1, .int .i64 m, .int .i64 a, .int .i64 b, .int .i64 c, .int .i64 d, y6, y7, y8, y9, y10] 37)) := (Below.refl _ _).alloc (Nat.le_refl _) _
  have h1 := h.below hb1
  have A1 := hid (begin_any _ wb v _ _ h1.cells h1.row (by simpa using hlen))
  have hlw : wb < w.heap.size := (Array.getElem?_eq_some_iff.1 h.cells).1
  go_enter Tryz.func11, Tryz.ntmps11
  go_wp2_with fail
  refine A1.out.mono ?_
  rintro e w2 ⟨rfl, v', p, b0, b1, b2, b3, q, c0, c1, c2, c3, r, mm, hB⟩
  go_wp2_with fail
  go_ret
  obtain ⟨y, hy, hby, hfy⟩ := h1.begun hB
  exact ⟨rfl, v', y, hy, (Only.of_below hb1).trans hby, fun b hm => (hfy b hm).imp_right (fun q => Nat.le_trans hb1.size q)⟩

set_option maxRecDepth 100000 in
set_option maxHeartbeats 4000000 in
theorem step_ask9 (h : WAt w base wb v vh xs) (hn : 0 < xs.length) (hlen : xs.length < 1000000000000) (m a b c d : Int) (y6 y7 y8 y9 y10 : Value) :
    Calls Tryz.prog 11 #[.pointer (some ⟨wb, 0, none⟩), .agg #[.int .i64 9, .int .i64 m, .int .i64 a, .int .i64 b, .int .i64 c, .int .i64 d, y6, y7, y8, y9, y10]] w fun e w' => e = .returned (.bool true) ∧ Below w.heap.size w w' := by
  obtain ⟨i, hi, hI, hm0, hm1⟩ := spot m xs.length hn
  have hl : wb < w.heap.size := (Array.getElem?_eq_some_iff.1 h.cells).1
  have hl1 : wb < w.heap.size + 1 := by omega
  have hl2 : w.heap.size < w.heap.size + 1 := by omega
  have c0 := cell_of h.cells 0
  simp only [List.getElem?_toArray, List.getElem?_cons_zero] at c0
  rcases h.row.shape (fun _ => rfl) with ⟨_, e0⟩ | ⟨g, cap, cur, hv, _, hgl, hle, _, hc⟩
  · simp at e0; subst e0; simp at hn
  rw [List.length_map] at hv hle
  rw [hv] at c0
  have q0 := (hc i 0 (by simpa using hi) (by decide)).1
  have q1 := (hc i 1 (by simpa using hi) (by decide)).1
  have q2 := (hc i 2 (by simpa using hi) (by decide)).1
  simp only [cellsP, Pr.a, List.getElem?_cons_zero, List.getElem?_cons_succ, Nat.add_zero, List.getElem_map] at q0 q1 q2
  have hgl1 : g < w.heap.size + 1 := by omega
  have hiI : (i : Int) < (xs.length : Int) := by omega
  have hnz : ¬ (xs.length : Int) = 0 := by omega
  clear hc
  go_enter Tryz.func11, Tryz.ntmps11
  go_wp2_with fail
  go_region
  go_wp2_with fail
  have hbW : Below w.heap.size w ((w.alloc (.cells #[.int .i64 9, .int .i64 m, .int .i64 a, .int .i64 b, .int .i64 c, .int .i64 d, y6, y7, y8, y9, y10] 37)).alloc (.cells #[.pointer (some ⟨xs[i].pb, 0, none⟩), .pointer (some ⟨xs[i].qb, 0, none⟩), .pointer (some ⟨xs[i].rb, 0, none⟩)] 47)).drew := (((Below.refl _ _).alloc (Nat.le_refl _) _).alloc (by simp) _).drew
  have hx := ((h.below hbW).ok _ (List.getElem_mem hi))
  refine (asks9 (qb := xs[i].qb) hx.p hx.r hx.sp m a b c d y6 y7 y8 y9 y10).mono ?_
  rintro e w3 ⟨rfl, hb3⟩
  go_wp2_with fail
  go_ret
  exact ⟨rfl, next2 hbW hb3⟩

set_option maxRecDepth 100000 in
set_option maxHeartbeats 4000000 in
theorem step_ask10 (h : WAt w base wb v vh xs) (hn : 0 < xs.length) (hlen : xs.length < 1000000000000) (m a b c d : Int) (y6 y7 y8 y9 y10 : Value) :
    Calls Tryz.prog 11 #[.pointer (some ⟨wb, 0, none⟩), .agg #[.int .i64 10, .int .i64 m, .int .i64 a, .int .i64 b, .int .i64 c, .int .i64 d, y6, y7, y8, y9, y10]] w fun e w' => e = .returned (.bool true) ∧ Below w.heap.size w w' := by
  obtain ⟨i, hi, hI, hm0, hm1⟩ := spot m xs.length hn
  have hl : wb < w.heap.size := (Array.getElem?_eq_some_iff.1 h.cells).1
  have hl1 : wb < w.heap.size + 1 := by omega
  have hl2 : w.heap.size < w.heap.size + 1 := by omega
  have c0 := cell_of h.cells 0
  simp only [List.getElem?_toArray, List.getElem?_cons_zero] at c0
  rcases h.row.shape (fun _ => rfl) with ⟨_, e0⟩ | ⟨g, cap, cur, hv, _, hgl, hle, _, hc⟩
  · simp at e0; subst e0; simp at hn
  rw [List.length_map] at hv hle
  rw [hv] at c0
  have q0 := (hc i 0 (by simpa using hi) (by decide)).1
  have q1 := (hc i 1 (by simpa using hi) (by decide)).1
  have q2 := (hc i 2 (by simpa using hi) (by decide)).1
  simp only [cellsP, Pr.a, List.getElem?_cons_zero, List.getElem?_cons_succ, Nat.add_zero, List.getElem_map] at q0 q1 q2
  have hgl1 : g < w.heap.size + 1 := by omega
  have hiI : (i : Int) < (xs.length : Int) := by omega
  have hnz : ¬ (xs.length : Int) = 0 := by omega
  clear hc
  go_enter Tryz.func11, Tryz.ntmps11
  go_wp2_with fail
  go_region
  go_wp2_with fail
  have hbW : Below w.heap.size w ((w.alloc (.cells #[.int .i64 10, .int .i64 m, .int .i64 a, .int .i64 b, .int .i64 c, .int .i64 d, y6, y7, y8, y9, y10] 37)).alloc (.cells #[.pointer (some ⟨xs[i].pb, 0, none⟩), .pointer (some ⟨xs[i].qb, 0, none⟩), .pointer (some ⟨xs[i].rb, 0, none⟩)] 47)).drew := (((Below.refl _ _).alloc (Nat.le_refl _) _).alloc (by simp) _).drew
  have hx := ((h.below hbW).ok _ (List.getElem_mem hi))
  refine (asks10 (qb := xs[i].qb) hx.p hx.r hx.sp m a b c d y6 y7 y8 y9 y10).mono ?_
  rintro e w3 ⟨rfl, hb3⟩
  go_wp2_with fail
  go_ret
  exact ⟨rfl, next2 hbW hb3⟩

theorem build_pair {W w1 w2 w3 : World} {x : Pr} (hx : x.ok W) {a : Value} {R : RSt} {e1 e2 e3 : Ending} (h1 : PPost W x.pb x.b0 x.b1 x.b2 x.b3 R a e1 w1) (h2 : PPost w1 x.qb x.c0 x.c1 x.c2 x.c3 R a e2 w2) (h3 : RPost w2 x.rb x.V x.x7 x.x8 x.x9 x.x10 x.x11 R a e3 w3) :
    ∃ y : Pr, y.ok w3 ∧ Only x.F W w3 ∧ (∀ b ∈ y.F, b ∈ x.F ∨ W.heap.size ≤ b) ∧ y.a = x.a := by
  obtain ⟨_, l0, l1, l2, l3, hp, hs, ho1⟩ := h1
  obtain ⟨_, m0, m1, m2, m3, hq, hsq, ho2⟩ := h2
  obtain ⟨_, V, hr, ho3, hv⟩ := h3
  have hpl := hx.p.lts
  have hql := hx.q.lts
  have s1 := ho1.size
  have s2 := ho2.size
  have subP : ∀ b ∈ [x.b0, x.b1, x.b2, x.b3], b ∈ x.P := fun b hb => List.mem_cons_of_mem _ hb
  have subQ : ∀ b ∈ [x.c0, x.c1, x.c2, x.c3], b ∈ x.Q := fun b hb => List.mem_cons_of_mem _ hb
  have hfo : ∀ b ∈ foot x.rb V, b ∈ foot x.rb x.V ∨ w2.heap.size ≤ b := fun b hb => by
    rcases List.mem_cons.1 hb with rfl | hb
    · exact Or.inl List.mem_cons_self
    · exact (hv b hb).imp_left (List.mem_cons_of_mem _)
  let y : Pr := { x with V := V, R := R, l0 := l0, l1 := l1, l2 := l2, l3 := l3, m0 := m0, m1 := m1, m2 := m2, m3 := m3 }
  refine ⟨y, ⟨?_, ?_, hr, hs, hsq, hx.d1, fun b h1 h2 => ?_, fun b h1 h2 => ?_⟩, ?_, fun b hb => ?_, rfl⟩
  · refine (hp.move (fun b hb => ?_)).move (fun b hb => ?_) (w := w2)
    · exact ho2.block b (by have := hpl b hb; omega) (fun hm => hx.d1 b hb (subQ b hm))
    · exact ho3.block b (by have := hpl b hb; omega) (hx.d2 b hb)
  · exact hq.move (fun b hb => ho3.block b (by have := hql b hb; omega) (hx.d3 b hb))
  · rcases hfo b h2 with h3 | h3
    · exact hx.d2 b h1 h3
    · have := hpl b h1; omega
  · rcases hfo b h2 with h3 | h3
    · exact hx.d3 b h1 h3
    · have := hql b h1; omega
  · exact ((ho1.mono (fun b hb => List.mem_append_left _ (subP b hb))).trans (ho2.mono (fun b hb => List.mem_append_right _ (List.mem_append_left _ (subQ b hb))))).trans (ho3.mono (fun b hb => List.mem_append_right _ (List.mem_append_right _ hb)))
  · rcases List.mem_append.1 hb with hb | hb
    · exact Or.inl (List.mem_append_left _ hb)
    · rcases List.mem_append.1 hb with hb | hb
      · exact Or.inl (List.mem_append_right _ (List.mem_append_left _ hb))
      · rcases hfo b hb with h3 | h3
        · exact Or.inl (List.mem_append_right _ (List.mem_append_right _ h3))
        · exact Or.inr (by omega)

set_option maxRecDepth 100000 in
set_option maxHeartbeats 4000000 in
theorem step_build (h : WAt w base wb v vh xs) (hn : 0 < xs.length) (hlen : xs.length < 1000000000000) (k m a b c d : Int) (y6 y7 y8 y9 y10 : Value) (hk : 2 ≤ k ∧ k ≤ 8) :
    Calls Tryz.prog 11 #[.pointer (some ⟨wb, 0, none⟩), .agg #[.int .i64 k, .int .i64 m, .int .i64 a, .int .i64 b, .int .i64 c, .int .i64 d, y6, y7, y8, y9, y10]] w fun e w' => e = .returned (.bool true) ∧ ∃ xs', WAt w' base wb v vh xs' ∧ xs'.length = xs.length ∧ Only (FW wb v xs) w w' ∧ ∀ b ∈ FW wb v xs', b ∈ FW wb v xs ∨ w.heap.size ≤ b := by
  obtain ⟨i, hi, hI, hm0, hm1⟩ := spot m xs.length hn
  have hl : wb < w.heap.size := (Array.getElem?_eq_some_iff.1 h.cells).1
  have hl1 : wb < w.heap.size + 1 := by omega
  have hl2 : w.heap.size < w.heap.size + 1 := by omega
  have c0 := cell_of h.cells 0
  simp only [List.getElem?_toArray, List.getElem?_cons_zero] at c0
  rcases h.row.shape (fun _ => rfl) with ⟨_, e0⟩ | ⟨g, cap, cur, hv, _, hgl, hle, _, hc⟩
  · simp at e0; subst e0; simp at hn
  rw [List.length_map] at hv hle
  rw [hv] at c0
  have q0 := (hc i 0 (by simpa using hi) (by decide)).1
  have q1 := (hc i 1 (by simpa using hi) (by decide)).1
  have q2 := (hc i 2 (by simpa using hi) (by decide)).1
  simp only [cellsP, Pr.a, List.getElem?_cons_zero, List.getElem?_cons_succ, Nat.add_zero, List.getElem_map] at q0 q1 q2
  have hgl1 : g < w.heap.size + 1 := by omega
  have hiI : (i : Int) < (xs.length : Int) := by omega
  have hnz : ¬ (xs.length : Int) = 0 := by omega
  have k1 : (k == 1) = false := by simp; omega
  have k11 : (k == 11) = false := by simp; omega
  have k2 : decide (2 ≤ k) = true := by simp; omega
  have k8 : decide (k ≤ 8) = true := by simp; omega
  have Hk := hid hk
  clear hc hk
  go_enter Tryz.func11, Tryz.ntmps11
  go_wp2_with fail
  go_region
  go_wp2_with fail
  have hbW : Below w.heap.size w ((w.alloc (.cells #[.int .i64 k, .int .i64 m, .int .i64 a, .int .i64 b, .int .i64 c, .int .i64 d, y6, y7, y8, y9, y10] 37)).alloc (.cells #[.pointer (some ⟨xs[i].pb, 0, none⟩), .pointer (some ⟨xs[i].qb, 0, none⟩), .pointer (some ⟨xs[i].rb, 0, none⟩)] 47)).drew := (((Below.refl _ _).alloc (Nat.le_refl _) _).alloc (by simp) _).drew
  have hW := h.below hbW
  have hx := (hW.ok _ (List.getElem_mem hi))
  have hxw := (h.ok _ (List.getElem_mem hi)).lt
  have hbx := two_boxes (w := w) (o1 := .cells #[.int .i64 k, .int .i64 m, .int .i64 a, .int .i64 b, .int .i64 c, .int .i64 d, y6, y7, y8, y9, y10] 37) (o2 := .cells #[.pointer (some ⟨xs[i].pb, 0, none⟩), .pointer (some ⟨xs[i].qb, 0, none⟩), .pointer (some ⟨xs[i].rb, 0, none⟩)] 47) (w2 := ((w.alloc (.cells #[.int .i64 k, .int .i64 m, .int .i64 a, .int .i64 b, .int .i64 c, .int .i64 d, y6, y7, y8, y9, y10] 37)).alloc (.cells #[.pointer (some ⟨xs[i].pb, 0, none⟩), .pointer (some ⟨xs[i].qb, 0, none⟩), .pointer (some ⟨xs[i].rb, 0, none⟩)] 47)).drew) ((Below.refl _ _).drew)
  have A1 := hid (builds_any hx.p hx.sp k m a b c d y6 y7 y8 y9 y10 Hk.out)
  unfold opV at A1
  have Hx := hid (And.intro hW (And.intro hx (And.intro hxw hbW)))
  have Hbx := hid hbx
  clear hbx hx hxw hW hbW
  refine A1.out.mono ?_
  intro e w1 hP1
  have hP1' := hP1
  obtain ⟨rfl, l0, l1, l2, l3, hp1, hs1, ho1⟩ := hP1'
  have ns1 : ∀ n, w.heap.size ≤ n → n ∉ [xs[i].b0, xs[i].b1, xs[i].b2, xs[i].b3] := fun n hn hm => by
    have := Hx.out.2.2.1 n (List.mem_append_left _ (List.mem_cons_of_mem _ hm))
    omega
  have o1 := (ho1.block _ Hbx.out.2.2.1 (ns1 _ (Nat.le_refl _))).trans Hbx.out.1
  have o2 := (ho1.block _ Hbx.out.2.2.2 (ns1 _ (by omega))).trans Hbx.out.2.1
  obtain ⟨f0, f1, f2, f3, f4, f5, f6, f7, f8, f9, f10⟩ := cells11 o1
  obtain ⟨g0, g1, g2⟩ := cells3 o2
  have z1 : w.heap.size < w1.heap.size := Nat.lt_of_lt_of_le Hbx.out.2.2.1 ho1.size
  have z2 : w.heap.size + 1 < w1.heap.size := Nat.lt_of_lt_of_le Hbx.out.2.2.2 ho1.size
  have hq1 : PlanAt w1 xs[i].qb xs[i].c0 xs[i].c1 xs[i].c2 xs[i].c3 xs[i].m0 xs[i].m1 xs[i].m2 xs[i].m3 := Hx.out.2.1.q.move (fun n hn => ho1.block n (Hx.out.2.1.q.lts n hn) (fun hm => Hx.out.2.1.d1 n (List.mem_cons_of_mem _ hm) hn))
  have hr1 : RefAt w1 xs[i].rb xs[i].V xs[i].x7 xs[i].x8 xs[i].x9 xs[i].x10 xs[i].x11 xs[i].R := Hx.out.2.1.r.move (fun n hn => ho1.block n (Hx.out.2.1.r.lts n hn) (fun hm => Hx.out.2.1.d2 n (List.mem_cons_of_mem _ hm) hn))
  have A2 := hid (builds_any hq1 Hx.out.2.1.sq k m a b c d y6 y7 y8 y9 y10 Hk.out)
  unfold opV at A2
  have HP1 := hid (And.intro hP1 (And.intro o1 (And.intro o2 hr1)))
  clear hP1 hp1 hs1 o1 o2 hr1 hq1 A1
  have Ho1 := hid ho1
  clear ho1
  go_wp2_with fail
  refine A2.out.mono ?_
  intro e w2 hP2
  have hP2' := hP2
  obtain ⟨rfl, m0, m1, m2, m3, hp2, hs2, ho2⟩ := hP2'
  clear f0 f1 f2 f3 f4 f5 f6 f7 f8 f9 f10 g0 g1 g2 A2
  have ns2 : ∀ n, w.heap.size ≤ n → n ∉ [xs[i].c0, xs[i].c1, xs[i].c2, xs[i].c3] := fun n hn hm => by
    have := Hx.out.2.2.1 n (List.mem_append_right _ (List.mem_append_left _ (List.mem_cons_of_mem _ hm)))
    omega
  have o1 := (ho2.block _ z1 (ns2 _ (Nat.le_refl _))).trans HP1.out.2.1
  have o2 := (ho2.block _ z2 (ns2 _ (by omega))).trans HP1.out.2.2.1
  obtain ⟨f0, f1, f2, f3, f4, f5, f6, f7, f8, f9, f10⟩ := cells11 o1
  obtain ⟨g0, g1, g2⟩ := cells3 o2
  have z3 : w.heap.size < w2.heap.size := Nat.lt_of_lt_of_le z1 ho2.size
  have z4 : w.heap.size + 1 < w2.heap.size := Nat.lt_of_lt_of_le z2 ho2.size
  have hr2 : RefAt w2 xs[i].rb xs[i].V xs[i].x7 xs[i].x8 xs[i].x9 xs[i].x10 xs[i].x11 xs[i].R := HP1.out.2.2.2.move (fun n hn => ho2.block n (HP1.out.2.2.2.lts n hn) (fun hm => Hx.out.2.1.d3 n (List.mem_cons_of_mem _ hm) hn))
  have A3 := hid (built_any hr2 Hx.out.2.1.sp.fit k m a b c d y6 y7 y8 y9 y10 Hk.out)
  unfold opV at A3
  have HP2 := hid hP2
  clear hP2 hp2 hs2 o1 o2 hr2 ho2
  go_wp2_with fail
  refine A3.out.mono ?_
  intro e w3 hP3
  obtain ⟨rfl, _⟩ := id hP3
  have HP3 := hid hP3
  clear hP3
  go_wp2_with fail
  go_ret
  obtain ⟨y, hy, hoy, hFy, hay⟩ := build_pair Hx.out.2.1 HP1.out.1 HP2.out HP3.out
  exact ⟨rfl, xs.set i y, Hx.out.1.upd hi hy hoy hFy hay, by simp, (Only.of_below Hx.out.2.2.2).trans (hoy.mono (fun n hn => List.mem_cons_of_mem _ (List.mem_append_right _ (List.mem_flatMap.2 ⟨_, List.getElem_mem hi, hn⟩)))), FW_set hi (fun b hb => (hFy b hb).imp_right (fun q => Nat.le_trans Hx.out.2.2.2.size q))⟩

/-- One call of a script. -/
theorem step_any (h : WAt w base wb v vh xs) (hn : 0 < xs.length) (hlen : xs.length < 1000000000000) (k m a b c d : Int) (y6 y7 y8 y9 y10 : Value) (hk : k ≤ 10) :
    Calls Tryz.prog 11 #[.pointer (some ⟨wb, 0, none⟩), .agg #[.int .i64 k, .int .i64 m, .int .i64 a, .int .i64 b, .int .i64 c, .int .i64 d, y6, y7, y8, y9, y10]] w fun e w' => e = .returned (.bool true) ∧ ∃ v' xs', WAt w' base wb v' vh xs' ∧ xs.length ≤ xs'.length ∧ xs'.length ≤ xs.length + 1 ∧ Only (FW wb v xs) w w' ∧ ∀ b ∈ FW wb v' xs', b ∈ FW wb v xs ∨ w.heap.size ≤ b := by
  by_cases k0 : k ≤ 0
  · exact (step_else h hn hlen k m a b c d y6 y7 y8 y9 y10 k0).mono fun e w' hh => ⟨hh.1, v, xs, h.below hh.2, Nat.le_refl _, Nat.le_succ _, Only.of_below hh.2, fun _ q => Or.inl q⟩
  by_cases k1 : k = 1
  · subst k1
    refine (step_new h hlen m a b c d y6 y7 y8 y9 y10).mono fun e w' hh => ?_
    obtain ⟨he, v', y, hy, ho, hf⟩ := hh
    exact ⟨he, v', _, hy, by simp, by simp, ho, hf⟩
  by_cases k8 : k ≤ 8
  · refine (step_build h hn hlen k m a b c d y6 y7 y8 y9 y10 ⟨by omega, k8⟩).mono fun e w' hh => ?_
    obtain ⟨he, xs', hy, hl, ho, hf⟩ := hh
    exact ⟨he, v, xs', hy, by omega, by omega, ho, hf⟩
  by_cases k9 : k = 9
  · subst k9
    exact (step_ask9 h hn hlen m a b c d y6 y7 y8 y9 y10).mono fun e w' hh => ⟨hh.1, v, xs, h.below hh.2, Nat.le_refl _, Nat.le_succ _, Only.of_below hh.2, fun _ q => Or.inl q⟩
  obtain rfl : k = 10 := by omega
  exact (step_ask10 h hn hlen m a b c d y6 y7 y8 y9 y10).mono fun e w' hh => ⟨hh.1, v, xs, h.below hh.2, Nat.le_refl _, Nat.le_succ _, Only.of_below hh.2, fun _ q => Or.inl q⟩
end
end Go.Proofs.YtjdindfjfpdikaaGreat
namespace Go.Proofs.YtjdindfjfpdikaaGreat
open Go.RowKit

/-- A script that came in. -/
def IsOps (w : World) (p : Option Addr) (len : Nat) : Prop :=
  len = 0 ∨ ∃ sb off, p = some ⟨sb, off, none⟩ ∧ sb < w.heap.size ∧ ∀ i, i < len → ∃ (k m a b c d n6 : Int) (p7 p8 p9 p10 : Option Addr) (l7 l8 l9 l10 z7 z8 z9 z10 : Nat),
    w.cell? ⟨sb, off + i * 11, none⟩ = some (.int .i64 k) ∧ w.cell? ⟨sb, off + i * 11 + 1, none⟩ = some (.int .i64 m) ∧ w.cell? ⟨sb, off + i * 11 + 2, none⟩ = some (.int .i64 a) ∧ w.cell? ⟨sb, off + i * 11 + 3, none⟩ = some (.int .i64 b) ∧ w.cell? ⟨sb, off + i * 11 + 4, none⟩ = some (.int .i64 c) ∧ w.cell? ⟨sb, off + i * 11 + 5, none⟩ = some (.int .i64 d) ∧
    w.cell? ⟨sb, off + i * 11 + 6, none⟩ = some (.int .i64 n6) ∧ w.cell? ⟨sb, off + i * 11 + 7, none⟩ = some (.slice p7 l7 z7) ∧ w.cell? ⟨sb, off + i * 11 + 8, none⟩ = some (.slice p8 l8 z8) ∧ w.cell? ⟨sb, off + i * 11 + 9, none⟩ = some (.slice p9 l9 z9) ∧ w.cell? ⟨sb, off + i * 11 + 10, none⟩ = some (.slice p10 l10 z10)

theorem wat0 (w : World) : WAt (w.alloc (.cells #[.slice none 0 0, .slice none 0 0] 29)) w.heap.size w.heap.size (.slice none 0 0) (.slice none 0 0) [] :=
  ⟨(MapKept.heap_alloc w _).1, World.ownsRow_nil _ _ _ _, (fun x hx => by cases hx), List.Pairwise.nil, (fun x hx => by cases hx), (fun x hx => by cases hx), Nat.le_refl _, (fun b e => by cases e), (fun x hx => by cases hx)⟩

set_option maxRecDepth 100000 in
set_option maxHeartbeats 8000000 in
theorem plays_any (w : World) (p : Option Addr) (len cap : Nat) (lo hi : Int) (hops : IsOps w p len) (hlen : len < 999999999999) :
    Calls Tryz.prog 9 #[.slice p len cap, .int .i64 lo, .int .i64 hi, .int .i64 10] w fun e w' => e = .returned (.bool true) ∧ Below w.heap.size w w' := by
  have hb1 : Below w.heap.size w (w.alloc (.cells #[.slice none 0 0, .slice none 0 0] 29)) := (Below.refl _ _).alloc (Nat.le_refl _) _
  have hw1 := wat0 w
  have A1 := hid (begin_any _ _ _ _ _ hw1.cells hw1.row (by simp))
  have Hw1 := hid hw1
  clear hw1
  go_enter Tryz.func9, Tryz.ntmps9
  go_wp2_with fail
  refine A1.out.mono ?_
  rintro e w2 ⟨rfl, v2, _, _, _, _, _, _, _, _, _, _, _, _, hB⟩
  obtain ⟨y, hw2, ho2, _⟩ := Hw1.out.begun hB
  have hb2 : Below w.heap.size w w2 := hb1.trans (below_of_only ho2 (fun b hb => (Hw1.out.foots b hb).1) hb1.size)
  clear hB A1
  have A2 := hid (step_build hw2 (by simp) (by simp) 2 0 0 0 0 0 (.int .i64 0) (.slice none 0 0) (.slice none 0 0) (.slice none 0 0) (.slice none 0 0) (by decide))
  go_wp2_with fail
  refine A2.out.mono ?_
  rintro e w3 ⟨rfl, xs3, hw3, hl3, ho3, _⟩
  have hb3 : Below w.heap.size w w3 := hb2.trans (below_of_only ho3 (fun b hb => (hw2.foots b hb).1) hb2.size)
  have hl3' : xs3.length = 1 := by simpa using hl3
  clear A2
  have A3 := hid (step_build hw3 (by omega) (by omega) 4 0 0 100 0 0 (.int .i64 0) (.slice none 0 0) (.slice none 0 0) (.slice none 0 0) (.slice none 0 0) (by decide))
  go_wp2_with fail
  refine A3.out.mono ?_
  rintro e w4 ⟨rfl, xs4, hw4, hl4, ho4, _⟩
  have hb4 : Below w.heap.size w w4 := hb3.trans (below_of_only ho4 (fun b hb => (hw3.foots b hb).1) hb3.size)
  have hl4' : xs4.length = 1 := by omega
  clear A3 hb1 hb2 hb3 hw2 hw3 ho2 ho3 ho4 Hw1 hl3 hl4 hl3'
  have Hs := hid (And.intro hw4 (And.intro hl4' hb4))
  clear hw4 hl4' hb4
  go_wp2_with fail
  go_loopg [13] len (fun gk iv wr => ∃ (j : Nat) (v : Value) (xs : List Pr), j ≤ len ∧ len - j ≤ gk ∧ iv = .int .i64 j ∧ WAt wr w.heap.size w.heap.size v (.slice none 0 0) xs ∧ 0 < xs.length ∧ xs.length ≤ j + 1 ∧ Below w.heap.size w wr)
  case atStart => exact ⟨0, _, _, Nat.zero_le _, Nat.le_refl _, rfl, Hs.out.1, by rw [Hs.out.2.1]; decide, by rw [Hs.out.2.1]; decide, Hs.out.2.2⟩
  case' round => skip
  clear Hs
  obtain ⟨j, v, xs, hj, hgk, rfl, hw, hn, hlx, hb⟩ := hrel
  by_cases hlt : j < len
  · rcases hops with h0 | ⟨sb, off, rfl, hsb, hc⟩
    · omega
    obtain ⟨k, m, a, b, c, d, n6, p7, p8, p9, p10, l7, l8, l9, l10, z7, z8, z9, z10, q0, q1, q2, q3, q4, q5, q6, q7, q8, q9, q10⟩ := hc j hlt
    have mv : ∀ o, wr.cell? ⟨sb, o, none⟩ = w.cell? ⟨sb, o, none⟩ := fun o => hb.cell (p := ⟨sb, o, none⟩) hsb
    rw [← mv] at q0 q1 q2 q3 q4 q5 q6 q7 q8 q9 q10
    have hsw : sb < wr.heap.size := Nat.lt_of_lt_of_le hsb hb.size
    have hjI : (j : Int) < (len : Int) := by omega
    clear mv hc
    have hbo : Below wr.heap.size wr (wr.alloc (.cells #[.int .i64 k, .int .i64 m, .int .i64 a, .int .i64 b, .int .i64 c, .int .i64 d, .int .i64 n6, .slice p7 l7 z7, .slice p8 l8 z8, .slice p9 l9 z9, .slice p10 l10 z10] 37)) := (Below.refl _ _).alloc (Nat.le_refl _) _
    have hwo := hw.below hbo
    by_cases hk : 10 < k
    · go_wp2_with fail
      go_roundg (len - (j + 1))
      case measure => omega
      case rel => exact ⟨j + 1, v, xs, by omega, Nat.le_refl _, by go_num, hwo, hn, by omega, hb.trans (hbo.mono hb.size)⟩
    · have hkd : decide (10 < k) = false := by simpa using hk
      have A4 := hid (step_any hwo hn (by omega) k m a b c d (.int .i64 n6) (.slice p7 l7 z7) (.slice p8 l8 z8) (.slice p9 l9 z9) (.slice p10 l10 z10) (by omega))
      have Hw := hid (And.intro hw (And.intro hwo (And.intro hb hbo)))
      clear hw hwo hb hbo
      go_wp2_with fail
      refine A4.out.mono ?_
      rintro e w5 ⟨rfl, v5, xs5, hw5, hl5, hl6, ho5, _⟩
      have hz5 : wr.heap.size < w5.heap.size := Nat.lt_of_lt_of_le (by simp) ho5.size
      have o1 := (ho5.block wr.heap.size (by simp) (fun hm => by have := (Hw.out.1.foots _ hm).2; omega)).trans (MapKept.heap_alloc wr _).1
      have f0 := (cells11 o1).1
      have Hb5 := hid (show Below w.heap.size w w5 from (Hw.out.2.2.1.trans (Hw.out.2.2.2.mono Hw.out.2.2.1.size)).trans (below_of_only ho5 (fun b hb => (Hw.out.2.1.foots b hb).1) (Nat.le_trans Hw.out.2.2.1.size Hw.out.2.2.2.size)))
      clear o1 A4 hkd hk
      by_cases h1 : k = 1
      · subst h1
        go_wp2_with fail
        refine (looks_none w5 _ v5 hw5.cells).mono ?_
        rintro e w6 ⟨rfl, rfl⟩
        go_wp2_with fail
        go_roundg (len - (j + 1))
        case measure => omega
        case rel => exact ⟨j + 1, v5, xs5, by omega, Nat.le_refl _, by go_num, hw5, by omega, by omega, Hb5.out⟩
      · have h1b : (k == 1) = false := by simpa using h1
        clear h1
        by_cases h2 : lo ≤ k
        · by_cases h3 : k ≤ hi
          · have h2b : decide (lo ≤ k) = true := by simpa using h2
            have h3b : decide (k ≤ hi) = true := by simpa using h3
            clear h2 h3
            go_wp2_with fail
            refine (looks_none w5 _ v5 hw5.cells).mono ?_
            rintro e w6 ⟨rfl, rfl⟩
            go_wp2_with fail
            go_roundg (len - (j + 1))
            case measure => omega
            case rel => exact ⟨j + 1, v5, xs5, by omega, Nat.le_refl _, by go_num, hw5, by omega, by omega, Hb5.out⟩
          · have h2b : decide (lo ≤ k) = true := by simpa using h2
            have h3b : decide (k ≤ hi) = false := by simpa using h3
            clear h2 h3
            go_wp2_with fail
            refine (looks_none w5 _ v5 hw5.cells).mono ?_
            rintro e w6 ⟨rfl, rfl⟩
            go_wp2_with fail
            go_roundg (len - (j + 1))
            case measure => omega
            case rel => exact ⟨j + 1, v5, xs5, by omega, Nat.le_refl _, by go_num, hw5, by omega, by omega, Hb5.out⟩
        · have h2b : decide (lo ≤ k) = false := by simpa using h2
          clear h2
          go_wp2_with fail
          refine (looks_none w5 _ v5 hw5.cells).mono ?_
          rintro e w6 ⟨rfl, rfl⟩
          go_wp2_with fail
          go_roundg (len - (j + 1))
          case measure => omega
          case rel => exact ⟨j + 1, v5, xs5, by omega, Nat.le_refl _, by go_num, hw5, by omega, by omega, Hb5.out⟩
  · go_wp2
    go_ret
    exact ⟨rfl, hb⟩
end Go.Proofs.YtjdindfjfpdikaaGreat
namespace Go.Proofs.YtjdindfjfpdikaaGreat
open Go.RowKit Go.ChangeShapes Go.WideShapes

theorem cells70 : Tryz.prog.cellsOf 37 = 11 := by kernel_rfl
theorem cells68 : Tryz.prog.cellsOf 35 = 3 := by kernel_rfl
theorem cells3' : Tryz.prog.cellsOf 3 = 1 := by kernel_rfl
theorem cells38 : Tryz.prog.cellsOf 32 = 1 := by kernel_rfl
theorem cells66 : Tryz.prog.cellsOf 33 = 1 := by kernel_rfl
theorem bytes70 : Tryz.prog.bytesOf 37 = 152 := by kernel_rfl

theorem cell_lt {w : World} {a : Addr} {v : Value} (h : w.cell? a = some v) : a.block < w.heap.size := by
  rcases Nat.lt_or_ge a.block w.heap.size with hl | hl
  · exact hl
  · have : w.heap[a.block]? = none := by simp [hl]
    simp [World.cell?, this] at h

section
variable {H : Type} {enc : TypeId × Value → H} {w : World} {base : Nat} {spare : Nat → Bool} {held : Bool}

theorem slice_cell {t e : TypeId} {fuel : Nat} {v : Value} {x : DataW H × List MemPlace} (ht : Tryz.prog.underlying t = some (.slice e)) (h : DataW.trod enc Tryz.prog w base spare held fuel t [v] = some x) : ∃ p l z, v = .slice p l z := by
  rcases Deep.open_slice ht h with ⟨hcs, _⟩ | ⟨a, len, cap, _, _, _, _, hcs, _⟩
  · exact ⟨none, 0, 0, by simpa using hcs⟩
  · exact ⟨some a, len, cap, by simpa using hcs⟩

theorem int_cell {fuel : Nat} {v : Value} {x : DataW H × List MemPlace} (h : DataW.trod enc Tryz.prog w base spare held fuel 3 [v] = some x) : ∃ n, v = .int .i64 n := by
  obtain ⟨n, hcs, _⟩ := DataW.trod_int Tryz.underlying3 h
  exact ⟨n, by simpa using hcs⟩

theorem some_of {α : Type} {xs : List α} {n i : Nat} (h : xs.length = n) (hi : i < n) : ∃ x, xs[i]? = some x := ⟨xs[i], List.getElem?_eq_getElem (by omega)⟩

theorem op_cells {fuel : Nat} {v0 v1 v2 v3 v4 v5 v6 v7 v8 v9 v10 : Value} {x : DataW H × List MemPlace} (h : DataW.trod enc Tryz.prog w base spare held fuel 37 [v0, v1, v2, v3, v4, v5, v6, v7, v8, v9, v10] = some x) :
    ∃ (k m a b c d n6 : Int) (p7 p8 p9 p10 : Option Addr) (l7 l8 l9 l10 z7 z8 z9 z10 : Nat), v0 = .int .i64 k ∧ v1 = .int .i64 m ∧ v2 = .int .i64 a ∧ v3 = .int .i64 b ∧ v4 = .int .i64 c ∧ v5 = .int .i64 d ∧ v6 = .int .i64 n6 ∧ v7 = .slice p7 l7 z7 ∧ v8 = .slice p8 l8 z8 ∧ v9 = .slice p9 l9 z9 ∧ v10 = .slice p10 l10 z10 := by
  obtain ⟨xs, n, _, _, _, hxl, hf⟩ := DataW.trod_struct Tryz.underlying37 h
  have hxl' : xs.length = 9 := hxl
  have g0 : DataW.trod enc Tryz.prog w base spare held n 3 [v0] = xs[0]? := by have := hf 0 _ rfl; simpa [cells3'] using this
  have g1 : DataW.trod enc Tryz.prog w base spare held n 3 [v1] = xs[1]? := by have := hf 1 _ rfl; simpa [cells3'] using this
  have g2 : DataW.trod enc Tryz.prog w base spare held n 3 [v2] = xs[2]? := by have := hf 2 _ rfl; simpa [cells3'] using this
  have g3 : DataW.trod enc Tryz.prog w base spare held n 3 [v3] = xs[3]? := by have := hf 3 _ rfl; simpa [cells3'] using this
  have g4 : DataW.trod enc Tryz.prog w base spare held n 3 [v4] = xs[4]? := by have := hf 4 _ rfl; simpa [cells3'] using this
  have g5 : DataW.trod enc Tryz.prog w base spare held n 3 [v5] = xs[5]? := by have := hf 5 _ rfl; simpa [cells3'] using this
  have g6 : DataW.trod enc Tryz.prog w base spare held n 35 [v6, v7, v8] = xs[6]? := by have := hf 6 _ rfl; simpa [cells68] using this
  have g7 : DataW.trod enc Tryz.prog w base spare held n 32 [v9] = xs[7]? := by have := hf 7 _ rfl; simpa [cells38] using this
  have g8 : DataW.trod enc Tryz.prog w base spare held n 32 [v10] = xs[8]? := by have := hf 8 _ rfl; simpa [cells38] using this
  obtain ⟨x0, e0⟩ := some_of hxl' (show 0 < 9 by decide)
  obtain ⟨x1, e1⟩ := some_of hxl' (show 1 < 9 by decide)
  obtain ⟨x2, e2⟩ := some_of hxl' (show 2 < 9 by decide)
  obtain ⟨x3, e3⟩ := some_of hxl' (show 3 < 9 by decide)
  obtain ⟨x4, e4⟩ := some_of hxl' (show 4 < 9 by decide)
  obtain ⟨x5, e5⟩ := some_of hxl' (show 5 < 9 by decide)
  obtain ⟨x6, e6⟩ := some_of hxl' (show 6 < 9 by decide)
  obtain ⟨x7, e7⟩ := some_of hxl' (show 7 < 9 by decide)
  obtain ⟨x8, e8⟩ := some_of hxl' (show 8 < 9 by decide)
  rw [e0] at g0
  rw [e1] at g1
  rw [e2] at g2
  rw [e3] at g3
  rw [e4] at g4
  rw [e5] at g5
  rw [e6] at g6
  rw [e7] at g7
  rw [e8] at g8
  obtain ⟨k, hk⟩ := int_cell (v := v0) g0
  obtain ⟨m, hm⟩ := int_cell (v := v1) g1
  obtain ⟨a, ha⟩ := int_cell (v := v2) g2
  obtain ⟨b, hb⟩ := int_cell (v := v3) g3
  obtain ⟨c, hc⟩ := int_cell (v := v4) g4
  obtain ⟨d, hd⟩ := int_cell (v := v5) g5
  obtain ⟨p9, l9, z9, h9⟩ := slice_cell (v := v9) Tryz.underlying32 g7
  obtain ⟨p10, l10, z10, h10⟩ := slice_cell (v := v10) Tryz.underlying32 g8
  obtain ⟨ys, n', _, _, _, hyl, hy⟩ := DataW.trod_struct (cs := [v6, v7, v8]) Tryz.underlying35 g6
  have hyl' : ys.length = 3 := hyl
  have i0 : DataW.trod enc Tryz.prog w base spare held n' 3 [v6] = ys[0]? := by have := hy 0 _ rfl; simpa [cells3'] using this
  have i1 : DataW.trod enc Tryz.prog w base spare held n' 32 [v7] = ys[1]? := by have := hy 1 _ rfl; simpa [cells38] using this
  have i2 : DataW.trod enc Tryz.prog w base spare held n' 33 [v8] = ys[2]? := by have := hy 2 _ rfl; simpa [cells66] using this
  obtain ⟨y0, f0⟩ := some_of hyl' (show 0 < 3 by decide)
  obtain ⟨y1, f1⟩ := some_of hyl' (show 1 < 3 by decide)
  obtain ⟨y2, f2⟩ := some_of hyl' (show 2 < 3 by decide)
  rw [f0] at i0
  rw [f1] at i1
  rw [f2] at i2
  obtain ⟨n6, h6⟩ := int_cell (v := v6) i0
  obtain ⟨p7, l7, z7, h7⟩ := slice_cell (v := v7) Tryz.underlying32 i1
  obtain ⟨p8, l8, z8, h8⟩ := slice_cell (v := v8) Tryz.underlying33 i2
  exact ⟨k, m, a, b, c, d, n6, p7, p8, p9, p10, l7, l8, l9, l10, z7, z8, z9, z10, hk, hm, ha, hb, hc, hd, h6, h7, h8, h9, h10⟩

/-- The script, opened. -/
theorem isOps_of {fuel : Nat} {p : Option Addr} {len cap : Nat} {x : DataW H × List MemPlace} (h : DataW.trod enc Tryz.prog w base spare held fuel 22 [.slice p len cap] = some x) :
    IsOps w p len ∧ (x.1 = .nil ∨ ∃ es sp, x.1 = .slice es sp ∧ es.length = len) := by
  rcases Deep.open_slice Tryz.underlying22 h with ⟨hcs, hx⟩ | ⟨a, len', cap', m, n, D, Pl, hcs, _, hl, _, hm, hx, hc⟩
  · simp at hcs
    obtain ⟨rfl, rfl, rfl⟩ := hcs
    exact ⟨Or.inl rfl, Or.inl (by rw [hx])⟩
  · simp at hcs
    obtain ⟨rfl, rfl, rfl⟩ := hcs
    refine ⟨?_, Or.inr ⟨_, _, by rw [hx], by simp⟩⟩
    have hlm : len ≤ m := by rw [hm]; split <;> omega
    by_cases h0 : len = 0
    · exact Or.inl h0
    right
    rw [cells70] at hc
    have hcell : ∀ i, i < len → ∃ (k m a' b c d n6 : Int) (p7 p8 p9 p10 : Option Addr) (l7 l8 l9 l10 z7 z8 z9 z10 : Nat), (w.cell? ((a.add (i * 11)).add 0) = some (.int .i64 k) ∧ w.cell? ((a.add (i * 11)).add 1) = some (.int .i64 m) ∧ w.cell? ((a.add (i * 11)).add 2) = some (.int .i64 a') ∧ w.cell? ((a.add (i * 11)).add 3) = some (.int .i64 b) ∧ w.cell? ((a.add (i * 11)).add 4) = some (.int .i64 c) ∧ w.cell? ((a.add (i * 11)).add 5) = some (.int .i64 d) ∧ w.cell? ((a.add (i * 11)).add 6) = some (.int .i64 n6) ∧ w.cell? ((a.add (i * 11)).add 7) = some (.slice p7 l7 z7) ∧ w.cell? ((a.add (i * 11)).add 8) = some (.slice p8 l8 z8) ∧ w.cell? ((a.add (i * 11)).add 9) = some (.slice p9 l9 z9) ∧ w.cell? ((a.add (i * 11)).add 10) = some (.slice p10 l10 z10)) := by
      intro i hi
      obtain ⟨cs', h1, h2⟩ := hc i (by omega)
      obtain ⟨_, hlen, hcell⟩ := World.cells?_some h1
      match cs', hlen with
      | [v0, v1, v2, v3, v4, v5, v6, v7, v8, v9, v10], _ =>
        obtain ⟨k, m, a', b, c, d, n6, p7, p8, p9, p10, l7, l8, l9, l10, z7, z8, z9, z10, rfl, rfl, rfl, rfl, rfl, rfl, rfl, rfl, rfl, rfl, rfl⟩ := op_cells h2
        exact ⟨k, m, a', b, c, d, n6, p7, p8, p9, p10, l7, l8, l9, l10, z7, z8, z9, z10, hcell 0 (by decide), hcell 1 (by decide), hcell 2 (by decide), hcell 3 (by decide), hcell 4 (by decide), hcell 5 (by decide), hcell 6 (by decide), hcell 7 (by decide), hcell 8 (by decide), hcell 9 (by decide), hcell 10 (by decide)⟩
    obtain ⟨sb, off, spot⟩ := a
    obtain ⟨k, _, _, _, _, _, _, _, _, _, _, _, _, _, _, _, _, _, _, hq, _⟩ := hcell 0 (by omega)
    have hs := World.cell?_spot hq
    have hlt := cell_lt hq
    have hspot : spot = none := by simpa [Addr.add] using hs
    subst hspot
    refine ⟨sb, off, rfl, by simpa [Addr.add] using hlt, fun i hi => ?_⟩
    obtain ⟨k, m, a', b, c, d, n6, p7, p8, p9, p10, l7, l8, l9, l10, z7, z8, z9, z10, hh⟩ := hcell i hi
    refine ⟨k, m, a', b, c, d, n6, p7, p8, p9, p10, l7, l8, l9, l10, z7, z8, z9, z10, ?_⟩
    simpa only [Addr.add_lit, Nat.add_zero] using hh
end
end Go.Proofs.YtjdindfjfpdikaaGreat
