import Derived.Test.YtjdindfjfpdikaaGreatRefT
import Derived.Test.YtjdindfjfpdikaaGreatSimF
import Derived.Test.YtjdindfjfpdikaaGreatSort
import Derived.Test.YtjdindfjfpdikaaGreatPrefer
import Derived.Test.YtjdindfjfpdikaaGreatMakeC
namespace Go.Proofs.YtjdindfjfpdikaaGreat
open Go.RowKit

/-- What a call of a kind answers, and what it leaves. -/
def code (R : RSt) (k a b c d : Int) : Int := if k = 2 then c2 R a else if k = 3 then c3 R a b c else if k = 4 then c4 R a b else if k = 5 then c5 R a b c else if k = 6 then c6 R a b c d else if k = 7 then c7 R a b else 0
def next (R : RSt) (k a b c d : Int) : RSt := if k = 2 then n2 R a else if k = 3 then n3 R a b c else if k = 4 then n4 R a b else if k = 5 then n5 R a b c else if k = 6 then n6 R a b c d else if k = 7 then n7 R a b else n8 R

/-- One call of a script. -/
def opV (k m a b c d : Int) (y6 y7 y8 y9 y10 : Value) : Value := .agg #[.int .i64 k, .int .i64 m, .int .i64 a, .int .i64 b, .int .i64 c, .int .i64 d, y6, y7, y8, y9, y10]

/-- What a call leaves of a plan of the program. -/
def PPost (w : World) (pb b0 b1 b2 b3 : Nat) (R : RSt) (a : Value) (e : Ending) (w' : World) : Prop :=
  e = .returned a ∧ ∃ l0 l1 l2 l3, PlanAt w' pb b0 b1 b2 b3 l0 l1 l2 l3 ∧ Sim l0 l1 l2 l3 R ∧ Only [b0, b1, b2, b3] w w'

section
variable {w : World} {pb b0 b1 b2 b3 : Nat} {l0 : Things} {l1 : Runs} {l2 : Waits} {l3 : Prefs} {R : RSt}

set_option maxRecDepth 100000 in
set_option maxHeartbeats 4000000 in
theorem builds2 (h : PlanAt w pb b0 b1 b2 b3 l0 l1 l2 l3) (hs : Sim l0 l1 l2 l3 R) (m a b c d : Int) (y6 y7 y8 y9 y10 : Value) :
    Calls Tryz.prog 15 #[.pointer (some ⟨pb, 0, none⟩), .agg #[.int .i64 2, .int .i64 m, .int .i64 a, .int .i64 b, .int .i64 c, .int .i64 d, y6, y7, y8, y9, y10]] w (PPost w pb b0 b1 b2 b3 (n2 R a) (.int .i64 (c2 R a))) := by
  have hp1 := h.alloc (.cells #[.int .i64 2, .int .i64 m, .int .i64 a, .int .i64 b, .int .i64 c, .int .i64 d, y6, y7, y8, y9, y10] 37)
  have hb1 : Below w.heap.size w (w.alloc (.cells #[.int .i64 2, .int .i64 m, .int .i64 a, .int .i64 b, .int .i64 c, .int .i64 d, y6, y7, y8, y9, y10] 37)) := (Below.refl _ _).alloc (Nat.le_refl _) _
  have hq := sim_rack hs a
  have A1 := hid (rack_any sortSaid hp1 a hs.len)
  rw [hq.1] at A1
  have HS := hid hq.2
  clear hq
  go_enter Tryz.func15, Tryz.ntmps15
  go_wp2_with fail
  refine A1.out.mono ?_
  rintro e w2 ⟨rfl, hp2, ho2⟩
  go_wp2_with fail
  go_ret
  exact ⟨rfl, _, _, _, _, hp2, HS.out, (Only.of_below hb1).trans ho2⟩

set_option maxRecDepth 100000 in
set_option maxHeartbeats 4000000 in
theorem builds3 (h : PlanAt w pb b0 b1 b2 b3 l0 l1 l2 l3) (hs : Sim l0 l1 l2 l3 R) (m a b c d : Int) (y6 y7 y8 y9 y10 : Value) :
    Calls Tryz.prog 15 #[.pointer (some ⟨pb, 0, none⟩), .agg #[.int .i64 3, .int .i64 m, .int .i64 a, .int .i64 b, .int .i64 c, .int .i64 d, y6, y7, y8, y9, y10]] w (PPost w pb b0 b1 b2 b3 (n3 R a b c) (.int .i64 (c3 R a b c))) := by
  have hp1 := h.alloc (.cells #[.int .i64 3, .int .i64 m, .int .i64 a, .int .i64 b, .int .i64 c, .int .i64 d, y6, y7, y8, y9, y10] 37)
  have hb1 : Below w.heap.size w (w.alloc (.cells #[.int .i64 3, .int .i64 m, .int .i64 a, .int .i64 b, .int .i64 c, .int .i64 d, y6, y7, y8, y9, y10] 37)) := (Below.refl _ _).alloc (Nat.le_refl _) _
  have hq := sim_mach hs a b c
  have A1 := hid (machine_any sortSaid hp1 a b c hs.len)
  rw [hq.1] at A1
  have HS := hid hq.2
  clear hq
  go_enter Tryz.func15, Tryz.ntmps15
  go_wp2_with fail
  refine A1.out.mono ?_
  rintro e w2 ⟨rfl, hp2, ho2⟩
  go_wp2_with fail
  go_ret
  exact ⟨rfl, _, _, _, _, hp2, HS.out, (Only.of_below hb1).trans ho2⟩

set_option maxRecDepth 100000 in
set_option maxHeartbeats 4000000 in
theorem builds4 (h : PlanAt w pb b0 b1 b2 b3 l0 l1 l2 l3) (hs : Sim l0 l1 l2 l3 R) (m a b c d : Int) (y6 y7 y8 y9 y10 : Value) :
    Calls Tryz.prog 15 #[.pointer (some ⟨pb, 0, none⟩), .agg #[.int .i64 4, .int .i64 m, .int .i64 a, .int .i64 b, .int .i64 c, .int .i64 d, y6, y7, y8, y9, y10]] w (PPost w pb b0 b1 b2 b3 (n4 R a b) (.int .i64 (c4 R a b))) := by
  have hp1 := h.alloc (.cells #[.int .i64 4, .int .i64 m, .int .i64 a, .int .i64 b, .int .i64 c, .int .i64 d, y6, y7, y8, y9, y10] 37)
  have hb1 : Below w.heap.size w (w.alloc (.cells #[.int .i64 4, .int .i64 m, .int .i64 a, .int .i64 b, .int .i64 c, .int .i64 d, y6, y7, y8, y9, y10] 37)) := (Below.refl _ _).alloc (Nat.le_refl _) _
  have hq := sim_job hs a b
  have A1 := hid (job_any sortSaid hp1 a b hs.len)
  rw [hq.1] at A1
  have HS := hid hq.2
  clear hq
  go_enter Tryz.func15, Tryz.ntmps15
  go_wp2_with fail
  refine A1.out.mono ?_
  rintro e w2 ⟨rfl, hp2, ho2⟩
  go_wp2_with fail
  go_ret
  exact ⟨rfl, _, _, _, _, hp2, HS.out, (Only.of_below hb1).trans ho2⟩

set_option maxRecDepth 100000 in
set_option maxHeartbeats 4000000 in
theorem builds5 (h : PlanAt w pb b0 b1 b2 b3 l0 l1 l2 l3) (hs : Sim l0 l1 l2 l3 R) (m a b c d : Int) (y6 y7 y8 y9 y10 : Value) :
    Calls Tryz.prog 15 #[.pointer (some ⟨pb, 0, none⟩), .agg #[.int .i64 5, .int .i64 m, .int .i64 a, .int .i64 b, .int .i64 c, .int .i64 d, y6, y7, y8, y9, y10]] w (PPost w pb b0 b1 b2 b3 (n5 R a b c) (.int .i64 (c5 R a b c))) := by
  have hp1 := h.alloc (.cells #[.int .i64 5, .int .i64 m, .int .i64 a, .int .i64 b, .int .i64 c, .int .i64 d, y6, y7, y8, y9, y10] 37)
  have hb1 : Below w.heap.size w (w.alloc (.cells #[.int .i64 5, .int .i64 m, .int .i64 a, .int .i64 b, .int .i64 c, .int .i64 d, y6, y7, y8, y9, y10] 37)) := (Below.refl _ _).alloc (Nat.le_refl _) _
  have hq := sim_task hs a b c
  have A1 := hid (task_any sortSaid hp1 a b c hs.len)
  rw [hq.1] at A1
  have HS := hid hq.2
  clear hq
  go_enter Tryz.func15, Tryz.ntmps15
  go_wp2_with fail
  refine A1.out.mono ?_
  rintro e w2 ⟨rfl, hp2, ho2⟩
  go_wp2_with fail
  go_ret
  exact ⟨rfl, _, _, _, _, hp2, HS.out, (Only.of_below hb1).trans ho2⟩

set_option maxRecDepth 100000 in
set_option maxHeartbeats 4000000 in
theorem builds6 (h : PlanAt w pb b0 b1 b2 b3 l0 l1 l2 l3) (hs : Sim l0 l1 l2 l3 R) (m a b c d : Int) (y6 y7 y8 y9 y10 : Value) :
    Calls Tryz.prog 15 #[.pointer (some ⟨pb, 0, none⟩), .agg #[.int .i64 6, .int .i64 m, .int .i64 a, .int .i64 b, .int .i64 c, .int .i64 d, y6, y7, y8, y9, y10]] w (PPost w pb b0 b1 b2 b3 (n6 R a b c d) (.int .i64 (c6 R a b c d))) := by
  have hp1 := h.alloc (.cells #[.int .i64 6, .int .i64 m, .int .i64 a, .int .i64 b, .int .i64 c, .int .i64 d, y6, y7, y8, y9, y10] 37)
  have hb1 : Below w.heap.size w (w.alloc (.cells #[.int .i64 6, .int .i64 m, .int .i64 a, .int .i64 b, .int .i64 c, .int .i64 d, y6, y7, y8, y9, y10] 37)) := (Below.refl _ _).alloc (Nat.le_refl _) _
  have hq := sim_pref hs a b c d
  have A1 := hid (prefer_any hp1 a b c d)
  rw [hq.1] at A1
  have HS := hid hq.2
  clear hq
  go_enter Tryz.func15, Tryz.ntmps15
  go_wp2_with fail
  refine A1.out.mono ?_
  rintro e w2 ⟨rfl, hp2, ho2⟩
  go_wp2_with fail
  go_ret
  exact ⟨rfl, _, _, _, _, hp2, HS.out, (Only.of_below hb1).trans ho2⟩

set_option maxRecDepth 100000 in
set_option maxHeartbeats 4000000 in
theorem builds7 (h : PlanAt w pb b0 b1 b2 b3 l0 l1 l2 l3) (hs : Sim l0 l1 l2 l3 R) (m a b c d : Int) (y6 y7 y8 y9 y10 : Value) :
    Calls Tryz.prog 15 #[.pointer (some ⟨pb, 0, none⟩), .agg #[.int .i64 7, .int .i64 m, .int .i64 a, .int .i64 b, .int .i64 c, .int .i64 d, y6, y7, y8, y9, y10]] w (PPost w pb b0 b1 b2 b3 (n7 R a b) (.int .i64 (c7 R a b))) := by
  have hp1 := h.alloc (.cells #[.int .i64 7, .int .i64 m, .int .i64 a, .int .i64 b, .int .i64 c, .int .i64 d, y6, y7, y8, y9, y10] 37)
  have hb1 : Below w.heap.size w (w.alloc (.cells #[.int .i64 7, .int .i64 m, .int .i64 a, .int .i64 b, .int .i64 c, .int .i64 d, y6, y7, y8, y9, y10] 37)) := (Below.refl _ _).alloc (Nat.le_refl _) _
  have hq := sim_rem hs a b
  have A1 := hid (remove_runs hp1 hs.kn0 hs.runs.kn1 hs.kn2 hs.kn3 a b)
  rw [hq.1] at A1
  have HS := hid hq.2
  clear hq
  go_enter Tryz.func15, Tryz.ntmps15
  go_wp2_with fail
  refine A1.out.mono ?_
  rintro e w2 ⟨rfl, hp2, ho2⟩
  go_wp2_with fail
  go_ret
  exact ⟨rfl, _, _, _, _, hp2, HS.out, (Only.of_below hb1).trans ho2⟩

set_option maxRecDepth 100000 in
set_option maxHeartbeats 4000000 in
theorem builds8 (h : PlanAt w pb b0 b1 b2 b3 l0 l1 l2 l3) (hs : Sim l0 l1 l2 l3 R) (m a b c d : Int) (y6 y7 y8 y9 y10 : Value) :
    Calls Tryz.prog 15 #[.pointer (some ⟨pb, 0, none⟩), .agg #[.int .i64 8, .int .i64 m, .int .i64 a, .int .i64 b, .int .i64 c, .int .i64 d, y6, y7, y8, y9, y10]] w (PPost w pb b0 b1 b2 b3 (n8 R) (.int .i64 (0))) := by
  have hp1 := h.alloc (.cells #[.int .i64 8, .int .i64 m, .int .i64 a, .int .i64 b, .int .i64 c, .int .i64 d, y6, y7, y8, y9, y10] 37)
  have hb1 : Below w.heap.size w (w.alloc (.cells #[.int .i64 8, .int .i64 m, .int .i64 a, .int .i64 b, .int .i64 c, .int .i64 d, y6, y7, y8, y9, y10] 37)) := (Below.refl _ _).alloc (Nat.le_refl _) _
  have A1 := hid (tick_any sortSaid hp1 hs.len hs.wd)
  go_enter Tryz.func15, Tryz.ntmps15
  go_wp2_with fail
  refine A1.out.mono ?_
  rintro e w2 ⟨rfl, ⟨ys, hy, hp2⟩, ho2⟩
  go_wp2_with fail
  go_ret
  exact ⟨rfl, _, _, _, _, hp2, sim_tick hs ys hy, (Only.of_below hb1).trans ho2⟩

theorem builds_any (h : PlanAt w pb b0 b1 b2 b3 l0 l1 l2 l3) (hs : Sim l0 l1 l2 l3 R) (k m a b c d : Int) (y6 y7 y8 y9 y10 : Value) (hk : 2 ≤ k ∧ k ≤ 8) :
    Calls Tryz.prog 15 #[.pointer (some ⟨pb, 0, none⟩), opV k m a b c d y6 y7 y8 y9 y10] w (PPost w pb b0 b1 b2 b3 (next R k a b c d) (.int .i64 (code R k a b c d))) := by
  obtain rfl | rfl | rfl | rfl | rfl | rfl | rfl : k = 2 ∨ k = 3 ∨ k = 4 ∨ k = 5 ∨ k = 6 ∨ k = 7 ∨ k = 8 := by omega
  · exact builds2 h hs m a b c d y6 y7 y8 y9 y10
  · exact builds3 h hs m a b c d y6 y7 y8 y9 y10
  · exact builds4 h hs m a b c d y6 y7 y8 y9 y10
  · exact builds5 h hs m a b c d y6 y7 y8 y9 y10
  · exact builds6 h hs m a b c d y6 y7 y8 y9 y10
  · exact builds7 h hs m a b c d y6 y7 y8 y9 y10
  · exact builds8 h hs m a b c d y6 y7 y8 y9 y10
end

section
variable {w : World} {rb : Nat} {V : RVs} {x7 x8 x9 x10 x11 : Value} {R : RSt}

set_option maxRecDepth 100000 in
set_option maxHeartbeats 4000000 in
theorem built2 (h : RefAt w rb V x7 x8 x9 x10 x11 R) (hf : Fit R) (m a b c d : Int) (y6 y7 y8 y9 y10 : Value) :
    Calls Tryz.prog 16 #[.pointer (some ⟨rb, 0, none⟩), .agg #[.int .i64 2, .int .i64 m, .int .i64 a, .int .i64 b, .int .i64 c, .int .i64 d, y6, y7, y8, y9, y10]] w (RPost w rb V x7 x8 x9 x10 x11 (n2 R a) (.int .i64 (c2 R a))) := by
  have hp1 := h.alloc (.cells #[.int .i64 2, .int .i64 m, .int .i64 a, .int .i64 b, .int .i64 c, .int .i64 d, y6, y7, y8, y9, y10] 37)
  have hb1 : Below w.heap.size w (w.alloc (.cells #[.int .i64 2, .int .i64 m, .int .i64 a, .int .i64 b, .int .i64 c, .int .i64 d, y6, y7, y8, y9, y10] 37)) := (Below.refl _ _).alloc (Nat.le_refl _) _
  have A1 := hid (r2_any hp1 hf a)
  go_enter Tryz.func16, Tryz.ntmps16
  go_wp2_with fail
  refine A1.out.mono ?_
  rintro e w2 ⟨rfl, V2, hr2, ho2, hv2⟩
  go_wp2_with fail
  go_ret
  exact ⟨rfl, V2, hr2, (Only.of_below hb1).trans ho2, fun b hb => (hv2 b hb).imp_right (fun hh => Nat.le_trans hb1.size hh)⟩

set_option maxRecDepth 100000 in
set_option maxHeartbeats 4000000 in
theorem built3 (h : RefAt w rb V x7 x8 x9 x10 x11 R) (hf : Fit R) (m a b c d : Int) (y6 y7 y8 y9 y10 : Value) :
    Calls Tryz.prog 16 #[.pointer (some ⟨rb, 0, none⟩), .agg #[.int .i64 3, .int .i64 m, .int .i64 a, .int .i64 b, .int .i64 c, .int .i64 d, y6, y7, y8, y9, y10]] w (RPost w rb V x7 x8 x9 x10 x11 (n3 R a b c) (.int .i64 (c3 R a b c))) := by
  have hp1 := h.alloc (.cells #[.int .i64 3, .int .i64 m, .int .i64 a, .int .i64 b, .int .i64 c, .int .i64 d, y6, y7, y8, y9, y10] 37)
  have hb1 : Below w.heap.size w (w.alloc (.cells #[.int .i64 3, .int .i64 m, .int .i64 a, .int .i64 b, .int .i64 c, .int .i64 d, y6, y7, y8, y9, y10] 37)) := (Below.refl _ _).alloc (Nat.le_refl _) _
  have A1 := hid (r3_any hp1 hf a b c)
  go_enter Tryz.func16, Tryz.ntmps16
  go_wp2_with fail
  refine A1.out.mono ?_
  rintro e w2 ⟨rfl, V2, hr2, ho2, hv2⟩
  go_wp2_with fail
  go_ret
  exact ⟨rfl, V2, hr2, (Only.of_below hb1).trans ho2, fun b hb => (hv2 b hb).imp_right (fun hh => Nat.le_trans hb1.size hh)⟩

set_option maxRecDepth 100000 in
set_option maxHeartbeats 4000000 in
theorem built4 (h : RefAt w rb V x7 x8 x9 x10 x11 R) (hf : Fit R) (m a b c d : Int) (y6 y7 y8 y9 y10 : Value) :
    Calls Tryz.prog 16 #[.pointer (some ⟨rb, 0, none⟩), .agg #[.int .i64 4, .int .i64 m, .int .i64 a, .int .i64 b, .int .i64 c, .int .i64 d, y6, y7, y8, y9, y10]] w (RPost w rb V x7 x8 x9 x10 x11 (n4 R a b) (.int .i64 (c4 R a b))) := by
  have hp1 := h.alloc (.cells #[.int .i64 4, .int .i64 m, .int .i64 a, .int .i64 b, .int .i64 c, .int .i64 d, y6, y7, y8, y9, y10] 37)
  have hb1 : Below w.heap.size w (w.alloc (.cells #[.int .i64 4, .int .i64 m, .int .i64 a, .int .i64 b, .int .i64 c, .int .i64 d, y6, y7, y8, y9, y10] 37)) := (Below.refl _ _).alloc (Nat.le_refl _) _
  have A1 := hid (r4_any hp1 hf a b)
  go_enter Tryz.func16, Tryz.ntmps16
  go_wp2_with fail
  refine A1.out.mono ?_
  rintro e w2 ⟨rfl, V2, hr2, ho2, hv2⟩
  go_wp2_with fail
  go_ret
  exact ⟨rfl, V2, hr2, (Only.of_below hb1).trans ho2, fun b hb => (hv2 b hb).imp_right (fun hh => Nat.le_trans hb1.size hh)⟩

set_option maxRecDepth 100000 in
set_option maxHeartbeats 4000000 in
theorem built5 (h : RefAt w rb V x7 x8 x9 x10 x11 R) (hf : Fit R) (m a b c d : Int) (y6 y7 y8 y9 y10 : Value) :
    Calls Tryz.prog 16 #[.pointer (some ⟨rb, 0, none⟩), .agg #[.int .i64 5, .int .i64 m, .int .i64 a, .int .i64 b, .int .i64 c, .int .i64 d, y6, y7, y8, y9, y10]] w (RPost w rb V x7 x8 x9 x10 x11 (n5 R a b c) (.int .i64 (c5 R a b c))) := by
  have hp1 := h.alloc (.cells #[.int .i64 5, .int .i64 m, .int .i64 a, .int .i64 b, .int .i64 c, .int .i64 d, y6, y7, y8, y9, y10] 37)
  have hb1 : Below w.heap.size w (w.alloc (.cells #[.int .i64 5, .int .i64 m, .int .i64 a, .int .i64 b, .int .i64 c, .int .i64 d, y6, y7, y8, y9, y10] 37)) := (Below.refl _ _).alloc (Nat.le_refl _) _
  have A1 := hid (r5_any hp1 hf a b c)
  go_enter Tryz.func16, Tryz.ntmps16
  go_wp2_with fail
  refine A1.out.mono ?_
  rintro e w2 ⟨rfl, V2, hr2, ho2, hv2⟩
  go_wp2_with fail
  go_ret
  exact ⟨rfl, V2, hr2, (Only.of_below hb1).trans ho2, fun b hb => (hv2 b hb).imp_right (fun hh => Nat.le_trans hb1.size hh)⟩

set_option maxRecDepth 100000 in
set_option maxHeartbeats 4000000 in
theorem built6 (h : RefAt w rb V x7 x8 x9 x10 x11 R) (hf : Fit R) (m a b c d : Int) (y6 y7 y8 y9 y10 : Value) :
    Calls Tryz.prog 16 #[.pointer (some ⟨rb, 0, none⟩), .agg #[.int .i64 6, .int .i64 m, .int .i64 a, .int .i64 b, .int .i64 c, .int .i64 d, y6, y7, y8, y9, y10]] w (RPost w rb V x7 x8 x9 x10 x11 (n6 R a b c d) (.int .i64 (c6 R a b c d))) := by
  have hp1 := h.alloc (.cells #[.int .i64 6, .int .i64 m, .int .i64 a, .int .i64 b, .int .i64 c, .int .i64 d, y6, y7, y8, y9, y10] 37)
  have hb1 : Below w.heap.size w (w.alloc (.cells #[.int .i64 6, .int .i64 m, .int .i64 a, .int .i64 b, .int .i64 c, .int .i64 d, y6, y7, y8, y9, y10] 37)) := (Below.refl _ _).alloc (Nat.le_refl _) _
  have A1 := hid (r6_any hp1 hf a b c d)
  go_enter Tryz.func16, Tryz.ntmps16
  go_wp2_with fail
  refine A1.out.mono ?_
  rintro e w2 ⟨rfl, V2, hr2, ho2, hv2⟩
  go_wp2_with fail
  go_ret
  exact ⟨rfl, V2, hr2, (Only.of_below hb1).trans ho2, fun b hb => (hv2 b hb).imp_right (fun hh => Nat.le_trans hb1.size hh)⟩

set_option maxRecDepth 100000 in
set_option maxHeartbeats 4000000 in
theorem built7 (h : RefAt w rb V x7 x8 x9 x10 x11 R) (hf : Fit R) (m a b c d : Int) (y6 y7 y8 y9 y10 : Value) :
    Calls Tryz.prog 16 #[.pointer (some ⟨rb, 0, none⟩), .agg #[.int .i64 7, .int .i64 m, .int .i64 a, .int .i64 b, .int .i64 c, .int .i64 d, y6, y7, y8, y9, y10]] w (RPost w rb V x7 x8 x9 x10 x11 (n7 R a b) (.int .i64 (c7 R a b))) := by
  have hp1 := h.alloc (.cells #[.int .i64 7, .int .i64 m, .int .i64 a, .int .i64 b, .int .i64 c, .int .i64 d, y6, y7, y8, y9, y10] 37)
  have hb1 : Below w.heap.size w (w.alloc (.cells #[.int .i64 7, .int .i64 m, .int .i64 a, .int .i64 b, .int .i64 c, .int .i64 d, y6, y7, y8, y9, y10] 37)) := (Below.refl _ _).alloc (Nat.le_refl _) _
  have A1 := hid (r7_any hp1 hf a b)
  go_enter Tryz.func16, Tryz.ntmps16
  go_wp2_with fail
  refine A1.out.mono ?_
  rintro e w2 ⟨rfl, V2, hr2, ho2, hv2⟩
  go_wp2_with fail
  go_ret
  exact ⟨rfl, V2, hr2, (Only.of_below hb1).trans ho2, fun b hb => (hv2 b hb).imp_right (fun hh => Nat.le_trans hb1.size hh)⟩

set_option maxRecDepth 100000 in
set_option maxHeartbeats 4000000 in
theorem built8 (h : RefAt w rb V x7 x8 x9 x10 x11 R) (hf : Fit R) (m a b c d : Int) (y6 y7 y8 y9 y10 : Value) :
    Calls Tryz.prog 16 #[.pointer (some ⟨rb, 0, none⟩), .agg #[.int .i64 8, .int .i64 m, .int .i64 a, .int .i64 b, .int .i64 c, .int .i64 d, y6, y7, y8, y9, y10]] w (RPost w rb V x7 x8 x9 x10 x11 (n8 R) (.int .i64 (0))) := by
  have hp1 := h.alloc (.cells #[.int .i64 8, .int .i64 m, .int .i64 a, .int .i64 b, .int .i64 c, .int .i64 d, y6, y7, y8, y9, y10] 37)
  have hb1 : Below w.heap.size w (w.alloc (.cells #[.int .i64 8, .int .i64 m, .int .i64 a, .int .i64 b, .int .i64 c, .int .i64 d, y6, y7, y8, y9, y10] 37)) := (Below.refl _ _).alloc (Nat.le_refl _) _
  have A1 := hid (r8_any hp1 hf)
  go_enter Tryz.func16, Tryz.ntmps16
  go_wp2_with fail
  refine A1.out.mono ?_
  rintro e w2 ⟨rfl, V2, hr2, ho2, hv2⟩
  go_wp2_with fail
  go_ret
  exact ⟨rfl, V2, hr2, (Only.of_below hb1).trans ho2, fun b hb => (hv2 b hb).imp_right (fun hh => Nat.le_trans hb1.size hh)⟩

theorem built_any (h : RefAt w rb V x7 x8 x9 x10 x11 R) (hf : Fit R) (k m a b c d : Int) (y6 y7 y8 y9 y10 : Value) (hk : 2 ≤ k ∧ k ≤ 8) :
    Calls Tryz.prog 16 #[.pointer (some ⟨rb, 0, none⟩), opV k m a b c d y6 y7 y8 y9 y10] w (RPost w rb V x7 x8 x9 x10 x11 (next R k a b c d) (.int .i64 (code R k a b c d))) := by
  obtain rfl | rfl | rfl | rfl | rfl | rfl | rfl : k = 2 ∨ k = 3 ∨ k = 4 ∨ k = 5 ∨ k = 6 ∨ k = 7 ∨ k = 8 := by omega
  · exact built2 h hf m a b c d y6 y7 y8 y9 y10
  · exact built3 h hf m a b c d y6 y7 y8 y9 y10
  · exact built4 h hf m a b c d y6 y7 y8 y9 y10
  · exact built5 h hf m a b c d y6 y7 y8 y9 y10
  · exact built6 h hf m a b c d y6 y7 y8 y9 y10
  · exact built7 h hf m a b c d y6 y7 y8 y9 y10
  · exact built8 h hf m a b c d y6 y7 y8 y9 y10
end
end Go.Proofs.YtjdindfjfpdikaaGreat
