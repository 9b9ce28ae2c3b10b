import Derived.Test.YtjdindfjfpdikaaGreatFacts
import Derived.BigRegion
import Derived.Below
namespace Go.Proofs.YtjdindfjfpdikaaGreat
open Go.RowKit

/-- What holds of a world's maps holds behind new blocks and a draw: for the walk, which takes such equations for rules. -/
def Pack (w : World) (F : World → Prop) : Prop :=
  F w ∧ F w.drew ∧ (∀ o, F (w.alloc o)) ∧ (∀ o, F (w.alloc o).drew) ∧ (∀ o1 o2, F ((w.alloc o1).alloc o2)) ∧ (∀ o1 o2, F ((w.alloc o1).alloc o2).drew) ∧ (∀ o1 o2 o3, F (((w.alloc o1).alloc o2).alloc o3)) ∧ (∀ o1 o2 o3, F (((w.alloc o1).alloc o2).alloc o3).drew)

theorem pack {K V : Type} {ek : K → Value} {ev : V → Value} {w : World} {b : Nat} {l : List (K × V)} (m : MapAt ek ev w b l) {F : World → Prop} (h : ∀ w', MapAt ek ev w' b l → F w') : Pack w F :=
  ⟨h _ m, h _ m, fun _ => h _ (m.alloc _), fun _ => h _ (m.alloc _).drew, fun _ _ => h _ ((m.alloc _).alloc _), fun _ _ => h _ ((m.alloc _).alloc _).drew, fun _ _ _ => h _ (((m.alloc _).alloc _).alloc _), fun _ _ _ => h _ (((m.alloc _).alloc _).alloc _).drew⟩

set_option maxHeartbeats 400000 in
theorem has_yes (w : World) (pb b0 : Nat) (l0 : Things) (a1 a2 i j s c : Int) (hpb : pb < w.heap.size) (c0 : w.cell? ⟨pb, 0, none⟩ = some (.map (some b0))) (m0 : MapAt tv fv w b0 l0) (hg : get (a1, a2) l0 = some ((i, j), s, c)) :
    Calls Tryz.prog 57 #[.pointer (some ⟨pb, 0, none⟩), .agg #[.int .i64 a1, .int .i64 a2]] w fun e w' => e = .returned (.bool true) ∧ Below w.heap.size w w' := by
  obtain ⟨_, _, _, k3, _, k5, _, _⟩ := pack m0 (F := fun w' => (Instr.lookup 54 (.map (some b0)) (.agg #[.int .i64 a1, .int .i64 a2]) true).run Tryz.prog w' = .ok (.tuple #[.agg #[.int .i64 i, .int .i64 j, .int .i64 s, .int .i64 c], .bool true]) w')
    (fun w' h => run_look_yes kt79 Tryz.underlying54 h (a1, a2) hg _ (zero82 w'))
  clear hg
  go_enter Tryz.func57, Tryz.ntmps57
  go_wp2
  go_region
  all_goals
    go_wp2
    go_ret
    exact ⟨rfl, by repeat (first | exact Below.refl _ _ | refine Below.drew ?_ | refine Below.alloc ?_ (by simp) _)⟩

set_option maxHeartbeats 400000 in
theorem has_no (w : World) (pb b0 : Nat) (l0 : Things) (a1 a2 : Int) (hpb : pb < w.heap.size) (c0 : w.cell? ⟨pb, 0, none⟩ = some (.map (some b0))) (m0 : MapAt tv fv w b0 l0) (hg : get (a1, a2) l0 = none) :
    Calls Tryz.prog 57 #[.pointer (some ⟨pb, 0, none⟩), .agg #[.int .i64 a1, .int .i64 a2]] w fun e w' => e = .returned (.bool false) ∧ Below w.heap.size w w' := by
  obtain ⟨_, _, _, k3, _, k5, _, _⟩ := pack m0 (F := fun w' => (Instr.lookup 54 (.map (some b0)) (.agg #[.int .i64 a1, .int .i64 a2]) true).run Tryz.prog w' = .ok (.tuple #[.agg #[.int .i64 0, .int .i64 0, .int .i64 0, .int .i64 0], .bool false]) w')
    (fun w' h => run_look_no kt79 Tryz.underlying54 h (a1, a2) hg _ (zero82 w'))
  clear hg
  go_enter Tryz.func57, Tryz.ntmps57
  go_wp2
  go_region
  all_goals
    go_wp2
    go_ret
    exact ⟨rfl, by repeat (first | exact Below.refl _ _ | refine Below.drew ?_ | refine Below.alloc ?_ (by simp) _)⟩

theorem PlanAt.lt {w : World} {pb b0 b1 b2 b3 : Nat} {l0 : Things} {l1 : Runs} {l2 : Waits} {l3 : Prefs} (h : PlanAt w pb b0 b1 b2 b3 l0 l1 l2 l3) : pb < w.heap.size := h.cells.lt
theorem PlanAt.c0 {w : World} {pb b0 b1 b2 b3 : Nat} {l0 : Things} {l1 : Runs} {l2 : Waits} {l3 : Prefs} (h : PlanAt w pb b0 b1 b2 b3 l0 l1 l2 l3) : w.cell? ⟨pb, 0, none⟩ = some (.map (some b0)) := by obtain ⟨_, _, _, _, _, hc⟩ := h.cells; simp [World.cell?, hc]
theorem PlanAt.c1 {w : World} {pb b0 b1 b2 b3 : Nat} {l0 : Things} {l1 : Runs} {l2 : Waits} {l3 : Prefs} (h : PlanAt w pb b0 b1 b2 b3 l0 l1 l2 l3) : w.cell? ⟨pb, 1, none⟩ = some (.map (some b1)) := by obtain ⟨_, _, _, _, _, hc⟩ := h.cells; simp [World.cell?, hc]
theorem PlanAt.c2 {w : World} {pb b0 b1 b2 b3 : Nat} {l0 : Things} {l1 : Runs} {l2 : Waits} {l3 : Prefs} (h : PlanAt w pb b0 b1 b2 b3 l0 l1 l2 l3) : w.cell? ⟨pb, 2, none⟩ = some (.map (some b2)) := by obtain ⟨_, _, _, _, _, hc⟩ := h.cells; simp [World.cell?, hc]
theorem PlanAt.c3 {w : World} {pb b0 b1 b2 b3 : Nat} {l0 : Things} {l1 : Runs} {l2 : Waits} {l3 : Prefs} (h : PlanAt w pb b0 b1 b2 b3 l0 l1 l2 l3) : w.cell? ⟨pb, 3, none⟩ = some (.map (some b3)) := by obtain ⟨_, _, _, _, _, hc⟩ := h.cells; simp [World.cell?, hc]
theorem PlanAt.below {w w' : World} {pb b0 b1 b2 b3 : Nat} {l0 : Things} {l1 : Runs} {l2 : Waits} {l3 : Prefs} (h : PlanAt w pb b0 b1 b2 b3 l0 l1 l2 l3) (hb : Below w.heap.size w w') : PlanAt w' pb b0 b1 b2 b3 l0 l1 l2 l3 :=
  ⟨h.cells.move (hb.block pb h.lt), h.m0.below hb, h.m1.below hb, h.m2.below hb, h.m3.below hb, h.ne⟩
theorem PlanAt.alloc {w : World} {pb b0 b1 b2 b3 : Nat} {l0 : Things} {l1 : Runs} {l2 : Waits} {l3 : Prefs} (h : PlanAt w pb b0 b1 b2 b3 l0 l1 l2 l3) (o : Obj) : PlanAt (w.alloc o) pb b0 b1 b2 b3 l0 l1 l2 l3 :=
  h.below ((Below.refl _ _).alloc (Nat.le_refl _) _)

/-- 'p.has(t)'. -/
theorem has_any {w : World} {pb b0 b1 b2 b3 : Nat} {l0 : Things} {l1 : Runs} {l2 : Waits} {l3 : Prefs} (h : PlanAt w pb b0 b1 b2 b3 l0 l1 l2 l3) (a1 a2 : Int) :
    Calls Tryz.prog 57 #[.pointer (some ⟨pb, 0, none⟩), .agg #[.int .i64 a1, .int .i64 a2]] w fun e w' => e = .returned (.bool (get (a1, a2) l0).isSome) ∧ Below w.heap.size w w' := by
  cases hg : get (a1, a2) l0 with
  | none => exact has_no w pb b0 l0 a1 a2 h.lt h.c0 h.m0 hg
  | some f =>
    obtain ⟨⟨i, j⟩, s, c⟩ := f
    exact has_yes w pb b0 l0 a1 a2 i j s c h.lt h.c0 h.m0 hg
end Go.Proofs.YtjdindfjfpdikaaGreat
