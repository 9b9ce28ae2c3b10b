import Derived.Test.YtdjoadphgalopaaGreatForget
import Derived.Test.YtdjoadphgalopaaGreatTick
import Derived.Test.YtdjoadphgalopaaGreatCostC
import Derived.Deep.DeepCutAuto
namespace Go.Proofs.YtdjoadphgalopaaGreat
open Go.RowKit

set_option maxHeartbeats 1000000 in
/-- maps.DeleteFunc, of nothing that runs. -/
theorem drop99 (b : Nat) (f : Value) (w : World) (m1 : MapAt tv tv w b ([] : Runs)) :
    Calls Tryz.prog 78 #[.map (some b), f] w fun e w' => e = .returned (.tuple #[]) ∧ Below w.heap.size w w' := by
  go_enter Tryz.func78, Tryz.ntmps78
  go_wp2_with (first
    | (at_range; refine wpList_range_mine _ rfl _ 55 rfl Tryz.underlying55 rfl m1 ?_; intro ob hrg0)
    | go_in)
  go_frame
  go_loopg [4] 0 (fun _ _ wr => ∃ rest : Runs, rest.length ≤ 0 ∧ Ranging tv tv wr b w.heap.size ([] : Runs) rest ∧ Below w.heap.size w wr)
  case atStart => exact ⟨[], Nat.le_refl _, hrg0, (Below.refl _ _).alloc (Nat.le_refl _) _⟩
  case round =>
    obtain ⟨rest, hr, hrg, hb⟩ := hrel
    have Hr := hid hr
    clear hr
    go_wp2_with (first
      | (at_next; refine wpList_next_mine _ rfl _ rfl rfl hrg ?_ ?_)
      | go_in)
    · intro _
      go_wp2
      go_end0
      exact ⟨rfl, hb⟩
    · intro _ _ _ _ rest' w1 hp
      have h1 := hp.length_eq
      have h2 := Hr.out
      simp only [List.length_cons] at h1
      omega

section
variable {w : World} {pb b0 b1 b2 b3 : Nat} {l0 : Things} {l2 : Waits} {l3 : Prefs}

theorem PlanAt.del0 {l1 : Runs} (h : PlanAt w pb b0 b1 b2 b3 l0 l1 l2 l3) (hn : KN l0) (a : Int × Int) :
    (∀ ty, (Builtin.delete_ #[54, 100] ty #[.map (some b0), tv a]).run Tryz.prog w = .ok (.tuple #[]) (dropped Tryz.prog 54 100 b0 (tv a) w)) ∧ PlanAt (dropped Tryz.prog 54 100 b0 (tv a) w) pb b0 b1 b2 b3 (del a l0) l1 l2 l3 ∧ Only [b0, b1, b2, b3] w (dropped Tryz.prog 54 100 b0 (tv a) w) ∧ w.grownBy (dropped Tryz.prog 54 100 b0 (tv a) w) (some b0) := by
  obtain ⟨_, h2, h3⟩ := run_del kt79 Tryz.underlying54 h.m0 hn a 0
  obtain ⟨n1, n2, n3, n4, n5, n6⟩ := h.ne
  refine ⟨fun ty => (run_del kt79 Tryz.underlying54 h.m0 hn a ty).1, ⟨?_, h2, h.m1.grown h3 (by simpa using n1.symm), h.m2.grown h3 (by simpa using n2.symm), h.m3.grown h3 (by simpa using n3.symm), h.ne⟩, Only.of_grown h3 (by simp), h3⟩
  exact (h3.block pb h.lt (by simpa using h.pne.1)).trans h.cells
theorem PlanAt.del2 {l1 : Runs} (h : PlanAt w pb b0 b1 b2 b3 l0 l1 l2 l3) (hn : KN l2) (a : Int × Int) :
    (∀ ty, (Builtin.delete_ #[56, 100] ty #[.map (some b2), tv a]).run Tryz.prog w = .ok (.tuple #[]) (dropped Tryz.prog 56 100 b2 (tv a) w)) ∧ PlanAt (dropped Tryz.prog 56 100 b2 (tv a) w) pb b0 b1 b2 b3 l0 l1 (del a l2) l3 ∧ Only [b0, b1, b2, b3] w (dropped Tryz.prog 56 100 b2 (tv a) w) ∧ w.grownBy (dropped Tryz.prog 56 100 b2 (tv a) w) (some b2) := by
  obtain ⟨_, h2, h3⟩ := run_del kt79 Tryz.underlying56 h.m2 hn a 0
  obtain ⟨n1, n2, n3, n4, n5, n6⟩ := h.ne
  refine ⟨fun ty => (run_del kt79 Tryz.underlying56 h.m2 hn a ty).1, ⟨?_, h.m0.grown h3 (by simpa using n2), h.m1.grown h3 (by simpa using n4), h2, h.m3.grown h3 (by simpa using n6.symm), h.ne⟩, Only.of_grown h3 (by simp), h3⟩
  exact (h3.block pb h.lt (by simpa using h.pne.2.2.1)).trans h.cells

set_option maxRecDepth 100000 in
set_option maxHeartbeats 2000000 in
/-- 'p.forget(t)', when nothing runs. -/
theorem forget_any (h : PlanAt w pb b0 b1 b2 b3 l0 [] l2 l3) (hn0 : KN l0) (hn2 : KN l2) (hn3 : KN l3) (t1 t2 : Int) :
    Calls Tryz.prog 58 #[.pointer (some ⟨pb, 0, none⟩), .agg #[.int .i64 t1, .int .i64 t2]] w fun e w' => e = .returned (.tuple #[]) ∧ PlanAt w' pb b0 b1 b2 b3 (del (t1, t2) l0) [] (del (t1, t2) l2) (l3.filter fun x => !speaks (t1, t2) x.1) ∧ Only [b0, b1, b2, b3] w w' := by
  have hpb := h.lt
  have c0 := h.c0
  have hp1 := h.alloc (.cells #[.int .i64 t1, .int .i64 t2] 100)
  have hb1 : Below w.heap.size w (w.alloc (.cells #[.int .i64 t1, .int .i64 t2] 100)) := (Below.refl _ _).alloc (Nat.le_refl _) _
  have HB := hid (show b0 < w.heap.size ∧ b1 < w.heap.size ∧ b2 < w.heap.size ∧ b3 < w.heap.size from ⟨h.m0.lt, h.m1.lt, h.m2.lt, h.m3.lt⟩)
  obtain ⟨d1, d2, d3, d4⟩ := hp1.drew.del0 hn0 (t1, t2)
  have D1 := hid d1
  clear d1
  go_enter Tryz.func58, Tryz.ntmps58
  go_wp2
  go_cut [8] (fun _ wx => wx = dropped Tryz.prog 54 100 b0 (tv (t1, t2)) (w.alloc (.cells #[.int .i64 t1, .int .i64 t2] 100)).drew)
  case first =>
    go_region_law (refine step_del rfl _ _ 54 100 rfl b0 _ rfl rfl _ D1.out ?_)
    all_goals go_wp2_with fail
    all_goals go_meet
    all_goals exact rfl
  case rest =>
    subst hcut
    have hB := HB.out
    have k1 : (dropped Tryz.prog 54 100 b0 (tv (t1, t2)) (w.alloc (.cells #[.int .i64 t1, .int .i64 t2] 100)).drew).cell? ⟨w.heap.size, 0, none⟩ = some (.int .i64 t1) := d4.cell (by show (w.alloc _).cell? _ = _; rw [World.cell?_alloc_at _ _ _ _ rfl]; rfl) (by simp; omega)
    have k2 : (dropped Tryz.prog 54 100 b0 (tv (t1, t2)) (w.alloc (.cells #[.int .i64 t1, .int .i64 t2] 100)).drew).cell? ⟨w.heap.size, 1, none⟩ = some (.int .i64 t2) := d4.cell (by show (w.alloc _).cell? _ = _; rw [World.cell?_alloc_at _ _ _ _ rfl]; rfl) (by simp; omega)
    have hO1 := (Only.of_below (S := [b0, b1, b2, b3]) hb1).drew.trans d3
    have hz1 : w.heap.size < (dropped Tryz.prog 54 100 b0 (tv (t1, t2)) (w.alloc (.cells #[.int .i64 t1, .int .i64 t2] 100)).drew).heap.size := by have := d4.size; simp at this; omega
    clear D1 d3 d4 hp1 hb1 h c0
    generalize dropped Tryz.prog 54 100 b0 (tv (t1, t2)) (w.alloc (.cells #[.int .i64 t1, .int .i64 t2] 100)).drew = W1 at d2 k1 k2 hO1 hz1 ⊢
    obtain ⟨f1, f2, f3, f4⟩ := d2.drew.del2 hn2 (t1, t2)
    have F1 := hid f1
    have c2 := d2.c2
    have hpw := d2.lt
    clear f1
    go_wp2
    go_cut [13] (fun _ wx => wx = dropped Tryz.prog 56 100 b2 (tv (t1, t2)) W1.drew)
    case first =>
      go_region_law (refine step_del rfl _ _ 56 100 rfl b2 _ rfl rfl _ F1.out ?_)
      all_goals go_wp2_with fail
      all_goals go_meet
      all_goals exact rfl
    case rest =>
      subst hcut
      have k3 : (dropped Tryz.prog 56 100 b2 (tv (t1, t2)) W1.drew).cell? ⟨w.heap.size, 0, none⟩ = some (.int .i64 t1) := f4.cell (by exact k1) (by simp; omega)
      have k4 : (dropped Tryz.prog 56 100 b2 (tv (t1, t2)) W1.drew).cell? ⟨w.heap.size, 1, none⟩ = some (.int .i64 t2) := f4.cell (by exact k2) (by simp; omega)
      have hO2 := hO1.drew.trans f3
      have hz2 : w.heap.size < (dropped Tryz.prog 56 100 b2 (tv (t1, t2)) W1.drew).heap.size := Nat.lt_of_lt_of_le hz1 f4.size
      clear F1 f3 f4 d2 k1 k2 hO1 hz1 c2 hpw
      generalize dropped Tryz.prog 56 100 b2 (tv (t1, t2)) W1.drew = W2 at f2 k3 k4 hO2 hz2 ⊢
      have c1 := f2.c1
      have hpw := f2.lt
      go_wp2_with fail
      refine (drop99 b1 _ _ f2.m1).mono ?_
      rintro e W3 ⟨rfl, hb3⟩
      have f5 := f2.below hb3
      have c3 := f5.c3
      have hpw3 := f5.lt
      have k5 : W3.cell? ⟨w.heap.size, 0, none⟩ = some (.int .i64 t1) := (hb3.cell (p := ⟨w.heap.size, 0, none⟩) hz2).trans k3
      have k6 : W3.cell? ⟨w.heap.size, 1, none⟩ = some (.int .i64 t2) := (hb3.cell (p := ⟨w.heap.size, 1, none⟩) hz2).trans k4
      go_wp2_with fail
      refine (drop101 t1 t2 w.heap.size b3 l3 _ f5.m3 hn3 k5 k6 (Nat.lt_of_lt_of_le hz2 hb3.size) (by omega)).mono ?_
      rintro e W4 ⟨rfl, m3, hg⟩
      go_wp2
      go_end0
      obtain ⟨n1, n2, n3, n4, n5, n6⟩ := f5.ne
      refine ⟨rfl, ⟨?_, f5.m0.grown hg (by simpa using n3), f5.m1.grown hg (by simpa using n5), f5.m2.grown hg (by simpa using n6), m3, f5.ne⟩, hO2.trans ((Only.of_below hb3).trans (Only.of_grown hg (by simp)))⟩
      exact (hg.block pb f5.lt (by simpa using f5.pne.2.2.2)).trans f5.cells

/-- What Remove answers. -/
def remOf (l0 : Things) (kind id : Int) : Int :=
  if kind < 0 ∨ 3 < kind then 7 else if (get (kind, id) l0).isSome then (if l0.any (fun x => decide (x.2.1 = (kind, id))) then 6 else 0) else 4

def rem0 (l0 : Things) (kind id : Int) : Things := if remOf l0 kind id = 0 then del (kind, id) l0 else l0
def rem2 (l0 : Things) (l2 : Waits) (kind id : Int) : Waits := if remOf l0 kind id = 0 then del (kind, id) l2 else l2
def rem3 (l0 : Things) (l3 : Prefs) (kind id : Int) : Prefs := if remOf l0 kind id = 0 then (l3.filter fun x => !speaks (kind, id) x.1) else l3

set_option maxHeartbeats 2000000 in
theorem remove_any (h : PlanAt w pb b0 b1 b2 b3 l0 [] l2 l3) (hn0 : KN l0) (hn2 : KN l2) (hn3 : KN l3) (kind id : Int) :
    Calls Tryz.prog 30 #[.pointer (some ⟨pb, 0, none⟩), .int .i64 kind, .int .i64 id] w fun e w' => e = .returned (.int .i64 (remOf l0 kind id)) ∧
      PlanAt w' pb b0 b1 b2 b3 (rem0 l0 kind id) [] (rem2 l0 l2 kind id) (rem3 l0 l3 kind id) ∧ Only [b0, b1, b2, b3] w w' := by
  have hp1 := h.alloc (.cells #[.int .i64 kind, .int .i64 id] 100)
  have hb1 : Below w.heap.size w (w.alloc (.cells #[.int .i64 kind, .int .i64 id] 100)) := (Below.refl _ _).alloc (Nat.le_refl _) _
  by_cases hk0 : kind < 0
  · have e1 : remOf l0 kind id = 7 := by simp [remOf, hk0]
    rw [e1, show rem0 l0 kind id = l0 by simp [rem0, e1], show rem2 l0 l2 kind id = l2 by simp [rem2, e1], show rem3 l0 l3 kind id = l3 by simp [rem3, e1]]
    clear e1
    go_enter Tryz.func30, Tryz.ntmps30
    go_wp2
    go_ret
    exact ⟨rfl, hp1, Only.of_below hb1⟩
  by_cases hk3 : 3 < kind
  · have e1 : remOf l0 kind id = 7 := by simp [remOf, hk3]
    rw [e1, show rem0 l0 kind id = l0 by simp [rem0, e1], show rem2 l0 l2 kind id = l2 by simp [rem2, e1], show rem3 l0 l3 kind id = l3 by simp [rem3, e1]]
    clear e1
    have hd : decide (kind < 0) = false := by simpa using hk0
    go_enter Tryz.func30, Tryz.ntmps30
    go_wp2
    go_ret
    exact ⟨rfl, hp1, Only.of_below hb1⟩
  have hd : decide (kind < 0) = false := by simpa using hk0
  have hd3 : decide (3 < kind) = false := by simpa using hk3
  have hk : ¬ (kind < 0 ∨ 3 < kind) := by omega
  cases hg : (get (kind, id) l0).isSome with
  | false =>
    have e1 : remOf l0 kind id = 4 := by unfold remOf; rw [if_neg hk, hg]; rfl
    rw [e1, show rem0 l0 kind id = l0 by simp [rem0, e1], show rem2 l0 l2 kind id = l2 by simp [rem2, e1], show rem3 l0 l3 kind id = l3 by simp [rem3, e1]]
    have Hg := hid hg
    clear e1 hg
    go_enter Tryz.func30, Tryz.ntmps30
    go_wp2_with (go_at_call 55; refine (has_any hp1 kind id).mono ?_; rw [Hg.out]; rintro e w2 ⟨rfl, hb2⟩)
    go_ret
    exact ⟨rfl, hp1.below hb2, Only.of_below (next2 hb1 hb2)⟩
  | true =>
    have Hg := hid hg
    cases ha : l0.any (fun x => decide (x.2.1 = (kind, id))) with
    | true =>
      have e1 : remOf l0 kind id = 6 := by unfold remOf; rw [if_neg hk, hg, ha]; rfl
      rw [e1, show rem0 l0 kind id = l0 by simp [rem0, e1], show rem2 l0 l2 kind id = l2 by simp [rem2, e1], show rem3 l0 l3 kind id = l3 by simp [rem3, e1]]
      have Ha := hid ha
      clear e1 hg ha
      go_enter Tryz.func30, Tryz.ntmps30
      go_wp2_with (first
        | (go_at_call 55; refine (has_any hp1 kind id).mono ?_; rw [Hg.out]; rintro e w2 ⟨rfl, hb2⟩; obtain ⟨k1, k2⟩ := box2 hb2)
        | (go_at_call 57; refine (busy_any (hp1.below hb2) kind id).mono ?_; rw [Ha.out]; rintro e w3 ⟨rfl, hb3⟩))
      go_ret
      exact ⟨rfl, (hp1.below hb2).below hb3, Only.of_below (next2 (next2 hb1 hb2) hb3)⟩
    | false =>
      have e1 : remOf l0 kind id = 0 := by unfold remOf; rw [if_neg hk, hg, ha]; rfl
      rw [e1, show rem0 l0 kind id = del (kind, id) l0 by simp [rem0, e1], show rem2 l0 l2 kind id = del (kind, id) l2 by simp [rem2, e1], show rem3 l0 l3 kind id = (l3.filter fun x => !speaks (kind, id) x.1) by simp [rem3, e1]]
      have Ha := hid ha
      clear e1 hg ha
      go_enter Tryz.func30, Tryz.ntmps30
      go_wp2_with (first
        | (go_at_call 55; refine (has_any hp1 kind id).mono ?_; rw [Hg.out]; rintro e w2 ⟨rfl, hb2⟩; obtain ⟨k1, k2⟩ := box2 hb2)
        | (go_at_call 57; refine (busy_any (hp1.below hb2) kind id).mono ?_; rw [Ha.out]; rintro e w3 ⟨rfl, hb3⟩; obtain ⟨k3, k4⟩ := box2 (next2 hb2 hb3))
        | (go_at_call 58; refine (forget_any ((hp1.below hb2).below hb3) hn0 hn2 hn3 kind id).mono ?_; rintro e w4 ⟨rfl, hp4, hO4⟩))
      go_ret
      exact ⟨rfl, hp4, (Only.of_below (next2 (next2 hb1 hb2) hb3)).trans hO4⟩
end
end Go.Proofs.YtdjoadphgalopaaGreat
