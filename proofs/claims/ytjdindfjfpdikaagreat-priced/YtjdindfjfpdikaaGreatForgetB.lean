import Derived.Test.YtjdindfjfpdikaaGreatForget
import Derived.Test.YtjdindfjfpdikaaGreatTick
import Derived.Test.YtjdindfjfpdikaaGreatCostC
import Derived.Deep.DeepCutAuto
namespace Go.Proofs.YtjdindfjfpdikaaGreat
open Go.RowKit

set_option maxHeartbeats 1000000 in
theorem closure100 (k1 k2 k3 k4 t1 t2 : Int) (tb : Nat) (w : World) (c0 : w.cell? ⟨tb, 0, none⟩ = some (.int .i64 t1)) (c1 : w.cell? ⟨tb, 1, none⟩ = some (.int .i64 t2)) (hz : tb < w.heap.size) :
    Calls Tryz.prog 83 #[.agg #[.int .i64 k1, .int .i64 k2], .agg #[.int .i64 k3, .int .i64 k4], .pointer (some ⟨tb, 0, none⟩)] w fun e w' => e = .returned (.bool (speaks (t1, t2) ((k1, k2), (k3, k4)))) ∧ Below w.heap.size w w' := by
  have e1 : ∀ w' : World, (binOp .eql 102 (.agg #[.int .i64 k1, .int .i64 k2]) (.agg #[.int .i64 t1, .int .i64 t2])).run Tryz.prog w' = .ok (.bool (decide ((k1, k2) = (t1, t2)))) w' := fun w' => eql79 w' (k1, k2) (t1, t2)
  have e2 : ∀ w' : World, (binOp .eql 102 (.agg #[.int .i64 k3, .int .i64 k4]) (.agg #[.int .i64 t1, .int .i64 t2])).run Tryz.prog w' = .ok (.bool (decide ((k3, k4) = (t1, t2)))) w' := fun w' => eql79 w' (k3, k4) (t1, t2)
  unfold speaks
  generalize decide (((k1, k2), (k3, k4)).2 = (t1, t2)) = q2 at e2 ⊢
  cases q1 : decide (((k1, k2), (k3, k4)).1 = (t1, t2)) with
  | true =>
    rw [show decide ((k1, k2) = (t1, t2)) = true from q1] at e1
    clear q1
    go_enter Tryz.func83, Tryz.ntmps83
    go_wp2
    go_ret
    exact ⟨rfl, by repeat (first | exact Below.refl _ _ | refine Below.alloc ?_ (by simp <;> omega) _)⟩
  | false =>
    rw [show decide ((k1, k2) = (t1, t2)) = false from q1] at e1
    clear q1
    go_enter Tryz.func83, Tryz.ntmps83
    go_wp2
    go_ret
    exact ⟨by simp, by repeat (first | exact Below.refl _ _ | refine Below.alloc ?_ (by simp <;> omega) _)⟩

theorem box_two {w w2 : World} {x y : Value} {t : TypeId} {o2 : Obj} (hb : Below ((w.alloc (.cells #[x, y] t)).alloc o2).heap.size ((w.alloc (.cells #[x, y] t)).alloc o2) w2) :
    w2.cell? ⟨w.heap.size, 0, none⟩ = some x ∧ w2.cell? ⟨w.heap.size, 1, none⟩ = some y ∧ w.heap.size < w2.heap.size := by
  have hz : ((w.alloc (.cells #[x, y] t)).alloc o2).heap.size = w.heap.size + 1 + 1 := by simp
  have hs := hb.size
  rw [hz] at hs
  have h1 : w2.heap[w.heap.size]? = some (.cells #[x, y] t) := by
    rw [hb.block _ (by omega), Below.heap_alloc _ _ _ (by simp)]
    exact (MapKept.heap_alloc w _).1
  exact ⟨by simp [World.cell?, h1], by simp [World.cell?, h1], by omega⟩

/-- Which tasks stay when something goes: by their keys. -/
def keepR (t : Int × Int) (l1 : Runs) (k : Int × Int) : Bool := match get k l1 with
  | some m => !speaks t (k, m)
  | none => true
theorem get_there {K V : Type} [DecidableEq K] : ∀ {l : List (K × V)}, KN l → ∀ {x : K × V}, x ∈ l → get x.1 l = some x.2
  | [], _, x, hx => by cases hx
  | y :: r, hn, x, hx => by
    have hn' : KN r := (List.nodup_cons.1 hn).2
    have hy : y.1 ∉ r.map (·.1) := (List.nodup_cons.1 hn).1
    rcases List.mem_cons.1 hx with rfl | hx
    · simp [get]
    · have : x.1 ≠ y.1 := fun e => hy (by rw [← e]; exact List.mem_map_of_mem hx)
      simp only [get, if_neg this]
      exact get_there hn' hx
theorem keepR_of {t : Int × Int} {l1 : Runs} (hn : KN l1) {x : (Int × Int) × (Int × Int)} (hx : x ∈ l1) : keepR t l1 x.1 = !speaks t x := by
  unfold keepR
  rw [get_there hn hx]

set_option maxHeartbeats 2000000 in
/-- maps.DeleteFunc, of what runs. -/
theorem drop99 (t1 t2 : Int) (tb b : Nat) (l1 : Runs) (w : World) (m1 : MapAt tv tv w b l1) (hn : KN l1) (c0 : w.cell? ⟨tb, 0, none⟩ = some (.int .i64 t1)) (c1 : w.cell? ⟨tb, 1, none⟩ = some (.int .i64 t2)) (hz : tb < w.heap.size) (hne : tb ≠ b) :
    Calls Tryz.prog 82 #[.map (some b), .func (.func 83) #[] #[.pointer (some ⟨tb, 0, none⟩)]] w fun e w' => e = .returned (.tuple #[]) ∧ MapAt tv tv w' b (l1.filter fun x => !speaks (t1, t2) x) ∧ w.grownBy w' (some b) := by
  have hb := m1.lt
  go_enter Tryz.func82, Tryz.ntmps82
  go_wp2_with (first
    | (at_range; refine wpList_range_mine _ rfl _ 55 rfl Tryz.underlying55 rfl m1 ?_; intro ob hrg0)
    | go_in)
  go_frame
  go_loopg [4] l1.length (fun gk _ wr => ∃ rest, rest.length ≤ gk ∧ Ranging tv tv wr b w.heap.size (leftBy (keepR (t1, t2) l1) rest l1) rest ∧ (rest.map (·.1)).Nodup ∧ (∀ x ∈ rest, x ∈ l1) ∧ w.grownBy wr (some b))
  case atStart => exact ⟨l1, Nat.le_refl _, by rw [leftBy_start]; exact hrg0, hn, fun _ q => q, World.grownBy_alloc _ _ _⟩
  case round =>
    obtain ⟨rest, hgk, hrg, hnd, hsub, hg⟩ := hrel
    go_wp2_with (first
      | (at_next; refine wpList_next_mine _ rfl _ rfl rfl hrg ?_ ?_)
      | go_in)
    · intro hr0
      subst hr0
      go_wp2
      go_end0
      refine ⟨rfl, ?_, hg⟩
      have := hrg.mapAt
      rw [leftBy_end, List.filter_congr (q := fun x => !speaks (t1, t2) x) (fun x hx => keepR_of hn hx)] at this
      exact this
    · intro k1 k2 k3 k4 rest' w1 hp hen hrg1 hg1 hs1
      simp only [tv] at hen ⊢
      have hpl := hp.length_eq
      simp only [List.length_cons] at hpl
      have hpl' : rest'.length < rest.length := by omega
      have hz1 : tb < w1.heap.size := by have := hg.size; omega
      have hg2 : w.grownBy w1 (some b) := hg.andThen hg1 (fun j hj => by cases hj; exact Or.inl (Nat.le_refl _))
      have k5 : w1.cell? ⟨tb, 0, none⟩ = some (.int .i64 t1) := hg2.cell c0 (by simpa using hne)
      have k6 : w1.cell? ⟨tb, 1, none⟩ = some (.int .i64 t2) := hg2.cell c1 (by simpa using hne)
      have hsz : w.heap.size ≤ w1.heap.size := hg2.size
      have hkp := keepR_of (t := (t1, t2)) hn (hsub _ (hp.symm.subset List.mem_cons_self))
      have hsub' : ∀ x ∈ rest', x ∈ l1 := fun x hx => hsub x (hp.symm.subset (List.mem_cons_of_mem _ hx))
      have Hp := hid (And.intro hp (And.intro hkp hsub'))
      clear hp hpl hs1 hkp hsub' hsub
      have hnd' : (rest'.map (·.1)).Nodup := by
        have := (Hp.out.1.map (·.1)).nodup_iff.1 hnd
        exact (List.nodup_cons.1 this).2
      have hx : (k1, k2) ∉ rest'.map (·.1) := by
        have := (Hp.out.1.map (·.1)).nodup_iff.1 hnd
        exact (List.nodup_cons.1 this).1
      have Hx := hid (And.intro hnd' hx)
      clear hnd' hx
      cases hs : speaks (t1, t2) ((k1, k2), (k3, k4)) with
      | false =>
        have Hs := hid hs
        clear hs
        go_wp2_with (go_at_call 83; refine (closure100 k1 k2 k3 k4 t1 t2 tb _ (by go_simp) (by go_simp) (by simp; omega)).mono ?_; rw [Hs.out]; rintro e w2 ⟨rfl, hb2⟩)
        go_roundg rest'.length
        case measure => omega
        case rel =>
          have hb3 : Below w1.heap.size w1 w2 := next2 (by repeat (first | exact Below.refl _ _ | refine Below.alloc ?_ (by simp <;> omega) _)) hb2
          refine ⟨rest', Nat.le_refl _, ?_, Hx.out.1, Hp.out.2.2, hg2.andThen (grown_of_below hb3 none) (by simp)⟩
          rw [← leftBy_keep Hp.out.1 (by rw [Hp.out.2.1, Hs.out]; rfl)]
          exact hrg1.kept (grown_of_below hb3 none) (by simp) (by simp)
      | true =>
        have Hs := hid hs
        clear hs
        go_wp2_with (first
          | (go_at_call 83; refine (closure100 k1 k2 k3 k4 t1 t2 tb _ (by go_simp) (by go_simp) (by simp; omega)).mono ?_; rw [Hs.out]; rintro e w2 ⟨rfl, hb2⟩; have hb3 : Below w1.heap.size w1 w2 := next2 (by repeat (first | exact Below.refl _ _ | refine Below.alloc ?_ (by simp <;> omega) _)) hb2; obtain ⟨q1, q2, q3⟩ := box_two hb2; have hrg2 := hrg1.kept (grown_of_below hb3 none) (by simp) (by simp))
          | (at_delete; refine wpList_del_mine _ rfl _ _ 55 102 rfl b _ rfl rfl (dropped Tryz.prog 55 102 b (tv (k1, k2)) w2) (fun ty => (run_del_ranging kt79 Tryz.underlying55 hrg2 hn.leftBy (k1, k2) Hx.out.2 ty).1) ?_))
        go_wp2
        go_roundg rest'.length
        case measure => omega
        case rel =>
          have hd := run_del_ranging kt79 Tryz.underlying55 hrg2 hn.leftBy (k1, k2) Hx.out.2 0
          refine ⟨rest', Nat.le_refl _, ?_, Hx.out.1, Hp.out.2.2, (hg2.andThen (grown_of_below hb3 none) (by simp)).andThen hd.2.2 (fun j hj => Or.inr hj)⟩
          rw [← leftBy_drop Hp.out.1 hnd (by rw [Hp.out.2.1, Hs.out]; rfl)]
          exact hd.2.1

section
variable {w : World} {pb b0 b1 b2 b3 : Nat} {l0 : Things} {l2 : Waits} {l3 : Prefs}

theorem PlanAt.del0 {l1 : Runs} (h : PlanAt w pb b0 b1 b2 b3 l0 l1 l2 l3) (hn : KN l0) (a : Int × Int) :
    (∀ ty, (Builtin.delete_ #[54, 102] ty #[.map (some b0), tv a]).run Tryz.prog w = .ok (.tuple #[]) (dropped Tryz.prog 54 102 b0 (tv a) w)) ∧ PlanAt (dropped Tryz.prog 54 102 b0 (tv a) w) pb b0 b1 b2 b3 (del a l0) l1 l2 l3 ∧ Only [b0, b1, b2, b3] w (dropped Tryz.prog 54 102 b0 (tv a) w) ∧ w.grownBy (dropped Tryz.prog 54 102 b0 (tv a) w) (some b0) := by
  obtain ⟨_, h2, h3⟩ := run_del kt79 Tryz.underlying54 h.m0 hn a 0
  obtain ⟨n1, n2, n3, n4, n5, n6⟩ := h.ne
  refine ⟨fun ty => (run_del kt79 Tryz.underlying54 h.m0 hn a ty).1, ⟨?_, h2, h.m1.grown h3 (by simpa using n1.symm), h.m2.grown h3 (by simpa using n2.symm), h.m3.grown h3 (by simpa using n3.symm), h.ne⟩, Only.of_grown h3 (by simp), h3⟩
  exact h.cells.move (h3.block pb h.lt (by simpa using h.pne.1))
theorem PlanAt.del2 {l1 : Runs} (h : PlanAt w pb b0 b1 b2 b3 l0 l1 l2 l3) (hn : KN l2) (a : Int × Int) :
    (∀ ty, (Builtin.delete_ #[56, 102] ty #[.map (some b2), tv a]).run Tryz.prog w = .ok (.tuple #[]) (dropped Tryz.prog 56 102 b2 (tv a) w)) ∧ PlanAt (dropped Tryz.prog 56 102 b2 (tv a) w) pb b0 b1 b2 b3 l0 l1 (del a l2) l3 ∧ Only [b0, b1, b2, b3] w (dropped Tryz.prog 56 102 b2 (tv a) w) ∧ w.grownBy (dropped Tryz.prog 56 102 b2 (tv a) w) (some b2) := by
  obtain ⟨_, h2, h3⟩ := run_del kt79 Tryz.underlying56 h.m2 hn a 0
  obtain ⟨n1, n2, n3, n4, n5, n6⟩ := h.ne
  refine ⟨fun ty => (run_del kt79 Tryz.underlying56 h.m2 hn a ty).1, ⟨?_, h.m0.grown h3 (by simpa using n2), h.m1.grown h3 (by simpa using n4), h2, h.m3.grown h3 (by simpa using n6.symm), h.ne⟩, Only.of_grown h3 (by simp), h3⟩
  exact h.cells.move (h3.block pb h.lt (by simpa using h.pne.2.2.1))

set_option maxRecDepth 100000 in
set_option maxHeartbeats 2000000 in
/-- 'p.forget(t)'. -/
theorem forget_any {l1 : Runs} (h : PlanAt w pb b0 b1 b2 b3 l0 l1 l2 l3) (hn0 : KN l0) (hn1 : KN l1) (hn2 : KN l2) (hn3 : KN l3) (t1 t2 : Int) :
    Calls Tryz.prog 60 #[.pointer (some ⟨pb, 0, none⟩), .agg #[.int .i64 t1, .int .i64 t2]] w fun e w' => e = .returned (.tuple #[]) ∧ PlanAt w' pb b0 b1 b2 b3 (del (t1, t2) l0) (l1.filter fun x => !speaks (t1, t2) x) (del (t1, t2) l2) (l3.filter fun x => !speaks (t1, t2) x.1) ∧ Only [b0, b1, b2, b3] w w' := by
  have hpb := h.lt
  have c0 := h.c0
  have hp1 := h.alloc (.cells #[.int .i64 t1, .int .i64 t2] 102)
  have hb1 : Below w.heap.size w (w.alloc (.cells #[.int .i64 t1, .int .i64 t2] 102)) := (Below.refl _ _).alloc (Nat.le_refl _) _
  have HB := hid (show b0 < w.heap.size ∧ b1 < w.heap.size ∧ b2 < w.heap.size ∧ b3 < w.heap.size from ⟨h.m0.lt, h.m1.lt, h.m2.lt, h.m3.lt⟩)
  obtain ⟨d1, d2, d3, d4⟩ := hp1.drew.del0 hn0 (t1, t2)
  have D1 := hid d1
  clear d1
  go_enter Tryz.func60, Tryz.ntmps60
  go_wp2
  go_cut [8] (fun _ wx => wx = dropped Tryz.prog 54 102 b0 (tv (t1, t2)) (w.alloc (.cells #[.int .i64 t1, .int .i64 t2] 102)).drew)
  case first =>
    go_region_law (refine step_del rfl _ _ 54 102 rfl b0 _ rfl rfl _ D1.out ?_)
    all_goals go_wp2_with fail
    all_goals go_meet
    all_goals exact rfl
  case rest =>
    subst hcut
    have hB := HB.out
    have k1 : (dropped Tryz.prog 54 102 b0 (tv (t1, t2)) (w.alloc (.cells #[.int .i64 t1, .int .i64 t2] 102)).drew).cell? ⟨w.heap.size, 0, none⟩ = some (.int .i64 t1) := d4.cell (by show (w.alloc _).cell? _ = _; rw [World.cell?_alloc_at _ _ _ _ rfl]; rfl) (by simp; omega)
    have k2 : (dropped Tryz.prog 54 102 b0 (tv (t1, t2)) (w.alloc (.cells #[.int .i64 t1, .int .i64 t2] 102)).drew).cell? ⟨w.heap.size, 1, none⟩ = some (.int .i64 t2) := d4.cell (by show (w.alloc _).cell? _ = _; rw [World.cell?_alloc_at _ _ _ _ rfl]; rfl) (by simp; omega)
    have hO1 := (Only.of_below (S := [b0, b1, b2, b3]) hb1).drew.trans d3
    have hz1 : w.heap.size < (dropped Tryz.prog 54 102 b0 (tv (t1, t2)) (w.alloc (.cells #[.int .i64 t1, .int .i64 t2] 102)).drew).heap.size := by have := d4.size; simp at this; omega
    clear D1 d3 d4 hp1 hb1 h c0
    generalize dropped Tryz.prog 54 102 b0 (tv (t1, t2)) (w.alloc (.cells #[.int .i64 t1, .int .i64 t2] 102)).drew = W1 at d2 k1 k2 hO1 hz1 ⊢
    obtain ⟨f1, f2, f3, f4⟩ := d2.drew.del2 hn2 (t1, t2)
    have F1 := hid f1
    have c2 := d2.c2
    have hpw := d2.lt
    clear f1
    go_wp2
    go_cut [13] (fun _ wx => wx = dropped Tryz.prog 56 102 b2 (tv (t1, t2)) W1.drew)
    case first =>
      go_region_law (refine step_del rfl _ _ 56 102 rfl b2 _ rfl rfl _ F1.out ?_)
      all_goals go_wp2_with fail
      all_goals go_meet
      all_goals exact rfl
    case rest =>
      subst hcut
      have k3 : (dropped Tryz.prog 56 102 b2 (tv (t1, t2)) W1.drew).cell? ⟨w.heap.size, 0, none⟩ = some (.int .i64 t1) := f4.cell (by exact k1) (by simp; omega)
      have k4 : (dropped Tryz.prog 56 102 b2 (tv (t1, t2)) W1.drew).cell? ⟨w.heap.size, 1, none⟩ = some (.int .i64 t2) := f4.cell (by exact k2) (by simp; omega)
      have hO2 := hO1.drew.trans f3
      have hz2 : w.heap.size < (dropped Tryz.prog 56 102 b2 (tv (t1, t2)) W1.drew).heap.size := Nat.lt_of_lt_of_le hz1 f4.size
      clear F1 f3 f4 d2 k1 k2 hO1 hz1 c2 hpw
      generalize dropped Tryz.prog 56 102 b2 (tv (t1, t2)) W1.drew = W2 at f2 k3 k4 hO2 hz2 ⊢
      have c1 := f2.c1
      have hpw := f2.lt
      go_wp2_with fail
      refine (drop99 t1 t2 w.heap.size b1 _ _ f2.m1 hn1 k3 k4 hz2 (by have := HB.out; omega)).mono ?_
      rintro e W3 ⟨rfl, m1', hg3⟩
      obtain ⟨u1, u2, u3, u4, u5, u6⟩ := f2.ne
      have f5 : PlanAt W3 pb b0 b1 b2 b3 (del (t1, t2) l0) (l1.filter fun x => !speaks (t1, t2) x) (del (t1, t2) l2) l3 := ⟨f2.cells.move (hg3.block pb f2.lt (by simpa using f2.pne.2.1)), f2.m0.grown hg3 (by simpa using u1), m1', f2.m2.grown hg3 (by simpa using u4.symm), f2.m3.grown hg3 (by simpa using u5.symm), f2.ne⟩
      have c3 := f5.c3
      have hpw3 := f5.lt
      have k5 : W3.cell? ⟨w.heap.size, 0, none⟩ = some (.int .i64 t1) := hg3.cell k3 (by have := HB.out; simp; omega)
      have k6 : W3.cell? ⟨w.heap.size, 1, none⟩ = some (.int .i64 t2) := hg3.cell k4 (by have := HB.out; simp; omega)
      go_wp2_with fail
      refine (drop101 t1 t2 w.heap.size b3 l3 _ f5.m3 hn3 k5 k6 (Nat.lt_of_lt_of_le hz2 hg3.size) (by have := HB.out; omega)).mono ?_
      rintro e W4 ⟨rfl, m3, hg⟩
      go_wp2
      go_end0
      obtain ⟨n1, n2, n3, n4, n5, n6⟩ := f5.ne
      refine ⟨rfl, ⟨?_, f5.m0.grown hg (by simpa using n3), f5.m1.grown hg (by simpa using n5), f5.m2.grown hg (by simpa using n6), m3, f5.ne⟩, hO2.trans ((Only.of_grown hg3 (by simp)).trans (Only.of_grown hg (by simp)))⟩
      exact f5.cells.move (hg.block pb f5.lt (by simpa using f5.pne.2.2.2))

/-- What Remove answers. -/
def remOf (l0 : Things) (kind id : Int) : Int :=
  if kind < 0 ∨ 3 < kind then 7 else if (get (kind, id) l0).isSome then (if l0.any (fun x => decide (x.2.1 = (kind, id))) then 6 else 0) else 4

def rem0 (l0 : Things) (kind id : Int) : Things := if remOf l0 kind id = 0 then del (kind, id) l0 else l0
def rem2 (l0 : Things) (l2 : Waits) (kind id : Int) : Waits := if remOf l0 kind id = 0 then del (kind, id) l2 else l2
def rem3 (l0 : Things) (l3 : Prefs) (kind id : Int) : Prefs := if remOf l0 kind id = 0 then (l3.filter fun x => !speaks (kind, id) x.1) else l3

def rem1 (l0 : Things) (l1 : Runs) (kind id : Int) : Runs := if remOf l0 kind id = 0 then (l1.filter fun x => !speaks (kind, id) x) else l1

set_option maxHeartbeats 2000000 in
theorem remove_runs {l1 : Runs} (h : PlanAt w pb b0 b1 b2 b3 l0 l1 l2 l3) (hn0 : KN l0) (hn1 : KN l1) (hn2 : KN l2) (hn3 : KN l3) (kind id : Int) :
    Calls Tryz.prog 32 #[.pointer (some ⟨pb, 0, none⟩), .int .i64 kind, .int .i64 id] w fun e w' => e = .returned (.int .i64 (remOf l0 kind id)) ∧
      PlanAt w' pb b0 b1 b2 b3 (rem0 l0 kind id) (rem1 l0 l1 kind id) (rem2 l0 l2 kind id) (rem3 l0 l3 kind id) ∧ Only [b0, b1, b2, b3] w w' := by
  have hp1 := h.alloc (.cells #[.int .i64 kind, .int .i64 id] 102)
  have hb1 : Below w.heap.size w (w.alloc (.cells #[.int .i64 kind, .int .i64 id] 102)) := (Below.refl _ _).alloc (Nat.le_refl _) _
  by_cases hk0 : kind < 0
  · have e1 : remOf l0 kind id = 7 := by simp [remOf, hk0]
    rw [e1, show rem0 l0 kind id = l0 by simp [rem0, e1], show rem1 l0 l1 kind id = l1 by simp [rem1, e1], show rem2 l0 l2 kind id = l2 by simp [rem2, e1], show rem3 l0 l3 kind id = l3 by simp [rem3, e1]]
    clear e1
    go_enter Tryz.func32, Tryz.ntmps32
    go_wp2
    go_ret
    exact ⟨rfl, hp1, Only.of_below hb1⟩
  by_cases hk3 : 3 < kind
  · have e1 : remOf l0 kind id = 7 := by simp [remOf, hk3]
    rw [e1, show rem0 l0 kind id = l0 by simp [rem0, e1], show rem1 l0 l1 kind id = l1 by simp [rem1, e1], show rem2 l0 l2 kind id = l2 by simp [rem2, e1], show rem3 l0 l3 kind id = l3 by simp [rem3, e1]]
    clear e1
    have hd : decide (kind < 0) = false := by simpa using hk0
    go_enter Tryz.func32, Tryz.ntmps32
    go_wp2
    go_ret
    exact ⟨rfl, hp1, Only.of_below hb1⟩
  have hd : decide (kind < 0) = false := by simpa using hk0
  have hd3 : decide (3 < kind) = false := by simpa using hk3
  have hk : ¬ (kind < 0 ∨ 3 < kind) := by omega
  cases hg : (get (kind, id) l0).isSome with
  | false =>
    have e1 : remOf l0 kind id = 4 := by unfold remOf; rw [if_neg hk, hg]; rfl
    rw [e1, show rem0 l0 kind id = l0 by simp [rem0, e1], show rem1 l0 l1 kind id = l1 by simp [rem1, e1], show rem2 l0 l2 kind id = l2 by simp [rem2, e1], show rem3 l0 l3 kind id = l3 by simp [rem3, e1]]
    have Hg := hid hg
    clear e1 hg
    go_enter Tryz.func32, Tryz.ntmps32
    go_wp2_with (go_at_call 57; refine (has_any hp1 kind id).mono ?_; rw [Hg.out]; rintro e w2 ⟨rfl, hb2⟩)
    go_ret
    exact ⟨rfl, hp1.below hb2, Only.of_below (next2 hb1 hb2)⟩
  | true =>
    have Hg := hid hg
    cases ha : l0.any (fun x => decide (x.2.1 = (kind, id))) with
    | true =>
      have e1 : remOf l0 kind id = 6 := by unfold remOf; rw [if_neg hk, hg, ha]; rfl
      rw [e1, show rem0 l0 kind id = l0 by simp [rem0, e1], show rem1 l0 l1 kind id = l1 by simp [rem1, e1], show rem2 l0 l2 kind id = l2 by simp [rem2, e1], show rem3 l0 l3 kind id = l3 by simp [rem3, e1]]
      have Ha := hid ha
      clear e1 hg ha
      go_enter Tryz.func32, Tryz.ntmps32
      go_wp2_with (first
        | (go_at_call 57; refine (has_any hp1 kind id).mono ?_; rw [Hg.out]; rintro e w2 ⟨rfl, hb2⟩; obtain ⟨k1, k2⟩ := box2 hb2)
        | (go_at_call 59; refine (busy_any (hp1.below hb2) kind id).mono ?_; rw [Ha.out]; rintro e w3 ⟨rfl, hb3⟩))
      go_ret
      exact ⟨rfl, (hp1.below hb2).below hb3, Only.of_below (next2 (next2 hb1 hb2) hb3)⟩
    | false =>
      have e1 : remOf l0 kind id = 0 := by unfold remOf; rw [if_neg hk, hg, ha]; rfl
      rw [e1, show rem0 l0 kind id = del (kind, id) l0 by simp [rem0, e1], show rem1 l0 l1 kind id = (l1.filter fun x => !speaks (kind, id) x) by simp [rem1, e1], show rem2 l0 l2 kind id = del (kind, id) l2 by simp [rem2, e1], show rem3 l0 l3 kind id = (l3.filter fun x => !speaks (kind, id) x.1) by simp [rem3, e1]]
      have Ha := hid ha
      clear e1 hg ha
      go_enter Tryz.func32, Tryz.ntmps32
      go_wp2_with (first
        | (go_at_call 57; refine (has_any hp1 kind id).mono ?_; rw [Hg.out]; rintro e w2 ⟨rfl, hb2⟩; obtain ⟨k1, k2⟩ := box2 hb2)
        | (go_at_call 59; refine (busy_any (hp1.below hb2) kind id).mono ?_; rw [Ha.out]; rintro e w3 ⟨rfl, hb3⟩; obtain ⟨k3, k4⟩ := box2 (next2 hb2 hb3))
        | (go_at_call 60; refine (forget_any ((hp1.below hb2).below hb3) hn0 hn1 hn2 hn3 kind id).mono ?_; rintro e w4 ⟨rfl, hp4, hO4⟩))
      go_ret
      exact ⟨rfl, hp4, (Only.of_below (next2 (next2 hb1 hb2) hb3)).trans hO4⟩

/-- Where nothing runs. -/
theorem remove_any (h : PlanAt w pb b0 b1 b2 b3 l0 [] l2 l3) (hn0 : KN l0) (hn2 : KN l2) (hn3 : KN l3) (kind id : Int) :
    Calls Tryz.prog 32 #[.pointer (some ⟨pb, 0, none⟩), .int .i64 kind, .int .i64 id] w fun e w' => e = .returned (.int .i64 (remOf l0 kind id)) ∧
      PlanAt w' pb b0 b1 b2 b3 (rem0 l0 kind id) [] (rem2 l0 l2 kind id) (rem3 l0 l3 kind id) ∧ Only [b0, b1, b2, b3] w w' := by
  have := remove_runs h hn0 List.nodup_nil hn2 hn3 kind id
  rw [show rem1 l0 [] kind id = [] by unfold rem1; split <;> rfl] at this
  exact this
end
end Go.Proofs.YtjdindfjfpdikaaGreat
