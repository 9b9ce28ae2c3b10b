import Derived.Test.YtjdindfjfpdikaaGreatBusy
import Derived.Maps.OwnSet
import Derived.Deep.RegionLaw
namespace Go.Proofs.YtjdindfjfpdikaaGreat
open Go.RowKit

theorem wpList_del_mine {P : Program} (w : World) {ops : Array Oper} {rs : List Oper} {o : Oper} {a : Act} {Q : Exit → Act → World → Prop} (hg : o.guard = none) (m x : Operand) (t kt : TypeId)
    (hop : o.op = Op.call { callee := Callee.builtin Builtin.delete, args := #[m, x], argTypes := #[t, kt] }) (b : Nat) (key : Value) (hm : a.eval m = .map (some b)) (hx : a.eval x = key) (w' : World)
    (hrun : ∀ ty, (Builtin.delete_ #[t, kt] ty #[.map (some b), key]).run P w = .ok (.tuple #[]) w') (hK : wpList P ops Q rs (a.put o.dst (.tuple #[])) w') : wpList P ops Q (o :: rs) a w := by
  refine wpList_plain hg fun K' hK' => ?_
  unfold Oper.wp execOp
  simp only [hop, resolve, invoke, builtin, Sem.run_bind, Sem.run_pure, Result.andThen_ok, List.map_toArray, List.map_cons, List.map_nil, hm, hx, hrun]
  exact hK' _ _ hK

theorem step_del {P : Program} {ops : Array Oper} {o : Oper} {a : Act} {w : World} {K : Act → World → Prop} {Q : Exit → Act → World → Prop} {E : Prop} (hg : o.guard = none) (m x : Operand) (t kt : TypeId)
    (hop : o.op = Op.call { callee := Callee.builtin Builtin.delete, args := #[m, x], argTypes := #[t, kt] }) (b : Nat) (key : Value) (hm : a.eval m = .map (some b)) (hx : a.eval x = key) (w' : World)
    (hrun : ∀ ty, (Builtin.delete_ #[t, kt] ty #[.map (some b), key]).run P w = .ok (.tuple #[]) w') (hK : K (a.put o.dst (.tuple #[])) w') :
    if Region.wanted o (yielded ops a.tmps) = true then Oper.wp P o a w K Q else E := by
  have hw : Region.wanted o (yielded ops a.tmps) = true := by simp [Region.wanted, hg]
  rw [if_pos hw]
  unfold Oper.wp execOp
  simp only [hop, resolve, invoke, builtin, Sem.run_bind, Sem.run_pure, Result.andThen_ok, List.map_toArray, List.map_cons, List.map_nil, hm, hx, hrun]
  exact hK

theorem grown_of_below {w w' : World} (h : Below w.heap.size w w') (row : Option Nat) : w.grownBy w' row := ⟨h.os, h.tape, h.output, h.size, fun k hk _ => h.block k hk⟩

/-- Does a wish speak of a thing? -/
def speaks (t : Int × Int) (k : (Int × Int) × (Int × Int)) : Bool := decide (k.1 = t) || decide (k.2 = t)

set_option maxHeartbeats 1000000 in
theorem closure102 (k1 k2 k3 k4 n t1 t2 : Int) (tb : Nat) (w : World) (c0 : w.cell? ⟨tb, 0, none⟩ = some (.int .i64 t1)) (c1 : w.cell? ⟨tb, 1, none⟩ = some (.int .i64 t2)) (hz : tb < w.heap.size) :
    Calls Tryz.prog 85 #[.agg #[.int .i64 k1, .int .i64 k2, .int .i64 k3, .int .i64 k4], .int .i64 n, .pointer (some ⟨tb, 0, none⟩)] w fun e w' => e = .returned (.bool (speaks (t1, t2) ((k1, k2), (k3, k4)))) ∧ Below w.heap.size w w' := by
  have e1 : ∀ w' : World, (binOp .eql 102 (.agg #[.int .i64 k1, .int .i64 k2]) (.agg #[.int .i64 t1, .int .i64 t2])).run Tryz.prog w' = .ok (.bool (decide ((k1, k2) = (t1, t2)))) w' := fun w' => eql79 w' (k1, k2) (t1, t2)
  have e2 : ∀ w' : World, (binOp .eql 102 (.agg #[.int .i64 k3, .int .i64 k4]) (.agg #[.int .i64 t1, .int .i64 t2])).run Tryz.prog w' = .ok (.bool (decide ((k3, k4) = (t1, t2)))) w' := fun w' => eql79 w' (k3, k4) (t1, t2)
  unfold speaks
  generalize decide (((k1, k2), (k3, k4)).2 = (t1, t2)) = q2 at e2 ⊢
  cases q1 : decide (((k1, k2), (k3, k4)).1 = (t1, t2)) with
  | true =>
    rw [show decide ((k1, k2) = (t1, t2)) = true from q1] at e1
    clear q1
    go_enter Tryz.func85, Tryz.ntmps85
    go_wp2
    go_ret
    exact ⟨rfl, (Below.refl _ _).alloc (Nat.le_refl _) _⟩
  | false =>
    rw [show decide ((k1, k2) = (t1, t2)) = false from q1] at e1
    clear q1
    go_enter Tryz.func85, Tryz.ntmps85
    go_wp2
    go_ret
    exact ⟨by simp, (Below.refl _ _).alloc (Nat.le_refl _) _⟩

section
variable {K V : Type} [DecidableEq K]
/-- What is left of a list when some of it has been gone through. -/
def leftBy (keep : K → Bool) (rest l : List (K × V)) : List (K × V) := l.filter fun x => keep x.1 || decide (x.1 ∈ rest.map (·.1))

theorem leftBy_start (keep : K → Bool) (l : List (K × V)) : leftBy keep l l = l :=
  List.filter_eq_self.2 fun x hx => by simp only [Bool.or_eq_true, decide_eq_true_eq]; exact Or.inr (List.mem_map_of_mem hx)
theorem leftBy_end (keep : K → Bool) (l : List (K × V)) : leftBy keep [] l = l.filter fun x => keep x.1 := by simp [leftBy]
theorem KN.leftBy {keep : K → Bool} {rest l : List (K × V)} (h : KN l) : KN (leftBy keep rest l) := h.sublist (List.filter_sublist.map _)
theorem leftBy_keep {keep : K → Bool} {rest rest' l : List (K × V)} {x : K × V} (hp : rest.Perm (x :: rest')) (hk : keep x.1 = true) : leftBy keep rest l = leftBy keep rest' l := by
  unfold leftBy
  refine List.filter_congr fun y _ => ?_
  have hm : y.1 ∈ rest.map (·.1) ↔ y.1 = x.1 ∨ y.1 ∈ rest'.map (·.1) := by
    rw [(hp.map (·.1)).mem_iff]; simp
  by_cases hy : y.1 = x.1
  · simp [hy, hk]
  · have : decide (y.1 ∈ rest.map (·.1)) = decide (y.1 ∈ rest'.map (·.1)) := decide_eq_decide.2 (by rw [hm]; simp only [hy, false_or])
    rw [this]
theorem leftBy_drop {keep : K → Bool} {rest rest' l : List (K × V)} {x : K × V} (hp : rest.Perm (x :: rest')) (hn : (rest.map (·.1)).Nodup) (hk : keep x.1 = false) : del x.1 (leftBy keep rest l) = leftBy keep rest' l := by
  unfold leftBy del
  rw [List.filter_filter]
  refine List.filter_congr fun y _ => ?_
  have hm : y.1 ∈ rest.map (·.1) ↔ y.1 = x.1 ∨ y.1 ∈ rest'.map (·.1) := by
    rw [(hp.map (·.1)).mem_iff]; simp
  have hx : x.1 ∉ rest'.map (·.1) := by
    have := (hp.map (·.1)).nodup_iff.1 hn
    simp only [List.map_cons, List.nodup_cons] at this
    exact this.1
  by_cases hy : y.1 = x.1
  · have : y.1 ∉ rest'.map (·.1) := by rw [hy]; exact hx
    simp [hy, hk]
    simpa [hy] using this
  · have : decide (y.1 ∈ rest.map (·.1)) = decide (y.1 ∈ rest'.map (·.1)) := decide_eq_decide.2 (by rw [hm]; simp only [hy, false_or])
    rw [this]
    simp [hy]
end

set_option maxHeartbeats 2000000 in
/-- maps.DeleteFunc, of the wishes that speak of a thing. -/
theorem drop101 (t1 t2 : Int) (tb b : Nat) (l3 : Prefs) (w : World) (m3 : MapAt wv iv w b l3) (hn : KN l3) (c0 : w.cell? ⟨tb, 0, none⟩ = some (.int .i64 t1)) (c1 : w.cell? ⟨tb, 1, none⟩ = some (.int .i64 t2)) (hz : tb < w.heap.size) (hne : tb ≠ b) :
    Calls Tryz.prog 84 #[.map (some b), .func (.func 85) #[] #[.pointer (some ⟨tb, 0, none⟩)]] w fun e w' => e = .returned (.tuple #[]) ∧ MapAt wv iv w' b (l3.filter fun x => !speaks (t1, t2) x.1) ∧ w.grownBy w' (some b) := by
  have hb := m3.lt
  go_enter Tryz.func84, Tryz.ntmps84
  go_wp2_with (first
    | (at_range; refine wpList_range_mine _ rfl _ 57 rfl Tryz.underlying57 rfl m3 ?_; intro ob hrg0)
    | go_in)
  go_frame
  go_loopg [4] l3.length (fun gk _ wr => ∃ rest, rest.length ≤ gk ∧ Ranging wv iv wr b w.heap.size (leftBy (fun k => !speaks (t1, t2) k) rest l3) rest ∧ (rest.map (·.1)).Nodup ∧ w.grownBy wr (some b))
  case atStart => exact ⟨l3, Nat.le_refl _, by rw [leftBy_start]; exact hrg0, hn, World.grownBy_alloc _ _ _⟩
  case round =>
    obtain ⟨rest, hgk, hrg, hnd, hg⟩ := hrel
    go_wp2_with (first
      | (at_next; refine wpList_next_mine _ rfl _ rfl rfl hrg ?_ ?_)
      | go_in)
    · intro hr0
      subst hr0
      go_wp2
      go_end0
      exact ⟨rfl, by have := hrg.mapAt; rw [leftBy_end] at this; exact this, hg⟩
    · intro k1 k2 k3 k4 n rest' w1 hp hen hrg1 hg1 hs1
      simp only [wv, iv] at hen ⊢
      have hpl := hp.length_eq
      simp only [List.length_cons] at hpl
      have hpl' : rest'.length < rest.length := by omega
      have hz1 : tb < w1.heap.size := by have := hg.size; omega
      have hg2 : w.grownBy w1 (some b) := hg.andThen hg1 (fun j hj => by cases hj; exact Or.inl (Nat.le_refl _))
      have k5 : w1.cell? ⟨tb, 0, none⟩ = some (.int .i64 t1) := hg2.cell c0 (by simpa using hne)
      have k6 : w1.cell? ⟨tb, 1, none⟩ = some (.int .i64 t2) := hg2.cell c1 (by simpa using hne)
      have hsz : w.heap.size ≤ w1.heap.size := hg2.size
      have Hp := hid hp
      clear hp hpl hs1
      have hnd' : (rest'.map (·.1)).Nodup := by
        have := (Hp.out.map (·.1)).nodup_iff.1 hnd
        exact (List.nodup_cons.1 this).2
      have hx : ((k1, k2), (k3, k4)) ∉ rest'.map (·.1) := by
        have := (Hp.out.map (·.1)).nodup_iff.1 hnd
        exact (List.nodup_cons.1 this).1
      have Hx := hid (And.intro hnd' hx)
      clear hnd' hx
      cases hs : speaks (t1, t2) ((k1, k2), (k3, k4)) with
      | false =>
        have Hs := hid hs
        clear hs
        go_wp2_with (go_at_call 85; refine (closure102 k1 k2 k3 k4 n t1 t2 tb _ (by go_simp) (by go_simp) (by simp; omega)).mono ?_; rw [Hs.out]; rintro e w2 ⟨rfl, hb2⟩)
        go_roundg rest'.length
        case measure => omega
        case rel =>
          have hb3 : Below w1.heap.size w1 w2 := next2 ((Below.refl _ _).alloc (Nat.le_refl _) _) hb2
          refine ⟨rest', Nat.le_refl _, ?_, Hx.out.1, hg2.andThen (grown_of_below hb3 none) (by simp)⟩
          rw [← leftBy_keep Hp.out (by simp [Hs.out])]
          exact hrg1.kept (grown_of_below hb3 none) (by simp) (by simp)
      | true =>
        have Hs := hid hs
        clear hs
        go_wp2_with (first
          | (go_at_call 85; refine (closure102 k1 k2 k3 k4 n t1 t2 tb _ (by go_simp) (by go_simp) (by simp; omega)).mono ?_; rw [Hs.out]; rintro e w2 ⟨rfl, hb2⟩; have hb3 : Below w1.heap.size w1 w2 := next2 ((Below.refl _ _).alloc (Nat.le_refl _) _) hb2; obtain ⟨q1, q2, q3, q4⟩ := box4 hb2; have hrg2 := hrg1.kept (grown_of_below hb3 none) (by simp) (by simp))
          | (at_delete; refine wpList_del_mine _ rfl _ _ 57 109 rfl b _ rfl rfl (dropped Tryz.prog 57 109 b (wv ((k1, k2), (k3, k4))) w2) (fun ty => (run_del_ranging kt86 Tryz.underlying57 hrg2 hn.leftBy ((k1, k2), (k3, k4)) Hx.out.2 ty).1) ?_))
        go_wp2
        go_roundg rest'.length
        case measure => omega
        case rel =>
          have hd := run_del_ranging kt86 Tryz.underlying57 hrg2 hn.leftBy ((k1, k2), (k3, k4)) Hx.out.2 0
          refine ⟨rest', Nat.le_refl _, ?_, Hx.out.1, (hg2.andThen (grown_of_below hb3 none) (by simp)).andThen hd.2.2 (fun j hj => Or.inr hj)⟩
          rw [← leftBy_drop Hp.out hnd (by simp [Hs.out])]
          exact hd.2.1
end Go.Proofs.YtjdindfjfpdikaaGreat
