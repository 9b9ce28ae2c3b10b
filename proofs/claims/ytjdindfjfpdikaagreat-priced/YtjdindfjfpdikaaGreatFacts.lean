import Derived.Test.YtjdindfjfpdikaaGreatProg
import Derived.Test.YtjdindfjfpdikaaGreatMaps
import Derived.WalkKit
namespace Go.Proofs.YtjdindfjfpdikaaGreat

/-- A thing: its kind and its id. -/
def tv (a : Int × Int) : Value := .agg #[.int .i64 a.1, .int .i64 a.2]
/-- A wish: a task and a target. -/
def wv (a : (Int × Int) × (Int × Int)) : Value := .agg #[.int .i64 a.1.1, .int .i64 a.1.2, .int .i64 a.2.1, .int .i64 a.2.2]
/-- The facts of a thing: in what it lies; its slots; its cost. -/
def fv (f : (Int × Int) × Int × Int) : Value := .agg #[.int .i64 f.1.1, .int .i64 f.1.2, .int .i64 f.2.1, .int .i64 f.2.2]
def iv (n : Int) : Value := .int .i64 n

theorem und79 : ∃ d, Tryz.prog.underlying 102 = some d ∧ ∀ v v', Instr.sameNow d v v' = none := ⟨_, Tryz.underlying102, fun _ _ => rfl⟩
theorem und86 : ∃ d, Tryz.prog.underlying 109 = some d ∧ ∀ v v', Instr.sameNow d v v' = none := ⟨_, Tryz.underlying109, fun _ _ => rfl⟩

theorem ok_ite (c : Prop) [Decidable c] (a b : Bool) (w : World) : (if c then (Result.ok a w : Result Bool) else .ok b w) = .ok (if c then a else b) w := by split <;> rfl

theorem eq79 (w : World) (a b : Int × Int) : (Op.equal 102 (tv a) (tv b)).run Tryz.prog w = .ok (decide (a = b)) w := by
  obtain ⟨a1, a2⟩ := a
  obtain ⟨b1, b2⟩ := b
  have h1 : Tryz.prog.underlying 102 = some (.struct (Tryz.prog.fieldsOf 102)) := by kernel_rfl
  have h2 : Tryz.prog.stoodInHeld 102 = false := by kernel_rfl
  simp [Op.equal, Op.maxDepth, tv, run_equalIn_struct w 9999 102 _ _ h1 h2, go_sem, Tryz.underlying102, ok_ite]
  by_cases e1 : a1 = b1 <;> by_cases e2 : a2 = b2 <;> simp [e1, e2]

theorem eq86 (w : World) (a b : (Int × Int) × (Int × Int)) : (Op.equal 109 (wv a) (wv b)).run Tryz.prog w = .ok (decide (a = b)) w := by
  obtain ⟨⟨a1, a2⟩, a3, a4⟩ := a
  obtain ⟨⟨b1, b2⟩, b3, b4⟩ := b
  have h1 : Tryz.prog.underlying 109 = some (.struct (Tryz.prog.fieldsOf 109)) := by kernel_rfl
  have h2 : Tryz.prog.stoodInHeld 109 = false := by kernel_rfl
  have h3 : Tryz.prog.underlying 102 = some (.struct (Tryz.prog.fieldsOf 102)) := by kernel_rfl
  have h4 : Tryz.prog.stoodInHeld 102 = false := by kernel_rfl
  simp [Op.equal, Op.maxDepth, wv, run_equalIn_struct w 9999 109 _ _ h1 h2, go_sem, Tryz.underlying102, Tryz.underlying109]
  by_cases e1 : a1 = b1 <;> by_cases e2 : a2 = b2 <;> by_cases e3 : a3 = b3 <;> by_cases e4 : a4 = b4 <;> simp [e1, e2, e3, e4]

theorem check79 (w : World) (em : Bool) (a : Int × Int) : (Instr.checkKey em 10000 102 (tv a)).run Tryz.prog w = .ok () w := by
  kernel_rfl
theorem check86 (w : World) (em : Bool) (a : (Int × Int) × (Int × Int)) : (Instr.checkKey em 10000 109 (wv a)).run Tryz.prog w = .ok () w := by
  kernel_rfl

theorem stays79 (w : World) (a : Int × Int) : (Instr.keyThatStays (tv a) (tv a)).run Tryz.prog w = .ok (tv a) w := by
  obtain ⟨a1, a2⟩ := a
  simp [Instr.keyThatStays, tv, Instr.sameBits]

theorem stays86 (w : World) (a : (Int × Int) × (Int × Int)) : (Instr.keyThatStays (wv a) (wv a)).run Tryz.prog w = .ok (wv a) w := by
  obtain ⟨⟨a1, a2⟩, a3, a4⟩ := a
  simp [Instr.keyThatStays, wv, Instr.sameBits]

theorem kt79 : KeyTy Tryz.prog 102 (Int × Int) tv := ⟨und79, check79, eq79, stays79, fun a b h => by
  obtain ⟨a1, a2⟩ := a
  obtain ⟨b1, b2⟩ := b
  simp [tv] at h
  simp [h]⟩
theorem kt86 : KeyTy Tryz.prog 109 ((Int × Int) × (Int × Int)) wv := ⟨und86, check86, eq86, stays86, fun a b h => by
  obtain ⟨⟨a1, a2⟩, a3, a4⟩ := a
  obtain ⟨⟨b1, b2⟩, b3, b4⟩ := b
  simp [wv] at h
  simp [h]⟩

theorem zero82 (w : World) : (zeroValue 105).run Tryz.prog w = .ok (fv ((0, 0), 0, 0)) w := by kernel_rfl
theorem zero79 (w : World) : (zeroValue 102).run Tryz.prog w = .ok (tv (0, 0)) w := by kernel_rfl
theorem zero3 (w : World) : (zeroValue 3).run Tryz.prog w = .ok (iv 0) w := by kernel_rfl

abbrev Things := List ((Int × Int) × ((Int × Int) × Int × Int))
abbrev Runs := List ((Int × Int) × (Int × Int))
abbrev Waits := List ((Int × Int) × Int)
abbrev Prefs := List (((Int × Int) × (Int × Int)) × Int)

/-- The cells of a plan: its maps, and what was solved last. -/
def PCells (w : World) (pb b0 b1 b2 b3 : Nat) : Prop := ∃ s0 s1 s2 s3 s4 : Value, w.heap[pb]? = some (.cells #[.map (some b0), .map (some b1), .map (some b2), .map (some b3), s0, s1, s2, s3, s4] 61)
theorem PCells.move {w w' : World} {pb b0 b1 b2 b3 : Nat} (h : PCells w pb b0 b1 b2 b3) (e : w'.heap[pb]? = w.heap[pb]?) : PCells w' pb b0 b1 b2 b3 := by
  obtain ⟨s0, s1, s2, s3, s4, h⟩ := h
  exact ⟨s0, s1, s2, s3, s4, e.trans h⟩
theorem PCells.lt {w : World} {pb b0 b1 b2 b3 : Nat} (h : PCells w pb b0 b1 b2 b3) : pb < w.heap.size := by
  obtain ⟨s0, s1, s2, s3, s4, h⟩ := h
  exact (Array.getElem?_eq_some_iff.1 h).1
/-- At pb lies a plan: its four maps, in the blocks b0 to b3. -/
structure PlanAt (w : World) (pb b0 b1 b2 b3 : Nat) (l0 : Things) (l1 : Runs) (l2 : Waits) (l3 : Prefs) : Prop where
  cells : PCells w pb b0 b1 b2 b3
  m0 : MapAt tv fv w b0 l0
  m1 : MapAt tv tv w b1 l1
  m2 : MapAt tv iv w b2 l2
  m3 : MapAt wv iv w b3 l3
  ne : b0 ≠ b1 ∧ b0 ≠ b2 ∧ b0 ≠ b3 ∧ b1 ≠ b2 ∧ b1 ≠ b3 ∧ b2 ≠ b3
end Go.Proofs.YtjdindfjfpdikaaGreat
