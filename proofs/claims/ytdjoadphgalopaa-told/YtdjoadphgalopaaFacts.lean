import Derived.Test.YtdjoadphgalopaaProg
import Derived.Test.YtdjoadphgalopaaMaps
import Derived.WalkKit
namespace Go.Proofs.Ytdjoadphgalopaa

/-- A thing: its kind and its id. -/
def tv (a : Int × Int) : Value := .agg #[.int .i64 a.1, .int .i64 a.2]
/-- A wish: a task and a target. -/
def wv (a : (Int × Int) × (Int × Int)) : Value := .agg #[.int .i64 a.1.1, .int .i64 a.1.2, .int .i64 a.2.1, .int .i64 a.2.2]
/-- The facts of a thing: in what it lies; its slots; its cost. -/
def fv (f : (Int × Int) × Int × Int) : Value := .agg #[.int .i64 f.1.1, .int .i64 f.1.2, .int .i64 f.2.1, .int .i64 f.2.2]
def iv (n : Int) : Value := .int .i64 n

theorem und79 : ∃ d, Try.prog.underlying 77 = some d ∧ ∀ v v', Instr.sameNow d v v' = none := ⟨_, Try.underlying77, fun _ _ => rfl⟩
theorem und86 : ∃ d, Try.prog.underlying 84 = some d ∧ ∀ v v', Instr.sameNow d v v' = none := ⟨_, Try.underlying84, fun _ _ => rfl⟩

theorem ok_ite (c : Prop) [Decidable c] (a b : Bool) (w : World) : (if c then (Result.ok a w : Result Bool) else .ok b w) = .ok (if c then a else b) w := by split <;> rfl

theorem eq79 (w : World) (a b : Int × Int) : (Op.equal 77 (tv a) (tv b)).run Try.prog w = .ok (decide (a = b)) w := by
  obtain ⟨a1, a2⟩ := a
  obtain ⟨b1, b2⟩ := b
  have h1 : Try.prog.underlying 77 = some (.struct (Try.prog.fieldsOf 77)) := by kernel_rfl
  have h2 : Try.prog.stoodInHeld 77 = false := by kernel_rfl
  simp [Op.equal, Op.maxDepth, tv, run_equalIn_struct w 9999 77 _ _ h1 h2, go_sem, Try.underlying77, ok_ite]
  by_cases e1 : a1 = b1 <;> by_cases e2 : a2 = b2 <;> simp [e1, e2]

theorem eq86 (w : World) (a b : (Int × Int) × (Int × Int)) : (Op.equal 84 (wv a) (wv b)).run Try.prog w = .ok (decide (a = b)) w := by
  obtain ⟨⟨a1, a2⟩, a3, a4⟩ := a
  obtain ⟨⟨b1, b2⟩, b3, b4⟩ := b
  have h1 : Try.prog.underlying 84 = some (.struct (Try.prog.fieldsOf 84)) := by kernel_rfl
  have h2 : Try.prog.stoodInHeld 84 = false := by kernel_rfl
  have h3 : Try.prog.underlying 77 = some (.struct (Try.prog.fieldsOf 77)) := by kernel_rfl
  have h4 : Try.prog.stoodInHeld 77 = false := by kernel_rfl
  simp [Op.equal, Op.maxDepth, wv, run_equalIn_struct w 9999 84 _ _ h1 h2, go_sem, Try.underlying77, Try.underlying84]
  by_cases e1 : a1 = b1 <;> by_cases e2 : a2 = b2 <;> by_cases e3 : a3 = b3 <;> by_cases e4 : a4 = b4 <;> simp [e1, e2, e3, e4]

theorem check79 (w : World) (em : Bool) (a : Int × Int) : (Instr.checkKey em 10000 77 (tv a)).run Try.prog w = .ok () w := by
  kernel_rfl
theorem check86 (w : World) (em : Bool) (a : (Int × Int) × (Int × Int)) : (Instr.checkKey em 10000 84 (wv a)).run Try.prog w = .ok () w := by
  kernel_rfl

theorem stays79 (w : World) (a : Int × Int) : (Instr.keyThatStays (tv a) (tv a)).run Try.prog w = .ok (tv a) w := by
  obtain ⟨a1, a2⟩ := a
  simp [Instr.keyThatStays, tv, Instr.sameBits]

theorem stays86 (w : World) (a : (Int × Int) × (Int × Int)) : (Instr.keyThatStays (wv a) (wv a)).run Try.prog w = .ok (wv a) w := by
  obtain ⟨⟨a1, a2⟩, a3, a4⟩ := a
  simp [Instr.keyThatStays, wv, Instr.sameBits]

theorem kt79 : KeyTy Try.prog 77 (Int × Int) tv := ⟨und79, check79, eq79, stays79, fun a b h => by
  obtain ⟨a1, a2⟩ := a
  obtain ⟨b1, b2⟩ := b
  simp [tv] at h
  simp [h]⟩
theorem kt86 : KeyTy Try.prog 84 ((Int × Int) × (Int × Int)) wv := ⟨und86, check86, eq86, stays86, fun a b h => by
  obtain ⟨⟨a1, a2⟩, a3, a4⟩ := a
  obtain ⟨⟨b1, b2⟩, b3, b4⟩ := b
  simp [wv] at h
  simp [h]⟩

theorem zero82 (w : World) : (zeroValue 80).run Try.prog w = .ok (fv ((0, 0), 0, 0)) w := by kernel_rfl
theorem zero79 (w : World) : (zeroValue 77).run Try.prog w = .ok (tv (0, 0)) w := by kernel_rfl
theorem zero3 (w : World) : (zeroValue 3).run Try.prog w = .ok (iv 0) w := by kernel_rfl

abbrev Things := List ((Int × Int) × ((Int × Int) × Int × Int))
abbrev Runs := List ((Int × Int) × (Int × Int))
abbrev Waits := List ((Int × Int) × Int)
abbrev Prefs := List (((Int × Int) × (Int × Int)) × Int)

/-- At pb lies a plan: its four maps, in the blocks b0 to b3. -/
structure PlanAt (w : World) (pb b0 b1 b2 b3 : Nat) (l0 : Things) (l1 : Runs) (l2 : Waits) (l3 : Prefs) : Prop where
  cells : w.heap[pb]? = some (.cells #[.map (some b0), .map (some b1), .map (some b2), .map (some b3)] 74)
  m0 : MapAt tv fv w b0 l0
  m1 : MapAt tv tv w b1 l1
  m2 : MapAt tv iv w b2 l2
  m3 : MapAt wv iv w b3 l3
  ne : b0 ≠ b1 ∧ b0 ≠ b2 ∧ b0 ≠ b3 ∧ b1 ≠ b2 ∧ b1 ≠ b3 ∧ b2 ≠ b3
end Go.Proofs.Ytdjoadphgalopaa
