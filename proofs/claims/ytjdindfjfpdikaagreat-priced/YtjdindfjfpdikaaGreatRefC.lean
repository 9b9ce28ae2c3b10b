import Derived.Test.YtjdindfjfpdikaaGreatRefB
namespace Go.Proofs.YtjdindfjfpdikaaGreat
open Go.RowKit

def makeOf (there len most needs n least limit : Int) (ranged : Bool) (id : Int) : Int :=
  if id < 0 ∨ 99 < id then 1 else if 0 ≤ there then 2 else if most ≤ len then 3 else if needs < 0 then 4 else if ranged = true ∧ (n < least ∨ limit < n) then 5 else 0

theorem most0 (w : World) : Calls Tryz.prog 63 #[.int .i64 0] w fun e w' => e = .returned (.int .i64 4) ∧ w' = w := by
  go_enter Tryz.func63, Tryz.ntmps63
  go_wp2
  go_ret
  exact ⟨rfl, rfl⟩
theorem most1 (w : World) : Calls Tryz.prog 63 #[.int .i64 1] w fun e w' => e = .returned (.int .i64 8) ∧ w' = w := by
  go_enter Tryz.func63, Tryz.ntmps63
  go_wp2
  go_ret
  exact ⟨rfl, rfl⟩
theorem most2 (w : World) : Calls Tryz.prog 63 #[.int .i64 2] w fun e w' => e = .returned (.int .i64 4) ∧ w' = w := by
  go_enter Tryz.func63, Tryz.ntmps63
  go_wp2
  go_ret
  exact ⟨rfl, rfl⟩
theorem most3 (w : World) : Calls Tryz.prog 63 #[.int .i64 3] w fun e w' => e = .returned (.int .i64 16) ∧ w' = w := by
  go_enter Tryz.func63, Tryz.ntmps63
  go_wp2
  go_ret
  exact ⟨rfl, rfl⟩

theorem info122 : (Tryz.prog.info? 76).map (fun i => (i.zero, i.size, i.bytes)) = some (some (.agg #[.int .i64 0, .int .i64 0, .int .i64 0]), 3, 24) := by kernel_rfl
theorem info146 : (Tryz.prog.info? 117).map (fun i => (i.zero, i.size, i.bytes)) = some (some (.agg #[.int .i64 0, .int .i64 0, .int .i64 0, .int .i64 0]), 4, 32) := by kernel_rfl
theorem info3 : (Tryz.prog.info? 3).map (fun i => (i.zero, i.size, i.bytes)) = some (some (.int .i64 0), 1, 8) := by kernel_rfl

section
variable {w : World} {rb : Nat} {V : RVs} {x7 x8 x9 x10 x11 : Value} {R : RSt}

theorem RefAt.drewN (h : RefAt w rb V x7 x8 x9 x10 x11 R) (n : Nat) : RefAt (w.drewN n) rb V x7 x8 x9 x10 x11 R := ⟨h.cells, h.r0, h.r1, h.r2, h.r3, h.rw, h.ro, h.rt, h.apart⟩

theorem slice_of {α : Type} {e size : Nat} {enc : α → List Value} {v : Value} {xs : List α} (h : RowAt w e size enc v xs) : ∃ p cap, v = .slice p xs.length cap := ownsRow_shape h

theorem new3 (w : World) (x y z : Value) (t : TypeId) : ∀ (j : Nat) (u : Value), [x, y, z][j]? = some u → (w.alloc (.cells #[x, y, z] t)).drew.cell? ((⟨w.heap.size, 0, none⟩ : Addr).add j) = some u := by
  intro j u hu
  rcases j with _ | _ | _ | j
  · rw [Addr.add_lit]; show (w.alloc _).cell? _ = _; rw [World.cell?_alloc_at _ _ _ _ rfl]; simpa using hu
  · rw [Addr.add_lit]; show (w.alloc _).cell? _ = _; rw [World.cell?_alloc_at _ _ _ _ rfl]; simpa using hu
  · rw [Addr.add_lit]; show (w.alloc _).cell? _ = _; rw [World.cell?_alloc_at _ _ _ _ rfl]; simpa using hu
  · simp at hu

/-- While a row of its own is written its own cells stay. -/
theorem RefAt.kept {w' : World} {row : Option Nat} (h : RefAt w rb V x7 x8 x9 x10 x11 R) (hg : w.grownBy w' row) (i : Nat) (hr : row ≠ some rb) : w'.cell? ⟨rb, i, none⟩ = w.cell? ⟨rb, i, none⟩ ∧ w'.frozen? ⟨rb, i, none⟩ = false := by
  have hb := hg.block rb h.lt hr.symm
  exact ⟨World.cell?_of_block hb, by rw [World.frozen?_of_block (w := w) hb]; exact h.fr i⟩

end
end Go.Proofs.YtjdindfjfpdikaaGreat
