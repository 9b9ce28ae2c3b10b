import Derived.Test.YtjdindfjfpdikaaPure
import Derived.Below
namespace Go.Proofs.Ytjdindfjfpdikaa
open Go.RowKit

/-- Numbers that lie in memory. -/
def Ints (w : World) (p : Option Addr) (len : Nat) (F : Nat → Int) : Prop :=
  len = 0 ∨ ∃ sb off, p = some ⟨sb, off, none⟩ ∧ sb < w.heap.size ∧ ∀ i, i < len → w.cell? ⟨sb, off + i, none⟩ = some (.int .i64 (F i))
/-- Arcs that lie in memory. -/
def Arcs (w : World) (p : Option Addr) (len : Nat) (A : Nat → Ar) : Prop :=
  len = 0 ∨ ∃ sb off, p = some ⟨sb, off, none⟩ ∧ sb < w.heap.size ∧ ∀ i, i < len → w.cell? ⟨sb, off + i * 4, none⟩ = some (.int .i64 (A i).f) ∧ w.cell? ⟨sb, off + i * 4 + 1, none⟩ = some (.int .i64 (A i).t) ∧ w.cell? ⟨sb, off + i * 4 + 2, none⟩ = some (.int .i64 (A i).c) ∧ w.cell? ⟨sb, off + i * 4 + 3, none⟩ = some (.int .i64 (A i).k)

section
variable {w w' : World} {p : Option Addr} {len n : Nat} {F : Nat → Int} {A : Nat → Ar}
theorem Ints.below (h : Ints w p len F) (hb : Below w.heap.size w w') : Ints w' p len F := by
  rcases h with h | ⟨sb, off, hp, hs, hc⟩
  · exact Or.inl h
  · exact Or.inr ⟨sb, off, hp, Nat.lt_of_lt_of_le hs hb.size, fun i hi => (hb.cell (p := ⟨sb, off + i, none⟩) hs).trans (hc i hi)⟩
theorem Arcs.below (h : Arcs w p len A) (hb : Below w.heap.size w w') : Arcs w' p len A := by
  rcases h with h | ⟨sb, off, hp, hs, hc⟩
  · exact Or.inl h
  · refine Or.inr ⟨sb, off, hp, Nat.lt_of_lt_of_le hs hb.size, fun i hi => ?_⟩
    have mv : ∀ o, w'.cell? ⟨sb, o, none⟩ = w.cell? ⟨sb, o, none⟩ := fun o => hb.cell (p := ⟨sb, o, none⟩) hs
    obtain ⟨h0, h1, h2, h3⟩ := hc i hi
    exact ⟨(mv _).trans h0, (mv _).trans h1, (mv _).trans h2, (mv _).trans h3⟩
theorem Ints.less (h : Ints w p len F) (hn : n ≤ len) : Ints w p n F := by
  rcases h with h | ⟨sb, off, hp, hs, hc⟩
  · exact Or.inl (by omega)
  · exact Or.inr ⟨sb, off, hp, hs, fun i hi => hc i (by omega)⟩
theorem Arcs.less (h : Arcs w p len A) (hn : n ≤ len) : Arcs w p n A := by
  rcases h with h | ⟨sb, off, hp, hs, hc⟩
  · exact Or.inl (by omega)
  · exact Or.inr ⟨sb, off, hp, hs, fun i hi => hc i (by omega)⟩
theorem Ints.at (h : Ints w p len F) {i : Nat} (hi : i < len) : ∃ sb off, p = some ⟨sb, off, none⟩ ∧ sb < w.heap.size ∧ w.cell? ⟨sb, off + i, none⟩ = some (.int .i64 (F i)) := by
  rcases h with h | ⟨sb, off, hp, hs, hc⟩
  · omega
  · exact ⟨sb, off, hp, hs, hc i hi⟩
theorem Arcs.at (h : Arcs w p len A) {i : Nat} (hi : i < len) : ∃ sb off, p = some ⟨sb, off, none⟩ ∧ sb < w.heap.size ∧ w.cell? ⟨sb, off + i * 4, none⟩ = some (.int .i64 (A i).f) ∧ w.cell? ⟨sb, off + i * 4 + 1, none⟩ = some (.int .i64 (A i).t) ∧ w.cell? ⟨sb, off + i * 4 + 2, none⟩ = some (.int .i64 (A i).c) ∧ w.cell? ⟨sb, off + i * 4 + 3, none⟩ = some (.int .i64 (A i).k) := by
  rcases h with h | ⟨sb, off, hp, hs, hc⟩
  · omega
  · exact ⟨sb, off, hp, hs, hc i hi⟩
end
end Go.Proofs.Ytjdindfjfpdikaa
