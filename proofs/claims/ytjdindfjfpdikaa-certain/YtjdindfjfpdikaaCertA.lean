import Derived.Test.YtjdindfjfpdikaaDice
import Derived.Test.YtjdindfjfpdikaaChkC
import Derived.Maps.AppendAt
import Derived.Deep.DeepCutAuto
import Derived.Deep.CutRange
import Derived.Deep.RegionLaw
namespace Go.Proofs.Ytjdindfjfpdikaa
open Go.RowKit

theorem infoA : (Try.prog.info? 37).map (fun i => (i.zero, i.size, i.bytes)) = some (some (.agg #[.int .i64 0, .int .i64 0, .int .i64 0, .int .i64 0]), 4, 32) := by kernel_rfl

def cellsA (a : Ar) : List Value := [.int .i64 a.f, .int .i64 a.t, .int .i64 a.c, .int .i64 a.k]
def Small1 (N : Int) (a : Ar) : Prop := (0 ≤ a.f ∧ a.f < N) ∧ (0 ≤ a.t ∧ a.t < N) ∧ (0 ≤ a.c ∧ a.c ≤ 3) ∧ (-3 ≤ a.k ∧ a.k ≤ 5)

theorem flatA_at {α : Type} {enc : α → List Value} {size : Nat} (hs : ∀ x, (enc x).length = size) : ∀ (xs : List α) (k c : Nat) (hk : k < xs.length), c < size → (xs.flatMap enc)[k * size + c]? = (enc xs[k])[c]?
  | x :: xs, 0, c, _, hc => by
    rw [List.flatMap_cons, List.getElem?_append_left (by rw [hs]; omega)]
    simp
  | x :: xs, k + 1, c, hk, hc => by
    rw [List.flatMap_cons, List.getElem?_append_right (by rw [hs, Nat.succ_mul]; omega), hs]
    have := flatA_at hs xs k c (by simpa using hk) hc
    rw [show (k + 1) * size + c - size = k * size + c by rw [Nat.succ_mul]; omega]
    simpa using this

theorem row_arcs {w : World} {v : Value} {ys : List Ar} (h : w.ownsRow 0 37 4 v ys.length (ys.flatMap cellsA)) (h0 : 0 < ys.length) : ∃ g cap, v = .slice (some ⟨g, 0, none⟩) ys.length cap ∧ v.ownBlock = some g ∧ g < w.heap.size ∧ Arcs w (some ⟨g, 0, none⟩) ys.length (fun i => ys.getD i ⟨0, 0, 0, 0⟩) := by
  have h' := h
  rcases h.2 with ⟨_, h2⟩ | ⟨g, cap, cur, hv, _, hg, _, _, _, _⟩
  · omega
  · have hl : g < w.heap.size := (Array.getElem?_eq_some_iff.1 hg).1
    refine ⟨g, cap, hv, by rw [hv]; rfl, hl, Or.inr ⟨g, 0, rfl, hl, fun i hi => ?_⟩⟩
    have hc := World.ownsRow.cells h' (g := g) (by rw [hv]; rfl)
    have e : ys.getD i ⟨0, 0, 0, 0⟩ = ys[i] := by simp [List.getD, hi]
    have hq : ∀ c, c < 4 → w.cell? ⟨g, i * 4 + c, none⟩ = (cellsA ys[i])[c]? := fun c hc4 => by
      have h1 := flatA_at (enc := cellsA) (size := 4) (fun _ => rfl) ys i c hi hc4
      have h3 : ∃ u, (cellsA ys[i])[c]? = some u := ⟨(cellsA ys[i])[c]'(by simpa [cellsA] using hc4), List.getElem?_eq_getElem _⟩
      obtain ⟨u, hu⟩ := h3
      have h4 := hc (i * 4 + c) u (h1.trans hu)
      rw [Addr.add_lit, Nat.zero_add] at h4
      rw [hu, h4]
    simp only [e, Nat.zero_add]
    exact ⟨hq 0 (by decide), hq 1 (by decide), hq 2 (by decide), hq 3 (by decide)⟩
end Go.Proofs.Ytjdindfjfpdikaa
