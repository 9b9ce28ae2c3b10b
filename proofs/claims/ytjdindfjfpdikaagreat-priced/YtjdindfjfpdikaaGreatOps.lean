import Derived.Test.YtjdindfjfpdikaaGreatLawF
import Derived.Deep.Slices
import Derived.KernelRfl
namespace Go.Proofs.YtjdindfjfpdikaaGreat
open Go.RowKit Go.ChangeShapes Go.WideShapes

theorem cells70 : Tryz.prog.cellsOf 37 = 11 := by kernel_rfl
theorem cells68 : Tryz.prog.cellsOf 35 = 3 := by kernel_rfl
theorem cells3' : Tryz.prog.cellsOf 3 = 1 := by kernel_rfl
theorem cells38 : Tryz.prog.cellsOf 32 = 1 := by kernel_rfl
theorem cells66 : Tryz.prog.cellsOf 33 = 1 := by kernel_rfl
theorem bytes70 : Tryz.prog.bytesOf 37 = 152 := by kernel_rfl

theorem cell_lt {w : World} {a : Addr} {v : Value} (h : w.cell? a = some v) : a.block < w.heap.size := by
  rcases Nat.lt_or_ge a.block w.heap.size with hl | hl
  · exact hl
  · have : w.heap[a.block]? = none := by simp [hl]
    simp [World.cell?, this] at h

section
variable {H : Type} {enc : TypeId × Value → H} {w : World} {base : Nat} {spare : Nat → Bool} {held : Bool}

theorem slice_cell {t e : TypeId} {fuel : Nat} {v : Value} {x : DataW H × List MemPlace} (ht : Tryz.prog.underlying t = some (.slice e)) (h : DataW.trod enc Tryz.prog w base spare held fuel t [v] = some x) : ∃ p l z, v = .slice p l z := by
  rcases Deep.open_slice ht h with ⟨hcs, _⟩ | ⟨a, len, cap, _, _, _, _, hcs, _⟩
  · exact ⟨none, 0, 0, by simpa using hcs⟩
  · exact ⟨some a, len, cap, by simpa using hcs⟩

theorem int_cell {fuel : Nat} {v : Value} {x : DataW H × List MemPlace} (h : DataW.trod enc Tryz.prog w base spare held fuel 3 [v] = some x) : ∃ n, v = .int .i64 n := by
  obtain ⟨n, hcs, _⟩ := DataW.trod_int Tryz.underlying3 h
  exact ⟨n, by simpa using hcs⟩

theorem some_of {α : Type} {xs : List α} {n i : Nat} (h : xs.length = n) (hi : i < n) : ∃ x, xs[i]? = some x := ⟨xs[i], List.getElem?_eq_getElem (by omega)⟩

theorem op_cells {fuel : Nat} {v0 v1 v2 v3 v4 v5 v6 v7 v8 v9 v10 : Value} {x : DataW H × List MemPlace} (h : DataW.trod enc Tryz.prog w base spare held fuel 37 [v0, v1, v2, v3, v4, v5, v6, v7, v8, v9, v10] = some x) :
    ∃ (k m a b c d n6 : Int) (p7 p8 p9 p10 : Option Addr) (l7 l8 l9 l10 z7 z8 z9 z10 : Nat), v0 = .int .i64 k ∧ v1 = .int .i64 m ∧ v2 = .int .i64 a ∧ v3 = .int .i64 b ∧ v4 = .int .i64 c ∧ v5 = .int .i64 d ∧ v6 = .int .i64 n6 ∧ v7 = .slice p7 l7 z7 ∧ v8 = .slice p8 l8 z8 ∧ v9 = .slice p9 l9 z9 ∧ v10 = .slice p10 l10 z10 := by
  obtain ⟨xs, n, _, _, _, hxl, hf⟩ := DataW.trod_struct Tryz.underlying37 h
  have hxl' : xs.length = 9 := hxl
  have g0 : DataW.trod enc Tryz.prog w base spare held n 3 [v0] = xs[0]? := by have := hf 0 _ rfl; simpa [cells3'] using this
  have g1 : DataW.trod enc Tryz.prog w base spare held n 3 [v1] = xs[1]? := by have := hf 1 _ rfl; simpa [cells3'] using this
  have g2 : DataW.trod enc Tryz.prog w base spare held n 3 [v2] = xs[2]? := by have := hf 2 _ rfl; simpa [cells3'] using this
  have g3 : DataW.trod enc Tryz.prog w base spare held n 3 [v3] = xs[3]? := by have := hf 3 _ rfl; simpa [cells3'] using this
  have g4 : DataW.trod enc Tryz.prog w base spare held n 3 [v4] = xs[4]? := by have := hf 4 _ rfl; simpa [cells3'] using this
  have g5 : DataW.trod enc Tryz.prog w base spare held n 3 [v5] = xs[5]? := by have := hf 5 _ rfl; simpa [cells3'] using this
  have g6 : DataW.trod enc Tryz.prog w base spare held n 35 [v6, v7, v8] = xs[6]? := by have := hf 6 _ rfl; simpa [cells68] using this
  have g7 : DataW.trod enc Tryz.prog w base spare held n 32 [v9] = xs[7]? := by have := hf 7 _ rfl; simpa [cells38] using this
  have g8 : DataW.trod enc Tryz.prog w base spare held n 32 [v10] = xs[8]? := by have := hf 8 _ rfl; simpa [cells38] using this
  obtain ⟨x0, e0⟩ := some_of hxl' (show 0 < 9 by decide)
  obtain ⟨x1, e1⟩ := some_of hxl' (show 1 < 9 by decide)
  obtain ⟨x2, e2⟩ := some_of hxl' (show 2 < 9 by decide)
  obtain ⟨x3, e3⟩ := some_of hxl' (show 3 < 9 by decide)
  obtain ⟨x4, e4⟩ := some_of hxl' (show 4 < 9 by decide)
  obtain ⟨x5, e5⟩ := some_of hxl' (show 5 < 9 by decide)
  obtain ⟨x6, e6⟩ := some_of hxl' (show 6 < 9 by decide)
  obtain ⟨x7, e7⟩ := some_of hxl' (show 7 < 9 by decide)
  obtain ⟨x8, e8⟩ := some_of hxl' (show 8 < 9 by decide)
  rw [e0] at g0
  rw [e1] at g1
  rw [e2] at g2
  rw [e3] at g3
  rw [e4] at g4
  rw [e5] at g5
  rw [e6] at g6
  rw [e7] at g7
  rw [e8] at g8
  obtain ⟨k, hk⟩ := int_cell (v := v0) g0
  obtain ⟨m, hm⟩ := int_cell (v := v1) g1
  obtain ⟨a, ha⟩ := int_cell (v := v2) g2
  obtain ⟨b, hb⟩ := int_cell (v := v3) g3
  obtain ⟨c, hc⟩ := int_cell (v := v4) g4
  obtain ⟨d, hd⟩ := int_cell (v := v5) g5
  obtain ⟨p9, l9, z9, h9⟩ := slice_cell (v := v9) Tryz.underlying32 g7
  obtain ⟨p10, l10, z10, h10⟩ := slice_cell (v := v10) Tryz.underlying32 g8
  obtain ⟨ys, n', _, _, _, hyl, hy⟩ := DataW.trod_struct (cs := [v6, v7, v8]) Tryz.underlying35 g6
  have hyl' : ys.length = 3 := hyl
  have i0 : DataW.trod enc Tryz.prog w base spare held n' 3 [v6] = ys[0]? := by have := hy 0 _ rfl; simpa [cells3'] using this
  have i1 : DataW.trod enc Tryz.prog w base spare held n' 32 [v7] = ys[1]? := by have := hy 1 _ rfl; simpa [cells38] using this
  have i2 : DataW.trod enc Tryz.prog w base spare held n' 33 [v8] = ys[2]? := by have := hy 2 _ rfl; simpa [cells66] using this
  obtain ⟨y0, f0⟩ := some_of hyl' (show 0 < 3 by decide)
  obtain ⟨y1, f1⟩ := some_of hyl' (show 1 < 3 by decide)
  obtain ⟨y2, f2⟩ := some_of hyl' (show 2 < 3 by decide)
  rw [f0] at i0
  rw [f1] at i1
  rw [f2] at i2
  obtain ⟨n6, h6⟩ := int_cell (v := v6) i0
  obtain ⟨p7, l7, z7, h7⟩ := slice_cell (v := v7) Tryz.underlying32 i1
  obtain ⟨p8, l8, z8, h8⟩ := slice_cell (v := v8) Tryz.underlying33 i2
  exact ⟨k, m, a, b, c, d, n6, p7, p8, p9, p10, l7, l8, l9, l10, z7, z8, z9, z10, hk, hm, ha, hb, hc, hd, h6, h7, h8, h9, h10⟩

/-- The script, opened. -/
theorem isOps_of {fuel : Nat} {p : Option Addr} {len cap : Nat} {x : DataW H × List MemPlace} (h : DataW.trod enc Tryz.prog w base spare held fuel 22 [.slice p len cap] = some x) :
    IsOps w p len ∧ (x.1 = .nil ∨ ∃ es sp, x.1 = .slice es sp ∧ es.length = len) := by
  rcases Deep.open_slice Tryz.underlying22 h with ⟨hcs, hx⟩ | ⟨a, len', cap', m, n, D, Pl, hcs, _, hl, _, hm, hx, hc⟩
  · simp at hcs
    obtain ⟨rfl, rfl, rfl⟩ := hcs
    exact ⟨Or.inl rfl, Or.inl (by rw [hx])⟩
  · simp at hcs
    obtain ⟨rfl, rfl, rfl⟩ := hcs
    refine ⟨?_, Or.inr ⟨_, _, by rw [hx], by simp⟩⟩
    have hlm : len ≤ m := by rw [hm]; split <;> omega
    by_cases h0 : len = 0
    · exact Or.inl h0
    right
    rw [cells70] at hc
    have hcell : ∀ i, i < len → ∃ (k m a' b c d n6 : Int) (p7 p8 p9 p10 : Option Addr) (l7 l8 l9 l10 z7 z8 z9 z10 : Nat), (w.cell? ((a.add (i * 11)).add 0) = some (.int .i64 k) ∧ w.cell? ((a.add (i * 11)).add 1) = some (.int .i64 m) ∧ w.cell? ((a.add (i * 11)).add 2) = some (.int .i64 a') ∧ w.cell? ((a.add (i * 11)).add 3) = some (.int .i64 b) ∧ w.cell? ((a.add (i * 11)).add 4) = some (.int .i64 c) ∧ w.cell? ((a.add (i * 11)).add 5) = some (.int .i64 d) ∧ w.cell? ((a.add (i * 11)).add 6) = some (.int .i64 n6) ∧ w.cell? ((a.add (i * 11)).add 7) = some (.slice p7 l7 z7) ∧ w.cell? ((a.add (i * 11)).add 8) = some (.slice p8 l8 z8) ∧ w.cell? ((a.add (i * 11)).add 9) = some (.slice p9 l9 z9) ∧ w.cell? ((a.add (i * 11)).add 10) = some (.slice p10 l10 z10)) := by
      intro i hi
      obtain ⟨cs', h1, h2⟩ := hc i (by omega)
      obtain ⟨_, hlen, hcell⟩ := World.cells?_some h1
      match cs', hlen with
      | [v0, v1, v2, v3, v4, v5, v6, v7, v8, v9, v10], _ =>
        obtain ⟨k, m, a', b, c, d, n6, p7, p8, p9, p10, l7, l8, l9, l10, z7, z8, z9, z10, rfl, rfl, rfl, rfl, rfl, rfl, rfl, rfl, rfl, rfl, rfl⟩ := op_cells h2
        exact ⟨k, m, a', b, c, d, n6, p7, p8, p9, p10, l7, l8, l9, l10, z7, z8, z9, z10, hcell 0 (by decide), hcell 1 (by decide), hcell 2 (by decide), hcell 3 (by decide), hcell 4 (by decide), hcell 5 (by decide), hcell 6 (by decide), hcell 7 (by decide), hcell 8 (by decide), hcell 9 (by decide), hcell 10 (by decide)⟩
    obtain ⟨sb, off, spot⟩ := a
    obtain ⟨k, _, _, _, _, _, _, _, _, _, _, _, _, _, _, _, _, _, _, hq, _⟩ := hcell 0 (by omega)
    have hs := World.cell?_spot hq
    have hlt := cell_lt hq
    have hspot : spot = none := by simpa [Addr.add] using hs
    subst hspot
    refine ⟨sb, off, rfl, by simpa [Addr.add] using hlt, fun i hi => ?_⟩
    obtain ⟨k, m, a', b, c, d, n6, p7, p8, p9, p10, l7, l8, l9, l10, z7, z8, z9, z10, hh⟩ := hcell i hi
    refine ⟨k, m, a', b, c, d, n6, p7, p8, p9, p10, l7, l8, l9, l10, z7, z8, z9, z10, ?_⟩
    simpa only [Addr.add_lit, Nat.add_zero] using hh
end
end Go.Proofs.YtjdindfjfpdikaaGreat
