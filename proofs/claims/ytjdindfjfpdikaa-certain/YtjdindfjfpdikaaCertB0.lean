import Derived.Test.YtjdindfjfpdikaaCertA
import Derived.Test.YtjdindfjfpdikaaChkB
import Derived.Test.YtjdindfjfpdikaaRoom
namespace Go.Proofs.Ytjdindfjfpdikaa
open Go.RowKit

/-- All but two blocks below a bound lie as they lay. -/
structure But2 (a b : Nat) (w w' : World) : Prop where
  os : w'.os = w.os
  tape : w'.tape = w.tape
  output : w'.output = w.output
  size : w.heap.size ≤ w'.heap.size
  block : ∀ k, k < w.heap.size → k ≠ a → k ≠ b → w'.heap[k]? = w.heap[k]?

theorem But2.refl (a b : Nat) (w : World) : But2 a b w w := ⟨rfl, rfl, rfl, Nat.le_refl _, fun _ _ _ _ => rfl⟩
theorem But2.trans {a b : Nat} {w w1 w2 : World} (h : But2 a b w w1) (k : But2 a b w1 w2) : But2 a b w w2 :=
  ⟨k.os.trans h.os, k.tape.trans h.tape, k.output.trans h.output, Nat.le_trans h.size k.size, fun j hj h1 h2 => (k.block j (Nat.lt_of_lt_of_le hj h.size) h1 h2).trans (h.block j hj h1 h2)⟩
theorem But2.of_below {a b : Nat} {w w' : World} (h : Below w.heap.size w w') : But2 a b w w' := ⟨h.os, h.tape, h.output, h.size, fun k hk _ _ => h.block k hk⟩
theorem But2.of_stir {a b : Nat} {w w' : World} (h : Stir a w w') : But2 a b w w' := ⟨h.os, h.tape, h.output, Nat.le_of_eq h.size.symm, fun k _ h1 _ => h.block k h1⟩
theorem But2.below {a b n : Nat} {w0 w w' : World} (hb : Below n w0 w) (h : But2 a b w w') (hn : n ≤ w.heap.size) (ha : n ≤ a) (hc : n ≤ b) : Below n w0 w' :=
  hb.trans ⟨h.os, h.tape, h.output, h.size, fun k hk => h.block k (by omega) (by omega) (by omega)⟩

/-- append, as one step of a region that draws, onto a row that is owned. -/
theorem step_app {P : Program} {ops : Array Oper} {o : Oper} {a : Act} {w : World} {K : Act → World → Prop} {Q : Exit → Act → World → Prop} {E : Prop} (hgd : o.guard = none) (s x : Operand) (t : TypeId)
    (hop : o.op = .call { callee := .builtin .append, args := #[s, x], argTypes := #[t, t] })
    (base : Nat) (e : TypeId) (i : TypeInfo) (z : Value) (size bytes : Nat) (ht : P.underlying t = some (.slice e)) (hi : P.info? e = some i) (hz : i.zero = some z)
    (hsize : i.size = size) (hby : i.bytes = bytes) (hzs : z.cells.size = size) (hsz : 0 < size)
    (v : Value) (n : Nat) (xs : List Value) (hs : a.eval s = v) (hown : w.ownsRow base e size v n xs)
    (ad : Addr) (m c : Nat) (news : List Value) (hx : a.eval x = .slice (some ad) m c) (hl : news.length = m * size) (hnews : ∀ j u, news[j]? = some u → w.cell? (ad.add j) = some u) (h1 : ∀ u ∈ news, u.oneCell' = true)
    (h63 : n + m ≤ maxLen) (hbytes : (n + m) * bytes ≤ 140737488355328) (hbase : base ≤ w.heap.size)
    (h : ∀ v' w', w'.ownsRow base e size v' (n + m) (xs ++ news) → w.grownBy w' v.ownBlock → (v'.ownBlock = v.ownBlock ∨ v'.ownBlock = some w.heap.size) → K (a.put o.dst v') w') :
    if Region.wanted o (yielded ops a.tmps) = true then Oper.wp P o a w K Q else E := by
  have hw : Region.wanted o (yielded ops a.tmps) = true := by simp [Region.wanted, hgd]
  rw [if_pos hw]
  obtain ⟨v', w', hr, h2, h3, _, h5⟩ := run_append_own_at (P := P) w base t o.type e i z size bytes ht hi hz hsize hby hzs hsz v n xs hown ad m c news hl hnews h1 h63 hbytes hbase
  unfold Oper.wp execOp
  simp only [hop, resolve, invoke, builtin, Sem.run_bind, Sem.run_pure, Result.andThen_ok, List.map_toArray, List.map_cons, List.map_nil, hs, hx, hr]
  exact h v' w' h2 h3 h5

theorem new4 (w : World) (x y z u : Value) (t : TypeId) : ∀ (j : Nat) (q : Value), [x, y, z, u][j]? = some q → (w.alloc (.cells #[x, y, z, u] t)).cell? ((⟨w.heap.size, 0, none⟩ : Addr).add j) = some q := by
  intro j q hj
  rw [Addr.add_lit, Nat.zero_add]
  simp only [World.cell?, heap_alloc_new]
  simpa using hj

/-- The first part of a network that is being made. -/
structure Gd (w W : World) (p : Option Addr) (len cap N : Nat) (va : Value) (ys : List Ar) : Prop where
  below : Below w.heap.size w W
  size : w.heap.size + 3 ≤ W.heap.size
  res : W.heap[w.heap.size]? = some (.cells #[.int .i64 0, .slice none 0 0, .slice none 0 0] 40)
  net : W.heap[w.heap.size + 2]? = some (.cells #[.int .i64 N, .slice none 0 0, va] 40)
  dice : DiceAt W (w.heap.size + 1) p len cap
  row : W.ownsRow 0 37 4 va ys.length (ys.flatMap cellsA)
  far : ∀ g, va.ownBlock = some g → w.heap.size + 3 ≤ g
  small : ∀ a ∈ ys, Small1 N a

section
variable {w W W' : World} {p : Option Addr} {len cap N : Nat} {va : Value} {ys : List Ar}
theorem Gd.stir (h : Gd w W p len cap N va ys) (hs : Stir (w.heap.size + 1) W W') (hd : DiceAt W' (w.heap.size + 1) p len cap) : Gd w W' p len cap N va ys := by
  refine ⟨Stir.below h.below hs (by omega), by rw [hs.size]; exact h.size, (hs.block _ (by omega)).trans h.res, (hs.block _ (by omega)).trans h.net, hd, ?_, h.far, h.small⟩
  refine World.ownsRow.kept h.row (row := some (w.heap.size + 1)) ⟨hs.os, hs.tape, hs.output, Nat.le_of_eq hs.size.symm, fun k _ hk => hs.block k (fun e => hk (by rw [e]))⟩ ?_
  cases hv : va.ownBlock with
  | none => exact Or.inl rfl
  | some g => right; intro e; cases e; have := h.far _ hv; omega
theorem Gd.c0 (h : Gd w W p len cap N va ys) : W.cell? ⟨w.heap.size + 2, 0, none⟩ = some (.int .i64 N) := by simp [World.cell?, h.net]
theorem Gd.c2 (h : Gd w W p len cap N va ys) : W.cell? ⟨w.heap.size + 2, 2, none⟩ = some va := by simp [World.cell?, h.net]
theorem Gd.lt (h : Gd w W p len cap N va ys) : w.heap.size + 2 < W.heap.size := by have := h.size; omega
theorem Gd.drew (h : Gd w W p len cap N va ys) : Gd w W.drew p len cap N va ys := ⟨h.below.drew, h.size, h.res, h.net, h.dice, h.row, h.far, h.small⟩
theorem Gd.next (h : Gd w W p len cap N va ys) (n : Int) (hc : ∀ W, Below w.heap.size w W → Codes W (w.heap.size + 1) p len) (hlen : len < 1000000000000000) (h1 : 1 ≤ n) (h2 : n ≤ 1001) :
    Calls Try.prog 39 #[.pointer (some ⟨w.heap.size + 1, 0, none⟩), .int .i64 n] W fun e w' => ∃ v : Int, e = .returned (.int .i64 v) ∧ Hid ((0 ≤ v ∧ v < n) ∧ Gd w w' p len cap N va ys) :=
  (next_any W _ p len cap n h.dice (hc W h.below) hlen h1 h2).mono fun _ _ ⟨v, he, hv⟩ => ⟨v, he, hv.out.1, h.stir hv.out.2.2 hv.out.2.1⟩
theorem Gd.rowAlloc (h : Gd w W p len cap N va ys) (o : Obj) : (W.alloc o).ownsRow 0 37 4 va ys.length (ys.flatMap cellsA) := by
  refine World.ownsRow.kept h.row (World.grownBy_alloc W o none) ?_
  cases va.ownBlock <;> simp
/-- An arc more. -/
theorem Gd.more (h : Gd w W p len cap N va ys) {o : Obj} {u : Value} {w5 : World} {x1 x2 x3 x4 : Int} (hrow : w5.ownsRow 0 37 4 u (ys.length + 1) (ys.flatMap cellsA ++ [.int .i64 x1, .int .i64 x2, .int .i64 x3, .int .i64 x4])) (hg : (W.alloc o).grownBy w5 va.ownBlock) (hl : u.ownBlock = va.ownBlock ∨ u.ownBlock = some (W.alloc o).heap.size)
    (hs : Small1 N ⟨x1, x2, x3, x4⟩) : Gd w (w5.setCell ⟨w.heap.size + 2, 2, none⟩ u) p len cap N u (ys ++ [⟨x1, x2, x3, x4⟩]) := by
  have hsz := h.size
  have hba : Below W.heap.size W (W.alloc o) := (Below.refl _ _).alloc (Nat.le_refl _) _
  have hfar : ∀ g, va.ownBlock = some g → w.heap.size + 3 ≤ g := h.far
  have hne : ∀ k, k < w.heap.size + 3 → some k ≠ va.ownBlock := fun k hk e => by have := hfar k e.symm; omega
  have mv : ∀ k, k < w.heap.size + 3 → w5.heap[k]? = W.heap[k]? := fun k hk => (hg.block k (by simp; omega) (hne k hk)).trans (hba.block k (by omega))
  have mv2 : ∀ k, k < w.heap.size + 2 → (w5.setCell ⟨w.heap.size + 2, 2, none⟩ u).heap[k]? = W.heap[k]? := fun k hk => (Below.heap_setCell w5 ⟨w.heap.size + 2, 2, none⟩ u k (by simp; omega)).trans (mv k (by omega))
  have hsz5 : (W.alloc o).heap.size ≤ w5.heap.size := hg.size
  have hub : ∀ g, u.ownBlock = some g → w.heap.size + 3 ≤ g := fun g e => by
    rcases hl with h1 | h1
    · exact hfar g (h1 ▸ e)
    · rw [h1] at e; cases e; simp; omega
  refine ⟨?_, ?_, (mv2 _ (by omega)).trans h.res, ?_, ?_, ?_, hub, fun a ha => ?_⟩
  · refine Below.trans h.below ⟨?_, ?_, ?_, ?_, fun k hk => mv2 k (by omega)⟩
    · exact hg.os.trans hba.os
    · exact hg.tape.trans hba.tape
    · exact hg.output.trans hba.output
    · simp only [World.size_setCell]; simp at hsz5; omega
  · simp only [World.size_setCell]; simp at hsz5; omega
  · have := (mv _ (by omega)).trans h.net
    simp [World.setCell, Array.getElem?_modify, this]
  · obtain ⟨a, h1, h2⟩ := h.dice
    exact ⟨a, h1, (mv2 _ (by omega)).trans h2⟩
  · have e : (ys ++ [(⟨x1, x2, x3, x4⟩ : Ar)]).flatMap cellsA = ys.flatMap cellsA ++ [.int .i64 x1, .int .i64 x2, .int .i64 x3, .int .i64 x4] := by simp [cellsA]
    rw [e, List.length_append]
    refine World.ownsRow.kept hrow (row := some (w.heap.size + 2)) ⟨rfl, rfl, rfl, by simp, fun k _ hk => Below.heap_setCell w5 ⟨w.heap.size + 2, 2, none⟩ u k (fun e => hk (by simpa using e))⟩ ?_
    cases hv : u.ownBlock with
    | none => exact Or.inl rfl
    | some g => right; intro e; cases e; have := hub _ hv; omega
  · rcases List.mem_append.1 ha with ha | ha
    · exact h.small a ha
    · rw [List.mem_singleton.1 ha]; exact hs
end

end Go.Proofs.Ytjdindfjfpdikaa
