import Derived.Test.YtjdindfjfpdikaaGreatRefK
namespace Go.Proofs.YtjdindfjfpdikaaGreat
open Go.RowKit

theorem atOf_some {id : Int} {xs : List Th} (h : 0 ≤ atOf id xs) : ∃ k, ∃ hk : k < xs.length, atOf id xs = k ∧ xs[k].1 = id := by
  have key : ∀ (xs : List Th) (i : Nat), 0 ≤ posT id xs i → ∃ k, ∃ hk : k < xs.length, posT id xs i = ((i + k : Nat) : Int) ∧ xs[k].1 = id := by
    intro xs
    induction xs with
    | nil => intro i h; simp [posT] at h
    | cons x r ih =>
      intro i h
      unfold posT at h ⊢
      by_cases hx : x.1 = id
      · exact ⟨0, by simp, by simp [hx], by simpa using hx⟩
      · rw [if_neg hx] at h ⊢
        obtain ⟨k, hk, e, he⟩ := ih (i + 1) h
        exact ⟨k + 1, by simpa using hk, by rw [e]; congr 1; omega, by simpa using he⟩
  obtain ⟨k, hk, e, he⟩ := key xs 0 h
  exact ⟨k, hk, by unfold atOf; rw [e, Nat.zero_add], he⟩

theorem flatT_take (xs : List Th) (k : Nat) (hk : k ≤ xs.length) : (xs.flatMap cellsT).take (k * 3) = (xs.take k).flatMap cellsT := by
  induction xs generalizing k with
  | nil => simp
  | cons x r ih =>
    cases k with
    | zero => simp
    | succ k =>
      rw [List.flatMap_cons, List.take_succ_cons, List.flatMap_cons, List.take_append, show (k + 1) * 3 = k * 3 + 3 by omega]
      have e : (cellsT x).length = 3 := rfl
      rw [List.take_of_length_le (by rw [e]; omega), e, Nat.add_sub_cancel, ih k (by simpa using hk)]
theorem oneT (xs : List Th) : ∀ u ∈ xs.flatMap cellsT, u.oneCell' = true := by
  intro u hu
  obtain ⟨x, _, hx⟩ := List.mem_flatMap.1 hu
  simp [cellsT] at hx
  rcases hx with rfl | rfl | rfl <;> rfl

section
variable {w : World} {rb : Nat} {V : RVs} {x7 x8 x9 x10 x11 : Value} {R : RSt}

/-- The cells of a row of things, from an element on. -/
theorem RowAt.from {g : Nat} {xs : List Th} (hc : ∀ k c, (hk : k < xs.length) → c < 3 → w.cell? ⟨g, k * 3 + c, none⟩ = (cellsT xs[k])[c]? ∧ w.frozen? ⟨g, k * 3 + c, none⟩ = false) (s m : Nat) (hm : s + m ≤ xs.length) :
    ∀ j u, (((xs.drop s).take m).flatMap cellsT)[j]? = some u → w.cell? ((⟨g, s * 3, none⟩ : Addr).add j) = some u := by
  intro j u hu
  have hlen : (((xs.drop s).take m).flatMap cellsT).length = m * 3 := by rw [flatMap_length (enc := cellsT) (size := 3) (fun _ => rfl)]; simp; omega
  have hj : j < m * 3 := by
    rcases Nat.lt_or_ge j (m * 3) with h | h
    · exact h
    · rw [List.getElem?_eq_none (by omega)] at hu; cases hu
  have hq : j / 3 < m := by omega
  have hmod : j % 3 < 3 := Nat.mod_lt _ (by decide)
  have e1 := flatMap_at (enc := cellsT) (size := 3) (fun _ => rfl) ((xs.drop s).take m) (j / 3) (j % 3) (by simp; omega) hmod
  rw [show j / 3 * 3 + j % 3 = j by omega] at e1
  rw [e1] at hu
  have e2 := (hc (s + j / 3) (j % 3) (by omega) hmod).1
  rw [Addr.add_lit, show s * 3 + j = (s + j / 3) * 3 + j % 3 by omega, e2, ← hu]
  simp

/-- One change of the document's plan behind another. -/
theorem rchain {w w1 w2 : World} {rb : Nat} {V V1 V2 : RVs} (h : Only (foot rb V) w w1 ∧ (∀ b ∈ V1.blocks, b ∈ V.blocks ∨ w.heap.size ≤ b)) (k : Only (foot rb V1) w1 w2 ∧ (∀ b ∈ V2.blocks, b ∈ V1.blocks ∨ w1.heap.size ≤ b)) :
    Only (foot rb V) w w2 ∧ (∀ b ∈ V2.blocks, b ∈ V.blocks ∨ w.heap.size ≤ b) := by
  refine ⟨h.1.chain k.1 (fun x hx => ?_), fun b hb => ?_⟩
  · rcases List.mem_cons.1 hx with rfl | hx
    · exact Or.inl List.mem_cons_self
    · exact (h.2 x hx).imp_left (List.mem_cons_of_mem _)
  · rcases k.2 b hb with h1 | h1
    · exact h.2 b h1
    · exact Or.inr (Nat.le_trans h.1.size h1)
end
end Go.Proofs.YtjdindfjfpdikaaGreat
