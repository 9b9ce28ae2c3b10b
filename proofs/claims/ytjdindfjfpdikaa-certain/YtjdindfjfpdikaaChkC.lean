import Derived.Test.YtjdindfjfpdikaaChkB
import Derived.Laws.CopyOwn
import Derived.OwnWalk
namespace Go.Proofs.Ytjdindfjfpdikaa
open Go.RowKit

theorem infoI : (Try.prog.info? 3).map (fun i => (i.zero, i.size, i.bytes)) = some (some (.int .i64 0), 1, 8) := by kernel_rfl
theorem sizeI : (Try.prog.info? 3).map (·.size) = some 1 := by kernel_rfl

/-- Numbers in a block of their own. -/
def numL (n : Nat) (G : Nat → Int) : List Value := (List.range n).map (fun i => Value.int .i64 (G i))
def Nums (w : World) (g n : Nat) (G : Nat → Int) : Prop := w.heap[g]? = some (.cells (numL n G).toArray 3)
def setN (G : Nat → Int) (k : Nat) (x : Int) : Nat → Int := fun i => if i = k then x else G i

theorem numL_length (n : Nat) (G : Nat → Int) : (numL n G).length = n := by simp [numL]
theorem numL_at {n i : Nat} (G : Nat → Int) (h : i < n) : (numL n G)[i]? = some (.int .i64 (G i)) := by simp [numL, h]
theorem numL_congr {n : Nat} {G H : Nat → Int} (h : ∀ i, i < n → G i = H i) : numL n G = numL n H := by
  unfold numL
  refine List.map_congr_left (fun i hi => ?_)
  rw [h i (List.mem_range.1 hi)]
theorem numL_set (n k : Nat) (G : Nat → Int) (x : Int) : (numL n G).set k (.int .i64 x) = numL n (setN G k x) := by
  refine List.ext_getElem? (fun i => ?_)
  by_cases hi : i < n
  · rw [numL_at _ hi, List.getElem?_set]
    by_cases e : k = i
    · subst e; simp [numL_length, hi, setN]
    · rw [if_neg e, numL_at _ hi]; simp [setN, Ne.symm e]
  · rw [List.getElem?_eq_none (by rw [List.length_set, numL_length]; omega), List.getElem?_eq_none (by rw [numL_length]; omega)]

section
variable {w w' : World} {g n : Nat} {G H : Nat → Int}
theorem Nums.lt (h : Nums w g n G) : g < w.heap.size := (Array.getElem?_eq_some_iff.1 h).1
theorem Nums.cell (h : Nums w g n G) {i : Nat} (hi : i < n) : w.cell? ⟨g, i, none⟩ = some (.int .i64 (G i)) := by rw [at_cells h, List.getElem?_toArray, numL_at G hi]
theorem Nums.frozen (h : Nums w g n G) (i : Nat) : w.frozen? ⟨g, i, none⟩ = false := by unfold Nums at h; simp [World.frozen?, h]
theorem Nums.move (h : Nums w g n G) (hb : w'.heap[g]? = w.heap[g]?) : Nums w' g n G := hb.trans h
theorem Nums.below (h : Nums w g n G) (hb : Below w.heap.size w w') : Nums w' g n G := h.move (hb.block g h.lt)
theorem Nums.congr (h : Nums w g n G) (e : ∀ i, i < n → G i = H i) : Nums w g n H := by unfold Nums at h ⊢; rw [h, numL_congr e]
theorem Nums.set (h : Nums w g n G) (k : Nat) (x : Int) : Nums (w.setCell ⟨g, k, none⟩ (.int .i64 x)) g n (setN G k x) := by
  unfold Nums at h ⊢
  have : (w.setCell ⟨g, k, none⟩ (.int .i64 x)).heap[g]? = some (.cells ((numL n G).toArray.setIfInBounds k (.int .i64 x)) 3) := by
    simp [World.setCell, Array.getElem?_modify, h]
  rw [this, List.setIfInBounds_toArray, numL_set]
theorem Nums.ints (h : Nums w g n G) : Ints w (some ⟨g, 0, none⟩) n G := Or.inr ⟨g, 0, rfl, h.lt, fun i hi => by rw [Nat.zero_add]; exact h.cell hi⟩
theorem nums_made {base : Nat} {v : Value} (h : w.ownsRow base 3 1 v n (madeCells (Value.cells (.int .i64 0)) (n * 1)).toList) (hv : v = .slice (some ⟨g, 0, none⟩) n n) : Nums w g n (fun _ => 0) := by
  obtain ⟨hl, hr⟩ := h
  rcases hr with ⟨e, _⟩ | ⟨g', cap, cur, e, _, hg, _, _, hs, ht⟩
  · rw [e] at hv; cases hv
  · rw [e] at hv
    cases hv
    unfold Nums
    rw [hg]
    congr 2
    have e1 : cur.toList = (madeCells (Value.cells (.int .i64 0)) (n * 1)).toList := by
      rw [← ht]
      exact (List.take_of_length_le (by simp [hs])).symm
    have e2 : cur = (madeCells (Value.cells (.int .i64 0)) (n * 1)) := by
      apply Array.ext'
      exact e1
    rw [e2]
    apply Array.ext'
    refine List.ext_getElem? (fun i => ?_)
    have hlen : (madeCells (Value.cells (.int .i64 0)) (n * 1)).toList.length = n := by rw [← e1]; simpa using hs
    by_cases hi : i < n
    · have : (madeCells (Value.cells (.int .i64 0)) (n * 1)).toList[i]? = some (.int .i64 0) := by
        simp [madeCells, Value.cells, hi, Nat.mod_one]
      rw [this]
      exact (numL_at (fun _ => 0) hi).symm
    · rw [List.getElem?_eq_none (by omega), List.getElem?_eq_none (by simp [numL]; omega)]
end
end Go.Proofs.Ytjdindfjfpdikaa
