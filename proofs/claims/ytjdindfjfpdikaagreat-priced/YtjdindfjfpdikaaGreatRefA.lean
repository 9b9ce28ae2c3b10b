import Derived.Test.YtjdindfjfpdikaaGreatProg
import Derived.Test.YtjdindfjfpdikaaGreatMake
import Derived.Below
import Derived.Deep.LoopGhost
import Derived.BigRegion
import Derived.BigQuiet
import Derived.Deep.QuietTactic
namespace Go.Proofs.YtjdindfjfpdikaaGreat
open Go.RowKit

/-! The document's own plan: lists. -/
abbrev Th := Int × Int × Int
abbrev Wi := Int × Int × Int × Int

def cellsT (x : Th) : List Value := [.int .i64 x.1, .int .i64 x.2.1, .int .i64 x.2.2]
def cellsW (x : Wi) : List Value := [.int .i64 x.1, .int .i64 x.2.1, .int .i64 x.2.2.1, .int .i64 x.2.2.2]
def cellsI (x : Int) : List Value := [.int .i64 x]

/-- A slice of elements that are written by enc, each of size cells. -/
def RowAt {α : Type} (w : World) (e size : Nat) (enc : α → List Value) (v : Value) (xs : List α) : Prop := w.ownsRow 0 e size v xs.length (xs.flatMap enc)

theorem flatMap_at {α : Type} {enc : α → List Value} {size : Nat} (hs : ∀ x, (enc x).length = size) : ∀ (xs : List α) (k c : Nat) (hk : k < xs.length), c < size → (xs.flatMap enc)[k * size + c]? = (enc xs[k])[c]?
  | [], _, _, hk, _ => by simp at hk
  | x :: xs, 0, c, _, hc => by
    rw [List.flatMap_cons, List.getElem?_append_left (by rw [hs]; omega)]
    simp
  | x :: xs, k + 1, c, hk, hc => by
    have ih := flatMap_at hs xs k c (by simpa using hk) hc
    rw [List.flatMap_cons, List.getElem?_append_right (by rw [hs, Nat.add_mul]; omega), hs]
    rw [show (k + 1) * size + c - size = k * size + c by rw [Nat.add_mul]; omega, ih]
    simp

theorem flatMap_length {α : Type} {enc : α → List Value} {size : Nat} (hs : ∀ x, (enc x).length = size) (xs : List α) : (xs.flatMap enc).length = xs.length * size := by
  induction xs with
  | nil => simp
  | cons x xs ih => rw [List.flatMap_cons, List.length_append, ih, hs, List.length_cons, Nat.add_mul]; omega

/-- A slice is nil, or leads to a row. -/
theorem RowAt.shape {α : Type} {w : World} {e size : Nat} {enc : α → List Value} {v : Value} {xs : List α} (h : RowAt w e size enc v xs) (hs : ∀ x, (enc x).length = size) :
    (v = .slice none 0 0 ∧ xs = []) ∨ ∃ g cap cur, v = .slice (some ⟨g, 0, none⟩) xs.length cap ∧ w.heap[g]? = some (.cells cur e) ∧ g < w.heap.size ∧ xs.length ≤ cap ∧ cap ≤ maxLen ∧
      ∀ k c, (hk : k < xs.length) → c < size → w.cell? ⟨g, k * size + c, none⟩ = (enc xs[k])[c]? ∧ w.frozen? ⟨g, k * size + c, none⟩ = false := by
  rcases h.2 with ⟨rfl, h0⟩ | ⟨g, cap, cur, rfl, _, hg, h1, h2, h3, h4⟩
  · exact Or.inl ⟨rfl, List.eq_nil_of_length_eq_zero h0⟩
  · refine Or.inr ⟨g, cap, cur, rfl, hg, (Array.getElem?_eq_some_iff.1 hg).1, h1, h2, fun k c hk hc => ⟨?_, by simp [World.frozen?, hg]⟩⟩
    have e1 := flatMap_at hs xs k c hk hc
    have hlt : k * size + c < xs.length * size := by
      have : (k + 1) * size ≤ xs.length * size := Nat.mul_le_mul_right size hk
      rw [Nat.add_mul] at this
      omega
    rw [← h4, List.getElem?_take_of_lt hlt, Array.getElem?_toList] at e1
    simp [World.cell?, hg, e1]

/-- The place of a thing. -/
def posT (id : Int) : List Th → Nat → Int
  | [], _ => -1
  | x :: r, i => if x.1 = id then (i : Int) else posT id r (i + 1)
def atOf (id : Int) (xs : List Th) : Int := posT id xs 0

theorem posT_skip (id : Int) : ∀ (xs : List Th) (i k : Nat), k ≤ xs.length → (∀ j, (hj : j < xs.length) → j < k → xs[j].1 ≠ id) → posT id xs i = posT id (xs.drop k) (i + k)
  | xs, i, 0, _, _ => by simp
  | [], i, k + 1, hk, _ => by simp at hk
  | x :: xs, i, k + 1, hk, h => by
    have h0 := h 0 (by simp) (by omega)
    have ih := posT_skip id xs (i + 1) k (by simpa using hk) (fun j hj hjk => by have := h (j + 1) (by simpa using hj) (by omega); simpa using this)
    simp at h0
    rw [posT, if_neg h0, ih, List.drop_succ_cons]
    congr 1
    omega

theorem atOf_found {id : Int} {xs : List Th} {k : Nat} (hk : k < xs.length) (h : ∀ j, (hj : j < xs.length) → j < k → xs[j].1 ≠ id) (he : xs[k].1 = id) : atOf id xs = k := by
  unfold atOf
  rw [posT_skip id xs 0 k (by omega) h, List.drop_eq_getElem_cons hk, posT, if_pos he]
  simp
theorem atOf_none {id : Int} {xs : List Th} (h : ∀ j, (hj : j < xs.length) → xs[j].1 ≠ id) : atOf id xs = -1 := by
  unfold atOf
  rw [posT_skip id xs 0 xs.length (Nat.le_refl _) (fun j hj _ => h j hj)]
  simp [posT]

set_option maxRecDepth 100000 in
set_option maxHeartbeats 4000000 in
/-- 'p.at(kind, id)'. -/
theorem at_any (w : World) (rb : Nat) (k : Int) (v : Value) (xs : List Th) (id : Int) (hk : 0 ≤ k ∧ k ≤ 3) (c0 : w.cell? ⟨rb, k.toNat, none⟩ = some v) (h : RowAt w 76 3 cellsT v xs) (hlen : xs.length ≤ 1000) :
    Calls Tryz.prog 62 #[.pointer (some ⟨rb, 0, none⟩), .int .i64 k, .int .i64 id] w fun e w' => e = .returned (.int .i64 (atOf id xs)) ∧ w' = w := by
  rcases h.shape (fun _ => rfl) with ⟨rfl, rfl⟩ | ⟨g, cap, cur, rfl, hg, hgl, h1, h2, hc⟩
  · have Hf := hid (show atOf id [] = -1 from rfl)
    obtain rfl | rfl | rfl | rfl : k = 0 ∨ k = 1 ∨ k = 2 ∨ k = 3 := by omega
    all_goals
      simp only [Int.toNat_zero, Int.reduceToNat] at c0
      go_enter Tryz.func62, Tryz.ntmps62
      go_wp2_with fail
      refine wp_loop_rounds 1 ?_
      rw [rounds_succ]
      go_wp2
      go_ret
      exact ⟨rfl, rfl⟩
  · have Hc := hid hc
    clear hc h hg
    obtain rfl | rfl | rfl | rfl : k = 0 ∨ k = 1 ∨ k = 2 ∨ k = 3 := by omega
    all_goals
      simp only [Int.toNat_zero, Int.reduceToNat] at c0
      go_enter Tryz.func62, Tryz.ntmps62
      go_wp2_with fail
      go_loop [7] (fun i => ∃ k : Nat, k ≤ xs.length ∧ i = .int .i64 k ∧ Hid (∀ j, (hj : j < xs.length) → j < k → xs[j].1 ≠ id)) (fun i => xs.length - (intOf i).toNat)
      case atStart => exact ⟨0, Nat.zero_le _, rfl, fun j _ hj => by omega⟩
      case round =>
        obtain ⟨k, hk', rfl, hno⟩ := hrel
        by_cases hlt : k < xs.length
        · have q0 := (Hc.out k 0 hlt (by decide)).1
          simp only [cellsT, List.getElem?_cons_zero, Nat.add_zero] at q0
          have hltI : (k : Int) < (xs.length : Int) := by omega
          by_cases he : xs[k].1 = id
          · have Hf := hid (atOf_found hlt hno.out he)
            rw [he] at q0
            clear he
            go_wp2
            go_ret
            exact ⟨ret_int Hf.out.symm, rfl⟩
          · have hno' : Hid (∀ j, (hj : j < xs.length) → j < k + 1 → xs[j].1 ≠ id) := fun j hj hjk => by
              by_cases hjk' : j < k
              · exact hno.out j hj hjk'
              · obtain rfl : j = k := by omega
                exact he
            have heb : (xs[k].1 == id) = false := by simpa using he
            clear he
            go_wp2
            go_round
            case rel => exact ⟨k + 1, by omega, by go_num, hno'⟩
            case measure => simp [intOf]; omega
        · have Hf := hid (atOf_none (fun j hj => hno.out j hj (by omega)))
          go_wp2
          go_ret
          exact ⟨ret_int Hf.out.symm, rfl⟩
end Go.Proofs.YtjdindfjfpdikaaGreat
