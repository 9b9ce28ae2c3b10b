import Derived.WalkKit
import Derived.Below
import Derived.OrdersHeld
namespace Go.Proofs.Ytjdindfjfpdikab
open Go.RowKit
theorem Ja {α : Type} {xs : Array α} {i : Nat} {b : α} : xs[i]? = some b ↔ ∃ h : i < xs.size, xs[i] = b := Array.getElem?_eq_some_iff
theorem Jb (n : Nat) : n ≤ n := Nat.le_refl n
theorem Jc {a b : Prop} (x : a) (y : b) : a ∧ b := ⟨x, y⟩
theorem Jd (n : Nat) (w : World) : Below n w w := Below.refl n w
theorem Je {α : Type} {a : α} {l : List α} : (a :: l)[0]? = some a := List.getElem?_cons_zero
theorem Jf {α : Type} {a : α} {i : Nat} {l : List α} : (a :: l)[i + 1]? = l[i]? := List.getElem?_cons_succ
theorem Jg {α : Type} {xs : List α} {i : Nat} : xs.toArray[i]? = xs[i]? := List.getElem?_toArray
theorem Jh {α : Type} (xs : List α) (i : Nat) (a : α) : xs.toArray.setIfInBounds i a = (xs.set i a).toArray := List.setIfInBounds_toArray xs i a
theorem Ji {α : Type} {a b : α} {n : Nat} {l : List α} : (a :: l).set (n + 1) b = a :: l.set n b := List.set_cons_succ
theorem Jj {α : Type} {a b : α} {l : List α} : (a :: l).set 0 b = b :: l := List.set_cons_zero
theorem Jk {α : Type} {a : α} (y : α) {l : List α} (h : a ∈ l) : a ∈ y :: l := List.mem_cons_of_mem y h
theorem Jl {α : Type} {l : List α} {n : Nat} (h : n < l.length) : l[n] ∈ l := List.getElem_mem h
theorem Jm {n m k : Nat} (h : n < m) (h' : m ≤ k) : n < k := Nat.lt_of_lt_of_le h h'
theorem Jn (n : Nat) : (n : Int).toNat = n := Int.toNat_natCast n
theorem Jo {α : Type} {a b : List α} : (a ++ b).length = a.length + b.length := List.length_append
theorem Jp {α : Type} {a : α} {l : List α} : a ∈ a :: l := List.mem_cons_self
theorem Jq (n : Nat) : 0 ≤ n := Nat.zero_le n
theorem Jr {a b : Prop} (h : a) : a ∨ b := Or.inl h
theorem Js {a b : Prop} (h : b) : a ∨ b := Or.inr h
theorem Jt {α : Type} {a : α} (s : List α) {t : List α} (h : a ∈ t) : a ∈ s ++ t := List.mem_append_right s h
theorem Ju {α : Type} {a : α} {s : List α} (t : List α) (h : a ∈ s) : a ∈ s ++ t := List.mem_append_left t h
theorem Jv {α β : Type} {l : List α} (f : α → β) : (l.map f).length = l.length := List.length_map f
theorem tkH {P : Program} {ops : Array Oper} {Q : Exit → Act → World → Prop} {md : Region.Mode} {S : World → Prop} {fuel : Nat} {listed : Array Bool} {a : Act} {w : World} {oi : Oper} {v : Value} (i d : Nat) (hS : S w)
    (hy : ∀ w, S w → (execOp a.eval oi).run P w = .ok (.value v) w) (h : wpAnyH P md ops Q S fuel (listed.setIfInBounds i true) (a.put (some d) v) w) (hi : ops[i]? = some oi := by rfl)
    (hs : Region.noSelect ops = true := by kernel_rfl) (hf : Region.free md ops listed i = true := by kernel_rfl) (hr : (Region.ready md ops listed).contains i = true := by kernel_rfl) (hd : oi.dst = some d := by rfl)
    (hw : Region.wanted oi (yielded ops a.tmps) = true := by rfl) (hQ : ∀ c a w, Q (.panic c) (a.put (some d) v) w → Q (.panic c) a w := by exact fun _ _ _ h => h) : wpAnyH P md ops Q S (fuel + 1) listed a w :=
  wpAnyH_take hi hs hf hr (by rw [hd]; exact hQ) (Or.inl ⟨hw, hy⟩) hS (by rw [hd]; exact h)
end Go.Proofs.Ytjdindfjfpdikab
