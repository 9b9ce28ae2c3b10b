import Derived.Test.YtjdindfjfpdikaaCertB0
namespace Go.Proofs.Ytjdindfjfpdikaa
open Go.RowKit

/-- The arcs are made. -/
structure Hd (w Wa W : World) (p : Option Addr) (len cap N la g ca : Nat) (A : Nat → Ar) (vs : Value) : Prop where
  but : But2 (w.heap.size + 1) (w.heap.size + 2) Wa W
  bel : Below w.heap.size w Wa
  size : w.heap.size + 3 ≤ Wa.heap.size
  far : w.heap.size + 3 ≤ g ∧ g < Wa.heap.size
  res0 : Wa.heap[w.heap.size]? = some (.cells #[.int .i64 0, .slice none 0 0, .slice none 0 0] 40)
  net : W.heap[w.heap.size + 2]? = some (.cells #[.int .i64 N, vs, .slice (some ⟨g, 0, none⟩) la ca] 40)
  dice : DiceAt W (w.heap.size + 1) p len cap
  arcs0 : Arcs Wa (some ⟨g, 0, none⟩) la A

section
variable {w Wa W W' : World} {p : Option Addr} {len cap N la g ca : Nat} {A : Nat → Ar} {vs : Value}
theorem Hd.sz (h : Hd w Wa W p len cap N la g ca A vs) : Wa.heap.size ≤ W.heap.size := h.but.size
theorem Hd.below (h : Hd w Wa W p len cap N la g ca A vs) : Below w.heap.size w W := h.but.below h.bel (by have := h.size; omega) (by omega) (by omega)
theorem Hd.res (h : Hd w Wa W p len cap N la g ca A vs) : W.heap[w.heap.size]? = some (.cells #[.int .i64 0, .slice none 0 0, .slice none 0 0] 40) := (h.but.block _ (by have := h.size; omega) (by omega) (by omega)).trans h.res0
theorem Hd.at (h : Hd w Wa W p len cap N la g ca A vs) {i : Nat} (hi : i < la) : W.cell? ⟨g, i * 4, none⟩ = some (.int .i64 (A i).f) ∧ W.cell? ⟨g, i * 4 + 1, none⟩ = some (.int .i64 (A i).t) ∧ W.cell? ⟨g, i * 4 + 2, none⟩ = some (.int .i64 (A i).c) ∧ W.cell? ⟨g, i * 4 + 3, none⟩ = some (.int .i64 (A i).k) := by
  obtain ⟨sb, off, e, _, h0, h1, h2, h3⟩ := h.arcs0.at hi
  cases e
  have hb := h.but.block g h.far.2 (by have := h.far.1; omega) (by have := h.far.1; omega)
  have mv : ∀ o, W.cell? ⟨g, o, none⟩ = Wa.cell? ⟨g, o, none⟩ := fun o => by simp only [World.cell?, hb]
  simp only [Nat.zero_add] at h0 h1 h2 h3
  exact ⟨(mv _).trans h0, (mv _).trans h1, (mv _).trans h2, (mv _).trans h3⟩
theorem Hd.arcs (h : Hd w Wa W p len cap N la g ca A vs) : Arcs W (some ⟨g, 0, none⟩) la A := Or.inr ⟨g, 0, rfl, Nat.lt_of_lt_of_le h.far.2 h.sz, fun i hi => by simp only [Nat.zero_add]; exact h.at hi⟩
theorem Hd.c0 (h : Hd w Wa W p len cap N la g ca A vs) : W.cell? ⟨w.heap.size + 2, 0, none⟩ = some (.int .i64 N) := by simp [World.cell?, h.net]
theorem Hd.c1 (h : Hd w Wa W p len cap N la g ca A vs) : W.cell? ⟨w.heap.size + 2, 1, none⟩ = some vs := by simp [World.cell?, h.net]
theorem Hd.c2 (h : Hd w Wa W p len cap N la g ca A vs) : W.cell? ⟨w.heap.size + 2, 2, none⟩ = some (.slice (some ⟨g, 0, none⟩) la ca) := by simp [World.cell?, h.net]
theorem Hd.fz (h : Hd w Wa W p len cap N la g ca A vs) (i : Nat) : W.frozen? ⟨w.heap.size + 2, i, none⟩ = false := by simp [World.frozen?, h.net]
theorem Hd.lt (h : Hd w Wa W p len cap N la g ca A vs) : w.heap.size + 2 < W.heap.size := by have := h.size; have := h.sz; omega
theorem Hd.ltg (h : Hd w Wa W p len cap N la g ca A vs) : g < W.heap.size := Nat.lt_of_lt_of_le h.far.2 h.sz
theorem Hd.move (h : Hd w Wa W p len cap N la g ca A vs) (hs : But2 (w.heap.size + 1) (w.heap.size + 2) W W') (hn : W'.heap[w.heap.size + 2]? = W.heap[w.heap.size + 2]?) (hd : DiceAt W' (w.heap.size + 1) p len cap) : Hd w Wa W' p len cap N la g ca A vs :=
  ⟨h.but.trans hs, h.bel, h.size, h.far, h.res0, hn.trans h.net, hd, h.arcs0⟩
theorem Hd.keep (h : Hd w Wa W p len cap N la g ca A vs) (hb : Below Wa.heap.size W W') : Hd w Wa W' p len cap N la g ca A vs := by
  have hsz := h.size
  refine ⟨⟨hb.os.trans h.but.os, hb.tape.trans h.but.tape, hb.output.trans h.but.output, Nat.le_trans h.sz hb.size, fun k hk h1 h2 => (hb.block k hk).trans (h.but.block k hk h1 h2)⟩, h.bel, h.size, h.far, h.res0, (hb.block _ (by omega)).trans h.net, ?_, h.arcs0⟩
  obtain ⟨a, h1, h2⟩ := h.dice
  exact ⟨a, h1, (hb.block _ (by omega)).trans h2⟩
theorem Hd.drew (h : Hd w Wa W p len cap N la g ca A vs) : Hd w Wa W.drew p len cap N la g ca A vs := h.keep (Below.refl _ _).drew
theorem Hd.put (h : Hd w Wa W p len cap N la g ca A vs) {b : Nat} (hb : Wa.heap.size ≤ b) (k : Nat) (v : Value) : Hd w Wa (W.setCell ⟨b, k, none⟩ v) p len cap N la g ca A vs := h.keep ((Below.refl _ _).setCell (p := ⟨b, k, none⟩) hb _)
theorem Hd.grow (h : Hd w Wa W p len cap N la g ca A vs) (hg : W.grownBy W' none) : Hd w Wa W' p len cap N la g ca A vs := h.keep ((Below.refl _ _).grown hg h.sz (fun k e => by cases e))
theorem Hd.set (h : Hd w Wa W p len cap N la g ca A vs) (vs' : Value) : Hd w Wa (W.setCell ⟨w.heap.size + 2, 1, none⟩ vs') p len cap N la g ca A vs' := by
  have mv : ∀ k, k ≠ w.heap.size + 2 → (W.setCell ⟨w.heap.size + 2, 1, none⟩ vs').heap[k]? = W.heap[k]? := fun k hk => Below.heap_setCell W ⟨w.heap.size + 2, 1, none⟩ vs' k (by simpa using hk)
  refine ⟨h.but.trans ⟨rfl, rfl, rfl, by simp, fun k _ _ h2 => mv k h2⟩, h.bel, h.size, h.far, h.res0, ?_, ?_, h.arcs0⟩
  · simp [World.setCell, Array.getElem?_modify, h.net]
  · obtain ⟨a, h1, h2⟩ := h.dice
    exact ⟨a, h1, (mv _ (by omega)).trans h2⟩
theorem Hd.next (h : Hd w Wa W p len cap N la g ca A vs) (n : Int) (hc : ∀ W, Below w.heap.size w W → Codes W (w.heap.size + 1) p len) (hlen : len < 1000000000000000) (h1 : 1 ≤ n) (h2 : n ≤ 1001) :
    Calls Try.prog 39 #[.pointer (some ⟨w.heap.size + 1, 0, none⟩), .int .i64 n] W fun e w' => ∃ v : Int, e = .returned (.int .i64 v) ∧ Hid ((0 ≤ v ∧ v < n) ∧ Hd w Wa w' p len cap N la g ca A vs ∧ Stir (w.heap.size + 1) W w') :=
  (next_any W _ p len cap n h.dice (hc W h.below) hlen h1 h2).mono fun _ _ ⟨v, he, hv⟩ => ⟨v, he, hv.out.1, h.move (But2.of_stir hv.out.2.2) (hv.out.2.2.block _ (by omega)) hv.out.2.1, hv.out.2.2⟩
end

def sup (A : Nat → Ar) (F : Nat → Int) (i v : Nat) : Int := out A F v i - inn A F v i
theorem out_other (A : Nat → Ar) (F : Nat → Int) (v i m : Nat) (x : Int) (h : i ≤ m) : out A (setN F m x) v i = out A F v i := by
  induction i with
  | zero => rfl
  | succ n ih => simp only [out]; rw [ih (by omega)]; simp only [setN, if_neg (show n ≠ m by omega)]
theorem inn_other (A : Nat → Ar) (F : Nat → Int) (v i m : Nat) (x : Int) (h : i ≤ m) : inn A (setN F m x) v i = inn A F v i := by
  induction i with
  | zero => rfl
  | succ n ih => simp only [inn]; rw [ih (by omega)]; simp only [setN, if_neg (show n ≠ m by omega)]
theorem sup_other (A : Nat → Ar) (F : Nat → Int) (v i : Nat) (x : Int) : sup A (setN F i x) i v = sup A F i v := by unfold sup; rw [out_other _ _ _ _ _ _ (Nat.le_refl _), inn_other _ _ _ _ _ _ (Nat.le_refl _)]
theorem sup_succ (A : Nat → Ar) (F : Nat → Int) (i v : Nat) (h0 : 0 ≤ (A i).f) (h1 : 0 ≤ (A i).t) :
    setN (setN (sup A F i) (A i).f.toNat (sup A F i (A i).f.toNat + F i)) (A i).t.toNat (setN (sup A F i) (A i).f.toNat (sup A F i (A i).f.toNat + F i) (A i).t.toNat - F i) v = sup A F (i + 1) v := by
  have e0 : (A i).f = (v : Int) ↔ v = (A i).f.toNat := by omega
  have e1 : (A i).t = (v : Int) ↔ v = (A i).t.toNat := by omega
  simp only [sup, out, inn, e0, e1]
  generalize (A i).f.toNat = f
  generalize (A i).t.toNat = t
  unfold setN
  by_cases ht : v = t
  · subst ht
    rw [if_pos rfl, if_pos rfl]
    by_cases hf : v = f
    · subst hf; rw [if_pos rfl, if_pos rfl]; (try simp only [sup]); omega
    · rw [if_neg hf, if_neg hf]; (try simp only [sup]); omega
  · rw [if_neg ht, if_neg ht]
    by_cases hf : v = f
    · subst hf; rw [if_pos rfl, if_pos rfl]; (try simp only [sup]); omega
    · rw [if_neg hf, if_neg hf]; (try simp only [sup]); omega
theorem sup_bound {A : Nat → Ar} {F : Nat → Int} {i v : Nat} (hi : i ≤ 600) (hF : ∀ m, m < i → 0 ≤ F m ∧ F m ≤ 1000) : -700000 ≤ sup A F i v ∧ sup A F i v ≤ 700000 := by
  have h1 := out_bound (A := A) (v := v) hF
  have h2 := inn_bound (A := A) (v := v) hF
  unfold sup
  omega
end Go.Proofs.Ytjdindfjfpdikaa
