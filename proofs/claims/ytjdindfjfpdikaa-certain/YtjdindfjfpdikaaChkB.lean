import Derived.Test.YtjdindfjfpdikaaChkA
namespace Go.Proofs.Ytjdindfjfpdikaa
open Go.RowKit

theorem beyond {w w1 w2 : World} (h1 : Below w.heap.size w w1) (h2 : Below w1.heap.size w1 w2) : Below w.heap.size w w2 := h1.trans (h2.mono h1.size)
theorem bigger {n : Nat} {w w1 w2 : World} (h1 : Below n w w1) (hn : n ≤ w.heap.size) (h2 : Below w1.heap.size w1 w2) : Below n w w2 := h1.trans (h2.mono (Nat.le_trans hn h1.size))
theorem at_cells {w : World} {b : Nat} {cs : Array Value} {t : TypeId} (h : w.heap[b]? = some (.cells cs t)) (i : Nat) : w.cell? ⟨b, i, none⟩ = cs[i]? := by simp [World.cell?, h]
theorem at_new {w w' : World} {o : Obj} (hb : Below (w.alloc o).heap.size (w.alloc o) w') : w'.heap[w.heap.size]? = some o := by
  rw [hb.block _ (by simp)]
  exact heap_alloc_new w o

set_option maxRecDepth 100000 in
set_option maxHeartbeats 8000000 in
/-- 'mayBe(n)'. -/
theorem mayBe_any (w : World) (N : Int) (p q : Option Addr) (ls cs la ca : Nat) (S : Nat → Int) (A : Nat → Ar) (hS : Ints w p ls S) (hA : Arcs w q la A) :
    Calls Try.prog 51 #[.agg #[.int .i64 N, .slice p ls cs, .slice q la ca]] w fun e w' => Ans e (NetOk N ls S la A) ∧ Below w.heap.size w w' := by
  have hbw : Below w.heap.size w (w.alloc (.cells #[.int .i64 N, .slice p ls cs, .slice q la ca] 40)) := (Below.refl _ _).alloc (Nat.le_refl _) _
  by_cases hN : 0 ≤ N ∧ N ≤ 60
  case neg =>
    have d0 : inB 0 60 N = false := by rw [Bool.eq_false_iff]; exact fun q => hN (inB_iff.1 q)
    have H := veil hN
    clear hN
    go_enter Try.func51, Try.ntmps51
    go_wp2_with fail
    refine (within_any _ _ _ _).mono ?_
    rintro e w' ⟨rfl, rfl⟩
    rw [d0]
    go_wp2_with fail
    go_ret
    exact ⟨⟨_, rfl, ⟨(fun h => by cases h), fun h => absurd h.1 H.out⟩⟩, hbw⟩
  have d0 : inB 0 60 N = true := inB_iff.2 hN
  by_cases hl : (ls : Int) = N
  case neg =>
    have dl : ((ls : Int) == N) = false := by simpa using hl
    have H := veil hl
    clear hN hl
    go_enter Try.func51, Try.ntmps51
    go_wp2_with fail
    refine (within_any _ _ _ _).mono ?_
    rintro e w' ⟨rfl, rfl⟩
    rw [d0]
    go_wp2_with fail
    go_ret
    exact ⟨⟨_, rfl, ⟨(fun h => by cases h), fun h => absurd h.2.1 H.out⟩⟩, hbw⟩
  subst hl
  by_cases ha : la ≤ 600
  case neg =>
    have H := veil ha
    have hai : (600 : Int) < (la : Int) := by omega
    clear hN ha
    go_enter Try.func51, Try.ntmps51
    go_wp2_with fail
    refine (within_any _ _ _ _).mono ?_
    rintro e w' ⟨rfl, rfl⟩
    rw [d0]
    go_wp2_with fail
    go_ret
    exact ⟨⟨_, rfl, ⟨(fun h => by cases h), fun h => absurd h.2.2.1 H.out⟩⟩, hbw⟩
  have hai : ¬ (600 : Int) < (la : Int) := by omega
  have Hn := veil hN
  go_enter Try.func51, Try.ntmps51
  go_wp2_with fail
  refine (within_any _ _ _ _).mono ?_
  rintro e w' ⟨rfl, rfl⟩
  rw [d0]
  have hS1 := hS.below hbw
  have hA1 := hA.below hbw
  have Hw := veil hbw
  clear hS hA hbw
  go_wp2_with fail
  go_loop [28] (fun i => ∃ j : Nat, j ≤ ls ∧ i = .int .i64 j ∧ Hid (∀ m, m < j → -1000 ≤ S m ∧ S m ≤ 1000)) (fun i => ls - (intOf i).toNat)
  case atStart => exact ⟨0, Nat.zero_le _, rfl, fun m hm => by omega⟩
  case' round => skip
  obtain ⟨j, hj, rfl, hno⟩ := hrel
  by_cases hlt : j < ls
  · obtain ⟨sb, off, rfl, hsb, hc⟩ := hS1.at hlt
    have hjI : (j : Int) < (ls : Int) := by omega
    by_cases hs : -1000 ≤ S j ∧ S j ≤ 1000
    · have ds : inB (-1000) 1000 (S j) = true := inB_iff.2 hs
      have hno' : Hid (∀ m, m < j + 1 → -1000 ≤ S m ∧ S m ≤ 1000) := fun m hm => by
        by_cases h1 : m < j
        · exact hno.out m h1
        · obtain rfl : m = j := by omega
          exact hs
      clear hs hS1
      go_wp2_with fail
      refine (within_any _ _ _ _).mono ?_
      rintro e w' ⟨rfl, rfl⟩
      rw [ds]
      go_wp2_with fail
      go_round
      case rel => exact ⟨j + 1, by omega, by go_num, hno'⟩
      case measure => simp [intOf]; omega
    · have ds : inB (-1000) 1000 (S j) = false := by rw [Bool.eq_false_iff]; exact fun q => hs (inB_iff.1 q)
      have H := veil hs
      clear hs hS1
      go_wp2_with fail
      refine (within_any _ _ _ _).mono ?_
      rintro e w' ⟨rfl, rfl⟩
      rw [ds]
      go_wp2_with fail
      go_ret
      exact ⟨⟨_, rfl, ⟨(fun h => by cases h), fun h => absurd (h.2.2.2.1 j hlt) H.out⟩⟩, Hw.out⟩
  obtain rfl : j = ls := by omega
  clear hlt hj
  go_wp2_with fail
  obtain ⟨W, hW⟩ : ∃ W, w.alloc (.cells #[.int .i64 j, .slice p j cs, .slice q la ca] 40) = W := ⟨_, rfl⟩
  have hWb : W.heap[w.heap.size]? = some (.cells #[.int .i64 j, .slice p j cs, .slice q la ca] 40) := by rw [← hW]; exact heap_alloc_new w _
  rw [hW] at Hw hS1 hA1
  rw [hW]
  clear hW
  go_loopg [39] la (fun gk iv wr => ∃ i : Nat, i ≤ la ∧ la - i ≤ gk ∧ iv = .int .i64 i ∧ Below W.heap.size W wr ∧ Hid (∀ m, m < i → ArcOk j (A m)))
  case atStart => exact ⟨0, Nat.zero_le _, Nat.le_refl _, rfl, Below.refl _ _, fun m hm => by omega⟩
  case' round => skip
  obtain ⟨i, hi, hgk, rfl, hb, hok⟩ := hrel
  have hwl : w.heap.size < W.heap.size := (Array.getElem?_eq_some_iff.1 hWb).1
  have hwr : w.heap.size < wr.heap.size := Nat.lt_of_lt_of_le hwl hb.size
  by_cases hlt : i < la
  · obtain ⟨sb, off, rfl, hsb, g0, g1, g2, g3⟩ := (hA1.below hb).at hlt
    have c0 := at_cells ((hb.block _ hwl).trans hWb) 0
    simp only [List.getElem?_toArray, List.getElem?_cons_zero] at c0
    have hiI : (i : Int) < (la : Int) := by omega
    have hwr1 : w.heap.size < wr.heap.size + 1 := by omega
    have hbo : Below wr.heap.size wr (wr.alloc (.cells #[.int .i64 (A i).f, .int .i64 (A i).t, .int .i64 (A i).c, .int .i64 (A i).k] 37)) := (Below.refl _ _).alloc (Nat.le_refl _) _
    have Hb := veil (And.intro hb hbo)
    have A1 := veil (arcMayBe_any (A i) j (wr.alloc (.cells #[.int .i64 (A i).f, .int .i64 (A i).t, .int .i64 (A i).c, .int .i64 (A i).k] 37)) Hn.out)
    clear hb hbo hN
    go_wp2_with fail
    refine A1.out.mono ?_
    rintro e w2 ⟨⟨b, rfl, hbk⟩, hb2⟩
    have Hb2 := veil (And.intro hbk hb2)
    clear hbk hb2
    cases b with
    | false =>
      go_wp2_with fail
      go_ret
      exact ⟨⟨_, rfl, ⟨(fun h => by cases h), fun h => absurd (Hb2.out.1.2 (h.2.2.2.2 i hlt)) (by decide)⟩⟩, beyond Hw.out (beyond Hb.out.1 (beyond Hb.out.2 Hb2.out.2))⟩
    | true =>
      go_wp2_with fail
      go_roundg (la - (i + 1))
      case measure => omega
      case rel =>
        refine ⟨i + 1, by omega, Nat.le_refl _, by go_num, beyond Hb.out.1 (beyond Hb.out.2 Hb2.out.2), fun m hm => ?_⟩
        by_cases h1 : m < i
        · exact hok.out m h1
        · obtain rfl : m = i := by omega
          exact Hb2.out.1.1 (by simp)
  · obtain rfl : i = la := by omega
    clear hlt hi hN
    go_wp2_with fail
    go_ret
    exact ⟨⟨_, rfl, ⟨fun _ => ⟨Hn.out, rfl, ha, hno.out, hok.out⟩, fun _ => rfl⟩⟩, beyond Hw.out hb⟩
end Go.Proofs.Ytjdindfjfpdikaa
