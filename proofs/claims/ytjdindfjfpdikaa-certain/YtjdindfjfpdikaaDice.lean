import Derived.Test.YtjdindfjfpdikaaProg
import Derived.Test.YtjdindfjfpdikaaMem
import Derived.Test.YtjdindfjfpdikaaSmall
import Derived.Deep.LoopGhost
import Derived.BigRegion
import Derived.BigQuiet
import Derived.Deep.QuietTactic
namespace Go.Proofs.Ytjdindfjfpdikaa
open Go.RowKit

theorem hid' {p : Prop} (h : p) : Hid p := h
theorem pickOf_bounds' (c n : Int) (hn : 0 < n) : 0 ≤ pickOf c n ∧ pickOf c n < n := pickOf_bounds c n hn

set_option maxHeartbeats 1000000 in
theorem pick_some (c n : Int) (w : World) (hc : (Lit.int .i64 c).wf = true) (h1 : 1 ≤ n) (h2 : n ≤ 1001) :
    Calls Try.prog 10 #[.int .i64 c, .int .i64 n] w fun e w' => e = .returned (.int .i64 (pickOf c n)) ∧ w' = w := by
  have hb := bounds_i64 hc
  have hn0 : ¬ n = 0 := by omega
  by_cases h : c < 0
  · go_enter Try.func10, Try.ntmps10
    go_wp2
    go_ret
    exact ⟨ret_int (by unfold pickOf; rw [if_pos h, Int.neg_tmod]), rfl⟩
  · go_enter Try.func10, Try.ntmps10
    go_wp2
    go_ret
    exact ⟨ret_int (by unfold pickOf; rw [if_neg (by omega), Int.tmod_eq_emod_of_nonneg (by omega)]), rfl⟩

/-- One block alone has turned. -/
structure Stir (xb : Nat) (w w' : World) : Prop where
  os : w'.os = w.os
  tape : w'.tape = w.tape
  output : w'.output = w.output
  size : w'.heap.size = w.heap.size
  block : ∀ b, b ≠ xb → w'.heap[b]? = w.heap[b]?

theorem Stir.cell {xb : Nat} {w w' : World} (h : Stir xb w w') {b o : Nat} (hb : b ≠ xb) : w'.cell? ⟨b, o, none⟩ = w.cell? ⟨b, o, none⟩ := by simp only [World.cell?, h.block b hb]
theorem Stir.below {xb n : Nat} {w0 w w' : World} (hb : Below n w0 w) (h : Stir xb w w') (hn : n ≤ xb) : Below n w0 w' := hb.trans ⟨h.os, h.tape, h.output, Nat.le_of_eq h.size.symm, fun k hk => h.block k (by omega)⟩

/-- The dice. -/
def DiceAt (w : World) (xb : Nat) (p : Option Addr) (len cap : Nat) : Prop := ∃ a : Nat, a ≤ len ∧ w.heap[xb]? = some (.cells #[.slice p len cap, .int .i64 a] 49)
def Codes (w : World) (xb : Nat) (p : Option Addr) (len : Nat) : Prop := len = 0 ∨ ∃ sb off, p = some ⟨sb, off, none⟩ ∧ sb < xb ∧ ∀ i, i < len → ∃ c, w.cell? ⟨sb, off + i, none⟩ = some (.int .i64 c) ∧ (Lit.int .i64 c).wf = true

set_option maxRecDepth 100000 in
set_option maxHeartbeats 4000000 in
theorem next_any (w : World) (xb : Nat) (p : Option Addr) (len cap : Nat) (n : Int) (hx : DiceAt w xb p len cap) (hc : Codes w xb p len) (hlen : len < 1000000000000000) (h1 : 1 ≤ n) (h2 : n ≤ 1001) :
    Calls Try.prog 39 #[.pointer (some ⟨xb, 0, none⟩), .int .i64 n] w fun e w' => ∃ v : Int, e = .returned (.int .i64 v) ∧ Hid ((0 ≤ v ∧ v < n) ∧ DiceAt w' xb p len cap ∧ Stir xb w w') := by
  obtain ⟨a, ha, hb⟩ := hx
  have c0 : w.cell? ⟨xb, 0, none⟩ = some (.slice p len cap) := by simp [World.cell?, hb]
  have c1 : w.cell? ⟨xb, 1, none⟩ = some (.int .i64 a) := by simp [World.cell?, hb]
  have hf : w.frozen? ⟨xb, 1, none⟩ = false := by simp [World.frozen?, hb]
  have hl : xb < w.heap.size := (Array.getElem?_eq_some_iff.1 hb).1
  have Hb := hid' hb
  clear hb
  by_cases hlt : a < len
  · rcases hc with h0 | ⟨sb, off, rfl, hsb, hcs⟩
    · omega
    obtain ⟨c, hcc, hwf⟩ := hcs a hlt
    have hs : sb < w.heap.size := by omega
    have hI : (a : Int) < (len : Int) := by omega
    have hI2 : ¬ (len : Int) ≤ (a : Int) := by omega
    have HA := hid' (fun W => pick_some c n W hwf h1 h2)
    have HV := hid' (pickOf_bounds c n (by omega))
    clear hcs hwf
    go_enter Try.func39, Try.ntmps39
    go_wp2_with fail
    go_region
    go_wp2_with fail
    obtain ⟨u, hu⟩ : ∃ u, w.drew = u := ⟨_, rfl⟩
    have d0 : u.cell? ⟨xb, 0, none⟩ = some (.slice (some ⟨sb, off, none⟩) len cap) := by rw [← hu]; exact c0
    have d1 : u.cell? ⟨xb, 1, none⟩ = some (.int .i64 a) := by rw [← hu]; exact c1
    have d2 : u.cell? ⟨sb, off + a, none⟩ = some (.int .i64 c) := by rw [← hu]; exact hcc
    have d3 : u.frozen? ⟨xb, 1, none⟩ = false := by rw [← hu]; exact hf
    have d4 : xb < u.heap.size := by rw [← hu]; exact hl
    have d5 : sb < u.heap.size := by rw [← hu]; exact hs
    have d6 : u.heap[xb]? = some (.cells #[.slice (some ⟨sb, off, none⟩) len cap, .int .i64 a] 49) := by rw [← hu]; exact Hb.out
    have d7 : Stir xb w u := by rw [← hu]; exact ⟨rfl, rfl, rfl, rfl, fun _ _ => rfl⟩
    have HD := hid' (And.intro d6 d7)
    rw [hu]
    clear hu c0 c1 hcc hf d6 d7
    go_quiet ((go_at_call 10; exact Calls.quiet_of_same (HA.out _)))
    go_wp2_with fail
    go_ret
    refine ⟨_, rfl, HV.out, ⟨a + 1, by omega, ?_⟩, ?_⟩
    · simp [World.setCell, Array.getElem?_modify, HD.out.1]
    · have h7 := HD.out.2
      exact ⟨h7.os, h7.tape, h7.output, by simpa using h7.size, fun b hb => (Below.heap_setCell u ⟨xb, 1, none⟩ _ b (by simpa using hb)).trans (h7.block b hb)⟩
  · have hI : (len : Int) ≤ (a : Int) := by omega
    go_enter Try.func39, Try.ntmps39
    go_wp2_with fail
    go_region
    go_wp2_with fail
    go_ret
    exact ⟨0, rfl, ⟨by omega, by omega⟩, ⟨a, ha, Hb.out⟩, rfl, rfl, rfl, rfl, fun _ _ => rfl⟩
end Go.Proofs.Ytjdindfjfpdikaa
