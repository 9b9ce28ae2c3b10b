import Derived.Test.YtjdindfjfpdikaaGreatLawE
import Derived.Deep.LoopGhost
namespace Go.Proofs.YtjdindfjfpdikaaGreat
open Go.RowKit

/-- A script that came in. -/
def IsOps (w : World) (p : Option Addr) (len : Nat) : Prop :=
  len = 0 ∨ ∃ sb off, p = some ⟨sb, off, none⟩ ∧ sb < w.heap.size ∧ ∀ i, i < len → ∃ (k m a b c d n6 : Int) (p7 p8 p9 p10 : Option Addr) (l7 l8 l9 l10 z7 z8 z9 z10 : Nat),
    w.cell? ⟨sb, off + i * 11, none⟩ = some (.int .i64 k) ∧ w.cell? ⟨sb, off + i * 11 + 1, none⟩ = some (.int .i64 m) ∧ w.cell? ⟨sb, off + i * 11 + 2, none⟩ = some (.int .i64 a) ∧ w.cell? ⟨sb, off + i * 11 + 3, none⟩ = some (.int .i64 b) ∧ w.cell? ⟨sb, off + i * 11 + 4, none⟩ = some (.int .i64 c) ∧ w.cell? ⟨sb, off + i * 11 + 5, none⟩ = some (.int .i64 d) ∧
    w.cell? ⟨sb, off + i * 11 + 6, none⟩ = some (.int .i64 n6) ∧ w.cell? ⟨sb, off + i * 11 + 7, none⟩ = some (.slice p7 l7 z7) ∧ w.cell? ⟨sb, off + i * 11 + 8, none⟩ = some (.slice p8 l8 z8) ∧ w.cell? ⟨sb, off + i * 11 + 9, none⟩ = some (.slice p9 l9 z9) ∧ w.cell? ⟨sb, off + i * 11 + 10, none⟩ = some (.slice p10 l10 z10)

theorem wat0 (w : World) : WAt (w.alloc (.cells #[.slice none 0 0, .slice none 0 0] 29)) w.heap.size w.heap.size (.slice none 0 0) (.slice none 0 0) [] :=
  ⟨(MapKept.heap_alloc w _).1, World.ownsRow_nil _ _ _ _, (fun x hx => by cases hx), List.Pairwise.nil, (fun x hx => by cases hx), (fun x hx => by cases hx), Nat.le_refl _, (fun b e => by cases e), (fun x hx => by cases hx)⟩

set_option maxRecDepth 100000 in
set_option maxHeartbeats 8000000 in
theorem plays_any (w : World) (p : Option Addr) (len cap : Nat) (lo hi : Int) (hops : IsOps w p len) (hlen : len < 999999999999) :
    Calls Tryz.prog 9 #[.slice p len cap, .int .i64 lo, .int .i64 hi, .int .i64 10] w fun e w' => e = .returned (.bool true) ∧ Below w.heap.size w w' := by
  have hb1 : Below w.heap.size w (w.alloc (.cells #[.slice none 0 0, .slice none 0 0] 29)) := (Below.refl _ _).alloc (Nat.le_refl _) _
  have hw1 := wat0 w
  have A1 := hid (begin_any _ _ _ _ _ hw1.cells hw1.row (by simp))
  have Hw1 := hid hw1
  clear hw1
  go_enter Tryz.func9, Tryz.ntmps9
  go_wp2_with fail
  refine A1.out.mono ?_
  rintro e w2 ⟨rfl, v2, _, _, _, _, _, _, _, _, _, _, _, _, hB⟩
  obtain ⟨y, hw2, ho2, _⟩ := Hw1.out.begun hB
  have hb2 : Below w.heap.size w w2 := hb1.trans (below_of_only ho2 (fun b hb => (Hw1.out.foots b hb).1) hb1.size)
  clear hB A1
  have A2 := hid (step_build hw2 (by simp) (by simp) 2 0 0 0 0 0 (.int .i64 0) (.slice none 0 0) (.slice none 0 0) (.slice none 0 0) (.slice none 0 0) (by decide))
  go_wp2_with fail
  refine A2.out.mono ?_
  rintro e w3 ⟨rfl, xs3, hw3, hl3, ho3, _⟩
  have hb3 : Below w.heap.size w w3 := hb2.trans (below_of_only ho3 (fun b hb => (hw2.foots b hb).1) hb2.size)
  have hl3' : xs3.length = 1 := by simpa using hl3
  clear A2
  have A3 := hid (step_build hw3 (by omega) (by omega) 4 0 0 100 0 0 (.int .i64 0) (.slice none 0 0) (.slice none 0 0) (.slice none 0 0) (.slice none 0 0) (by decide))
  go_wp2_with fail
  refine A3.out.mono ?_
  rintro e w4 ⟨rfl, xs4, hw4, hl4, ho4, _⟩
  have hb4 : Below w.heap.size w w4 := hb3.trans (below_of_only ho4 (fun b hb => (hw3.foots b hb).1) hb3.size)
  have hl4' : xs4.length = 1 := by omega
  clear A3 hb1 hb2 hb3 hw2 hw3 ho2 ho3 ho4 Hw1 hl3 hl4 hl3'
  have Hs := hid (And.intro hw4 (And.intro hl4' hb4))
  clear hw4 hl4' hb4
  go_wp2_with fail
  go_loopg [13] len (fun gk iv wr => ∃ (j : Nat) (v : Value) (xs : List Pr), j ≤ len ∧ len - j ≤ gk ∧ iv = .int .i64 j ∧ WAt wr w.heap.size w.heap.size v (.slice none 0 0) xs ∧ 0 < xs.length ∧ xs.length ≤ j + 1 ∧ Below w.heap.size w wr)
  case atStart => exact ⟨0, _, _, Nat.zero_le _, Nat.le_refl _, rfl, Hs.out.1, by rw [Hs.out.2.1]; decide, by rw [Hs.out.2.1]; decide, Hs.out.2.2⟩
  case' round => skip
  clear Hs
  obtain ⟨j, v, xs, hj, hgk, rfl, hw, hn, hlx, hb⟩ := hrel
  by_cases hlt : j < len
  · rcases hops with h0 | ⟨sb, off, rfl, hsb, hc⟩
    · omega
    obtain ⟨k, m, a, b, c, d, n6, p7, p8, p9, p10, l7, l8, l9, l10, z7, z8, z9, z10, q0, q1, q2, q3, q4, q5, q6, q7, q8, q9, q10⟩ := hc j hlt
    have mv : ∀ o, wr.cell? ⟨sb, o, none⟩ = w.cell? ⟨sb, o, none⟩ := fun o => hb.cell (p := ⟨sb, o, none⟩) hsb
    rw [← mv] at q0 q1 q2 q3 q4 q5 q6 q7 q8 q9 q10
    have hsw : sb < wr.heap.size := Nat.lt_of_lt_of_le hsb hb.size
    have hjI : (j : Int) < (len : Int) := by omega
    clear mv hc
    have hbo : Below wr.heap.size wr (wr.alloc (.cells #[.int .i64 k, .int .i64 m, .int .i64 a, .int .i64 b, .int .i64 c, .int .i64 d, .int .i64 n6, .slice p7 l7 z7, .slice p8 l8 z8, .slice p9 l9 z9, .slice p10 l10 z10] 37)) := (Below.refl _ _).alloc (Nat.le_refl _) _
    have hwo := hw.below hbo
    by_cases hk : 10 < k
    · go_wp2_with fail
      go_roundg (len - (j + 1))
      case measure => omega
      case rel => exact ⟨j + 1, v, xs, by omega, Nat.le_refl _, by go_num, hwo, hn, by omega, hb.trans (hbo.mono hb.size)⟩
    · have hkd : decide (10 < k) = false := by simpa using hk
      have A4 := hid (step_any hwo hn (by omega) k m a b c d (.int .i64 n6) (.slice p7 l7 z7) (.slice p8 l8 z8) (.slice p9 l9 z9) (.slice p10 l10 z10) (by omega))
      have Hw := hid (And.intro hw (And.intro hwo (And.intro hb hbo)))
      clear hw hwo hb hbo
      go_wp2_with fail
      refine A4.out.mono ?_
      rintro e w5 ⟨rfl, v5, xs5, hw5, hl5, hl6, ho5, _⟩
      have hz5 : wr.heap.size < w5.heap.size := Nat.lt_of_lt_of_le (by simp) ho5.size
      have o1 := (ho5.block wr.heap.size (by simp) (fun hm => by have := (Hw.out.1.foots _ hm).2; omega)).trans (MapKept.heap_alloc wr _).1
      have f0 := (cells11 o1).1
      have Hb5 := hid (show Below w.heap.size w w5 from (Hw.out.2.2.1.trans (Hw.out.2.2.2.mono Hw.out.2.2.1.size)).trans (below_of_only ho5 (fun b hb => (Hw.out.2.1.foots b hb).1) (Nat.le_trans Hw.out.2.2.1.size Hw.out.2.2.2.size)))
      clear o1 A4 hkd hk
      by_cases h1 : k = 1
      · subst h1
        go_wp2_with fail
        refine (looks_none w5 _ v5 hw5.cells).mono ?_
        rintro e w6 ⟨rfl, rfl⟩
        go_wp2_with fail
        go_roundg (len - (j + 1))
        case measure => omega
        case rel => exact ⟨j + 1, v5, xs5, by omega, Nat.le_refl _, by go_num, hw5, by omega, by omega, Hb5.out⟩
      · have h1b : (k == 1) = false := by simpa using h1
        clear h1
        by_cases h2 : lo ≤ k
        · by_cases h3 : k ≤ hi
          · have h2b : decide (lo ≤ k) = true := by simpa using h2
            have h3b : decide (k ≤ hi) = true := by simpa using h3
            clear h2 h3
            go_wp2_with fail
            refine (looks_none w5 _ v5 hw5.cells).mono ?_
            rintro e w6 ⟨rfl, rfl⟩
            go_wp2_with fail
            go_roundg (len - (j + 1))
            case measure => omega
            case rel => exact ⟨j + 1, v5, xs5, by omega, Nat.le_refl _, by go_num, hw5, by omega, by omega, Hb5.out⟩
          · have h2b : decide (lo ≤ k) = true := by simpa using h2
            have h3b : decide (k ≤ hi) = false := by simpa using h3
            clear h2 h3
            go_wp2_with fail
            refine (looks_none w5 _ v5 hw5.cells).mono ?_
            rintro e w6 ⟨rfl, rfl⟩
            go_wp2_with fail
            go_roundg (len - (j + 1))
            case measure => omega
            case rel => exact ⟨j + 1, v5, xs5, by omega, Nat.le_refl _, by go_num, hw5, by omega, by omega, Hb5.out⟩
        · have h2b : decide (lo ≤ k) = false := by simpa using h2
          clear h2
          go_wp2_with fail
          refine (looks_none w5 _ v5 hw5.cells).mono ?_
          rintro e w6 ⟨rfl, rfl⟩
          go_wp2_with fail
          go_roundg (len - (j + 1))
          case measure => omega
          case rel => exact ⟨j + 1, v5, xs5, by omega, Nat.le_refl _, by go_num, hw5, by omega, by omega, Hb5.out⟩
  · go_wp2
    go_ret
    exact ⟨rfl, hb⟩
end Go.Proofs.YtjdindfjfpdikaaGreat
