import Derived.Test.YtjdindfjfpdikaaGreatAll
namespace Go.Proofs.YtjdindfjfpdikaaGreat
open Go.RowKit

/-- What 'room' answers. -/
def roomOf (l0 : Things) (a1 a2 most : Int) : Int :=
  if a2 < 0 ∨ 99 < a2 then 1 else if (get (a1, a2) l0).isSome then 2 else if most ≤ (sel a1 l0).length then 3 else 0

theorem next2 {w w1 w2 : World} (h1 : Below w.heap.size w w1) (h2 : Below w1.heap.size w1 w2) : Below w.heap.size w w2 := h1.trans (h2.mono h1.size)
theorem hid {p : Prop} (h : p) : Hid p := h

theorem bcell {W w1 : World} (hb : Below W.heap.size W w1) : (∀ b o, b < W.heap.size → w1.cell? ⟨b, o, none⟩ = W.cell? ⟨b, o, none⟩) ∧ (∀ b o, b < W.heap.size → w1.frozen? ⟨b, o, none⟩ = W.frozen? ⟨b, o, none⟩) :=
  ⟨fun b o h => hb.cell (p := ⟨b, o, none⟩) h, fun b o h => hb.frozen (p := ⟨b, o, none⟩) h⟩

theorem ownsRow_shape {w : World} {base e size n : Nat} {v : Value} {xs : List Value} (h : w.ownsRow base e size v n xs) : ∃ p cap, v = .slice p n cap := by
  rcases h.2 with ⟨rfl, rfl⟩ | ⟨g, cap, cur, rfl, _⟩
  · exact ⟨_, _, rfl⟩
  · exact ⟨_, _, rfl⟩

set_option maxHeartbeats 1000000 in
theorem room_any (hS : SortSaid) {w : World} {pb b0 b1 b2 b3 : Nat} {l0 : Things} {l1 : Runs} {l2 : Waits} {l3 : Prefs} (h : PlanAt w pb b0 b1 b2 b3 l0 l1 l2 l3) (a1 a2 most : Int) (hlen : l0.length ≤ 1000) :
    Calls Tryz.prog 56 #[.pointer (some ⟨pb, 0, none⟩), .agg #[.int .i64 a1, .int .i64 a2], .int .i64 most] w fun e w' => e = .returned (.int .i64 (roomOf l0 a1 a2 most)) ∧ Below w.heap.size w w' := by
  have hp1 := h.alloc (.cells #[.int .i64 a1, .int .i64 a2] 102)
  have hb1 : Below w.heap.size w (w.alloc (.cells #[.int .i64 a1, .int .i64 a2] 102)) := (Below.refl _ _).alloc (Nat.le_refl _) _
  by_cases h0 : a2 < 0
  · have hr : roomOf l0 a1 a2 most = 1 := by simp [roomOf, h0]
    rw [hr]
    clear hr
    go_enter Tryz.func56, Tryz.ntmps56
    go_wp2
    go_ret
    exact ⟨rfl, hb1⟩
  by_cases h1 : 99 < a2
  · have hr : roomOf l0 a1 a2 most = 1 := by simp [roomOf, h1]
    rw [hr]
    clear hr
    have hd : decide (a2 < 0) = false := by simpa using h0
    go_enter Tryz.func56, Tryz.ntmps56
    go_wp2
    go_ret
    exact ⟨rfl, hb1⟩
  have hr : roomOf l0 a1 a2 most = if (get (a1, a2) l0).isSome then 2 else if most ≤ (sel a1 l0).length then 3 else 0 := by
    unfold roomOf; rw [if_neg (by omega)]
  have hd : decide (a2 < 0) = false := by simpa using h0
  have hd1 : decide (99 < a2) = false := by simpa using h1
  have hh := has_any hp1 a1 a2
  rw [hr]
  clear hr
  cases hg : get (a1, a2) l0 with
  | some f =>
    rw [hg] at hh
    simp only [Option.isSome_some, if_true] at hh ⊢
    clear hg
    have Hh := hid hh
    clear hh
    go_enter Tryz.func56, Tryz.ntmps56
    go_wp2_with (go_at_call 57; refine Hh.out.mono ?_; rintro e w' ⟨rfl, hb2⟩)
    go_ret
    exact ⟨rfl, next2 hb1 hb2⟩
  | none =>
    rw [hg] at hh
    simp only [Option.isSome_none] at hh ⊢
    clear hg
    have Hh := hid hh
    clear hh
    by_cases hm : most ≤ (sel a1 l0).length
    · rw [if_neg (by simp), if_pos hm]
      go_enter Tryz.func56, Tryz.ntmps56
      go_wp2_with (first
        | (go_at_call 57; refine Hh.out.mono ?_; rintro e w' ⟨rfl, hb2⟩; obtain ⟨hc, hf⟩ := bcell hb2)
        | (go_at_call 61; refine (all_any hS (hp1.below hb2) a1 hlen).mono ?_; rintro e w'' ⟨v, xs, rfl, hx1, hx2, hx3, _⟩; obtain ⟨pp, cap, rfl⟩ := ownsRow_shape hx2; have hxl := hx1.length_eq))
      go_ret
      exact ⟨rfl, next2 (next2 hb1 hb2) hx3⟩
    · rw [if_neg (by simp), if_neg hm]
      have hm' : decide (most ≤ ((sel a1 l0).length : Int)) = false := by simpa using hm
      go_enter Tryz.func56, Tryz.ntmps56
      go_wp2_with (first
        | (go_at_call 57; refine Hh.out.mono ?_; rintro e w' ⟨rfl, hb2⟩; obtain ⟨hc, hf⟩ := bcell hb2)
        | (go_at_call 61; refine (all_any hS (hp1.below hb2) a1 hlen).mono ?_; rintro e w'' ⟨v, xs, rfl, hx1, hx2, hx3, _⟩; obtain ⟨pp, cap, rfl⟩ := ownsRow_shape hx2; have hxl := hx1.length_eq))
      go_ret
      exact ⟨rfl, next2 (next2 hb1 hb2) hx3⟩
end Go.Proofs.YtjdindfjfpdikaaGreat
