import Derived.Test.YtjdindfjfpdikaaGreatRefC
namespace Go.Proofs.YtjdindfjfpdikaaGreat
open Go.RowKit

section
variable {w : World} {rb : Nat} {V : RVs} {x7 x8 x9 x10 x11 : Value} {R : RSt}

/-- Ticks, one by one. -/
def tk (o t : Int) : Int := if o < 0 ∧ t < 100 then t + 1 else t
def tickTo (on wt : List Int) (k : Nat) : List Int := (List.range wt.length).map fun i => if i < k then tk (on.getD i 0) (wt.getD i 0) else wt.getD i 0

theorem tickTo_length (on wt : List Int) (k : Nat) : (tickTo on wt k).length = wt.length := by simp [tickTo]
theorem tickTo_zero (on wt : List Int) : tickTo on wt 0 = wt := by
  apply List.ext_getElem?
  intro i
  by_cases hi : i < wt.length <;> simp [tickTo, hi]
theorem tickTo_at (on wt : List Int) (k i : Nat) (hi : i < wt.length) : (tickTo on wt k)[i]'(by rw [tickTo_length]; exact hi) = if i < k then tk (on.getD i 0) wt[i] else wt[i] := by
  simp [tickTo, hi]
theorem tickTo_succ (on wt : List Int) (k : Nat) (hk : k < wt.length) : tickTo on wt (k + 1) = (tickTo on wt k).set k (tk (on.getD k 0) wt[k]) := by
  apply List.ext_getElem
  · simp [tickTo]
  · intro i h1 h2
    have hi : i < wt.length := by simpa [tickTo] using h1
    rw [tickTo_at on wt (k + 1) i hi, List.getElem_set]
    by_cases hki : k = i
    · subst hki; simp
    · rw [if_neg hki, tickTo_at on wt k i hi]
      by_cases hik : i < k
      · rw [if_pos (by omega), if_pos hik]
      · rw [if_neg (by omega), if_neg hik]

/-- A cell of a row is written. -/
theorem RowAt.setAt {xs : List Int} {g cap : Nat} (h : RowAt w 3 1 cellsI (.slice (some ⟨g, 0, none⟩) xs.length cap) xs) (k : Nat) (n : Int) : RowAt (w.setCell ⟨g, k, none⟩ (.int .i64 n)) 3 1 cellsI (.slice (some ⟨g, 0, none⟩) (xs.set k n).length cap) (xs.set k n) := by
  rcases h.2 with ⟨hq, _⟩ | ⟨g', cap', cur, hv, hb, hg, h1, h2, h3, h4⟩
  · cases hq
  · cases hv
    refine ⟨flatMap_length (enc := cellsI) (size := 1) (fun _ => rfl) _, .inr ⟨g, cap, cur.setIfInBounds k (.int .i64 n), rfl, hb, heap_setCell hg k _, by simpa using h1, h2, by simpa using h3, ?_⟩⟩
    have e : ∀ ys : List Int, ys.flatMap cellsI = ys.map (fun n => Value.int .i64 n) := fun ys => by
      induction ys with
      | nil => rfl
      | cons y ys ih => rw [List.flatMap_cons, ih]; rfl
    rw [e] at h4 ⊢
    rw [List.length_set, List.map_set, ← h4, Array.toList_setIfInBounds, List.take_set]

/-- A number of the ticks is written. -/
theorem RefAt.put_wt {g cap : Nat} (h : RefAt w rb V x7 x8 x9 x10 x11 R) (hv : V.vt = .slice (some ⟨g, 0, none⟩) R.wt.length cap) (k : Nat) (n : Int) :
    RefAt (w.setCell ⟨g, k, none⟩ (.int .i64 n)) rb V x7 x8 x9 x10 x11 { R with wt := R.wt.set k n } ∧ Only (foot rb V) w (w.setCell ⟨g, k, none⟩ (.int .i64 n)) := by
  have hp := h.pair
  simp only [List.pairwise_cons, List.mem_cons, List.not_mem_nil, or_false, forall_eq_or_imp, forall_eq, List.Pairwise.nil, and_true, false_implies, implies_true] at hp
  have ho : V.vt.ownBlock = some g := by rw [hv]; rfl
  have hset := grown_setCell w ⟨g, k, none⟩ (.int .i64 n)
  have hgn : g ≠ rb := fun e => h.ne (mem_blocks.2 (by simp [ho, e]))
  have keep : ∀ {α : Type} {e size : Nat} {enc : α → List Value} {v : Value} {xs : List α}, RowAt w e size enc v xs → (∀ m, v.ownBlock = some m → V.vt.ownBlock ≠ some m) → RowAt (w.setCell ⟨g, k, none⟩ (.int .i64 n)) e size enc v xs := fun {α e size enc v xs} hq h1 => by
    refine RowAt.kept hq hset ?_
    cases hz : v.ownBlock with
    | none => exact Or.inl rfl
    | some m => exact Or.inr (fun e => h1 m hz (by rw [ho]; exact e.symm))
  refine ⟨⟨(hset.block rb h.lt (by simpa using hgn.symm)).trans h.cells, keep h.r0 (fun m hm e => by simp only [hm, e] at hp; simp at hp), keep h.r1 (fun m hm e => by simp only [hm, e] at hp; simp at hp), keep h.r2 (fun m hm e => by simp only [hm, e] at hp; simp at hp), keep h.r3 (fun m hm e => by simp only [hm, e] at hp; simp at hp), keep h.rw (fun m hm e => by simp only [hm, e] at hp; simp at hp), keep h.ro (fun m hm e => by simp only [hm, e] at hp; simp at hp), ?_, h.apart⟩, Only.of_grown' hset (fun b hb => by cases hb; exact List.mem_cons_of_mem _ (mem_blocks.2 (by simp [ho])))⟩
  have hrt := h.rt
  rw [hv] at hrt
  have := hrt.setAt k n
  rw [hv]
  simpa using this

/-- Where a task runs is written. -/
theorem RefAt.put_on {g cap : Nat} (h : RefAt w rb V x7 x8 x9 x10 x11 R) (hv : V.vo = .slice (some ⟨g, 0, none⟩) R.on.length cap) (k : Nat) (n : Int) :
    RefAt (w.setCell ⟨g, k, none⟩ (.int .i64 n)) rb V x7 x8 x9 x10 x11 { R with on := R.on.set k n } ∧ Only (foot rb V) w (w.setCell ⟨g, k, none⟩ (.int .i64 n)) := by
  have hp := h.pair
  simp only [List.pairwise_cons, List.mem_cons, List.not_mem_nil, or_false, forall_eq_or_imp, forall_eq, List.Pairwise.nil, and_true, false_implies, implies_true] at hp
  have ho : V.vo.ownBlock = some g := by rw [hv]; rfl
  have hset := grown_setCell w ⟨g, k, none⟩ (.int .i64 n)
  have hgn : g ≠ rb := fun e => h.ne (mem_blocks.2 (by simp [ho, e]))
  have keep : ∀ {α : Type} {e size : Nat} {enc : α → List Value} {v : Value} {xs : List α}, RowAt w e size enc v xs → (∀ m, v.ownBlock = some m → V.vo.ownBlock ≠ some m) → RowAt (w.setCell ⟨g, k, none⟩ (.int .i64 n)) e size enc v xs := fun {α e size enc v xs} hq h1 => by
    refine RowAt.kept hq hset ?_
    cases hz : v.ownBlock with
    | none => exact Or.inl rfl
    | some m => exact Or.inr (fun e => h1 m hz (by rw [ho]; exact e.symm))
  refine ⟨⟨(hset.block rb h.lt (by simpa using hgn.symm)).trans h.cells, keep h.r0 (fun m hm e => by simp only [hm, e] at hp; simp at hp), keep h.r1 (fun m hm e => by simp only [hm, e] at hp; simp at hp), keep h.r2 (fun m hm e => by simp only [hm, e] at hp; simp at hp), keep h.r3 (fun m hm e => by simp only [hm, e] at hp; simp at hp), keep h.rw (fun m hm e => by simp only [hm, e] at hp; simp at hp), ?_, keep h.rt (fun m hm e => by simp only [hm, e] at hp; simp at hp), h.apart⟩, Only.of_grown' hset (fun b hb => by cases hb; exact List.mem_cons_of_mem _ (mem_blocks.2 (by simp [ho])))⟩
  have hrt := h.ro
  rw [hv] at hrt
  have := hrt.setAt k n
  rw [hv]
  simpa using this

set_option maxRecDepth 100000 in
set_option maxHeartbeats 4000000 in
/-- 'r.Tick()'. -/
theorem rtick_any (h : RefAt w rb V x7 x8 x9 x10 x11 R) (hl : R.on.length = R.wt.length) (hlen : R.on.length ≤ 1000) (hw : ∀ n ∈ R.wt, 0 ≤ n ∧ n ≤ 100) :
    Calls Tryz.prog 37 #[.pointer (some ⟨rb, 0, none⟩)] w fun e w' => e = .returned (.tuple #[]) ∧ RefAt w' rb V x7 x8 x9 x10 x11 { R with wt := tickTo R.on R.wt R.wt.length } ∧ Only (foot rb V) w w' := by
  rcases h.ro.shape (fun _ => rfl) with ⟨ho, ho'⟩ | ⟨go, co, cuo, ho, hgo, hgol, ho1, ho2, hoc⟩
  · have hw0 : R.wt = [] := List.eq_nil_of_length_eq_zero (by rw [← hl, ho']; rfl)
    have c5 := h.c5
    rw [ho] at c5
    go_enter Tryz.func37, Tryz.ntmps37
    go_wp2_with fail
    refine wp_loop_rounds 1 ?_
    rw [rounds_succ]
    go_wp2
    go_end0
    refine ⟨rfl, ?_, Only.of_below (Below.refl _ _)⟩
    have e : tickTo R.on R.wt R.wt.length = R.wt := by rw [hw0]; rfl
    rw [e]; exact h
  · have c5 := h.c5
    have c6 := h.c6
    rw [ho] at c5
    have hrb := h.lt
    go_enter Tryz.func37, Tryz.ntmps37
    go_wp2_with fail
    rcases h.rt.shape (fun _ => rfl) with ⟨ht, ht'⟩ | ⟨gt, ct, cut, ht, hgt, hgtl, ht1, ht2, _⟩
    · have hon : R.on.length = 0 := by rw [hl, ht']; rfl
      refine wp_loop_rounds 1 ?_
      rw [rounds_succ]
      have hon' : decide ((0 : Int) < (R.on.length : Int)) = false := by simp [hon]
      go_wp2
      go_end0
      refine ⟨rfl, ?_, Only.of_below (Below.refl _ _)⟩
      have e : tickTo R.on R.wt R.wt.length = R.wt := by rw [ht']; rfl
      rw [e]; exact h
    · have Hoc := hid hoc
      have Hl := hid hl
      clear hoc hl
      have hp0 : RefAt w rb V x7 x8 x9 x10 x11 { R with wt := tickTo R.on R.wt 0 } := by rw [tickTo_zero]; exact h
      go_loopg [2] R.on.length (fun gk i wr => ∃ k : Nat, k ≤ R.on.length ∧ R.on.length - k ≤ gk ∧ i = .int .i64 k ∧ RefAt wr rb V x7 x8 x9 x10 x11 { R with wt := tickTo R.on R.wt k } ∧ Only (foot rb V) w wr)
      case atStart => exact ⟨0, Nat.zero_le _, Nat.le_refl _, rfl, hp0, Only.of_below (Below.refl _ _)⟩
      case round =>
        obtain ⟨k, hk, hgk, rfl, hp, hO⟩ := hrel
        have d5 := hp.c5
        rw [ho] at d5
        have d6 := hp.c6
        rw [ht] at d6
        have hrbw := hp.lt
        by_cases hlt : k < R.on.length
        · have hkw : k < R.wt.length := by rw [← Hl.out]; exact hlt
          have s1 := hp.ro.shape (fun _ => rfl)
          have s2 := hp.rt.shape (fun _ => rfl)
          rcases s1 with ⟨e, _⟩ | ⟨g1, _, _, e, _, hg1, _, _, hc1⟩
          · rw [ho] at e; cases e
          rcases s2 with ⟨e2, _⟩ | ⟨g2, _, _, e2, _, hg2, _, _, hc2⟩
          · rw [ht] at e2; cases e2
          have eg1 : g1 = go := by have := congrArg Value.ownBlock (ho.symm.trans e); simpa [Value.ownBlock] using this.symm
          have eg2 : g2 = gt := by have := congrArg Value.ownBlock (ht.symm.trans e2); simpa [Value.ownBlock] using this.symm
          subst eg1 eg2
          have q1 := (hc1 k 0 hlt (by decide)).1
          have q2 := hc2 k 0 (by simpa [tickTo] using hkw) (by decide)
          simp only [cellsI, List.getElem?_cons_zero, Nat.add_zero, Nat.mul_one] at q1 q2
          have hkI : (k : Int) < (R.on.length : Int) := by omega
          have hkI2 : (k : Int) < (R.wt.length : Int) := by omega
          have hwk := hw R.wt[k] (List.getElem_mem hkw)
          have hq2 : (tickTo R.on R.wt k)[k]'(by rw [tickTo_length]; exact hkw) = R.wt[k] := by rw [tickTo_at _ _ _ _ hkw, if_neg (by omega)]
          have q20 : wr.cell? ⟨g2, k, none⟩ = some (.int .i64 R.wt[k]) := by rw [← hq2]; exact q2.1
          have q21 := q2.2
          have hgetD : R.on.getD k 0 = R.on[k] := by simp [hlt]
          have hsuc := tickTo_succ R.on R.wt k hkw
          rw [hgetD] at hsuc
          have hput := fun n => hp.put_wt (g := g2) (cap := ct) (by rw [ht]; simp [tickTo_length]) k n
          have hsame : tk R.on[k] R.wt[k] = R.wt[k] → tickTo R.on R.wt (k + 1) = tickTo R.on R.wt k := fun e0 => by
            rw [hsuc, e0, ← hq2, List.set_getElem_self]
          have Hs := hid (And.intro hsuc (And.intro hput hsame))
          clear hsuc hput hsame hq2 q2 hgetD hc1 hc2 e e2 hw hp0 h
          generalize R.on[k] = a at q1 Hs
          generalize R.wt[k] = b at q20 hwk Hs
          by_cases ha : a < 0
          · by_cases hb : b < 100
            · go_wp2
              go_roundg (R.on.length - (k + 1))
              case measure => omega
              case rel =>
                refine ⟨k + 1, by omega, Nat.le_refl _, by go_num, ?_, hO.trans (Hs.out.2.1 (b + 1)).2⟩
                rw [Hs.out.1]
                have e : tk a b = b + 1 := by simp [tk, ha, hb]
                rw [e]
                exact (Hs.out.2.1 (b + 1)).1
            · have hbd : decide (b < 100) = false := by simpa using hb
              go_wp2
              go_roundg (R.on.length - (k + 1))
              case measure => omega
              case rel =>
                refine ⟨k + 1, by omega, Nat.le_refl _, by go_num, ?_, hO⟩
                rw [Hs.out.2.2 (by simp [tk]; omega)]
                exact hp
          · have had : decide (a < 0) = false := by simpa using ha
            go_wp2
            go_roundg (R.on.length - (k + 1))
            case measure => omega
            case rel =>
              refine ⟨k + 1, by omega, Nat.le_refl _, by go_num, ?_, hO⟩
              rw [Hs.out.2.2 (by simp [tk]; omega)]
              exact hp
        · obtain rfl : k = R.on.length := by omega
          go_wp2
          go_end0
          rw [Hl.out] at hp
          exact ⟨rfl, hp, hO⟩
end
end Go.Proofs.YtjdindfjfpdikaaGreat
