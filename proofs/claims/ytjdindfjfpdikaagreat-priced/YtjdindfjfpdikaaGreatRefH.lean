import Derived.Test.YtjdindfjfpdikaaGreatRefG
import Derived.Test.YtjdindfjfpdikaaGreatRefF
namespace Go.Proofs.YtjdindfjfpdikaaGreat
open Go.RowKit

/-- Is it that wish? -/
def isW (t k i : Int) (x : Wi) : Bool := decide (x.1 = t) && (decide (x.2.1 = k) && decide (x.2.2.1 = i))
def putW (t k i c : Int) : List Wi → List Wi
  | [] => [(t, k, i, c)]
  | x :: r => if isW t k i x then (x.1, x.2.1, x.2.2.1, c) :: r else x :: putW t k i c r

theorem putW_found {t kd i c : Int} : ∀ {ws : List Wi} {k : Nat} (hk : k < ws.length), (∀ j, (hj : j < ws.length) → j < k → isW t kd i ws[j] = false) → isW t kd i ws[k] = true → putW t kd i c ws = ws.set k (ws[k].1, ws[k].2.1, ws[k].2.2.1, c)
  | [], k, hk, _, _ => by simp at hk
  | x :: r, 0, _, _, h => by simp at h; simp [putW, h]
  | x :: r, k + 1, hk, hn, h => by
    have h0 := hn 0 (by simp) (by omega)
    simp at h0
    have ih := putW_found (c := c) (ws := r) (k := k) (by simpa using hk) (fun j hj hjk => by have := hn (j + 1) (by simpa using hj) (by omega); simpa using this) (by simpa using h)
    simp [putW, h0, ih]
theorem putW_none {t kd i c : Int} : ∀ {ws : List Wi}, (∀ j, (hj : j < ws.length) → isW t kd i ws[j] = false) → putW t kd i c ws = ws ++ [(t, kd, i, c)]
  | [], _ => rfl
  | x :: r, hn => by
    have h0 := hn 0 (by simp)
    simp at h0
    have ih := putW_none (c := c) (ws := r) (fun j hj => by have := hn (j + 1) (by simpa using hj); simpa using this)
    simp [putW, h0, ih]

section
variable {w : World} {rb : Nat} {V : RVs} {x7 x8 x9 x10 x11 : Value} {R : RSt}

theorem new4 (w : World) (x y z u0 : Value) (t : TypeId) : ∀ (j : Nat) (u : Value), [x, y, z, u0][j]? = some u → (w.alloc (.cells #[x, y, z, u0] t)).cell? ((⟨w.heap.size, 0, none⟩ : Addr).add j) = some u := by
  intro j u hu
  rcases j with _ | _ | _ | _ | j
  · rw [Addr.add_lit, World.cell?_alloc_at _ _ _ _ rfl]; simpa using hu
  · rw [Addr.add_lit, World.cell?_alloc_at _ _ _ _ rfl]; simpa using hu
  · rw [Addr.add_lit, World.cell?_alloc_at _ _ _ _ rfl]; simpa using hu
  · rw [Addr.add_lit, World.cell?_alloc_at _ _ _ _ rfl]; simpa using hu
  · simp at hu

theorem flat_setW : ∀ (ws : List Wi) (k : Nat) (hk : k < ws.length) (c : Int), (ws.set k (ws[k].1, ws[k].2.1, ws[k].2.2.1, c)).flatMap cellsW = (ws.flatMap cellsW).set (k * 4 + 3) (.int .i64 c)
  | [], k, hk, _ => by simp at hk
  | x :: r, 0, _, c => by simp [cellsW]
  | x :: r, k + 1, hk, c => by
    have ih := flat_setW r k (by simpa using hk) c
    rw [List.set_cons_succ, List.flatMap_cons, List.flatMap_cons, show (k + 1) * 4 + 3 = (k * 4 + 3) + 4 by omega]
    simp only [List.getElem_cons_succ]
    rw [ih]
    simp [cellsW]

/-- A wish's cost is written. -/
theorem RefAt.put_ws {g cap : Nat} (h : RefAt w rb V x7 x8 x9 x10 x11 R) (hv : V.vw = .slice (some ⟨g, 0, none⟩) R.ws.length cap) (k : Nat) (hk : k < R.ws.length) (c : Int) :
    RefAt (w.setCell ⟨g, k * 4 + 3, none⟩ (.int .i64 c)) rb V x7 x8 x9 x10 x11 { R with ws := R.ws.set k (R.ws[k].1, R.ws[k].2.1, R.ws[k].2.2.1, c) } ∧ Only (foot rb V) w (w.setCell ⟨g, k * 4 + 3, none⟩ (.int .i64 c)) := by
  have hp := h.pair
  simp only [List.pairwise_cons, List.mem_cons, List.not_mem_nil, or_false, forall_eq_or_imp, forall_eq, List.Pairwise.nil, and_true, false_implies, implies_true] at hp
  have ho : V.vw.ownBlock = some g := by rw [hv]; rfl
  have hset := grown_setCell w ⟨g, k * 4 + 3, none⟩ (.int .i64 c)
  have hgn : g ≠ rb := fun e => h.ne (mem_blocks.2 (by simp [ho, e]))
  have keep : ∀ {α : Type} {e size : Nat} {enc : α → List Value} {v : Value} {xs : List α}, RowAt w e size enc v xs → (∀ m, v.ownBlock = some m → V.vw.ownBlock ≠ some m) → RowAt (w.setCell ⟨g, k * 4 + 3, none⟩ (.int .i64 c)) e size enc v xs := fun {α e size enc v xs} hq h1 => by
    refine RowAt.kept hq hset ?_
    cases hz : v.ownBlock with
    | none => exact Or.inl rfl
    | some m => exact Or.inr (fun e => h1 m hz (by rw [ho]; exact e.symm))
  refine ⟨⟨(hset.block rb h.lt (by simpa using hgn.symm)).trans h.cells, keep h.r0 (fun m hm e => by simp only [hm, e] at hp; simp at hp), keep h.r1 (fun m hm e => by simp only [hm, e] at hp; simp at hp), keep h.r2 (fun m hm e => by simp only [hm, e] at hp; simp at hp), keep h.r3 (fun m hm e => by simp only [hm, e] at hp; simp at hp), ?_, keep h.ro (fun m hm e => by simp only [hm, e] at hp; simp at hp), keep h.rt (fun m hm e => by simp only [hm, e] at hp; simp at hp), h.apart⟩, Only.of_grown' hset (fun b hb => by cases hb; exact List.mem_cons_of_mem _ (mem_blocks.2 (by simp [ho])))⟩
  have hrt := h.rw
  rcases hrt.2 with ⟨hq, _⟩ | ⟨g', cap', cur, hv', hb, hg, h1, h2, h3, h4⟩
  · rw [hv] at hq; cases hq
  · have eg : g' = g := by have := congrArg Value.ownBlock (hv.symm.trans hv'); simpa [Value.ownBlock] using this.symm
    subst eg
    refine ⟨flatMap_length (enc := cellsW) (size := 4) (fun _ => rfl) _, .inr ⟨g', cap', cur.setIfInBounds (k * 4 + 3) (.int .i64 c), by simpa using hv', hb, heap_setCell hg _ _, by simpa using h1, h2, by simpa using h3, ?_⟩⟩
    rw [List.length_set, flat_setW R.ws k hk c, ← h4, Array.toList_setIfInBounds, List.take_set]

set_option maxRecDepth 100000 in
set_option maxHeartbeats 4000000 in
theorem rpref0_ok (h : RefAt w rb V x7 x8 x9 x10 x11 R) (t i c : Int) (hl3 : R.t3.length ≤ 1000) (hlk : R.t0.length ≤ 1000) (hat : 0 ≤ atOf t R.t3) (hak : 0 ≤ atOf i R.t0) (hc0 : 0 ≤ c) (hc1 : c ≤ 1000) (hlw : R.ws.length ≤ 1000000000) :
    Calls Tryz.prog 35 #[.pointer (some ⟨rb, 0, none⟩), .int .i64 t, .int .i64 0, .int .i64 i, .int .i64 c] w fun e w' => e = .returned (.int .i64 0) ∧ ∃ V', RefAt w' rb V' x7 x8 x9 x10 x11 { R with ws := putW t 0 i c R.ws } ∧ Only (foot rb V) w w' ∧ (∀ b ∈ V'.blocks, b ∈ V.blocks ∨ w.heap.size ≤ b) := by
  have A1 := hid (at_any _ rb 3 V.v3 R.t3 t (by decide) h.c3 h.r3 hl3)
  have A2 := hid (at_any _ rb 0 V.v0 R.t0 i (by decide) h.c0 h.r0 hlk)
  generalize atOf t R.t3 = q at A1 hat
  generalize atOf i R.t0 = q2 at A2 hak
  have d1 : decide (q < 0) = false := by simp; omega
  have d2 : decide (q2 < 0) = false := by simp; omega
  have d3 : decide (c < 0) = false := by simp; omega
  have d4 : decide (1000 < c) = false := by simp; omega
  obtain ⟨pw, cw, hv⟩ := slice_of h.rw
  go_enter Tryz.func35, Tryz.ntmps35
  go_wp2_with fail
  refine A1.out.mono ?_
  rintro e w2 ⟨rfl, rfl⟩
  go_wp2_with fail
  refine A2.out.mono ?_
  rintro e w2 ⟨rfl, rfl⟩
  go_wp2_with fail
  have Hv := hid hv
  clear hv A1 A2
  go_loopg [11] R.ws.length (fun gk iv wr => ∃ k : Nat, k ≤ R.ws.length ∧ R.ws.length - k ≤ gk ∧ iv = .int .i64 k ∧ Below w2.heap.size w2 wr ∧ Hid (∀ j, (hj : j < R.ws.length) → j < k → isW t 0 i R.ws[j] = false))
  case atStart => exact ⟨0, Nat.zero_le _, Nat.le_refl _, rfl, Below.refl _ _, fun j _ hj => by omega⟩
  case round =>
    obtain ⟨k, hk, hgk, rfl, hb, hno⟩ := hrel
    have hp := h.below hb
    have c4 := hp.c4
    rw [Hv.out] at c4
    have hrb := hp.lt
    by_cases hlt : k < R.ws.length
    · rcases hp.rw.shape (fun _ => rfl) with ⟨e, _⟩ | ⟨g, cap, cur, e, _, hgl, _, _, hc⟩
      · rw [Hv.out] at e; injection e with _ e2 _; omega
      have ee := Hv.out.symm.trans e
      simp only [Value.slice.injEq] at ee
      obtain ⟨rfl, _, rfl⟩ := ee
      have q0 := (hc k 0 hlt (by decide)).1
      have q1 := (hc k 1 hlt (by decide)).1
      have q3 := (hc k 2 hlt (by decide)).1
      have q4 := (hc k 3 hlt (by decide)).1
      have q5 := (hc k 3 hlt (by decide)).2
      simp only [cellsW, List.getElem?_cons_zero, List.getElem?_cons_succ, Nat.add_zero] at q0 q1 q3 q4
      have hkI : (k : Int) < (R.ws.length : Int) := by omega
      have hno' : isW t 0 i R.ws[k] = false → Hid (∀ j, (hj : j < R.ws.length) → j < k + 1 → isW t 0 i R.ws[j] = false) := fun hk0 j hj hjk => by
        by_cases hjk' : j < k
        · exact hno.out j hj hjk'
        · obtain rfl : j = k := by omega
          exact hk0
      have hput := fun hk0 : isW t 0 i R.ws[k] = true => putW_found (c := c) hlt hno.out hk0
      have hset := fun (W : World) (hW : RefAt W rb V x7 x8 x9 x10 x11 R) => hW.put_ws (g := g) (cap := cw) e k hlt c
      have Hs := hid (And.intro hno' (And.intro hput hset))
      clear hno' hput hset hc hno e
      by_cases e1 : R.ws[k].1 = t
      · by_cases e2 : R.ws[k].2.1 = 0
        · by_cases e3 : R.ws[k].2.2.1 = i
          · have Hp := hid (Hs.out.2.1 (by simp [isW, e1, e2, e3]))
            have Hq := hid (Hs.out.2.2 wr hp)
            rw [e1] at q0
            rw [e2] at q1
            rw [e3] at q3
            clear e1 e2 e3
            go_wp2
            go_ret
            refine ⟨rfl, V, ?_, (Only.of_below hb).trans (Hq.out.2.trans (Only.of_below ((Below.refl _ _).alloc (Nat.le_refl _) _))), fun b hb => Or.inl hb⟩
            rw [Hp.out]
            exact Hq.out.1.alloc _
          · have e3b : (R.ws[k].2.2.1 == i) = false := by simpa using e3
            have Hk := hid (Hs.out.1 (by simp [isW, e1, e2, e3]))
            go_wp2
            go_roundg (R.ws.length - (k + 1))
            case measure => omega
            case rel => exact ⟨k + 1, by omega, Nat.le_refl _, by go_num, hb.alloc hb.size _, Hk.out⟩
        · have e2b : (R.ws[k].2.1 == 0) = false := by simpa using e2
          have Hk := hid (Hs.out.1 (by simp [isW, e1, e2]))
          go_wp2
          go_roundg (R.ws.length - (k + 1))
          case measure => omega
          case rel => exact ⟨k + 1, by omega, Nat.le_refl _, by go_num, hb.alloc hb.size _, Hk.out⟩
      · have e1b : (R.ws[k].1 == t) = false := by simpa using e1
        have Hk := hid (Hs.out.1 (by simp [isW, e1]))
        go_wp2
        go_roundg (R.ws.length - (k + 1))
        case measure => omega
        case rel => exact ⟨k + 1, by omega, Nat.le_refl _, by go_num, hb.alloc hb.size _, Hk.out⟩
    · have Hn := hid (putW_none (c := c) (fun j hj => hno.out j hj (by omega)))
      obtain ⟨i4, hi4, hy0, hy1, hy2⟩ := info_parts info146
      have hp5 := hp.alloc (.cells #[.int .i64 t, .int .i64 0, .int .i64 i, .int .i64 c] 117)
      have f4 := hp.fr 4
      go_wp2_with (first
        | (at_builtin; refine wpList_append_own_at _ rfl _ _ 43 rfl 0 117 i4 (.agg #[.int .i64 0, .int .i64 0, .int .i64 0, .int .i64 0]) 4 32 Tryz.underlying43 hi4 hy0 hy1 hy2 rfl (by decide) _ _ _ Hv.out.symm hp5.rw ⟨wr.heap.size, 0, none⟩ 1 1 [.int .i64 t, .int .i64 0, .int .i64 i, .int .i64 c] rfl rfl (new4 _ _ _ _ _ _) (by intro u hu; simp at hu; rcases hu with rfl | rfl | rfl | rfl <;> rfl) (by unfold maxLen; omega) (by omega) (Nat.zero_le _) ?_; intro u w5 hrow5 hg5 _ hloc5; obtain ⟨pu, cu, rfl⟩ := ownsRow_shape hrow5; have q0 := (hp5.kept hg5 4 (fun e => hp5.ne (mem_blocks.2 (by simp [e])))).1.trans hp5.c4; have q1 := (hp5.kept hg5 4 (fun e => hp5.ne (mem_blocks.2 (by simp [e])))).2)
        | go_in)
      go_ret
      have hs5 := hp5.set_ws hg5 (u := .slice pu (R.ws.length + 1) cu) (ys := R.ws ++ [(t, 0, i, c)]) (by unfold RowAt; simpa [cellsW] using hrow5) (hloc5.imp_right (fun e m hm => by rw [e] at hm; cases hm; exact Nat.le_refl _))
      have hOa : Only (foot rb V) w2 (wr.alloc (.cells #[.int .i64 t, .int .i64 0, .int .i64 i, .int .i64 c] 117)) := (Only.of_below hb).trans (Only.of_below ((Below.refl _ _).alloc (Nat.le_refl _) _))
      refine ⟨rfl, _, ?_, hOa.trans hs5.2.1, fun b hb => (hs5.2.2 b hb).imp_right (fun hh => Nat.le_trans hOa.size hh)⟩
      rw [Hn.out]
      exact hs5.1

set_option maxRecDepth 100000 in
set_option maxHeartbeats 4000000 in
theorem rpref1_ok (h : RefAt w rb V x7 x8 x9 x10 x11 R) (t i c : Int) (hl3 : R.t3.length ≤ 1000) (hlk : R.t1.length ≤ 1000) (hat : 0 ≤ atOf t R.t3) (hak : 0 ≤ atOf i R.t1) (hc0 : 0 ≤ c) (hc1 : c ≤ 1000) (hlw : R.ws.length ≤ 1000000000) :
    Calls Tryz.prog 35 #[.pointer (some ⟨rb, 0, none⟩), .int .i64 t, .int .i64 1, .int .i64 i, .int .i64 c] w fun e w' => e = .returned (.int .i64 0) ∧ ∃ V', RefAt w' rb V' x7 x8 x9 x10 x11 { R with ws := putW t 1 i c R.ws } ∧ Only (foot rb V) w w' ∧ (∀ b ∈ V'.blocks, b ∈ V.blocks ∨ w.heap.size ≤ b) := by
  have A1 := hid (at_any _ rb 3 V.v3 R.t3 t (by decide) h.c3 h.r3 hl3)
  have A2 := hid (at_any _ rb 1 V.v1 R.t1 i (by decide) h.c1 h.r1 hlk)
  generalize atOf t R.t3 = q at A1 hat
  generalize atOf i R.t1 = q2 at A2 hak
  have d1 : decide (q < 0) = false := by simp; omega
  have d2 : decide (q2 < 0) = false := by simp; omega
  have d3 : decide (c < 0) = false := by simp; omega
  have d4 : decide (1000 < c) = false := by simp; omega
  obtain ⟨pw, cw, hv⟩ := slice_of h.rw
  go_enter Tryz.func35, Tryz.ntmps35
  go_wp2_with fail
  refine A1.out.mono ?_
  rintro e w2 ⟨rfl, rfl⟩
  go_wp2_with fail
  refine A2.out.mono ?_
  rintro e w2 ⟨rfl, rfl⟩
  go_wp2_with fail
  have Hv := hid hv
  clear hv A1 A2
  go_loopg [11] R.ws.length (fun gk iv wr => ∃ k : Nat, k ≤ R.ws.length ∧ R.ws.length - k ≤ gk ∧ iv = .int .i64 k ∧ Below w2.heap.size w2 wr ∧ Hid (∀ j, (hj : j < R.ws.length) → j < k → isW t 1 i R.ws[j] = false))
  case atStart => exact ⟨0, Nat.zero_le _, Nat.le_refl _, rfl, Below.refl _ _, fun j _ hj => by omega⟩
  case round =>
    obtain ⟨k, hk, hgk, rfl, hb, hno⟩ := hrel
    have hp := h.below hb
    have c4 := hp.c4
    rw [Hv.out] at c4
    have hrb := hp.lt
    by_cases hlt : k < R.ws.length
    · rcases hp.rw.shape (fun _ => rfl) with ⟨e, _⟩ | ⟨g, cap, cur, e, _, hgl, _, _, hc⟩
      · rw [Hv.out] at e; injection e with _ e2 _; omega
      have ee := Hv.out.symm.trans e
      simp only [Value.slice.injEq] at ee
      obtain ⟨rfl, _, rfl⟩ := ee
      have q0 := (hc k 0 hlt (by decide)).1
      have q1 := (hc k 1 hlt (by decide)).1
      have q3 := (hc k 2 hlt (by decide)).1
      have q4 := (hc k 3 hlt (by decide)).1
      have q5 := (hc k 3 hlt (by decide)).2
      simp only [cellsW, List.getElem?_cons_zero, List.getElem?_cons_succ, Nat.add_zero] at q0 q1 q3 q4
      have hkI : (k : Int) < (R.ws.length : Int) := by omega
      have hno' : isW t 1 i R.ws[k] = false → Hid (∀ j, (hj : j < R.ws.length) → j < k + 1 → isW t 1 i R.ws[j] = false) := fun hk0 j hj hjk => by
        by_cases hjk' : j < k
        · exact hno.out j hj hjk'
        · obtain rfl : j = k := by omega
          exact hk0
      have hput := fun hk0 : isW t 1 i R.ws[k] = true => putW_found (c := c) hlt hno.out hk0
      have hset := fun (W : World) (hW : RefAt W rb V x7 x8 x9 x10 x11 R) => hW.put_ws (g := g) (cap := cw) e k hlt c
      have Hs := hid (And.intro hno' (And.intro hput hset))
      clear hno' hput hset hc hno e
      by_cases e1 : R.ws[k].1 = t
      · by_cases e2 : R.ws[k].2.1 = 1
        · by_cases e3 : R.ws[k].2.2.1 = i
          · have Hp := hid (Hs.out.2.1 (by simp [isW, e1, e2, e3]))
            have Hq := hid (Hs.out.2.2 wr hp)
            rw [e1] at q0
            rw [e2] at q1
            rw [e3] at q3
            clear e1 e2 e3
            go_wp2
            go_ret
            refine ⟨rfl, V, ?_, (Only.of_below hb).trans (Hq.out.2.trans (Only.of_below ((Below.refl _ _).alloc (Nat.le_refl _) _))), fun b hb => Or.inl hb⟩
            rw [Hp.out]
            exact Hq.out.1.alloc _
          · have e3b : (R.ws[k].2.2.1 == i) = false := by simpa using e3
            have Hk := hid (Hs.out.1 (by simp [isW, e1, e2, e3]))
            go_wp2
            go_roundg (R.ws.length - (k + 1))
            case measure => omega
            case rel => exact ⟨k + 1, by omega, Nat.le_refl _, by go_num, hb.alloc hb.size _, Hk.out⟩
        · have e2b : (R.ws[k].2.1 == 1) = false := by simpa using e2
          have Hk := hid (Hs.out.1 (by simp [isW, e1, e2]))
          go_wp2
          go_roundg (R.ws.length - (k + 1))
          case measure => omega
          case rel => exact ⟨k + 1, by omega, Nat.le_refl _, by go_num, hb.alloc hb.size _, Hk.out⟩
      · have e1b : (R.ws[k].1 == t) = false := by simpa using e1
        have Hk := hid (Hs.out.1 (by simp [isW, e1]))
        go_wp2
        go_roundg (R.ws.length - (k + 1))
        case measure => omega
        case rel => exact ⟨k + 1, by omega, Nat.le_refl _, by go_num, hb.alloc hb.size _, Hk.out⟩
    · have Hn := hid (putW_none (c := c) (fun j hj => hno.out j hj (by omega)))
      obtain ⟨i4, hi4, hy0, hy1, hy2⟩ := info_parts info146
      have hp5 := hp.alloc (.cells #[.int .i64 t, .int .i64 1, .int .i64 i, .int .i64 c] 117)
      have f4 := hp.fr 4
      go_wp2_with (first
        | (at_builtin; refine wpList_append_own_at _ rfl _ _ 43 rfl 0 117 i4 (.agg #[.int .i64 0, .int .i64 0, .int .i64 0, .int .i64 0]) 4 32 Tryz.underlying43 hi4 hy0 hy1 hy2 rfl (by decide) _ _ _ Hv.out.symm hp5.rw ⟨wr.heap.size, 0, none⟩ 1 1 [.int .i64 t, .int .i64 1, .int .i64 i, .int .i64 c] rfl rfl (new4 _ _ _ _ _ _) (by intro u hu; simp at hu; rcases hu with rfl | rfl | rfl | rfl <;> rfl) (by unfold maxLen; omega) (by omega) (Nat.zero_le _) ?_; intro u w5 hrow5 hg5 _ hloc5; obtain ⟨pu, cu, rfl⟩ := ownsRow_shape hrow5; have q0 := (hp5.kept hg5 4 (fun e => hp5.ne (mem_blocks.2 (by simp [e])))).1.trans hp5.c4; have q1 := (hp5.kept hg5 4 (fun e => hp5.ne (mem_blocks.2 (by simp [e])))).2)
        | go_in)
      go_ret
      have hs5 := hp5.set_ws hg5 (u := .slice pu (R.ws.length + 1) cu) (ys := R.ws ++ [(t, 1, i, c)]) (by unfold RowAt; simpa [cellsW] using hrow5) (hloc5.imp_right (fun e m hm => by rw [e] at hm; cases hm; exact Nat.le_refl _))
      have hOa : Only (foot rb V) w2 (wr.alloc (.cells #[.int .i64 t, .int .i64 1, .int .i64 i, .int .i64 c] 117)) := (Only.of_below hb).trans (Only.of_below ((Below.refl _ _).alloc (Nat.le_refl _) _))
      refine ⟨rfl, _, ?_, hOa.trans hs5.2.1, fun b hb => (hs5.2.2 b hb).imp_right (fun hh => Nat.le_trans hOa.size hh)⟩
      rw [Hn.out]
      exact hs5.1
end
end Go.Proofs.YtjdindfjfpdikaaGreat
