import Derived.Test.YtjdindfjfpdikaaGreatRefC
namespace Go.Proofs.YtjdindfjfpdikaaGreat
open Go.RowKit

theorem Only.chain {S S' : List Nat} {a b c : World} (h : Only S a b) (k : Only S' b c) (hs : ∀ x ∈ S', x ∈ S ∨ a.heap.size ≤ x) : Only S a c :=
  ⟨k.os.trans h.os, k.tape.trans h.tape, k.output.trans h.output, Nat.le_trans h.size k.size, fun i hi hn => (k.block i (Nat.lt_of_lt_of_le hi h.size) (fun hm => by
    rcases hs i hm with h1 | h1
    · exact hn h1
    · omega)).trans (h.block i hi hn)⟩

section
variable {w : World} {rb : Nat} {V : RVs} {x7 x8 x9 x10 x11 : Value} {R : RSt}

set_option maxRecDepth 100000 in
set_option maxHeartbeats 4000000 in
theorem make3_ok (h : RefAt w rb V x7 x8 x9 x10 x11 R) (id o n : Int) (hl : R.t3.length < 16) (h0 : 0 ≤ id) (h1 : id ≤ 99) (hat : atOf id R.t3 < 0) (hnd : 0 ≤ atOf o R.t2) (hn0 : 0 ≤ n) (hn1 : n ≤ 1000) (hln : R.t2.length ≤ 1000) (hlo : R.on.length ≤ 16) (hlt : R.wt.length ≤ 16) :
    Calls Tryz.prog 34 #[.pointer (some ⟨rb, 0, none⟩), .int .i64 3, .agg #[.int .i64 id, .int .i64 o, .int .i64 n]] w fun e w' => e = .returned (.int .i64 0) ∧ ∃ V', RefAt w' rb V' x7 x8 x9 x10 x11 { R with t3 := R.t3 ++ [(id, o, n)], on := R.on ++ [-1], wt := R.wt ++ [0] } ∧ Only (foot rb V) w w' ∧ (∀ b ∈ V'.blocks, b ∈ V.blocks ∨ w.heap.size ≤ b) := by
  have hp1 := h.alloc (.cells #[.int .i64 id, .int .i64 o, .int .i64 n] 76)
  have hb1 : Below w.heap.size w (w.alloc (.cells #[.int .i64 id, .int .i64 o, .int .i64 n] 76)) := (Below.refl _ _).alloc (Nat.le_refl _) _
  have A1 := hid (at_any _ rb 3 V.v3 R.t3 id (by decide) hp1.c3 hp1.r3 (by omega))
  have A2 := hid (at_any _ rb 2 V.v2 R.t2 o (by decide) hp1.c2 hp1.r2 hln)
  generalize atOf o R.t2 = q2 at A2 hnd
  have hq2 : decide (q2 < 0) = false := by simp; omega
  generalize atOf id R.t3 = q at A1 hat
  have hqb : decide (0 ≤ q) = false := by simpa using hat
  have hid0 : decide (id < 0) = false := by simp; omega
  have hid1 : decide (99 < id) = false := by simp; omega
  have hnb0 : decide (n < 0) = false := by simp; omega
  have hnb1 : decide (1000 < n) = false := by simp; omega
  obtain ⟨pp, cap, hv⟩ := slice_of h.r3
  have c0 := h.c3
  have hrb := h.lt
  rw [hv] at c0
  have hlb : decide ((16 : Int) ≤ (R.t3.length : Int)) = false := by simp; omega
  go_enter Tryz.func34, Tryz.ntmps34
  go_wp2_with fail
  refine A1.out.mono ?_
  rintro e w2 ⟨rfl, rfl⟩
  go_wp2_with fail
  refine A2.out.mono ?_
  rintro e w2 ⟨rfl, rfl⟩
  go_wp2_with fail
  go_quiet ((go_at_call 63; exact Calls.quiet_of_same (most3 _)))
  go_wp2_with fail
  have hp2 := hp1.drewN nq
  have hb2 : Below w.heap.size w ((w.alloc (.cells #[.int .i64 id, .int .i64 o, .int .i64 n] 76)).drewN nq) := ⟨hb1.os, hb1.tape, hb1.output, hb1.size, hb1.block⟩
  have k0 : ((w.alloc (.cells #[.int .i64 id, .int .i64 o, .int .i64 n] 76)).drewN nq).cell? ⟨w.heap.size, 0, none⟩ = some (.int .i64 id) := by show (w.alloc _).cell? _ = _; rw [World.cell?_alloc_at _ _ _ _ rfl]; rfl
  have k1 : ((w.alloc (.cells #[.int .i64 id, .int .i64 o, .int .i64 n] 76)).drewN nq).cell? ⟨w.heap.size, 1, none⟩ = some (.int .i64 o) := by show (w.alloc _).cell? _ = _; rw [World.cell?_alloc_at _ _ _ _ rfl]; rfl
  have k2 : ((w.alloc (.cells #[.int .i64 id, .int .i64 o, .int .i64 n] 76)).drewN nq).cell? ⟨w.heap.size, 2, none⟩ = some (.int .i64 n) := by show (w.alloc _).cell? _ = _; rw [World.cell?_alloc_at _ _ _ _ rfl]; rfl
  have hz : w.heap.size < ((w.alloc (.cells #[.int .i64 id, .int .i64 o, .int .i64 n] 76)).drewN nq).heap.size := by simp [World.drewN]
  clear A1 A2 hp1 hb1 c0 h
  generalize (w.alloc (.cells #[.int .i64 id, .int .i64 o, .int .i64 n] 76)).drewN nq = W2 at hp2 hb2 k0 k1 k2 hz ⊢
  have c0 := hp2.c3
  have hrb2 := hp2.lt
  obtain ⟨i0, hi, hz0, hz1, hz2⟩ := info_parts info122
  go_cut [82] (fun _ wx => ∃ V', RefAt wx rb V' x7 x8 x9 x10 x11 { R with t3 := R.t3 ++ [(id, o, n)] } ∧ Only (foot rb V) w wx ∧ (∀ b ∈ V'.blocks, b ∈ V.blocks ∨ w.heap.size ≤ b))
  case first =>
    have hp3 := (hp2.alloc (.cells #[.int .i64 id, .int .i64 o, .int .i64 n] 76)).drew
    have hO3 : Only (foot rb V) w (W2.alloc (.cells #[.int .i64 id, .int .i64 o, .int .i64 n] 76)).drew := (Only.of_below (next2 hb2 ((Below.refl _ _).alloc (Nat.le_refl _) _))).drew
    rw [hv] at c0
    go_region_law (refine step_append_own rfl _ _ 41 rfl 0 76 i0 (.agg #[.int .i64 0, .int .i64 0, .int .i64 0]) 3 24 Tryz.underlying41 hi hz0 hz1 hz2 rfl (by decide) _ _ _ hv.symm hp3.r3 ⟨W2.heap.size, 0, none⟩ 1 1 [.int .i64 id, .int .i64 o, .int .i64 n] rfl rfl (new3 _ _ _ _ _) (by intro u hu; simp at hu; rcases hu with rfl | rfl | rfl <;> rfl) (by unfold maxLen; omega) (by omega) (Nat.zero_le _) ?_; intro u w3 hrow hg hloc; obtain ⟨pu, cu, rfl⟩ := ownsRow_shape hrow; have q0 := (hp3.kept hg 3 (fun e => hp3.ne (mem_blocks.2 (by simp [e])))).1.trans hp3.c3; have q1 := (hp3.kept hg 3 (fun e => hp3.ne (mem_blocks.2 (by simp [e])))).2)
    all_goals go_wp2_with fail
    all_goals go_meet
    all_goals
      have hs := hp3.set_t3 hg (u := .slice pu (R.t3.length + 1) cu) (ys := R.t3 ++ [(id, o, n)]) (by unfold RowAt; simpa [cellsT] using hrow) (hloc.imp_right (fun e m hm => by rw [e] at hm; cases hm; exact Nat.le_refl _))
      exact ⟨_, hs.1, hO3.trans hs.2.1, fun b hb => (hs.2.2 b hb).imp_right (fun hh => Nat.le_trans hO3.size hh)⟩
  case rest =>
    obtain ⟨V', hq⟩ := hcut
    obtain ⟨hr4, hO4, hb4⟩ := hq
    obtain ⟨R4, hR4⟩ : ∃ R4 : RSt, R4 = { R with t3 := R.t3 ++ [(id, o, n)] } := ⟨_, rfl⟩
    have e1 : R4.on = R.on := by rw [hR4]
    have e2 : R4.wt = R.wt := by rw [hR4]
    rw [← hR4] at hr4
    have hlo4 : R4.on.length ≤ 16 := by rw [e1]; exact hlo
    have hlt4 : R4.wt.length ≤ 16 := by rw [e2]; exact hlt
    have HR := hid hR4
    clear hR4 e1 e2
    obtain ⟨i3, hi3, hy0, hy1, hy2⟩ := info_parts info3
    have c5 := hr4.c5
    have hrb4 := hr4.lt
    have f5 := hr4.fr 5
    obtain ⟨po, co, hvo⟩ := slice_of hr4.ro
    rw [hvo] at c5
    have hr5 := hr4.alloc (.cells #[.int .i64 (-1)] 3)
    obtain ⟨pt, ct, hvt0⟩ := slice_of hr4.rt
    have Hvt := hid hvt0
    clear hvt0
    go_wp2_with (first
      | (at_builtin; refine wpList_append_own_at _ rfl _ _ 32 rfl 0 3 i3 (.int .i64 0) 1 8 Tryz.underlying32 hi3 hy0 hy1 hy2 rfl (by decide) _ _ _ hvo.symm hr5.ro ⟨wc.heap.size, 0, none⟩ 1 1 [.int .i64 (-1)] rfl rfl (cell_one_new _ _ _) (by intro u hu; simp at hu; subst hu; rfl) (by unfold maxLen; omega) (by omega) (Nat.zero_le _) ?_; intro u w5 hrow5 hg5 _ hloc5; obtain ⟨pu, cu, rfl⟩ := ownsRow_shape hrow5; have q0 := (hr5.kept hg5 5 (fun e => hr5.ne (mem_blocks.2 (by simp [e])))).1.trans hr5.c5; have q1 := (hr5.kept hg5 5 (fun e => hr5.ne (mem_blocks.2 (by simp [e])))).2; have hvt := Hvt.out; have q6 := (hr5.kept hg5 6 (fun e => hr5.ne (mem_blocks.2 (by simp [e])))).1.trans hr5.c6; rw [hvt] at q6; have q7 := (hr5.kept hg5 6 (fun e => hr5.ne (mem_blocks.2 (by simp [e])))).2; have hs5 := hr5.set_on hg5 (u := .slice pu (R4.on.length + 1) cu) (ys := R4.on ++ [-1]) (by unfold RowAt; simpa [cellsI] using hrow5) (hloc5.imp_right (fun e m hm => by rw [e] at hm; cases hm; exact Nat.le_refl _)); have hrb5 : rb < w5.heap.size := Nat.lt_of_lt_of_le hr5.lt hg5.size; have hr6 := hs5.1.alloc (.cells #[.int .i64 0] 3); clear hvo)
      | (at_builtin; refine wpList_append_own_at _ rfl _ _ 32 rfl 0 3 i3 (.int .i64 0) 1 8 Tryz.underlying32 hi3 hy0 hy1 hy2 rfl (by decide) _ _ _ hvt.symm hr6.rt ⟨w5.heap.size, 0, none⟩ 1 1 [.int .i64 0] rfl rfl (by have := cell_one_new (w5.setCell ⟨rb, 5, none⟩ (.slice pu (R4.on.length + 1) cu)) (.int .i64 0) 3; simpa [World.setCell] using this) (by intro u hu; simp at hu; subst hu; rfl) (by show R4.wt.length + 1 ≤ maxLen; unfold maxLen; omega) (by show (R4.wt.length + 1) * 8 ≤ _; omega) (Nat.zero_le _) ?_; intro u2 w7 hrow7 hg7 _ hloc7; obtain ⟨pu2, cu2, rfl⟩ := ownsRow_shape hrow7; have q8 := (hr6.kept hg7 6 (fun e => hr6.ne (mem_blocks.2 (by simp [e])))).1.trans hr6.c6; have q9 := (hr6.kept hg7 6 (fun e => hr6.ne (mem_blocks.2 (by simp [e])))).2)
      | go_in)
    go_ret
    have hs7 := hr6.set_wt hg7 (u := .slice pu2 (R4.wt.length + 1) cu2) (ys := R4.wt ++ [0]) (by unfold RowAt; simpa [cellsI] using hrow7) (hloc7.imp_right (fun e m hm => by rw [e] at hm; cases hm; exact Nat.le_refl _))
    have sub4 : ∀ x ∈ foot rb V', x ∈ foot rb V ∨ w.heap.size ≤ x := fun x hx => by
      rcases List.mem_cons.1 hx with rfl | hx
      · exact Or.inl List.mem_cons_self
      · exact (hb4 x hx).imp_left (List.mem_cons_of_mem _)
    have hOa : Only (foot rb V) w (wc.alloc (.cells #[.int .i64 (-1)] 3)) := hO4.trans (Only.of_below ((Below.refl _ _).alloc (Nat.le_refl _) _))
    have hOb := hOa.chain hs5.2.1 sub4
    have sub5 : ∀ x ∈ foot rb ({ V' with vo := .slice pu (R4.on.length + 1) cu } : RVs), x ∈ foot rb V ∨ w.heap.size ≤ x := fun x hx => by
      rcases List.mem_cons.1 hx with rfl | hx
      · exact Or.inl List.mem_cons_self
      · rcases hs5.2.2 x hx with h5 | h5
        · exact (hb4 x h5).imp_left (List.mem_cons_of_mem _)
        · exact Or.inr (Nat.le_trans hOa.size h5)
    have hOc : Only (foot rb V) w ((w5.setCell ⟨rb, 5, none⟩ (.slice pu (R4.on.length + 1) cu)).alloc (.cells #[.int .i64 0] 3)) := hOb.trans (Only.of_below ((Below.refl _ _).alloc (Nat.le_refl _) _))
    have hOd := hOc.chain hs7.2.1 sub5
    refine ⟨rfl, { ({ V' with vo := .slice pu (R4.on.length + 1) cu } : RVs) with vt := .slice pu2 (R4.wt.length + 1) cu2 }, ?_, hOd, fun b hb => ?_⟩
    · have e : ({ ({ R4 with on := R4.on ++ [-1] } : RSt) with wt := R4.wt ++ [0] } : RSt) = { R with t3 := R.t3 ++ [(id, o, n)], on := R.on ++ [-1], wt := R.wt ++ [0] } := by rw [HR.out]
      rw [← e]
      exact hs7.1
    · rcases hs7.2.2 b hb with h7 | h7
      · rcases hs5.2.2 b h7 with h5 | h5
        · exact hb4 b h5
        · exact Or.inr (Nat.le_trans hOa.size h5)
      · exact Or.inr (Nat.le_trans hOc.size h7)
end
end Go.Proofs.YtjdindfjfpdikaaGreat
