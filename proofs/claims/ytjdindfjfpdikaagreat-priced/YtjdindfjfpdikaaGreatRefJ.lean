import Derived.Test.YtjdindfjfpdikaaGreatRefH
namespace Go.Proofs.YtjdindfjfpdikaaGreat
open Go.RowKit

/-- Is a wish gone with a thing? -/
def goneW (kd i : Int) (x : Wi) : Bool := (decide (kd = 3) && decide (x.1 = i)) || (decide (kd < 2) && (decide (x.2.1 = kd) && decide (x.2.2.1 = i)))

section
variable {w : World} {rb : Nat} {V : RVs} {x7 x8 x9 x10 x11 : Value} {R : RSt}

theorem new4b (w : World) (o : Obj) (x y z u0 : Value) (t : TypeId) : ∀ (j : Nat) (u : Value), [x, y, z, u0][j]? = some u → ((w.alloc o).alloc (.cells #[x, y, z, u0] t)).cell? ((⟨w.heap.size + 1, 0, none⟩ : Addr).add j) = some u := by
  have := new4 (w.alloc o) x y z u0 t
  rwa [show (w.alloc o).heap.size = w.heap.size + 1 by simp] at this

theorem own_zero {w : World} {base e size n : Nat} {v : Value} {xs : List Value} (h : w.ownsRow base e size v n xs) : w.ownsRow 0 e size v n xs := by
  refine ⟨h.1, ?_⟩
  rcases h.2 with h2 | ⟨g, cap, cur, hv, _, hr⟩
  · exact Or.inl h2
  · exact Or.inr ⟨g, cap, cur, hv, Nat.zero_le _, hr⟩

set_option maxRecDepth 100000 in
set_option maxHeartbeats 4000000 in
theorem rforget_any (h : RefAt w rb V x7 x8 x9 x10 x11 R) (kd i : Int) (hlw : R.ws.length ≤ 1000000000) :
    Calls Tryz.prog 64 #[.pointer (some ⟨rb, 0, none⟩), .int .i64 kd, .int .i64 i] w fun e w' => e = .returned (.tuple #[]) ∧ ∃ V', RefAt w' rb V' x7 x8 x9 x10 x11 { R with ws := R.ws.filter (fun x => !goneW kd i x) } ∧ Only (foot rb V) w w' ∧ (∀ b ∈ V'.blocks, b ∈ V.blocks ∨ w.heap.size ≤ b) := by
  obtain ⟨pw, cw, hv⟩ := slice_of h.rw
  have Hv := hid hv
  clear hv
  obtain ⟨i4, hi4, hy0, hy1, hy2⟩ := info_parts info146
  go_enter Tryz.func64, Tryz.ntmps64
  go_wp2_with fail
  go_loopg [6, 7] R.ws.length (fun gk v iv wr => ∃ k : Nat, k ≤ R.ws.length ∧ R.ws.length - k ≤ gk ∧ iv = .int .i64 k ∧ Below w.heap.size w wr ∧ wr.ownsRow w.heap.size 117 4 v ((R.ws.take k).filter (fun x => !goneW kd i x)).length (((R.ws.take k).filter (fun x => !goneW kd i x)).flatMap cellsW))
  case atStart => exact ⟨0, Nat.zero_le _, Nat.le_refl _, rfl, Below.refl _ _, World.ownsRow_nil _ _ _ _⟩
  case round =>
    obtain ⟨k, hk, hgk, rfl, hb, hrow⟩ := hrel
    have hp := h.below hb
    have c4 := hp.c4
    rw [Hv.out] at c4
    have hrb := hp.lt
    by_cases hlt : k < R.ws.length
    · rcases hp.rw.shape (fun _ => rfl) with ⟨e, _⟩ | ⟨g, cap, cur, e, _, hgl, _, _, hc⟩
      · rw [Hv.out] at e; injection e with _ e2 _; omega
      have ee := Hv.out.symm.trans e
      simp only [Value.slice.injEq] at ee
      obtain ⟨rfl, _, rfl⟩ := ee
      have q0 := (hc k 0 hlt (by decide)).1
      have q1 := (hc k 1 hlt (by decide)).1
      have q3 := (hc k 2 hlt (by decide)).1
      have q4 := (hc k 3 hlt (by decide)).1
      simp only [cellsW, List.getElem?_cons_zero, List.getElem?_cons_succ, Nat.add_zero] at q0 q1 q3 q4
      have hkI : (k : Int) < (R.ws.length : Int) := by omega
      have htk : R.ws.take (k + 1) = R.ws.take k ++ [R.ws[k]] := List.take_succ_eq_append_getElem hlt
      have hlen : ((R.ws.take k).filter (fun x => !goneW kd i x)).length ≤ 1000000000 := by
        have h1 := List.length_filter_le (fun x => !goneW kd i x) (R.ws.take k)
        have h2 := List.length_take_le k R.ws
        omega
      have Htk := hid htk
      clear htk hc e
      generalize hF : (R.ws.take k).filter (fun x => !goneW kd i x) = F at hrow hlen
      have HF := hid hF
      clear hF
      obtain ⟨z1, z2, z3, z4, hz⟩ : ∃ z1 z2 z3 z4, R.ws[k] = (z1, z2, z3, z4) := ⟨_, _, _, _, rfl⟩
      rw [hz] at q0 q1 q3 q4
      have hgo : goneW kd i (z1, z2, z3, z4) = true → (R.ws.take (k + 1)).filter (fun x => !goneW kd i x) = F := fun e => by
        rw [Htk.out, List.filter_append, HF.out, hz]; simp [e]
      have hng : goneW kd i (z1, z2, z3, z4) = false → (R.ws.take (k + 1)).filter (fun x => !goneW kd i x) = F ++ [(z1, z2, z3, z4)] := fun e => by
        rw [Htk.out, List.filter_append, HF.out, hz]; simp [e]
      have Keep := hid (fun (o1 o2 : Obj) (W : World) (hg : ((wr.alloc o1).alloc o2).grownBy W u6.ownBlock) => show Below w.heap.size w W from by
        have hb2 : Below w.heap.size w ((wr.alloc o1).alloc o2) := (hb.alloc hb.size _).alloc (Nat.le_trans hb.size (by simp)) _
        exact hb2.grown hg hb2.size (fun j hj => (hrow.lt j hj).1))
      have Hgn := hid (And.intro hgo hng)
      clear hgo hng hz
      by_cases a1 : kd = 3
      · subst a1
        by_cases a2 : z1 = i
        · have Hgo := hid (Hgn.out.1 (by simp [goneW, a2]))
          subst a2
          go_wp2
          go_roundg (R.ws.length - (k + 1))
          case measure => omega
          case rel => exact ⟨k + 1, by omega, Nat.le_refl _, by go_num, hb.alloc hb.size _, by rw [Hgo.out]; exact hrow.alloc _⟩
        · have Hng := hid (Hgn.out.2 (by simp [goneW, a2]))
          have a2b : (z1 == i) = false := by simpa using a2
          go_wp2_with (first
            | (at_builtin; refine wpList_append_own _ rfl _ _ 43 rfl w.heap.size 117 i4 (.agg #[.int .i64 0, .int .i64 0, .int .i64 0, .int .i64 0]) 4 32 Tryz.underlying43 hi4 hy0 hy1 hy2 rfl (by decide) _ _ _ rfl ((hrow.alloc _).alloc _) ⟨wr.heap.size + 1, 0, none⟩ 1 1 [.int .i64 z1, .int .i64 z2, .int .i64 z3, .int .i64 z4] rfl rfl (new4b _ _ _ _ _ _ _) (by intro u hu; simp at hu; rcases hu with rfl | rfl | rfl | rfl <;> rfl) (by unfold maxLen; omega) (by omega) (by have := hb.size; simp; omega) ?_; intro v' w' hrow' hg' _)
            | go_in)
          go_roundg (R.ws.length - (k + 1))
          case measure => omega
          case rel => exact ⟨k + 1, by omega, Nat.le_refl _, by go_num, Keep.out _ _ _ hg', by rw [Hng.out]; simpa [cellsW, List.flatMap_append] using hrow'⟩
      · have a1b : (kd == 3) = false := by simpa using a1
        by_cases b1 : kd < 2
        · by_cases b2 : z2 = kd
          · by_cases b3 : z3 = i
            · have Hgo := hid (Hgn.out.1 (by simp [goneW, b1, b2, b3]))
              subst b2 b3
              go_wp2
              go_roundg (R.ws.length - (k + 1))
              case measure => omega
              case rel => exact ⟨k + 1, by omega, Nat.le_refl _, by go_num, hb.alloc hb.size _, by rw [Hgo.out]; exact hrow.alloc _⟩
            · have Hng := hid (Hgn.out.2 (by simp [goneW, a1, b3]))
              have b3b : (z3 == i) = false := by simpa using b3
              subst b2
              go_wp2_with (first
                | (at_builtin; refine wpList_append_own _ rfl _ _ 43 rfl w.heap.size 117 i4 (.agg #[.int .i64 0, .int .i64 0, .int .i64 0, .int .i64 0]) 4 32 Tryz.underlying43 hi4 hy0 hy1 hy2 rfl (by decide) _ _ _ rfl ((hrow.alloc _).alloc _) ⟨wr.heap.size + 1, 0, none⟩ 1 1 [.int .i64 z1, .int .i64 z2, .int .i64 z3, .int .i64 z4] rfl rfl (new4b _ _ _ _ _ _ _) (by intro u hu; simp at hu; rcases hu with rfl | rfl | rfl | rfl <;> rfl) (by unfold maxLen; omega) (by omega) (by have := hb.size; simp; omega) ?_; intro v' w' hrow' hg' _)
                | go_in)
              go_roundg (R.ws.length - (k + 1))
              case measure => omega
              case rel => exact ⟨k + 1, by omega, Nat.le_refl _, by go_num, Keep.out _ _ _ hg', by rw [Hng.out]; simpa [cellsW, List.flatMap_append] using hrow'⟩
          · have Hng := hid (Hgn.out.2 (by simp [goneW, a1, b2]))
            have b2b : (z2 == kd) = false := by simpa using b2
            go_wp2_with (first
              | (at_builtin; refine wpList_append_own _ rfl _ _ 43 rfl w.heap.size 117 i4 (.agg #[.int .i64 0, .int .i64 0, .int .i64 0, .int .i64 0]) 4 32 Tryz.underlying43 hi4 hy0 hy1 hy2 rfl (by decide) _ _ _ rfl ((hrow.alloc _).alloc _) ⟨wr.heap.size + 1, 0, none⟩ 1 1 [.int .i64 z1, .int .i64 z2, .int .i64 z3, .int .i64 z4] rfl rfl (new4b _ _ _ _ _ _ _) (by intro u hu; simp at hu; rcases hu with rfl | rfl | rfl | rfl <;> rfl) (by unfold maxLen; omega) (by omega) (by have := hb.size; simp; omega) ?_; intro v' w' hrow' hg' _)
              | go_in)
            go_roundg (R.ws.length - (k + 1))
            case measure => omega
            case rel => exact ⟨k + 1, by omega, Nat.le_refl _, by go_num, Keep.out _ _ _ hg', by rw [Hng.out]; simpa [cellsW, List.flatMap_append] using hrow'⟩
        · have Hng := hid (Hgn.out.2 (by simp [goneW, a1, b1]))
          have b1b : decide (kd < 2) = false := by simpa using b1
          go_wp2_with (first
            | (at_builtin; refine wpList_append_own _ rfl _ _ 43 rfl w.heap.size 117 i4 (.agg #[.int .i64 0, .int .i64 0, .int .i64 0, .int .i64 0]) 4 32 Tryz.underlying43 hi4 hy0 hy1 hy2 rfl (by decide) _ _ _ rfl ((hrow.alloc _).alloc _) ⟨wr.heap.size + 1, 0, none⟩ 1 1 [.int .i64 z1, .int .i64 z2, .int .i64 z3, .int .i64 z4] rfl rfl (new4b _ _ _ _ _ _ _) (by intro u hu; simp at hu; rcases hu with rfl | rfl | rfl | rfl <;> rfl) (by unfold maxLen; omega) (by omega) (by have := hb.size; simp; omega) ?_; intro v' w' hrow' hg' _)
            | go_in)
          go_roundg (R.ws.length - (k + 1))
          case measure => omega
          case rel => exact ⟨k + 1, by omega, Nat.le_refl _, by go_num, Keep.out _ _ _ hg', by rw [Hng.out]; simpa [cellsW, List.flatMap_append] using hrow'⟩
    · obtain rfl : k = R.ws.length := by omega
      rw [List.take_length] at hrow
      have f4 := hp.fr 4
      obtain ⟨pu, cu, rfl⟩ := ownsRow_shape hrow
      have Hr := hid hrow
      clear hrow
      go_wp2
      go_end0
      have hs := h.set_ws (grown_of_below hb _) (own_zero Hr.out) (Or.inr (fun n hn => (Hr.out.lt n hn).1))
      exact ⟨rfl, _, hs.1, hs.2.1, hs.2.2⟩
end
end Go.Proofs.YtjdindfjfpdikaaGreat
