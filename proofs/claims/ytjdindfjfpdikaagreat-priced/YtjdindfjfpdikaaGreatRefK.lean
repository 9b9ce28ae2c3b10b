import Derived.Test.YtjdindfjfpdikaaGreatRefJ
namespace Go.Proofs.YtjdindfjfpdikaaGreat
open Go.RowKit

section
variable {w : World}

theorem flatI (xs : List Int) : xs.flatMap cellsI = xs.map (fun n => Value.int .i64 n) := by
  induction xs with
  | nil => rfl
  | cons y ys ih => rw [List.flatMap_cons, ih]; rfl

set_option maxRecDepth 100000 in
set_option maxHeartbeats 4000000 in
theorem without_any (v : Value) (xs : List Int) (k : Nat) (h : RowAt w 3 1 cellsI v xs) (hk : k < xs.length) (hl : xs.length ≤ 1000) :
    Calls Tryz.prog 65 #[v, .int .i64 k] w fun e w' => ∃ u, e = .returned u ∧ w'.ownsRow w.heap.size 3 1 u (xs.eraseIdx k).length ((xs.eraseIdx k).flatMap cellsI) ∧ Below w.heap.size w w' := by
  rcases h.shape (fun _ => rfl) with ⟨_, rfl⟩ | ⟨g, cap, cur, rfl, hg, hgl, h1, h2, hc⟩
  · simp at hk
  obtain ⟨i3, hi3, hy0, hy1, hy2⟩ := info_parts info3
  have hk1 : (k : Int) < (xs.length : Int) := by omega
  have hk2 : (xs.length : Int) ≤ (cap : Int) := by omega
  have hk3 : (k : Int) ≤ (cap : Int) := by omega
  have hk4 : (k : Int) + 1 ≤ (cap : Int) := by omega
  have hk5 : (k : Int) + 1 ≤ (xs.length : Int) := by omega
  go_enter Tryz.func65, Tryz.ntmps65
  have hcell : ∀ j, (hj : j < xs.length) → w.cell? ⟨g, j, none⟩ = some (.int .i64 xs[j]) := fun j hj => by
    have := (hc j 0 hj (by decide)).1
    simpa [cellsI] using this
  have Hc := hid hcell
  clear hcell hc
  have F1 := hid (show ∀ j u, ((xs.take k).map (fun n => Value.int .i64 n))[j]? = some u → w.cell? ((⟨g, 0, none⟩ : Addr).add j) = some u from fun j u hu => by
    rw [List.getElem?_map] at hu
    have hj : j < k := by
      rcases Nat.lt_or_ge j k with h | h
      · exact h
      · rw [List.getElem?_eq_none (by simp; omega)] at hu; simp at hu
    have hjx : j < xs.length := by omega
    rw [List.getElem?_take_of_lt hj, List.getElem?_eq_getElem hjx] at hu
    simp at hu
    rw [Addr.add_lit, Nat.zero_add, Hc.out j hjx, hu])
  have hlk : ((xs.take k).map (fun n => Value.int .i64 n)).length = k * 1 := by simp; omega
  have F2 := hid (show ∀ j u, ((xs.drop (k + 1)).map (fun n => Value.int .i64 n))[j]? = some u → w.cell? ((⟨g, k + 1, none⟩ : Addr).add j) = some u from fun j u hu => by
    rw [List.getElem?_map, List.getElem?_drop] at hu
    have hjx : k + 1 + j < xs.length := by
      rcases Nat.lt_or_ge (k + 1 + j) xs.length with h | h
      · exact h
      · rw [List.getElem?_eq_none h] at hu; simp at hu
    rw [List.getElem?_eq_getElem hjx] at hu
    simp at hu
    rw [Addr.add_lit, Hc.out (k + 1 + j) hjx, hu])
  have hld : ((xs.drop (k + 1)).map (fun n => Value.int .i64 n)).length = (xs.length - (k + 1)) * 1 := by simp
  have Her := hid (show (xs.eraseIdx k).length = k + (xs.length - (k + 1)) ∧ (xs.eraseIdx k).flatMap cellsI = (xs.take k).map (fun n => Value.int .i64 n) ++ (xs.drop (k + 1)).map (fun n => Value.int .i64 n) from ⟨by rw [List.length_eraseIdx_of_lt hk]; omega, by rw [flatI, List.eraseIdx_eq_take_drop_succ, List.map_append]⟩)
  clear h hg
  by_cases hcap : cap = k + 1
  · have hx : xs.length = k + 1 := by omega
    subst hcap
    have hd0 : xs.drop (k + 1) = [] := List.drop_eq_nil_of_le (by omega)
    have hx0 : xs.length - (k + 1) = 0 := by omega
    rw [hd0, hx0] at Her
    have Hx := hid (And.intro hx hd0)
    clear hx hd0 F2 hld
    go_wp2_with (first
      | (at_builtin; refine wpList_append_own _ rfl _ _ 32 rfl w.heap.size 3 i3 (.int .i64 0) 1 8 Tryz.underlying32 hi3 hy0 hy1 hy2 rfl (by decide) (.slice none 0 0) 0 [] rfl (World.ownsRow_nil _ _ _ _) ⟨g, 0, none⟩ k (k + 1) ((xs.take k).map (fun n => Value.int .i64 n)) rfl hlk F1.out (by intro u hu; obtain ⟨n, _, rfl⟩ := List.mem_map.1 hu; rfl) (by unfold maxLen; omega) (by omega) (Nat.le_refl _) ?_; intro v1 w1 hrow1 hg1 _; simp only [Nat.zero_add, List.nil_append] at hrow1; obtain ⟨p1, cp1, rfl⟩ := ownsRow_shape hrow1; have hb1 : Below w.heap.size w w1 := (Below.refl _ _).grown hg1 (Nat.le_refl _) (fun j hj => by cases hj); clear hlk)
      | (at_builtin; refine wpList_append_own _ rfl _ _ 32 rfl w.heap.size 3 i3 (.int .i64 0) 1 8 Tryz.underlying32 hi3 hy0 hy1 hy2 rfl (by decide) _ _ _ rfl hrow1 ⟨g, 0, none⟩ 0 0 [] rfl rfl (by simp) (by simp) (by unfold maxLen; omega) (by omega) hb1.size ?_; intro v2 w2 hrow2 hg2 _)
      | go_in)
    go_ret
    refine ⟨_, rfl, ?_, hb1.grown hg2 hb1.size (fun j hj => (hrow1.lt j hj).1)⟩
    rw [Her.out.1, Her.out.2]
    simpa using hrow2
  · have hcap' : (k : Int) + 1 < (cap : Int) := by omega
    have hcapn : k + 1 < cap := by omega
    clear hcap
    go_wp2_with (first
      | (at_builtin; refine wpList_append_own _ rfl _ _ 32 rfl w.heap.size 3 i3 (.int .i64 0) 1 8 Tryz.underlying32 hi3 hy0 hy1 hy2 rfl (by decide) (.slice none 0 0) 0 [] rfl (World.ownsRow_nil _ _ _ _) ⟨g, 0, none⟩ k cap ((xs.take k).map (fun n => Value.int .i64 n)) rfl hlk F1.out (by intro u hu; obtain ⟨n, _, rfl⟩ := List.mem_map.1 hu; rfl) (by unfold maxLen; omega) (by omega) (Nat.le_refl _) ?_; intro v1 w1 hrow1 hg1 _; simp only [Nat.zero_add, List.nil_append] at hrow1; obtain ⟨p1, cp1, rfl⟩ := ownsRow_shape hrow1; have hb1 : Below w.heap.size w w1 := (Below.refl _ _).grown hg1 (Nat.le_refl _) (fun j hj => by cases hj); clear hlk)
      | (at_builtin; refine wpList_append_own _ rfl _ _ 32 rfl w.heap.size 3 i3 (.int .i64 0) 1 8 Tryz.underlying32 hi3 hy0 hy1 hy2 rfl (by decide) _ _ _ rfl hrow1 ⟨g, k + 1, none⟩ (xs.length - (k + 1)) (cap - (k + 1)) ((xs.drop (k + 1)).map (fun n => Value.int .i64 n)) rfl hld (fun j u hu => by rw [hb1.cell (p := (⟨g, k + 1, none⟩ : Addr).add j) (by rw [Addr.add_lit]; exact hgl)]; exact F2.out j u hu) (by intro u hu; obtain ⟨n, _, rfl⟩ := List.mem_map.1 hu; rfl) (by unfold maxLen; omega) (by omega) hb1.size ?_; intro v2 w2 hrow2 hg2 _)
      | go_in)
    go_ret
    refine ⟨_, rfl, ?_, hb1.grown hg2 hb1.size (fun j hj => (hrow1.lt j hj).1)⟩
    rw [Her.out.1, Her.out.2]
    exact hrow2
end
end Go.Proofs.YtjdindfjfpdikaaGreat
