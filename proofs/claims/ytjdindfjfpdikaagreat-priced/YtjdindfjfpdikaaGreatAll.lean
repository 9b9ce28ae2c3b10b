import Derived.Test.YtjdindfjfpdikaaGreatHas
import Derived.Test.YtjdindfjfpdikaaGreatRange
import Derived.Test.YtjdindfjfpdikaaGreatSmall
import Derived.Deep.LoopGhost
namespace Go.Proofs.YtjdindfjfpdikaaGreat
open Go.RowKit

section
variable {K V : Type} {ek : K → Value} {ev : V → Value} {b r : Nat} {l rest : List (K × V)} {P : Program}

theorem wpList_range_mine (w : World) {ops : Array Oper} {rs : List Oper} {o : Oper} {a : Act} {Q : Exit → Act → World → Prop} (hg : o.guard = none) (m : Operand) (t : TypeId) (hop : o.op = Op.range t m) {kt et : TypeId} (ht : P.underlying t = some (.map kt et))
    (hm : a.eval m = .map (some b)) (h : MapAt ek ev w b l)
    (hK : ∀ ob, Ranging ek ev (w.alloc ob) b w.heap.size l l → wpList P ops Q rs (a.put o.dst (.pointer (some ⟨w.heap.size, 0, none⟩))) (w.alloc ob)) : wpList P ops Q (o :: rs) a w := by
  refine wpList_plain hg fun K' hK' => ?_
  obtain ⟨ob, hrun, hr⟩ := run_ranging (P := P) ht h
  unfold Oper.wp
  simp [execOp, hop, hm, hrun, Result.andThen]
  exact hK' _ _ (hK ob hr)

theorem wpList_next_mine (w : World) {ops : Array Oper} {rs : List Oper} {o : Oper} {a : Act} {Q : Exit → Act → World → Prop} (hg : o.guard = none) (it : Operand) (hop : o.op = Op.next it false)
    (hit : a.eval it = .pointer (some ⟨r, 0, none⟩)) (h : Ranging ek ev w b r l rest)
    (hover : rest = [] → wpList P ops Q rs (a.put o.dst (.tuple #[.bool false])) w)
    (hcome : ∀ x rest' w1, rest.Perm (x :: rest') → (Instr.entry (.pointer (some ⟨r, 0, none⟩))).run P w1 = .ok (.tuple #[ek x.1, ev x.2]) w1 → Ranging ek ev w1 b r l rest' → w.grownBy w1 (some r) → w1.heap.size = w.heap.size →
      wpList P ops Q rs (a.put o.dst (.tuple #[.bool true, ek x.1, ev x.2])) w1) : wpList P ops Q (o :: rs) a w := by
  refine wpList_plain hg fun K' hK' => ?_
  rcases run_step (P := P) h o.type with ⟨he, hrun⟩ | ⟨x, rest', w1, h1, hrun, h2, h3, h4, h5⟩
  · unfold Oper.wp
    simp [execOp, hop, hit, hrun, Result.andThen]
    exact hK' _ _ (hover he)
  · unfold Oper.wp
    simp [execOp, hop, hit, hrun, Result.andThen]
    exact hK' _ _ (hcome x rest' w1 h1 h2 h3 h4 h5)
end

/-- The cells of a list of things. -/
def flat (xs : List (Int × Int)) : List Value := xs.flatMap fun a => [.int .i64 a.1, .int .i64 a.2]
/-- The things of a kind. -/
def sel (k : Int) (l : Things) : List (Int × Int) := (l.filter fun x => x.1.1 == k).map (·.1)

theorem flat_append (xs ys : List (Int × Int)) : flat (xs ++ ys) = flat xs ++ flat ys := by simp [flat]
theorem flat_length (xs : List (Int × Int)) : (flat xs).length = xs.length * 2 := by
  induction xs with
  | nil => rfl
  | cons x r ih => simp [flat] at ih ⊢; omega

/-- By rising ids. -/
def Rise (xs : List (Int × Int)) : Prop := xs.Pairwise (fun a b => a.2 ≤ b.2)

/-- What slices.SortFunc does to a row of things, by their ids. -/
def SortSaid : Prop := ∀ (w : World) (base : Nat) (v : Value) (xs : List (Int × Int)), w.ownsRow base 102 2 v xs.length (flat xs) → xs.length < 1000000 →
  Calls Tryz.prog 86 #[v, .func (.func 87) #[] #[]] w fun e w' => e = .returned (.tuple #[]) ∧ ∃ ys : List (Int × Int), ys.Perm xs ∧ w'.ownsRow base 102 2 v ys.length (flat ys) ∧ w.grownBy w' v.ownBlock ∧ Rise ys

theorem info79 : (Tryz.prog.info? 102).map (fun i => (i.zero, i.size, i.bytes)) = some (some (.agg #[.int .i64 0, .int .i64 0]), 2, 16) := by kernel_rfl

theorem newest2 (w : World) (o : Obj) (x y : Value) (t : TypeId) : ∀ (j : Nat) (u : Value), [x, y][j]? = some u → ((w.alloc o).alloc (.cells #[x, y] t)).cell? ((⟨w.heap.size + 1, 0, none⟩ : Addr).add j) = some u := by
  intro j u hu
  have hs : w.heap.size + 1 = (w.alloc o).heap.size := by simp
  rcases j with _ | _ | j
  · rw [Addr.add_lit, World.cell?_alloc_at _ _ _ _ hs]; simpa using hu
  · rw [Addr.add_lit, World.cell?_alloc_at _ _ _ _ hs]; simpa using hu
  · simp at hu

theorem row_ne_iter {K V : Type} {ek : K → Value} {ev : V → Value} {w : World} {b r base e size n : Nat} {l rest : List (K × V)} {v : Value} {xs : List Value} (h : w.ownsRow base e size v n xs) (hr : Ranging ek ev w b r l rest) : v.ownBlock ≠ some r := by
  intro hv
  obtain ⟨es, clock, seen, _, _, _, _, h5, _⟩ := hr
  rcases h.2 with ⟨rfl, _⟩ | ⟨g, cap, cur, rfl, _, hg, _⟩
  · simp [Value.ownBlock] at hv
  · simp [Value.ownBlock] at hv
    subst hv
    rw [h5] at hg
    cases hg

set_option maxHeartbeats 1000000 in
theorem all_any (hS : SortSaid) {w : World} {pb b0 b1 b2 b3 : Nat} {l0 : Things} {l1 : Runs} {l2 : Waits} {l3 : Prefs} (h : PlanAt w pb b0 b1 b2 b3 l0 l1 l2 l3) (k : Int) (hlen : l0.length ≤ 1000) :
    Calls Tryz.prog 61 #[.pointer (some ⟨pb, 0, none⟩), .int .i64 k] w fun e w' => ∃ v xs, e = .returned v ∧ xs.Perm (sel k l0) ∧ w'.ownsRow w.heap.size 102 2 v xs.length (flat xs) ∧ Below w.heap.size w w' ∧ Rise xs := by
  have hpb := h.lt
  have c0 := h.c0
  have m0 := h.m0
  have hb0 := m0.lt
  obtain ⟨i0, hi, hz0, hz1, hz2⟩ := info_parts info79
  clear h
  go_enter Tryz.func61, Tryz.ntmps61
  go_wp2_with (first
    | (at_range; refine wpList_range_mine _ rfl _ 54 rfl Tryz.underlying54 rfl m0 ?_; intro ob hrg0)
    | go_in)
  go_frame
  go_loopg [5] l0.length (fun gk v wr => ∃ xs rest, rest.length ≤ gk ∧ Ranging tv fv wr b0 w.heap.size l0 rest ∧ wr.ownsRow w.heap.size 102 2 v xs.length (flat xs) ∧ (xs ++ sel k rest).Perm (sel k l0) ∧ Below w.heap.size w wr)
  case atStart => exact ⟨[], l0, Nat.le_refl _, hrg0, World.ownsRow_nil _ _ _ _, List.Perm.refl _, (Below.refl _ _).alloc (Nat.le_refl _) _⟩
  case round =>
    obtain ⟨xs, rest, hgk, hrg, hrow, hperm, hbel⟩ := hrel
    go_wp2_with (first
      | (at_next; refine wpList_next_mine _ rfl _ rfl rfl hrg ?_ ?_)
      | go_in)
    · intro hr0
      subst hr0
      clear hgk
      rw [show sel k [] = [] from rfl, List.append_nil] at hperm
      have hlx : xs.length < 1000000 := by
        have h1 := hperm.length_eq
        have h2 : (sel k l0).length ≤ l0.length := by simp [sel]; exact List.length_filter_le _ _
        omega
      go_wp2_with (go_at_call 86; refine (hS _ _ _ xs hrow hlx).mono ?_; rintro e w' ⟨rfl, ys, hy1, hy2, hy3, hy4⟩)
      go_ret
      refine ⟨u5, ys, rfl, hy1.trans hperm, hy2, ?_⟩
      exact ⟨hbel.grown hy3 hbel.size (fun j hj => (hrow.lt j hj).1), hy4⟩
    · intro x1 x2 f1 f2 f3 f4 rest' w1 hp hen hrg1 hg1 hs1
      simp only [tv, fv] at hen ⊢
      have hsz : w1.heap.size ≤ wr.heap.size := by omega
      have hsz' : wr.heap.size ≤ w1.heap.size := by omega
      clear hs1
      have hrow1 : w1.ownsRow w.heap.size 102 2 u5 xs.length (flat xs) := hrow.kept hg1 (Or.inr (row_ne_iter hrow hrg))
      have hbel1 : Below w.heap.size w w1 := hbel.grown hg1 hbel.size (fun j hj => by cases hj; exact Nat.le_refl _)
      have hlx : xs.length ≤ 1000 := by
        have h1 := hperm.length_eq
        have h2 : (sel k l0).length ≤ l0.length := by simp [sel]; exact List.length_filter_le _ _
        simp at h1
        omega
      by_cases hk : x1 = k
      · subst hk
        go_wp2_with (first
          | (at_builtin; refine wpList_append_own _ rfl _ _ 111 rfl w.heap.size 102 i0 (.agg #[.int .i64 0, .int .i64 0]) 2 16 Tryz.underlying111 hi hz0 hz1 hz2 rfl (by decide) _ _ _ rfl ((hrow1.alloc _).alloc _) ⟨w1.heap.size + 1, 0, none⟩ 1 1 [.int .i64 x1, .int .i64 x2] rfl rfl ?_ ?_ ?_ ?_ ?_ ?_)
          | go_in)
        · exact newest2 _ _ _ _ _
        · intro u hu; simp at hu; rcases hu with rfl | rfl <;> rfl
        · unfold maxLen; omega
        · omega
        · have := hbel1.size; simp; omega
        · intro v' w' hrow' hg' _
          go_wp2
          go_roundg rest'.length
          case measure => have := hp.length_eq; simp at this; omega
          case rel =>
            have hall := ((World.grownBy_alloc w1 (Obj.cells #[.int .i64 x1, .int .i64 x2] 102) none).andThen (World.grownBy_alloc (w1.alloc (Obj.cells #[.int .i64 x1, .int .i64 x2] 102)) (Obj.cells #[.int .i64 x1, .int .i64 x2] 102) none) (by simp)).but u5.ownBlock
            have hall2 := hall.andThen hg' (fun j hj => Or.inr hj)
            have hl0 : some b0 ≠ u5.ownBlock := fun hj => by have := (hrow1.lt b0 hj.symm).1; omega
            refine ⟨xs ++ [(x1, x2)], rest', Nat.le_refl _, hrg1.kept hall2 hl0 (row_ne_iter hrow1 hrg1).symm, by simpa [flat] using hrow', ?_, hbel1.grown hall2 hbel1.size (fun j hj => (hrow1.lt j hj).1)⟩
            refine List.Perm.trans ?_ hperm
            rw [List.append_assoc]
            refine List.Perm.append_left _ ?_
            have := (hp.filter (fun x => x.1.1 == x1)).map (·.1)
            simpa [sel] using this.symm
      · have hkb : (x1 == k) = false := by simpa using hk
        go_wp2
        go_roundg rest'.length
        case measure => have := hp.length_eq; simp at this; omega
        case rel =>
          refine ⟨xs, rest', Nat.le_refl _, hrg1.kept (World.grownBy_alloc _ _ none) (by simp) (by simp), hrow1.alloc _, ?_, hbel1.alloc hbel1.size _⟩
          refine List.Perm.trans ?_ hperm
          refine List.Perm.append_left _ ?_
          have := (hp.filter (fun x => x.1.1 == k)).map (·.1)
          simpa [sel, hk] using this.symm
end Go.Proofs.YtjdindfjfpdikaaGreat
