import Derived.Test.YtjdindfjfpdikaaGreatDel
import Derived.Test.YtjdindfjfpdikaaGreatCostB
namespace Go.Proofs.YtjdindfjfpdikaaGreat
open Go.MapKept (heap_set)
open Go.RowKit

theorem filter_erase {α : Type} (p : α → Bool) : ∀ (l : List α) (k : Nat) (x : α), l[k]? = some x → p x = false → (l.eraseIdx k).filter p = l.filter p
  | [], _, _, h, _ => by simp at h
  | y :: r, 0, x, h, hp => by
    simp at h
    subst h
    simp [hp]
  | y :: r, k + 1, x, h, hp => by
    have := filter_erase p r k x (by simpa using h) hp
    simp [List.filter_cons, this]

section
variable {K V : Type} [DecidableEq K] {ek : K → Value} {ev : V → Value} {w : World} {b r : Nat} {l rest : List (K × V)} {P : Program} {kt et t : TypeId}

/-- 'delete(m, k)' in the midst of a range over m, of what has come already. -/
theorem run_del_ranging (KT : KeyTy P kt K ek) (ht : P.underlying t = some (.map kt et)) (h : Ranging ek ev w b r l rest) (hn : KN l) (a : K) (ha : a ∉ rest.map (·.1)) (ty : TypeId) :
    (Builtin.delete_ #[t, kt] ty #[.map (some b), ek a]).run P w = .ok (.tuple #[]) (dropped P t kt b (ek a) w) ∧ Ranging ek ev (dropped P t kt b (ek a) w) b r (del a l) rest ∧ w.grownBy (dropped P t kt b (ek a) w) (some b) := by
  have h0 := run_del KT ht h.mapAt hn a ty
  obtain ⟨es, clock, seen, hb, hl, hs, hnb, hr, hrest⟩ := h
  have hne : b ≠ r := fun e => by rw [e, hr] at hb; cases hb
  have hr' : (dropped P t kt b (ek a) w).heap[r]? = some (.mapIter (some b) clock seen clock) := by
    rw [h0.2.2.block r (Array.getElem?_eq_some_iff.1 hr).1 (by simpa using hne.symm)]; exact hr
  refine ⟨h0.1, ?_, h0.2.2⟩
  have hf := run_find KT w a es.toList l hl
  cases hp : pos a l 0 with
  | none =>
    obtain ⟨h1, _⟩ := pos_none a l 0 hp
    have hd : del a l = l := List.filter_eq_self.2 fun y hy => by simpa using h1 y hy
    have hrun : ∀ ty, (Builtin.delete_ #[t, kt] ty #[.map (some b), ek a]).run P w = .ok (.tuple #[]) { w with heap := w.heap.setIfInBounds b (.map es clock) } := fun ty => by
      simp [Builtin.delete_, run_underlying ht, MapKept.run_getObj_map hb, KT.check, hf, hp, MapKept.run_setObj_map _ hb]
    have hu : dropped P t kt b (ek a) w = { w with heap := w.heap.setIfInBounds b (.map es clock) } := by unfold dropped; rw [hrun]
    rw [hd]
    exact ⟨es, clock, seen, by rw [hu]; exact (heap_set hb).1, hl, hs, hnb, hr', hrest⟩
  | some p =>
    obtain ⟨j, u⟩ := p
    obtain ⟨k, rfl, h1, _⟩ := pos_some a l 0 j u hp
    have hrun : ∀ ty, (Builtin.delete_ #[t, kt] ty #[.map (some b), ek a]).run P w = .ok (.tuple #[]) { w with heap := w.heap.setIfInBounds b (.map (es.eraseIdxIfInBounds k) clock) } := fun ty => by
      simp [Builtin.delete_, run_underlying ht, MapKept.run_getObj_map hb, KT.check, hf, hp, MapKept.run_setObj_map _ hb]
    have hu : dropped P t kt b (ek a) w = { w with heap := w.heap.setIfInBounds b (.map (es.eraseIdxIfInBounds k) clock) } := by unfold dropped; rw [hrun]
    have he : (es.eraseIdxIfInBounds k).toList = es.toList.eraseIdx k := by simp
    rw [filter_eraseIdx a l k u hn h1]
    refine ⟨_, clock, seen, by rw [hu]; exact (heap_set hb).1, ?_, ?_, ?_, hr', ?_⟩
    · rw [he, ChangeMaps.map_eraseIdx, ChangeMaps.map_eraseIdx, hl]
    · rw [he]; exact fun x hx => hs x ((List.eraseIdx_sublist _ _).subset hx)
    · rw [he]; exact hnb.sublist ((List.eraseIdx_sublist _ _).map _)
    · have hkv : ∃ e0, es.toList[k]? = some e0 ∧ e0.key = ek a := by
        have h3 := congrArg (fun z => z[k]?) hl
        simp only [List.getElem?_map, h1, Option.map_some] at h3
        cases he0 : es.toList[k]? with
        | none => rw [he0] at h3; simp at h3
        | some e0 =>
          rw [he0] at h3
          simp only [Option.map_some, Option.some.injEq, Prod.mk.injEq] at h3
          exact ⟨e0, rfl, h3.1⟩
      obtain ⟨e0, he0, hek⟩ := hkv
      have hseen : (!seen.contains e0.born) = false := by
        cases hq : (!seen.contains e0.born) with
        | false => rfl
        | true =>
          exfalso
          have hm : e0 ∈ (leftOf es seen).toList := by
            unfold leftOf
            simp only [Array.toList_filter, List.mem_filter]
            exact ⟨List.mem_of_getElem? he0, hq⟩
          have := List.mem_map_of_mem (f := fun e : MapEntry => (e.key, e.val)) hm
          rw [hrest] at this
          obtain ⟨y, hy, hye⟩ := List.mem_map.1 this
          simp only [Prod.mk.injEq] at hye
          have : y.1 = a := KT.inj _ _ (hye.1.trans hek)
          exact ha (List.mem_map.2 ⟨y, hy, this⟩)
      unfold leftOf at hrest ⊢
      simp only [Array.toList_filter] at hrest ⊢
      rw [he, filter_erase _ _ _ _ he0 hseen]
      exact hrest
end

theorem eql79 (w : World) (a b : Int × Int) : (binOp .eql 102 (tv a) (tv b)).run Tryz.prog w = .ok (.bool (decide (a = b))) w := by
  have h := eq79 w a b
  unfold Op.equal Op.maxDepth at h
  unfold tv at h ⊢
  rw [run_eql_struct, h]
  rfl

section
variable {w : World} {pb b0 b1 b2 b3 : Nat} {l0 : Things} {l1 : Runs} {l2 : Waits} {l3 : Prefs}

set_option maxHeartbeats 1000000 in
/-- 'p.busy(t)'. -/
theorem busy_any (h : PlanAt w pb b0 b1 b2 b3 l0 l1 l2 l3) (a1 a2 : Int) :
    Calls Tryz.prog 59 #[.pointer (some ⟨pb, 0, none⟩), .agg #[.int .i64 a1, .int .i64 a2]] w fun e w' => e = .returned (.bool (l0.any fun x => decide (x.2.1 = (a1, a2)))) ∧ Below w.heap.size w w' := by
  have hpb := h.lt
  have c0 := h.c0
  have m0 := (h.alloc (.cells #[.int .i64 a1, .int .i64 a2] 102)).m0
  have hb1 : Below w.heap.size w (w.alloc (.cells #[.int .i64 a1, .int .i64 a2] 102)) := (Below.refl _ _).alloc (Nat.le_refl _) _
  clear h
  go_enter Tryz.func59, Tryz.ntmps59
  go_wp2_with (first
    | (at_range; refine wpList_range_mine _ rfl _ 54 rfl Tryz.underlying54 rfl m0 ?_; intro ob hrg0)
    | go_in)
  go_frame
  rw [show (w.alloc (.cells #[.int .i64 a1, .int .i64 a2] 102)).heap.size = w.heap.size + 1 by simp] at hrg0 ⊢
  go_loopg [4] l0.length (fun gk v wr => ∃ rest, rest.length ≤ gk ∧ Ranging tv fv wr b0 (w.heap.size + 1) l0 rest ∧ (l0.any fun x => decide (x.2.1 = (a1, a2))) = (rest.any fun x => decide (x.2.1 = (a1, a2))) ∧ Below w.heap.size w wr ∧ wr.cell? ⟨w.heap.size, 0, none⟩ = some (.int .i64 a1) ∧ wr.cell? ⟨w.heap.size, 1, none⟩ = some (.int .i64 a2) ∧ w.heap.size < wr.heap.size)
  case atStart =>
    refine ⟨l0, Nat.le_refl _, hrg0, rfl, hb1.alloc (by simp) _, ?_, ?_, by simp <;> omega⟩
    · rw [World.cell?_alloc_past _ _ _ (by simp), World.cell?_alloc_at _ _ _ _ rfl]; rfl
    · rw [World.cell?_alloc_past _ _ _ (by simp), World.cell?_alloc_at _ _ _ _ rfl]; rfl
  case round =>
    obtain ⟨rest, hgk, hrg, hany, hbel, k1, k2, hz⟩ := hrel
    have Hany := hid hany
    clear hany
    go_wp2_with (first
      | (at_next; refine wpList_next_mine _ rfl _ rfl rfl hrg ?_ ?_)
      | go_in)
    · intro hr0
      subst hr0
      go_wp2
      go_ret
      exact ⟨ret_bool (by rw [Hany.out]; rfl), hbel⟩
    · intro x1 x2 f1 f2 f3 f4 rest' w1 hp hen hrg1 hg1 hs1
      simp only [tv, fv] at hen ⊢
      have hsz : wr.heap.size ≤ w1.heap.size := by omega
      clear hs1
      have hz1 : w.heap.size < w1.heap.size := by omega
      have k3 : w1.cell? ⟨w.heap.size, 0, none⟩ = some (.int .i64 a1) := hg1.cell k1 (by simp)
      have k4 : w1.cell? ⟨w.heap.size, 1, none⟩ = some (.int .i64 a2) := hg1.cell k2 (by simp)
      have hbel1 : Below w.heap.size w w1 := hbel.grown hg1 hbel.size (fun j hj => by cases hj; omega)
      have Hp := hid hp
      have hpl := hp.length_eq
      simp only [List.length_cons] at hpl
      have hpl' : rest'.length < rest.length := by omega
      clear hp hpl
      by_cases hq : (f1, f2) = (a1, a2)
      · have he : ∀ w' : World, (binOp .eql 102 (.agg #[.int .i64 f1, .int .i64 f2]) (.agg #[.int .i64 a1, .int .i64 a2])).run Tryz.prog w' = .ok (.bool true) w' := fun w' => by have := eql79 w' (f1, f2) (a1, a2); rw [decide_eq_true hq] at this; exact this
        have Hq := hid hq
        clear hq
        go_wp2
        go_ret
        refine ⟨ret_bool ?_, hbel1.alloc hbel1.size _⟩
        rw [Hany.out, Hp.out.any_eq]
        simp [Hq.out]
      · have he : ∀ w' : World, (binOp .eql 102 (.agg #[.int .i64 f1, .int .i64 f2]) (.agg #[.int .i64 a1, .int .i64 a2])).run Tryz.prog w' = .ok (.bool false) w' := fun w' => by have := eql79 w' (f1, f2) (a1, a2); rw [decide_eq_false hq] at this; exact this
        have Hq := hid hq
        clear hq
        go_wp2
        go_roundg rest'.length
        case measure => omega
        case rel =>
          refine ⟨rest', Nat.le_refl _, hrg1.kept (World.grownBy_alloc _ _ none) (by simp) (by simp), ?_, hbel1.alloc hbel1.size _, ?_, ?_, by simp; omega⟩
          · rw [Hany.out, Hp.out.any_eq]
            simp only [List.any_cons]
            rw [decide_eq_false Hq.out, Bool.false_or]
          · rw [World.cell?_alloc_past _ _ _ hz1]; exact k3
          · rw [World.cell?_alloc_past _ _ _ hz1]; exact k4
end
end Go.Proofs.YtjdindfjfpdikaaGreat
