import Derived.Test.YtjdindfjfpdikaaGreatNew
import Derived.Test.YtjdindfjfpdikaaGreatTick0
namespace Go.Proofs.YtjdindfjfpdikaaGreat
open Go.RowKit

section
variable {K V : Type} [DecidableEq K]
theorem get_put (a b : K) (v : V) : ∀ l : List (K × V), get a (put b v l) = if a = b then some v else get a l
  | [] => by simp [put, get]
  | x :: r => by
    have ih := get_put a b v r
    unfold put
    by_cases hb : b = x.1
    · rw [if_pos hb]
      by_cases ha : a = b
      · simp [get, ha]
      · have : a ≠ x.1 := fun e => ha (e.trans hb.symm)
        simp [get, ha, this]
    · rw [if_neg hb]
      by_cases hx : a = x.1
      · have : a ≠ b := fun e => hb (e.symm.trans hx)
        simp [get, hx]
        intro e
        exact absurd (hx.trans e) this
      · simp only [get, if_neg hx]
        exact ih
end

/-- One task's tick. -/
def tickOne (l1 : Runs) (l2 : Waits) (t : Int × Int) : Waits := if (get t l1).isSome then l2 else put t (min ((get t l2).getD 0 + 1) 100) l2

theorem get_tickOne (l1 : Runs) (l2 : Waits) (t a : Int × Int) : get a (tickOne l1 l2 t) = if a = t ∧ get a l1 = none then some (min ((get a l2).getD 0 + 1) 100) else get a l2 := by
  unfold tickOne
  by_cases ha : a = t
  · subst ha
    cases hg : get a l1 with
    | none => simp [get_put]
    | some m => simp
  · cases hg : get t l1 with
    | none => simp [get_put, ha]
    | some m => simp [ha]

theorem get_ticks (l1 : Runs) : ∀ (ys : List (Int × Int)) (l2 : Waits) (a : Int × Int), ys.Nodup → get a (ys.foldl (tickOne l1) l2) = if a ∈ ys ∧ get a l1 = none then some (min ((get a l2).getD 0 + 1) 100) else get a l2
  | [], l2, a, _ => by simp
  | t :: ys, l2, a, hn => by
    obtain ⟨h1, h2⟩ := List.nodup_cons.1 hn
    rw [List.foldl_cons, get_ticks l1 ys _ a h2, get_tickOne]
    by_cases ha : a = t
    · subst ha
      simp [h1]
    · simp [ha]

/-- Ticks stay within their bounds. -/
def Waited (l2 : Waits) : Prop := ∀ a n, get a l2 = some n → 0 ≤ n ∧ n ≤ 100
theorem Waited.one {l1 : Runs} {l2 : Waits} (h : Waited l2) (t : Int × Int) : Waited (tickOne l1 l2 t) := by
  intro a n hn
  rw [get_tickOne] at hn
  split at hn
  · cases hn
    cases hg : get a l2 with
    | none => simp; omega
    | some m => have := h a m hg; simp; omega
  · exact h a n hn
theorem Waited.many {l1 : Runs} : ∀ (ys : List (Int × Int)) {l2 : Waits}, Waited l2 → Waited (ys.foldl (tickOne l1) l2)
  | [], _, h => h
  | t :: ys, _, h => Waited.many ys (h.one t)

section
variable {w : World} {pb b0 b1 b2 b3 : Nat} {l0 : Things} {l1 : Runs} {l2 : Waits} {l3 : Prefs}

theorem row_cell {wr : World} {g : Nat} {cur : Array Value} {ys : List (Int × Int)} {k : Nat} (hg : wr.heap[g]? = some (.cells cur 102)) (ht : cur.toList.take (ys.length * 2) = flat ys) (hk : k < ys.length) :
    wr.cell? ⟨g, k * 2, none⟩ = some (.int .i64 ys[k].1) ∧ wr.cell? ⟨g, k * 2 + 1, none⟩ = some (.int .i64 ys[k].2) := by
  have h := flat_at ys k hk
  rw [← ht] at h
  obtain ⟨h1, h2⟩ := h
  rw [List.getElem?_take_of_lt (by omega), Array.getElem?_toList] at h1 h2
  simp [World.cell?, hg, h1, h2]

set_option maxRecDepth 100000 in
set_option maxHeartbeats 2000000 in
theorem tick_any (hS : SortSaid) (h : PlanAt w pb b0 b1 b2 b3 l0 l1 l2 l3) (hlen : l0.length ≤ 1000) (hw : Waited l2) :
    Calls Tryz.prog 33 #[.pointer (some ⟨pb, 0, none⟩)] w fun e w' => e = .returned (.tuple #[]) ∧ (∃ ys : List (Int × Int), ys.Perm (sel 3 l0) ∧ PlanAt w' pb b0 b1 b2 b3 l0 l1 (ys.foldl (tickOne l1) l2) l3) ∧ Only [b0, b1, b2, b3] w w' := by
  have Hh := hid (all_any hS h 3 hlen)
  have hpb := h.lt
  have hp0 : b0 < w.heap.size ∧ b1 < w.heap.size ∧ b2 < w.heap.size ∧ b3 < w.heap.size := ⟨h.m0.lt, h.m1.lt, h.m2.lt, h.m3.lt⟩
  go_enter Tryz.func33, Tryz.ntmps33
  go_wp2_with (go_at_call 61; refine Hh.out.mono ?_; rintro e w1 ⟨v, ys, rfl, hperm, hrow, hb1, _⟩; obtain ⟨pp, cap, rfl⟩ := ownsRow_shape hrow)
  try go_frame
  have hp1 := h.below hb1
  clear h Hh
  rcases hrow.2 with ⟨hnil, hn0⟩ | ⟨g, cap', cur, hv, hbase, hgb, hle, hm, hs, htake⟩
  · obtain rfl : ys = [] := List.eq_nil_of_length_eq_zero hn0
    refine wp_loop_rounds 1 ?_
    rw [rounds_succ]
    go_wp2
    go_end0
    exact ⟨rfl, ⟨[], hperm, hp1⟩, Only.of_below hb1⟩
  · cases hv
    have hyl : ys.length ≤ 1000 := by
      have h1 := hperm.length_eq
      have h2 : (sel 3 l0).length ≤ l0.length := by simp [sel]; exact List.length_filter_le _ _
      omega
    have hgl : g < w1.heap.size := (Array.getElem?_eq_some_iff.1 hgb).1
    have hgn : g ≠ pb ∧ g ≠ b0 ∧ g ≠ b1 ∧ g ≠ b2 ∧ g ≠ b3 := by
      have := hp0.1; have := hp0.2.1; have := hp0.2.2.1; have := hp0.2.2.2
      omega
    go_loopg [9] ys.length (fun gk i wr => ∃ k : Nat, k ≤ ys.length ∧ ys.length - k ≤ gk ∧ i = .int .i64 k ∧ PlanAt wr pb b0 b1 b2 b3 l0 l1 ((ys.take k).foldl (tickOne l1) l2) l3 ∧ wr.heap[g]? = some (.cells cur 102) ∧ Only [b0, b1, b2, b3] w wr)
    case atStart => exact ⟨0, Nat.zero_le _, by omega, rfl, hp1, hgb, Only.of_below hb1⟩
    case round =>
      obtain ⟨k, hk, hgk, rfl, hp, hgw, hO⟩ := hrel
      by_cases hlt : k < ys.length
      · obtain ⟨x1, x2, hx⟩ : ∃ x1 x2, ys[k] = (x1, x2) := ⟨_, _, rfl⟩
        have q0 := row_cell hgw htake hlt
        rw [hx] at q0
        obtain ⟨q0, q1⟩ := q0
        have c1 := hp.c1
        have c2 := hp.c2
        have hpw := hp.lt
        have hgwl : g < wr.heap.size := (Array.getElem?_eq_some_iff.1 hgw).1
        have hfold : (ys.take (k + 1)).foldl (tickOne l1) l2 = tickOne l1 ((ys.take k).foldl (tickOne l1) l2) (x1, x2) := by
          rw [List.take_succ_eq_append_getElem hlt, List.foldl_append, hx]; rfl
        have Hf := hid hfold
        have hW := Waited.many (l1 := l1) (ys.take k) hw
        clear hfold hx hw hgb hrow htake
        generalize (ys.take k).foldl (tickOne l1) l2 = lk at hp Hf hW
        cases hr : get (x1, x2) l1 with
        | some m =>
          obtain ⟨_, _, _, e3, _, e5, _, _⟩ := pack hp.m1 (F := fun w' => (Instr.lookup 55 (.map (some b1)) (.agg #[.int .i64 x1, .int .i64 x2]) true).run Tryz.prog w' = .ok (.tuple #[.agg #[.int .i64 m.1, .int .i64 m.2], .bool true]) w')
            (fun w' h => run_look_yes kt79 Tryz.underlying55 h (x1, x2) hr _ (zero79 w'))
          have Hr := hid hr
          clear hr
          go_wp2
          go_region
          all_goals
            go_wp2
            go_roundg (ys.length - (k + 1))
            case measure => omega
            case rel =>
              have hb2 : Below wr.heap.size wr ((wr.alloc (Obj.cells #[.int .i64 x1, .int .i64 x2] 102)).alloc (Obj.cells #[.int .i64 m.1, .int .i64 m.2] 102)) := ((Below.refl _ _).alloc (Nat.le_refl _) _).alloc (by simp) _
              refine ⟨k + 1, by omega, Nat.le_refl _, by go_num, ?_, ?_, ?_⟩
              · rw [Hf.out, tickOne, Hr.out]
                exact ((hp.alloc _).alloc _).drew
              · exact (hb2.block g hgwl).trans hgw
              · exact hO.trans ((Only.of_below hb2).drew)
        | none =>
          obtain ⟨_, _, _, e3, _, e5, _, _⟩ := pack hp.m1 (F := fun w' => (Instr.lookup 55 (.map (some b1)) (.agg #[.int .i64 x1, .int .i64 x2]) true).run Tryz.prog w' = .ok (.tuple #[.agg #[.int .i64 0, .int .i64 0], .bool false]) w')
            (fun w' h => run_look_no kt79 Tryz.underlying55 h (x1, x2) hr _ (zero79 w'))
          obtain ⟨n, hn, hn0, hn1⟩ : ∃ n, (get (x1, x2) lk).getD 0 = n ∧ 0 ≤ n ∧ n ≤ 100 := ⟨_, rfl, by cases hq : get (x1, x2) lk with
            | none => simp
            | some n => have := hW _ _ hq; simpa using this⟩
          have e9 : ∀ o1 o2, (Instr.lookup 56 (.map (some b2)) (.agg #[.int .i64 x1, .int .i64 x2]) false).run Tryz.prog ((wr.alloc o1).alloc o2).drew.drew = .ok (.int .i64 n) ((wr.alloc o1).alloc o2).drew.drew := fun o1 o2 => by
            have hm : MapAt tv iv ((wr.alloc o1).alloc o2).drew.drew b2 lk := ((hp.m2.alloc o1).alloc o2).drew.drew
            have := run_look kt79 Tryz.underlying56 hm (x1, x2) false (zero3 _)
            cases hq : get (x1, x2) lk with
            | none => rw [hq] at this hn; simp at hn; subst hn; exact this
            | some n' => rw [hq] at this hn; simp at hn; subst hn; exact this
          have eu : ∀ v o1 o2, (Instr.mapUpdate 56 (.map (some b2)) (.agg #[.int .i64 x1, .int .i64 x2]) (.int .i64 v)).run Tryz.prog ((wr.alloc o1).alloc o2).drew.drew = .ok () (upd Tryz.prog 56 b2 (tv (x1, x2)) (iv v) ((wr.alloc o1).alloc o2).drew.drew) := fun v o1 o2 =>
            (run_put kt79 Tryz.underlying56 ((hp.m2.alloc o1).alloc o2).drew.drew (x1, x2) v).1
          have Fin := hid (show ∀ (u : Int) (o1 o2 : Obj), u = min (n + 1) 100 → PlanAt (upd Tryz.prog 56 b2 (tv (x1, x2)) (iv u) ((wr.alloc o1).alloc o2).drew.drew) pb b0 b1 b2 b3 l0 l1 ((ys.take (k + 1)).foldl (tickOne l1) l2) l3 ∧
              (upd Tryz.prog 56 b2 (tv (x1, x2)) (iv u) ((wr.alloc o1).alloc o2).drew.drew).heap[g]? = some (.cells cur 102) ∧ Only [b0, b1, b2, b3] w (upd Tryz.prog 56 b2 (tv (x1, x2)) (iv u) ((wr.alloc o1).alloc o2).drew.drew) from fun u o1 o2 hu => by
            have hq := ((hp.alloc o1).alloc o2).drew.drew.put2 (x1, x2) u
            have hb2 : Below wr.heap.size wr ((wr.alloc o1).alloc o2) := ((Below.refl _ _).alloc (Nat.le_refl _) _).alloc (by simp) _
            refine ⟨?_, ?_, ?_⟩
            · rw [Hf.out, tickOne, hr, hn, ← hu]; exact hq.1
            · rw [hq.2.block g (by simp; omega) (by simp; omega)]
              exact (hb2.block g hgwl).trans hgw
            · exact hO.trans ((Only.of_below hb2).drew.drew.trans hq.2))
          clear hr hn
          go_wp2
          go_region
          all_goals go_wp2
          all_goals go_region
          all_goals go_wp2
          all_goals
            go_roundg (ys.length - (k + 1))
            case measure => omega
            case rel => exact ⟨k + 1, by omega, Nat.le_refl _, by go_num, Fin.out _ _ _ (by omega)⟩
      · go_wp2
        go_end0
        obtain rfl : k = ys.length := by omega
        rw [List.take_length] at hp
        exact ⟨rfl, ⟨ys, hperm, hp⟩, hO⟩
end
end Go.Proofs.YtjdindfjfpdikaaGreat
