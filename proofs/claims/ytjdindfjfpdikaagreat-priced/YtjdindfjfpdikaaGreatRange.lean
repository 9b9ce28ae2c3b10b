import Derived.Test.YtjdindfjfpdikaaGreatMaps
import Derived.Maps.RangeWalk
namespace Go.Proofs.YtjdindfjfpdikaaGreat
open Go.ChangeMaps (setBlock)
open Go.MapKept (heap_set)

section
variable {K V : Type} {ek : K → Value} {ev : V → Value} {w : World} {b r : Nat} {l rest : List (K × V)} {P : Program}

/-- Block r is under way over the map in block b, which holds l; rest: what is still to come. -/
def Ranging (ek : K → Value) (ev : V → Value) (w : World) (b r : Nat) (l rest : List (K × V)) : Prop :=
  ∃ es clock seen, w.heap[b]? = some (.map es clock) ∧ es.toList.map (fun e => (e.key, e.val)) = l.map (fun x => (ek x.1, ev x.2)) ∧ (∀ x ∈ es.toList, x.born < clock) ∧ (es.toList.map (·.born)).Nodup ∧
    w.heap[r]? = some (.mapIter (some b) clock seen clock) ∧ (leftOf es seen).toList.map (fun e => (e.key, e.val)) = rest.map (fun x => (ek x.1, ev x.2))

theorem Ranging.mapAt (h : Ranging ek ev w b r l rest) : MapAt ek ev w b l := by
  obtain ⟨es, clock, seen, h1, h2, h3, h4, _⟩ := h
  exact ⟨es, clock, h1, h2, h3, h4⟩

theorem Ranging.lt (h : Ranging ek ev w b r l rest) : r < w.heap.size := by
  obtain ⟨es, clock, seen, _, _, _, _, h5, _⟩ := h
  exact (Array.getElem?_eq_some_iff.1 h5).1

theorem Ranging.kept {w' : World} {row : Option Nat} (h : Ranging ek ev w b r l rest) (hg : w.grownBy w' row) (hb : some b ≠ row) (hr : some r ≠ row) : Ranging ek ev w' b r l rest := by
  have h0 := h.mapAt.lt
  have h6 := h.lt
  obtain ⟨es, clock, seen, h1, h2, h3, h4, h5, h7⟩ := h
  exact ⟨es, clock, seen, (hg.block b h0 hb).trans h1, h2, h3, h4, (hg.block r h6 hr).trans h5, h7⟩

/-- 'range m'. -/
theorem run_ranging {t kt et : TypeId} (ht : P.underlying t = some (.map kt et)) (h : MapAt ek ev w b l) :
    ∃ o, (Instr.range t (.map (some b))).run P w = .ok (.pointer (some ⟨w.heap.size, 0, none⟩)) (w.alloc o) ∧ Ranging ek ev (w.alloc o) b w.heap.size l l := by
  have hlt := h.lt
  obtain ⟨es, clock, hb, h2, h3, h4⟩ := h
  refine ⟨.mapIter (some b) clock #[] clock, ?_, es, clock, #[], ?_, h2, h3, h4, ?_, ?_⟩
  · simp [Instr.range, run_underlying ht, MapKept.run_getObj_map hb]
  · exact ((MapKept.heap_alloc w _).2 b hlt).trans hb
  · exact (MapKept.heap_alloc w _).1
  · have : leftOf es #[] = es := by unfold leftOf; simp
    rw [this]; exact h2

theorem filter_born (e : MapEntry) (L1 L2 : List MapEntry) (hn : ((L1 ++ e :: L2).map (·.born)).Nodup) : (L1 ++ e :: L2).filter (fun x => !(x.born == e.born)) = L1 ++ L2 := by
  simp only [List.map_append, List.map_cons, List.nodup_append, List.nodup_cons, List.mem_map, List.mem_cons] at hn
  obtain ⟨_, ⟨h2, _⟩, h3⟩ := hn
  have e1 : L1.filter (fun x => !(x.born == e.born)) = L1 := List.filter_eq_self.2 fun x hx => by
    have := h3 x.born ⟨x, hx, rfl⟩ e.born (Or.inl rfl)
    simpa using this
  have e2 : L2.filter (fun x => !(x.born == e.born)) = L2 := List.filter_eq_self.2 fun x hx => by
    have : x.born ≠ e.born := fun he => h2 ⟨x, hx, he⟩
    simpa using this
  simp [List.filter_append, e1, e2]

theorem left_push (es : Array MapEntry) (seen : Array Nat) (n : Nat) : (leftOf es (seen.push n)).toList = (leftOf es seen).toList.filter (fun x => !(x.born == n)) := by
  unfold leftOf
  simp only [Array.toList_filter, List.filter_filter]
  congr 1
  funext x
  by_cases hx : x.born = n <;> simp [hx]

/-- One step of it. -/
theorem run_step (h : Ranging ek ev w b r l rest) (ty : TypeId) :
    (rest = [] ∧ (Instr.next (.pointer (some ⟨r, 0, none⟩)) false ty).run P w = .ok (.tuple #[.bool false]) w) ∨
    ∃ x rest' w1, rest.Perm (x :: rest') ∧ (Instr.next (.pointer (some ⟨r, 0, none⟩)) false ty).run P w = .ok (.tuple #[.bool true, ek x.1, ev x.2]) w1 ∧
      (Instr.entry (.pointer (some ⟨r, 0, none⟩))).run P w1 = .ok (.tuple #[ek x.1, ev x.2]) w1 ∧ Ranging ek ev w1 b r l rest' ∧ w.grownBy w1 (some r) ∧ w1.heap.size = w.heap.size := by
  obtain ⟨es, clock, seen, h1, h2, h3, h4, h5, h6⟩ := h
  have hne : b ≠ r := fun e => by rw [e, h5] at h1; cases h1
  rcases run_next_at (P := P) w ty r b clock clock seen es clock h5 h1 h3 (Nat.le_refl _) with ⟨h0, hrun⟩ | ⟨e, he, w1, hw1, hrun⟩
  · refine Or.inl ⟨?_, hrun⟩
    have : (leftOf es seen).toList = [] := List.eq_nil_of_length_eq_zero (by simpa using h0)
    rw [this] at h6
    simpa using h6.symm
  · right
    obtain ⟨L1, L2, hL⟩ := List.append_of_mem he
    rw [hL, List.map_append, List.map_cons] at h6
    obtain ⟨R1, R', rfl, hR1, hR'⟩ := List.map_eq_append_iff.1 h6.symm
    obtain ⟨x, R2, rfl, hx, hR2⟩ := List.map_eq_cons_iff.1 hR'
    simp only [Prod.mk.injEq] at hx
    have hw1h : w1.heap = w.heap := by rcases hw1 with rfl | rfl <;> rfl
    have hes : e ∈ es.toList := by
      unfold leftOf at he
      simp only [Array.toList_filter, List.mem_filter] at he
      exact he.1
    have hr1 : w1.heap[r]? = some (.mapIter (some b) clock seen clock) := by rw [hw1h]; exact h5
    have hset : (setBlock w1 r (.mapIter (some b) clock (seen.push e.born) clock)).heap[r]? = some (.mapIter (some b) clock (seen.push e.born) clock) := (heap_set hr1).1
    have hoth : ∀ k, k ≠ r → (setBlock w1 r (.mapIter (some b) clock (seen.push e.born) clock)).heap[k]? = w.heap[k]? := fun k hk => by
      have := (heap_set (o' := .mapIter (some b) clock (seen.push e.born) clock) hr1).2 k hk
      rw [hw1h] at this
      simpa [setBlock, hw1h] using this
    refine ⟨x, R1 ++ R2, setBlock w1 r (.mapIter (some b) clock (seen.push e.born) clock), List.perm_middle, ?_, ?_, ⟨es, clock, seen.push e.born, ?_, h2, h3, h4, hset, ?_⟩, ?_, ?_⟩
    · rw [hrun, hx.1, hx.2]
    · rw [run_entry_at (P := P) _ r b clock seen es clock e hset ((hoth b hne).trans h1) hes h4, hx.1, hx.2]
    · exact (hoth b hne).trans h1
    · rw [left_push, hL]
      have hnd : ((L1 ++ e :: L2).map (·.born)).Nodup := by
        rw [← hL]
        unfold leftOf
        simp only [Array.toList_filter]
        exact h4.sublist (List.filter_sublist.map _)
      rw [filter_born e L1 L2 hnd]
      simp [hR1, hR2]
    · exact ⟨by rcases hw1 with rfl | rfl <;> rfl, by rcases hw1 with rfl | rfl <;> rfl, by rcases hw1 with rfl | rfl <;> rfl, by simp [setBlock, hw1h], fun k _ hk => hoth k (fun e => hk (by rw [e]))⟩
    · simp [setBlock, hw1h]
end
end Go.Proofs.YtjdindfjfpdikaaGreat
