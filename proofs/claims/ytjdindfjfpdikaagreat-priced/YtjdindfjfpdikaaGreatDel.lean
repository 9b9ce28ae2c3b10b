import Derived.Test.YtjdindfjfpdikaaGreatRange
namespace Go.Proofs.YtjdindfjfpdikaaGreat
open Go.MapKept (heap_set)
open Go.ChangeMaps (setBlock)

section
variable {K V : Type} [DecidableEq K]

/-- A list without a key. -/
def del (a : K) (l : List (K × V)) : List (K × V) := l.filter fun x => decide (x.1 ≠ a)
/-- No key stands twice. -/
def KN (l : List (K × V)) : Prop := (l.map (·.1)).Nodup

theorem get_del (a b : K) : ∀ l : List (K × V), get b (del a l) = if b = a then none else get b l
  | [] => by simp [del, get]
  | x :: r => by
    have ih := get_del a b r
    by_cases hx : x.1 = a
    · have e : del a (x :: r) = del a r := by simp [del, hx]
      rw [e, ih]
      by_cases hb : b = a
      · simp [hb]
      · have : b ≠ x.1 := fun e => hb (e.trans hx)
        simp [get, hb, this]
    · have e : del a (x :: r) = x :: del a r := by simp [del, hx]
      rw [e]
      by_cases hb : b = x.1
      · have : b ≠ a := fun e => hx (hb.symm.trans e)
        simp only [get, if_pos hb]
        rw [if_neg this]
      · simp [get, hb, ih]

theorem get_none_iff (a : K) : ∀ l : List (K × V), get a l = none ↔ a ∉ l.map (·.1)
  | [] => by simp [get]
  | x :: r => by
    have ih := get_none_iff a r
    by_cases hx : a = x.1
    · simp [get, hx]
    · simp [get, hx, ih]

theorem KN.del {l : List (K × V)} (h : KN l) (a : K) : KN (del a l) := h.sublist (List.filter_sublist.map _)

theorem KN.put {l : List (K × V)} (h : KN l) (a : K) (v : V) : KN (put a v l) := by
  unfold KN at *
  induction l with
  | nil => simp [YtjdindfjfpdikaaGreat.put]
  | cons x r ih =>
    unfold YtjdindfjfpdikaaGreat.put
    simp only [List.map_cons, List.nodup_cons] at h
    by_cases hx : a = x.1
    · rw [if_pos hx]
      simp only [List.map_cons, List.nodup_cons]
      exact ⟨by rw [hx]; exact h.1, h.2⟩
    · rw [if_neg hx]
      simp only [List.map_cons, List.nodup_cons]
      refine ⟨fun hm => ?_, ih h.2⟩
      have h1 := h.1
      rw [← get_none_iff] at h1
      have h2 : get x.1 (YtjdindfjfpdikaaGreat.put a v r) ≠ none := fun e => ((get_none_iff _ _).1 e) hm
      apply h2
      clear ih h h2 hm
      induction r with
      | nil => simp [YtjdindfjfpdikaaGreat.put, get, Ne.symm hx]
      | cons y s ih =>
        unfold get at h1
        split at h1
        · cases h1
        · rename_i hy
          unfold YtjdindfjfpdikaaGreat.put
          split
          · simp [get, Ne.symm hx, h1]
          · simp [get, hy, ih h1]

variable {ek : K → Value} {ev : V → Value} {w : World} {b : Nat} {l : List (K × V)} {P : Program} {kt et t : TypeId}

theorem filter_eraseIdx (a : K) : ∀ (l : List (K × V)) (k : Nat) (u : V), KN l → l[k]? = some (a, u) → del a l = l.eraseIdx k
  | [], k, u, _, h => by simp at h
  | x :: r, 0, u, hn, h => by
    simp at h
    subst h
    have h1 := (List.nodup_cons.1 hn).1
    have : del a r = r := List.filter_eq_self.2 fun y hy => by
      have : y.1 ≠ a := fun e => h1 (List.mem_map.2 ⟨y, hy, e⟩)
      simpa using this
    rw [List.eraseIdx_zero, List.tail_cons, ← this]
    simp [del]
  | x :: r, k + 1, u, hn, h => by
    have hn' := List.nodup_cons.1 hn
    have ih := filter_eraseIdx a r k u hn'.2 (by simpa using h)
    have hx : x.1 ≠ a := fun e => hn'.1 (by
      have : (a, u) ∈ r := List.mem_of_getElem? (by simpa using h)
      exact List.mem_map.2 ⟨_, this, e.symm⟩)
    rw [List.eraseIdx_cons_succ, ← ih]
    simp [del, hx]

/-- The world behind 'delete(m, k)'. -/
def dropped (P : Program) (t kt : TypeId) (b : Nat) (k : Value) (w : World) : World :=
  match (Builtin.delete_ #[t, kt] 0 #[.map (some b), k]).run P w with
  | .ok _ w' => w'
  | .halt _ w' => w'

theorem run_del (KT : KeyTy P kt K ek) (ht : P.underlying t = some (.map kt et)) (h : MapAt ek ev w b l) (hn : KN l) (a : K) (ty : TypeId) :
    (Builtin.delete_ #[t, kt] ty #[.map (some b), ek a]).run P w = .ok (.tuple #[]) (dropped P t kt b (ek a) w) ∧ MapAt ek ev (dropped P t kt b (ek a) w) b (del a l) ∧ w.grownBy (dropped P t kt b (ek a) w) (some b) := by
  obtain ⟨es, clock, hb, hl, hs, hnb⟩ := h
  have hf := run_find KT w a es.toList l hl
  have gr : ∀ o : Obj, w.grownBy { w with heap := w.heap.setIfInBounds b o } (some b) := fun o =>
    ⟨rfl, rfl, rfl, by simp, fun k _ hk => (heap_set (o' := o) hb).2 k (fun e => hk (by rw [e]))⟩
  cases hp : pos a l 0 with
  | none =>
    obtain ⟨h1, _⟩ := pos_none a l 0 hp
    have hd : del a l = l := List.filter_eq_self.2 fun y hy => by simpa using h1 y hy
    have hrun : ∀ ty, (Builtin.delete_ #[t, kt] ty #[.map (some b), ek a]).run P w = .ok (.tuple #[]) { w with heap := w.heap.setIfInBounds b (.map es clock) } := fun ty => by
      simp [Builtin.delete_, run_underlying ht, MapKept.run_getObj_map hb, KT.check, hf, hp, MapKept.run_setObj_map _ hb]
    have hu : dropped P t kt b (ek a) w = { w with heap := w.heap.setIfInBounds b (.map es clock) } := by unfold dropped; rw [hrun]
    rw [hu, hd]
    exact ⟨hrun ty, ⟨es, clock, (heap_set hb).1, hl, hs, hnb⟩, gr _⟩
  | some p =>
    obtain ⟨j, u⟩ := p
    obtain ⟨k, rfl, h1, _⟩ := pos_some a l 0 j u hp
    have hrun : ∀ ty, (Builtin.delete_ #[t, kt] ty #[.map (some b), ek a]).run P w = .ok (.tuple #[]) { w with heap := w.heap.setIfInBounds b (.map (es.eraseIdxIfInBounds k) clock) } := fun ty => by
      simp [Builtin.delete_, run_underlying ht, MapKept.run_getObj_map hb, KT.check, hf, hp, MapKept.run_setObj_map _ hb]
    have hu : dropped P t kt b (ek a) w = { w with heap := w.heap.setIfInBounds b (.map (es.eraseIdxIfInBounds k) clock) } := by unfold dropped; rw [hrun]
    have he : (es.eraseIdxIfInBounds k).toList = es.toList.eraseIdx k := by simp
    rw [hu, filter_eraseIdx a l k u hn h1]
    refine ⟨hrun ty, ⟨_, clock, (heap_set hb).1, ?_, ?_, ?_⟩, gr _⟩
    · rw [he, ChangeMaps.map_eraseIdx, ChangeMaps.map_eraseIdx, hl]
    · rw [he]; exact fun x hx => hs x ((List.eraseIdx_sublist _ _).subset hx)
    · rw [he]; exact hnb.sublist ((List.eraseIdx_sublist _ _).map _)
end
end Go.Proofs.YtjdindfjfpdikaaGreat
