import Derived.Maps.Own
import Derived.WalkKit
import Derived.ProofKit
namespace Go.Proofs.YtjdindfjfpdikaaGreat
open Go.MapKept (heap_set)

/-- What an operation on a map asks of its key's type: a struct's, whose keys are written by ek. -/
structure KeyTy (P : Program) (kt : TypeId) (K : Type) [DecidableEq K] (ek : K → Value) : Prop where
  und : ∃ d, P.underlying kt = some d ∧ ∀ v v', Instr.sameNow d v v' = none
  check : ∀ (w : World) (em : Bool) (a : K), (Instr.checkKey em 10000 kt (ek a)).run P w = .ok () w
  eq : ∀ (w : World) (a b : K), (Op.equal kt (ek a) (ek b)).run P w = .ok (decide (a = b)) w
  stays : ∀ (w : World) (a : K), (Instr.keyThatStays (ek a) (ek a)).run P w = .ok (ek a) w
  inj : ∀ a b : K, ek a = ek b → a = b

section
variable {K V : Type}
/-- Block b of w is a map that holds the list l, in the order in which its keys came. -/
def MapAt (ek : K → Value) (ev : V → Value) (w : World) (b : Nat) (l : List (K × V)) : Prop :=
  ∃ es clock, w.heap[b]? = some (.map es clock) ∧ es.toList.map (fun e => (e.key, e.val)) = l.map (fun x => (ek x.1, ev x.2)) ∧ (∀ x ∈ es.toList, x.born < clock) ∧ (es.toList.map (·.born)).Nodup

variable {ek : K → Value} {ev : V → Value} {w : World} {b : Nat} {l : List (K × V)}
theorem MapAt.lt (h : MapAt ek ev w b l) : b < w.heap.size := by
  obtain ⟨es, clock, hb, _⟩ := h
  exact (Array.getElem?_eq_some_iff.1 hb).1
theorem MapAt.of_block {w' : World} (h : MapAt ek ev w b l) (hb : w'.heap[b]? = w.heap[b]?) : MapAt ek ev w' b l := by
  obtain ⟨es, clock, h1, h2⟩ := h
  exact ⟨es, clock, hb.trans h1, h2⟩
theorem MapAt.alloc (h : MapAt ek ev w b l) (o : Obj) : MapAt ek ev (w.alloc o) b l := h.of_block (RowKit.Below.heap_alloc _ _ _ h.lt)
theorem MapAt.drew (h : MapAt ek ev w b l) : MapAt ek ev w.drew b l := h
theorem MapAt.setCell (h : MapAt ek ev w b l) (p : Addr) (v : Value) : MapAt ek ev (w.setCell p v) b l := by
  refine h.of_block ?_
  obtain ⟨es, clock, h1, h2⟩ := h
  simp only [World.setCell, Array.getElem?_modify]
  split
  · rw [h1]; rfl
  · rfl
theorem MapAt.below {w' : World} (h : MapAt ek ev w b l) (hb : RowKit.Below w.heap.size w w') : MapAt ek ev w' b l := h.of_block (hb.block b h.lt)
theorem MapAt.grown {w' : World} {row : Option Nat} (h : MapAt ek ev w b l) (hg : w.grownBy w' row) (hne : some b ≠ row) : MapAt ek ev w' b l := h.of_block (hg.block b h.lt hne)
end

section
variable {K V : Type} [DecidableEq K]

def get (a : K) : List (K × V) → Option V
  | [] => none
  | x :: r => if a = x.1 then some x.2 else get a r

def put (a : K) (v : V) : List (K × V) → List (K × V)
  | [] => [(a, v)]
  | x :: r => if a = x.1 then (a, v) :: r else x :: put a v r

def pos (a : K) : List (K × V) → Nat → Option (Nat × V)
  | [], _ => none
  | x :: r, i => if a = x.1 then some (i, x.2) else pos a r (i + 1)

theorem pos_get (a : K) : ∀ (l : List (K × V)) (i : Nat), (pos a l i).map (·.2) = get a l
  | [], _ => rfl
  | x :: r, i => by
    unfold pos get
    split
    · rfl
    · exact pos_get a r (i + 1)

theorem pos_none (a : K) : ∀ (l : List (K × V)) (i : Nat), pos a l i = none → (∀ x ∈ l, x.1 ≠ a) ∧ ∀ v : V, put a v l = l ++ [(a, v)]
  | [], _, _ => ⟨by simp, fun _ => rfl⟩
  | x :: r, i, h => by
    unfold pos at h
    split at h
    · cases h
    · rename_i hne
      obtain ⟨h1, h2⟩ := pos_none a r (i + 1) h
      refine ⟨fun y hy => ?_, fun v => ?_⟩
      · rcases List.mem_cons.1 hy with rfl | hy
        · exact fun e => hne e.symm
        · exact h1 y hy
      · simp [put, hne, h2 v]

theorem pos_some (a : K) : ∀ (l : List (K × V)) (i j : Nat) (u : V), pos a l i = some (j, u) → ∃ k, j = i + k ∧ l[k]? = some (a, u) ∧ ∀ v : V, put a v l = l.set k (a, v)
  | [], _, _, _, h => by cases h
  | x :: r, i, j, u, h => by
    unfold pos at h
    split at h
    · rename_i he
      cases h
      refine ⟨0, rfl, by simp [he], fun v => by simp [put, he]⟩
    · rename_i hne
      obtain ⟨k, rfl, h1, h2⟩ := pos_some a r (i + 1) j u h
      exact ⟨k + 1, by omega, by simpa using h1, fun v => by simp [put, hne, h2 v]⟩

variable {ek : K → Value} {ev : V → Value} {w : World} {b : Nat} {l : List (K × V)} {P : Program} {kt et t : TypeId}

theorem run_asking (KT : KeyTy P kt K ek) (w : World) (a : K) : ∀ (es : List MapEntry) (l : List (K × V)) (i : Nat), es.map (fun e => (e.key, e.val)) = l.map (fun x => (ek x.1, ev x.2)) →
    (Instr.findAsking kt (ek a) es i).run P w = .ok ((pos a l i).map fun p => (p.1, ev p.2)) w
  | [], [], _, _ => rfl
  | [], _ :: _, _, h => by simp at h
  | _ :: _, [], _, h => by simp at h
  | e :: es, x :: l, i, h => by
    simp only [List.map_cons, List.cons.injEq, Prod.mk.injEq] at h
    obtain ⟨⟨h1, h2⟩, h3⟩ := h
    have ih := run_asking KT w a es l (i + 1) h3
    by_cases hax : a = x.1
    · simp [Instr.findAsking, h1, KT.eq, hax, pos, h2]
    · simp [Instr.findAsking, h1, KT.eq, hax, pos, ih]

theorem run_find (KT : KeyTy P kt K ek) (w : World) (a : K) (es : List MapEntry) (l : List (K × V)) (h : es.map (fun e => (e.key, e.val)) = l.map (fun x => (ek x.1, ev x.2))) :
    (Instr.findKey kt (ek a) es).run P w = .ok ((pos a l 0).map fun p => (p.1, ev p.2)) w := by
  obtain ⟨d, hd, hs⟩ := KT.und
  cases es with
  | nil =>
    cases l with
    | nil => simp [Instr.findKey, run_underlying hd, Instr.findNow, pos]
    | cons => simp at h
  | cons e es =>
    have := run_asking KT w a (e :: es) l 0 h
    simp [Instr.findKey, run_underlying hd, Instr.findNow, hs, this]

/-- 'm[k]', with 'ok' or without. -/
theorem run_look (KT : KeyTy P kt K ek) (ht : P.underlying t = some (.map kt et)) (h : MapAt ek ev w b l) (a : K) (c : Bool) {z : Value} (hz : (zeroValue et).run P w = .ok z w) :
    (Instr.lookup t (.map (some b)) (ek a) c).run P w = .ok (match get a l with
      | some v => if c then .tuple #[ev v, .bool true] else ev v
      | none => if c then .tuple #[z, .bool false] else z) w := by
  obtain ⟨es, clock, hb, hl, _, _⟩ := h
  have hf := run_find KT w a es.toList l hl
  rw [← pos_get a l 0]
  cases hp : pos a l 0 with
  | none => simp [Instr.lookup, run_underlying ht, MapKept.run_getObj_map hb, KT.check, hf, hp, hz]
  | some p => simp [Instr.lookup, run_underlying ht, MapKept.run_getObj_map hb, KT.check, hf, hp]

theorem run_look_yes (KT : KeyTy P kt K ek) (ht : P.underlying t = some (.map kt et)) (h : MapAt ek ev w b l) (a : K) {v : V} (hg : get a l = some v) (z : Value) (hz : (zeroValue et).run P w = .ok z w) :
    (Instr.lookup t (.map (some b)) (ek a) true).run P w = .ok (.tuple #[ev v, .bool true]) w := by
  rw [run_look KT ht h a true hz, hg]; rfl
theorem run_look_yes' (KT : KeyTy P kt K ek) (ht : P.underlying t = some (.map kt et)) (h : MapAt ek ev w b l) (a : K) {v : V} (hg : get a l = some v) (z : Value) (hz : (zeroValue et).run P w = .ok z w) :
    (Instr.lookup t (.map (some b)) (ek a) false).run P w = .ok (ev v) w := by
  rw [run_look KT ht h a false hz, hg]; rfl
theorem run_look_no (KT : KeyTy P kt K ek) (ht : P.underlying t = some (.map kt et)) (h : MapAt ek ev w b l) (a : K) (hg : get a l = none) (z : Value) (hz : (zeroValue et).run P w = .ok z w) :
    (Instr.lookup t (.map (some b)) (ek a) true).run P w = .ok (.tuple #[z, .bool false]) w := by
  rw [run_look KT ht h a true hz, hg]; rfl
theorem run_look_no' (KT : KeyTy P kt K ek) (ht : P.underlying t = some (.map kt et)) (h : MapAt ek ev w b l) (a : K) (hg : get a l = none) (z : Value) (hz : (zeroValue et).run P w = .ok z w) :
    (Instr.lookup t (.map (some b)) (ek a) false).run P w = .ok z w := by
  rw [run_look KT ht h a false hz, hg]; rfl

/-- The world behind 'm[k] = v'. -/
def upd (P : Program) (t : TypeId) (b : Nat) (k v : Value) (w : World) : World :=
  match (Instr.mapUpdate t (.map (some b)) k v).run P w with
  | .ok _ w' => w'
  | .halt _ w' => w'

/-- 'm[k] = v'. -/
theorem run_put (KT : KeyTy P kt K ek) (ht : P.underlying t = some (.map kt et)) (h : MapAt ek ev w b l) (a : K) (v : V) :
    (Instr.mapUpdate t (.map (some b)) (ek a) (ev v)).run P w = .ok () (upd P t b (ek a) (ev v) w) ∧ MapAt ek ev (upd P t b (ek a) (ev v) w) b (put a v l) ∧ w.grownBy (upd P t b (ek a) (ev v) w) (some b) := by
  obtain ⟨es, clock, hb, hl, hs, hn⟩ := h
  have hlen : es.toList.length = l.length := by simpa using congrArg List.length hl
  have hf := run_find KT w a es.toList l hl
  have gr : ∀ o : Obj, w.grownBy { w with heap := w.heap.setIfInBounds b o } (some b) := fun o =>
    ⟨rfl, rfl, rfl, by simp, fun k _ hk => (heap_set (o' := o) hb).2 k (fun e => hk (by rw [e]))⟩
  cases hp : pos a l 0 with
  | none =>
    obtain ⟨h1, h2⟩ := pos_none a l 0 hp
    have hrun : (Instr.mapUpdate t (.map (some b)) (ek a) (ev v)).run P w = .ok () { w with heap := w.heap.setIfInBounds b (.map (es.push { key := ek a, val := ev v, born := clock }) (clock + 1)) } := by
      simp [Instr.mapUpdate, run_underlying ht, MapKept.run_getObj_map hb, KT.check, hf, hp, MapKept.run_setObj_map _ hb]
    have hu : upd P t b (ek a) (ev v) w = { w with heap := w.heap.setIfInBounds b (.map (es.push { key := ek a, val := ev v, born := clock }) (clock + 1)) } := by
      unfold upd; rw [hrun]
    rw [hu]
    refine ⟨hrun, ⟨_, _, (heap_set hb).1, ?_, ?_, ?_⟩, gr _⟩
    · simp [h2, hl]
    · intro x hx
      simp only [Array.toList_push, List.mem_append, List.mem_singleton] at hx
      rcases hx with hx | rfl
      · exact Nat.lt_succ_of_lt (hs x hx)
      · exact Nat.lt_succ_self _
    · simp only [Array.toList_push, List.map_append, List.map_cons, List.map_nil]
      refine List.nodup_append.2 ⟨hn, by simp, ?_⟩
      intro x hx y hy
      simp only [List.mem_singleton] at hy
      obtain ⟨e, he, rfl⟩ := List.mem_map.1 hx
      have := hs e he
      omega
  | some p =>
    obtain ⟨j, u⟩ := p
    obtain ⟨k, rfl, h1, h2⟩ := pos_some a l 0 j u hp
    have hkl : k < l.length := by
      rcases Nat.lt_or_ge k l.length with h | h
      · exact h
      · rw [List.getElem?_eq_none h] at h1; cases h1
    have hkey : ∃ e0, es[k]? = some e0 ∧ e0.key = ek a := by
      have hke : k < es.toList.length := by omega
      refine ⟨es.toList[k], by simp, ?_⟩
      have h3 := congrArg (fun z => z[k]?) hl
      simp only [List.getElem?_map, h1, Option.map_some] at h3
      rw [List.getElem?_eq_getElem hke] at h3
      simp only [Option.map_some, Option.some.injEq, Prod.mk.injEq] at h3
      exact h3.1
    obtain ⟨e0, he0, hek⟩ := hkey
    have hrun : (Instr.mapUpdate t (.map (some b)) (ek a) (ev v)).run P w = .ok () { w with heap := w.heap.setIfInBounds b (.map (es.modify k fun e => { e with key := ek a, val := ev v }) clock) } := by
      simp [Instr.mapUpdate, run_underlying ht, MapKept.run_getObj_map hb, KT.check, hf, hp, MapKept.run_setObj_map _ hb, he0, hek, KT.stays]
    have hu : upd P t b (ek a) (ev v) w = { w with heap := w.heap.setIfInBounds b (.map (es.modify k fun e => { e with key := ek a, val := ev v }) clock) } := by
      unfold upd; rw [hrun]
    rw [hu]
    have hm : (es.modify k fun e => { e with key := ek a, val := ev v }).toList = es.toList.set k { e0 with key := ek a, val := ev v } := by
      apply List.ext_getElem?
      intro i
      simp only [Array.getElem?_toList, Array.getElem?_modify, List.getElem?_set]
      by_cases hik : k = i
      · subst hik
        have : k < es.size := by have : k < es.toList.length := by omega
                                 simpa using this
        obtain ⟨_, hge⟩ := Array.getElem?_eq_some_iff.1 he0
        simp [this, hge]
      · simp [hik]
    refine ⟨hrun, ⟨_, _, (heap_set hb).1, ?_, ?_, ?_⟩, gr _⟩
    · rw [hm, h2, List.map_set, List.map_set, hl]
    · rw [hm]
      intro x hx
      rcases List.mem_or_eq_of_mem_set hx with hx | rfl
      · exact hs x hx
      · exact hs e0 (List.mem_of_getElem? (i := k) (by simpa using he0))
    · rw [hm, List.map_set]
      have : (es.toList.map (·.born)).set k e0.born = es.toList.map (·.born) := by
        apply List.ext_getElem?
        intro i
        simp only [List.getElem?_set, List.getElem?_map]
        by_cases hik : k = i
        · subst hik
          have : k < es.size := by have : k < es.toList.length := by omega
                                   simpa using this
          obtain ⟨_, hge⟩ := Array.getElem?_eq_some_iff.1 he0
          simp [this, hge]
        · simp [hik]
      rw [this]; exact hn

end
end Go.Proofs.YtjdindfjfpdikaaGreat
