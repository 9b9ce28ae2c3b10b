import Derived.Test.YtjdindfjfpdikaaGreatRefA
import Derived.Test.YtjdindfjfpdikaaGreatForget
import Derived.Deep.RegionLaw
import Derived.Maps.AppendAt
import Derived.Deep.DeepCutAuto
namespace Go.Proofs.YtjdindfjfpdikaaGreat
open Go.RowKit

/-- The document's plan. -/
structure RSt where
  t0 : List Th
  t1 : List Th
  t2 : List Th
  t3 : List Th
  ws : List Wi
  on : List Int
  wt : List Int

/-- The values of its seven lists. -/
structure RVs where
  v0 : Value
  v1 : Value
  v2 : Value
  v3 : Value
  vw : Value
  vo : Value
  vt : Value

def RVs.blocks (V : RVs) : List Nat := [V.v0, V.v1, V.v2, V.v3, V.vw, V.vo, V.vt].filterMap Value.ownBlock

/-- At rb lies the document's plan. -/
structure RefAt (w : World) (rb : Nat) (V : RVs) (x7 x8 x9 x10 x11 : Value) (R : RSt) : Prop where
  cells : w.heap[rb]? = some (.cells #[V.v0, V.v1, V.v2, V.v3, V.vw, V.vo, V.vt, x7, x8, x9, x10, x11] 45)
  r0 : RowAt w 76 3 cellsT V.v0 R.t0
  r1 : RowAt w 76 3 cellsT V.v1 R.t1
  r2 : RowAt w 76 3 cellsT V.v2 R.t2
  r3 : RowAt w 76 3 cellsT V.v3 R.t3
  rw : RowAt w 117 4 cellsW V.vw R.ws
  ro : RowAt w 3 1 cellsI V.vo R.on
  rt : RowAt w 3 1 cellsI V.vt R.wt
  apart : V.blocks.Nodup

theorem RowAt.kept {α : Type} {w w' : World} {e size : Nat} {enc : α → List Value} {v : Value} {xs : List α} {row : Option Nat} (h : RowAt w e size enc v xs) (hg : w.grownBy w' row) (hne : v.ownBlock = none ∨ v.ownBlock ≠ row) : RowAt w' e size enc v xs := World.ownsRow.kept h hg hne
theorem RowAt.below {α : Type} {w w' : World} {e size : Nat} {enc : α → List Value} {v : Value} {xs : List α} (h : RowAt w e size enc v xs) (hb : Below w.heap.size w w') : RowAt w' e size enc v xs := h.kept (grown_of_below hb none) (by cases v.ownBlock <;> simp)
theorem RowAt.lt {α : Type} {w : World} {e size : Nat} {enc : α → List Value} {v : Value} {xs : List α} (h : RowAt w e size enc v xs) {b : Nat} (hb : v.ownBlock = some b) : b < w.heap.size := (World.ownsRow.lt h b hb).2
theorem RowAt.elem {α : Type} {w : World} {e size : Nat} {enc : α → List Value} {v : Value} {xs : List α} (h : RowAt w e size enc v xs) {b : Nat} (hb : v.ownBlock = some b) : ∃ cur, w.heap[b]? = some (.cells cur e) := by
  rcases h.2 with ⟨rfl, _⟩ | ⟨g, cap, cur, rfl, _, hg, _⟩
  · simp [Value.ownBlock] at hb
  · simp [Value.ownBlock] at hb; subst hb; exact ⟨cur, hg⟩

section
variable {w : World} {rb : Nat} {V : RVs} {x7 x8 x9 x10 x11 : Value} {R : RSt}

theorem RefAt.lt (h : RefAt w rb V x7 x8 x9 x10 x11 R) : rb < w.heap.size := (Array.getElem?_eq_some_iff.1 h.cells).1
theorem RefAt.below {w' : World} (h : RefAt w rb V x7 x8 x9 x10 x11 R) (hb : Below w.heap.size w w') : RefAt w' rb V x7 x8 x9 x10 x11 R :=
  ⟨(hb.block rb h.lt).trans h.cells, h.r0.below hb, h.r1.below hb, h.r2.below hb, h.r3.below hb, h.rw.below hb, h.ro.below hb, h.rt.below hb, h.apart⟩
theorem RefAt.alloc (h : RefAt w rb V x7 x8 x9 x10 x11 R) (o : Obj) : RefAt (w.alloc o) rb V x7 x8 x9 x10 x11 R := h.below ((Below.refl _ _).alloc (Nat.le_refl _) _)
theorem RefAt.drew (h : RefAt w rb V x7 x8 x9 x10 x11 R) : RefAt w.drew rb V x7 x8 x9 x10 x11 R := ⟨h.cells, h.r0, h.r1, h.r2, h.r3, h.rw, h.ro, h.rt, h.apart⟩
theorem RefAt.cell (h : RefAt w rb V x7 x8 x9 x10 x11 R) (i : Nat) : w.cell? ⟨rb, i, none⟩ = #[V.v0, V.v1, V.v2, V.v3, V.vw, V.vo, V.vt, x7, x8, x9, x10, x11][i]? := by simp [World.cell?, h.cells]
theorem RefAt.c0 (h : RefAt w rb V x7 x8 x9 x10 x11 R) : w.cell? ⟨rb, 0, none⟩ = some V.v0 := by rw [h.cell]; rfl
theorem RefAt.c1 (h : RefAt w rb V x7 x8 x9 x10 x11 R) : w.cell? ⟨rb, 1, none⟩ = some V.v1 := by rw [h.cell]; rfl
theorem RefAt.c2 (h : RefAt w rb V x7 x8 x9 x10 x11 R) : w.cell? ⟨rb, 2, none⟩ = some V.v2 := by rw [h.cell]; rfl
theorem RefAt.c3 (h : RefAt w rb V x7 x8 x9 x10 x11 R) : w.cell? ⟨rb, 3, none⟩ = some V.v3 := by rw [h.cell]; rfl
theorem RefAt.c4 (h : RefAt w rb V x7 x8 x9 x10 x11 R) : w.cell? ⟨rb, 4, none⟩ = some V.vw := by rw [h.cell]; rfl
theorem RefAt.c5 (h : RefAt w rb V x7 x8 x9 x10 x11 R) : w.cell? ⟨rb, 5, none⟩ = some V.vo := by rw [h.cell]; rfl
theorem RefAt.c6 (h : RefAt w rb V x7 x8 x9 x10 x11 R) : w.cell? ⟨rb, 6, none⟩ = some V.vt := by rw [h.cell]; rfl
theorem RefAt.fr (h : RefAt w rb V x7 x8 x9 x10 x11 R) (i : Nat) : w.frozen? ⟨rb, i, none⟩ = false := by simp [World.frozen?, h.cells]
theorem RefAt.ne (h : RefAt w rb V x7 x8 x9 x10 x11 R) : rb ∉ V.blocks := by
  intro hm
  unfold RVs.blocks at hm
  obtain ⟨v, hv, hb⟩ := List.mem_filterMap.1 hm
  have hc := h.cells
  simp only [List.mem_cons, List.not_mem_nil, or_false] at hv
  rcases hv with rfl | rfl | rfl | rfl | rfl | rfl | rfl
  · obtain ⟨cur, hq⟩ := h.r0.elem hb; rw [hc] at hq; simp at hq
  · obtain ⟨cur, hq⟩ := h.r1.elem hb; rw [hc] at hq; simp at hq
  · obtain ⟨cur, hq⟩ := h.r2.elem hb; rw [hc] at hq; simp at hq
  · obtain ⟨cur, hq⟩ := h.r3.elem hb; rw [hc] at hq; simp at hq
  · obtain ⟨cur, hq⟩ := h.rw.elem hb; rw [hc] at hq; simp at hq
  · obtain ⟨cur, hq⟩ := h.ro.elem hb; rw [hc] at hq; simp at hq
  · obtain ⟨cur, hq⟩ := h.rt.elem hb; rw [hc] at hq; simp at hq
end

/-- append, as one step of a region that draws, onto a row that is owned. -/
theorem step_append_own {P : Program} {ops : Array Oper} {o : Oper} {a : Act} {w : World} {K : Act → World → Prop} {Q : Exit → Act → World → Prop} {E : Prop} (hgd : o.guard = none) (s x : Operand) (t : TypeId)
    (hop : o.op = .call { callee := .builtin .append, args := #[s, x], argTypes := #[t, t] })
    (base : Nat) (e : TypeId) (i : TypeInfo) (z : Value) (size bytes : Nat) (ht : P.underlying t = some (.slice e)) (hi : P.info? e = some i) (hz : i.zero = some z)
    (hsize : i.size = size) (hby : i.bytes = bytes) (hzs : z.cells.size = size) (hsz : 0 < size)
    (v : Value) (n : Nat) (xs : List Value) (hs : a.eval s = v) (hown : w.ownsRow base e size v n xs)
    (ad : Addr) (m c : Nat) (news : List Value) (hx : a.eval x = .slice (some ad) m c) (hl : news.length = m * size) (hnews : ∀ j u, news[j]? = some u → w.cell? (ad.add j) = some u) (h1 : ∀ u ∈ news, u.oneCell' = true)
    (h63 : n + m ≤ maxLen) (hbytes : (n + m) * bytes ≤ 140737488355328) (hbase : base ≤ w.heap.size)
    (h : ∀ v' w', w'.ownsRow base e size v' (n + m) (xs ++ news) → w.grownBy w' v.ownBlock → (v'.ownBlock = v.ownBlock ∨ v'.ownBlock = some w.heap.size) → K (a.put o.dst v') w') :
    if Region.wanted o (yielded ops a.tmps) = true then Oper.wp P o a w K Q else E := by
  have hw : Region.wanted o (yielded ops a.tmps) = true := by simp [Region.wanted, hgd]
  rw [if_pos hw]
  obtain ⟨v', w', hr, h2, h3, _, h5⟩ := run_append_own_at (P := P) w base t o.type e i z size bytes ht hi hz hsize hby hzs hsz v n xs hown ad m c news hl hnews h1 h63 hbytes hbase
  unfold Oper.wp execOp
  simp only [hop, resolve, invoke, builtin, Sem.run_bind, Sem.run_pure, Result.andThen_ok, List.map_toArray, List.map_cons, List.map_nil, hs, hx, hr]
  exact h v' w' h2 h3 h5

theorem grown_setCell (w : World) (a : Addr) (v : Value) : w.grownBy (w.setCell a v) (some a.block) :=
  ⟨rfl, rfl, rfl, by simp [World.setCell], fun k _ hk => Below.heap_setCell w a v k (fun e => hk (by rw [e]))⟩

theorem heap_setCell {w : World} {rb : Nat} {arr : Array Value} {e : TypeId} (h : w.heap[rb]? = some (.cells arr e)) (i : Nat) (v : Value) : (w.setCell ⟨rb, i, none⟩ v).heap[rb]? = some (.cells (arr.setIfInBounds i v) e) := by
  simp [World.setCell, Array.getElem?_modify, h]

/-- The footprint of the document's plan. -/
def foot (rb : Nat) (V : RVs) : List Nat := rb :: V.blocks

theorem Only.of_grown' {S : List Nat} {w w' : World} {row : Option Nat} (h : w.grownBy w' row) (hb : ∀ b, row = some b → b ∈ S) : Only S w w' :=
  ⟨h.os, h.tape, h.output, h.size, fun k hk hn => h.block k hk (fun e => hn (hb k e.symm))⟩

section
variable {w : World} {rb : Nat} {V : RVs} {x7 x8 x9 x10 x11 : Value} {R : RSt}

theorem mem_blocks {V : RVs} {b : Nat} : b ∈ V.blocks ↔ V.v0.ownBlock = some b ∨ V.v1.ownBlock = some b ∨ V.v2.ownBlock = some b ∨ V.v3.ownBlock = some b ∨ V.vw.ownBlock = some b ∨ V.vo.ownBlock = some b ∨ V.vt.ownBlock = some b := by
  unfold RVs.blocks
  simp [List.mem_filterMap]

theorem filterMap_nodup {l : List Value} : (l.filterMap Value.ownBlock).Nodup ↔ l.Pairwise (fun a b => ∀ n, a.ownBlock = some n → b.ownBlock ≠ some n) := by
  rw [List.Nodup, List.pairwise_filterMap]
  constructor
  · intro h
    exact h.imp fun {a b} hab n ha hb => hab n ha n hb rfl
  · intro h
    exact h.imp fun {a b} hab n ha m hb e => hab n ha (by rw [e]; exact hb)

theorem pairwise_set {α : Type} {r : α → α → Prop} (sym : ∀ a b, r a b → r b a) (u : α) : ∀ (l : List α) (k : Nat), l.Pairwise r → (∀ x ∈ l, r u x) → (l.set k u).Pairwise r
  | [], _, _, _ => by simp
  | x :: l, 0, hp, hu => by
    rw [List.set_cons_zero]
    exact List.pairwise_cons.2 ⟨fun y hy => hu y (List.mem_cons_of_mem _ hy), (List.pairwise_cons.1 hp).2⟩
  | x :: l, k + 1, hp, hu => by
    rw [List.set_cons_succ]
    obtain ⟨h1, h2⟩ := List.pairwise_cons.1 hp
    refine List.pairwise_cons.2 ⟨fun y hy => ?_, pairwise_set sym u l k h2 (fun y hy => hu y (List.mem_cons_of_mem _ hy))⟩
    rcases List.mem_or_eq_of_mem_set hy with hy | rfl
    · exact h1 y hy
    · exact sym _ _ (hu x List.mem_cons_self)

theorem RefAt.pair (h : RefAt w rb V x7 x8 x9 x10 x11 R) : [V.v0, V.v1, V.v2, V.v3, V.vw, V.vo, V.vt].Pairwise (fun a b => ∀ n, a.ownBlock = some n → b.ownBlock ≠ some n) := filterMap_nodup.1 h.apart

theorem RefAt.rlt (h : RefAt w rb V x7 x8 x9 x10 x11 R) : ∀ b ∈ V.blocks, b < w.heap.size := by
  intro b hb
  rcases mem_blocks.1 hb with h1 | h1 | h1 | h1 | h1 | h1 | h1
  · exact h.r0.lt h1
  · exact h.r1.lt h1
  · exact h.r2.lt h1
  · exact h.r3.lt h1
  · exact h.rw.lt h1
  · exact h.ro.lt h1
  · exact h.rt.lt h1

/-- Its list t0 is another, in its own row or a new one. -/
theorem RefAt.set_t0 {w' : World} {u : Value} {ys : List Th} (h : RefAt w rb V x7 x8 x9 x10 x11 R) (hg : w.grownBy w' V.v0.ownBlock) (hr : RowAt w' 76 3 cellsT u ys) (hl : u.ownBlock = V.v0.ownBlock ∨ (∀ n, u.ownBlock = some n → w.heap.size ≤ n)) :
    RefAt (w'.setCell ⟨rb, 0, none⟩ u) rb { V with v0 := u } x7 x8 x9 x10 x11 { R with t0 := ys } ∧ Only (foot rb V) w (w'.setCell ⟨rb, 0, none⟩ u) ∧ (∀ b ∈ ({ V with v0 := u } : RVs).blocks, b ∈ V.blocks ∨ w.heap.size ≤ b) := by
  have hpp := h.pair
  have hp := hpp
  have hlt := h.rlt
  have hne := h.ne
  have hrb := h.lt
  simp only [List.pairwise_cons, List.mem_cons, List.not_mem_nil, or_false, forall_eq_or_imp, forall_eq, List.Pairwise.nil, and_true, false_implies, implies_true] at hp
  have hnb : V.v0.ownBlock ≠ some rb := fun e => hne (mem_blocks.2 (by simp [e]))
  have hub : u.ownBlock ≠ some rb := by
    rcases hl with hl | hl
    · rw [hl]; exact hnb
    · exact fun e => by have := hl rb e; omega
  have hcell : w'.heap[rb]? = some (.cells #[V.v0, V.v1, V.v2, V.v3, V.vw, V.vo, V.vt, x7, x8, x9, x10, x11] 45) := (hg.block rb hrb hnb.symm).trans h.cells
  have hset := grown_setCell w' ⟨rb, 0, none⟩ u
  have keep : ∀ {α : Type} {e size : Nat} {enc : α → List Value} {v : Value} {xs : List α}, RowAt w e size enc v xs → (∀ n, v.ownBlock = some n → V.v0.ownBlock ≠ some n) → (∀ n, v.ownBlock = some n → n ≠ rb) → RowAt (w'.setCell ⟨rb, 0, none⟩ u) e size enc v xs := fun {α e size enc v xs} hv h1 h2 => by
    refine RowAt.kept (RowAt.kept hv hg ?_) hset ?_
    · cases hq : v.ownBlock with
      | none => exact Or.inl rfl
      | some n => exact Or.inr (h1 n hq).symm
    · cases hq : v.ownBlock with
      | none => exact Or.inl rfl
      | some n => exact Or.inr (by simpa using h2 n hq)
  have nrb : ∀ {v : Value} {n : Nat}, v.ownBlock = some n → n ∈ V.blocks → n ≠ rb := fun {v n} _ hn e => hne (e ▸ hn)
  refine ⟨⟨heap_setCell hcell 0 u, hr.kept hset (Or.inr (by simpa using hub)),
    keep h.r1 (fun n hn e => by simp only [hn, e] at hp; simp at hp) (fun n hn => nrb hn (mem_blocks.2 (by simp [hn]))),
    keep h.r2 (fun n hn e => by simp only [hn, e] at hp; simp at hp) (fun n hn => nrb hn (mem_blocks.2 (by simp [hn]))),
    keep h.r3 (fun n hn e => by simp only [hn, e] at hp; simp at hp) (fun n hn => nrb hn (mem_blocks.2 (by simp [hn]))),
    keep h.rw (fun n hn e => by simp only [hn, e] at hp; simp at hp) (fun n hn => nrb hn (mem_blocks.2 (by simp [hn]))),
    keep h.ro (fun n hn e => by simp only [hn, e] at hp; simp at hp) (fun n hn => nrb hn (mem_blocks.2 (by simp [hn]))),
    keep h.rt (fun n hn e => by simp only [hn, e] at hp; simp at hp) (fun n hn => nrb hn (mem_blocks.2 (by simp [hn]))), ?_⟩, ?_, ?_⟩
  · refine (filterMap_nodup (l := [u, V.v1, V.v2, V.v3, V.vw, V.vo, V.vt])).2 ?_
    rcases hl with hl | hl
    · simp only [List.pairwise_cons, List.mem_cons, List.not_mem_nil, or_false, forall_eq_or_imp, forall_eq, List.Pairwise.nil, and_true, false_implies, implies_true]
      rw [hl]; exact hp
    · refine pairwise_set (fun a b hab n hb ha => hab n ha hb) u [V.v0, V.v1, V.v2, V.v3, V.vw, V.vo, V.vt] 0 hpp (fun x hx n hn hxn => ?_)
      have h1 := hl n hn
      have h2 := hlt n (List.mem_filterMap.2 ⟨x, hx, hxn⟩)
      omega
  · exact (Only.of_grown' hg (fun b hb => List.mem_cons_of_mem _ (mem_blocks.2 (by simp [hb])))).trans (Only.of_grown' hset (fun b hb => by cases hb; exact List.mem_cons_self))
  · intro b hb
    rw [mem_blocks] at hb ⊢
    rcases hl with hl | hl
    · left; simpa [hl] using hb
    · by_cases hq : u.ownBlock = some b
      · exact Or.inr (hl b hq)
      · left
        rcases hb with h1 | h1 | h1 | h1 | h1 | h1 | h1 <;> first | exact absurd h1 hq | simp [h1]

/-- Its list t1 is another, in its own row or a new one. -/
theorem RefAt.set_t1 {w' : World} {u : Value} {ys : List Th} (h : RefAt w rb V x7 x8 x9 x10 x11 R) (hg : w.grownBy w' V.v1.ownBlock) (hr : RowAt w' 76 3 cellsT u ys) (hl : u.ownBlock = V.v1.ownBlock ∨ (∀ n, u.ownBlock = some n → w.heap.size ≤ n)) :
    RefAt (w'.setCell ⟨rb, 1, none⟩ u) rb { V with v1 := u } x7 x8 x9 x10 x11 { R with t1 := ys } ∧ Only (foot rb V) w (w'.setCell ⟨rb, 1, none⟩ u) ∧ (∀ b ∈ ({ V with v1 := u } : RVs).blocks, b ∈ V.blocks ∨ w.heap.size ≤ b) := by
  have hpp := h.pair
  have hp := hpp
  have hlt := h.rlt
  have hne := h.ne
  have hrb := h.lt
  simp only [List.pairwise_cons, List.mem_cons, List.not_mem_nil, or_false, forall_eq_or_imp, forall_eq, List.Pairwise.nil, and_true, false_implies, implies_true] at hp
  have hnb : V.v1.ownBlock ≠ some rb := fun e => hne (mem_blocks.2 (by simp [e]))
  have hub : u.ownBlock ≠ some rb := by
    rcases hl with hl | hl
    · rw [hl]; exact hnb
    · exact fun e => by have := hl rb e; omega
  have hcell : w'.heap[rb]? = some (.cells #[V.v0, V.v1, V.v2, V.v3, V.vw, V.vo, V.vt, x7, x8, x9, x10, x11] 45) := (hg.block rb hrb hnb.symm).trans h.cells
  have hset := grown_setCell w' ⟨rb, 1, none⟩ u
  have keep : ∀ {α : Type} {e size : Nat} {enc : α → List Value} {v : Value} {xs : List α}, RowAt w e size enc v xs → (∀ n, v.ownBlock = some n → V.v1.ownBlock ≠ some n) → (∀ n, v.ownBlock = some n → n ≠ rb) → RowAt (w'.setCell ⟨rb, 1, none⟩ u) e size enc v xs := fun {α e size enc v xs} hv h1 h2 => by
    refine RowAt.kept (RowAt.kept hv hg ?_) hset ?_
    · cases hq : v.ownBlock with
      | none => exact Or.inl rfl
      | some n => exact Or.inr (h1 n hq).symm
    · cases hq : v.ownBlock with
      | none => exact Or.inl rfl
      | some n => exact Or.inr (by simpa using h2 n hq)
  have nrb : ∀ {v : Value} {n : Nat}, v.ownBlock = some n → n ∈ V.blocks → n ≠ rb := fun {v n} _ hn e => hne (e ▸ hn)
  refine ⟨⟨heap_setCell hcell 1 u, keep h.r0 (fun n hn e => by simp only [hn, e] at hp; simp at hp) (fun n hn => nrb hn (mem_blocks.2 (by simp [hn]))),
    hr.kept hset (Or.inr (by simpa using hub)),
    keep h.r2 (fun n hn e => by simp only [hn, e] at hp; simp at hp) (fun n hn => nrb hn (mem_blocks.2 (by simp [hn]))),
    keep h.r3 (fun n hn e => by simp only [hn, e] at hp; simp at hp) (fun n hn => nrb hn (mem_blocks.2 (by simp [hn]))),
    keep h.rw (fun n hn e => by simp only [hn, e] at hp; simp at hp) (fun n hn => nrb hn (mem_blocks.2 (by simp [hn]))),
    keep h.ro (fun n hn e => by simp only [hn, e] at hp; simp at hp) (fun n hn => nrb hn (mem_blocks.2 (by simp [hn]))),
    keep h.rt (fun n hn e => by simp only [hn, e] at hp; simp at hp) (fun n hn => nrb hn (mem_blocks.2 (by simp [hn]))), ?_⟩, ?_, ?_⟩
  · refine (filterMap_nodup (l := [V.v0, u, V.v2, V.v3, V.vw, V.vo, V.vt])).2 ?_
    rcases hl with hl | hl
    · simp only [List.pairwise_cons, List.mem_cons, List.not_mem_nil, or_false, forall_eq_or_imp, forall_eq, List.Pairwise.nil, and_true, false_implies, implies_true]
      rw [hl]; exact hp
    · refine pairwise_set (fun a b hab n hb ha => hab n ha hb) u [V.v0, V.v1, V.v2, V.v3, V.vw, V.vo, V.vt] 1 hpp (fun x hx n hn hxn => ?_)
      have h1 := hl n hn
      have h2 := hlt n (List.mem_filterMap.2 ⟨x, hx, hxn⟩)
      omega
  · exact (Only.of_grown' hg (fun b hb => List.mem_cons_of_mem _ (mem_blocks.2 (by simp [hb])))).trans (Only.of_grown' hset (fun b hb => by cases hb; exact List.mem_cons_self))
  · intro b hb
    rw [mem_blocks] at hb ⊢
    rcases hl with hl | hl
    · left; simpa [hl] using hb
    · by_cases hq : u.ownBlock = some b
      · exact Or.inr (hl b hq)
      · left
        rcases hb with h1 | h1 | h1 | h1 | h1 | h1 | h1 <;> first | exact absurd h1 hq | simp [h1]

/-- Its list t2 is another, in its own row or a new one. -/
theorem RefAt.set_t2 {w' : World} {u : Value} {ys : List Th} (h : RefAt w rb V x7 x8 x9 x10 x11 R) (hg : w.grownBy w' V.v2.ownBlock) (hr : RowAt w' 76 3 cellsT u ys) (hl : u.ownBlock = V.v2.ownBlock ∨ (∀ n, u.ownBlock = some n → w.heap.size ≤ n)) :
    RefAt (w'.setCell ⟨rb, 2, none⟩ u) rb { V with v2 := u } x7 x8 x9 x10 x11 { R with t2 := ys } ∧ Only (foot rb V) w (w'.setCell ⟨rb, 2, none⟩ u) ∧ (∀ b ∈ ({ V with v2 := u } : RVs).blocks, b ∈ V.blocks ∨ w.heap.size ≤ b) := by
  have hpp := h.pair
  have hp := hpp
  have hlt := h.rlt
  have hne := h.ne
  have hrb := h.lt
  simp only [List.pairwise_cons, List.mem_cons, List.not_mem_nil, or_false, forall_eq_or_imp, forall_eq, List.Pairwise.nil, and_true, false_implies, implies_true] at hp
  have hnb : V.v2.ownBlock ≠ some rb := fun e => hne (mem_blocks.2 (by simp [e]))
  have hub : u.ownBlock ≠ some rb := by
    rcases hl with hl | hl
    · rw [hl]; exact hnb
    · exact fun e => by have := hl rb e; omega
  have hcell : w'.heap[rb]? = some (.cells #[V.v0, V.v1, V.v2, V.v3, V.vw, V.vo, V.vt, x7, x8, x9, x10, x11] 45) := (hg.block rb hrb hnb.symm).trans h.cells
  have hset := grown_setCell w' ⟨rb, 2, none⟩ u
  have keep : ∀ {α : Type} {e size : Nat} {enc : α → List Value} {v : Value} {xs : List α}, RowAt w e size enc v xs → (∀ n, v.ownBlock = some n → V.v2.ownBlock ≠ some n) → (∀ n, v.ownBlock = some n → n ≠ rb) → RowAt (w'.setCell ⟨rb, 2, none⟩ u) e size enc v xs := fun {α e size enc v xs} hv h1 h2 => by
    refine RowAt.kept (RowAt.kept hv hg ?_) hset ?_
    · cases hq : v.ownBlock with
      | none => exact Or.inl rfl
      | some n => exact Or.inr (h1 n hq).symm
    · cases hq : v.ownBlock with
      | none => exact Or.inl rfl
      | some n => exact Or.inr (by simpa using h2 n hq)
  have nrb : ∀ {v : Value} {n : Nat}, v.ownBlock = some n → n ∈ V.blocks → n ≠ rb := fun {v n} _ hn e => hne (e ▸ hn)
  refine ⟨⟨heap_setCell hcell 2 u, keep h.r0 (fun n hn e => by simp only [hn, e] at hp; simp at hp) (fun n hn => nrb hn (mem_blocks.2 (by simp [hn]))),
    keep h.r1 (fun n hn e => by simp only [hn, e] at hp; simp at hp) (fun n hn => nrb hn (mem_blocks.2 (by simp [hn]))),
    hr.kept hset (Or.inr (by simpa using hub)),
    keep h.r3 (fun n hn e => by simp only [hn, e] at hp; simp at hp) (fun n hn => nrb hn (mem_blocks.2 (by simp [hn]))),
    keep h.rw (fun n hn e => by simp only [hn, e] at hp; simp at hp) (fun n hn => nrb hn (mem_blocks.2 (by simp [hn]))),
    keep h.ro (fun n hn e => by simp only [hn, e] at hp; simp at hp) (fun n hn => nrb hn (mem_blocks.2 (by simp [hn]))),
    keep h.rt (fun n hn e => by simp only [hn, e] at hp; simp at hp) (fun n hn => nrb hn (mem_blocks.2 (by simp [hn]))), ?_⟩, ?_, ?_⟩
  · refine (filterMap_nodup (l := [V.v0, V.v1, u, V.v3, V.vw, V.vo, V.vt])).2 ?_
    rcases hl with hl | hl
    · simp only [List.pairwise_cons, List.mem_cons, List.not_mem_nil, or_false, forall_eq_or_imp, forall_eq, List.Pairwise.nil, and_true, false_implies, implies_true]
      rw [hl]; exact hp
    · refine pairwise_set (fun a b hab n hb ha => hab n ha hb) u [V.v0, V.v1, V.v2, V.v3, V.vw, V.vo, V.vt] 2 hpp (fun x hx n hn hxn => ?_)
      have h1 := hl n hn
      have h2 := hlt n (List.mem_filterMap.2 ⟨x, hx, hxn⟩)
      omega
  · exact (Only.of_grown' hg (fun b hb => List.mem_cons_of_mem _ (mem_blocks.2 (by simp [hb])))).trans (Only.of_grown' hset (fun b hb => by cases hb; exact List.mem_cons_self))
  · intro b hb
    rw [mem_blocks] at hb ⊢
    rcases hl with hl | hl
    · left; simpa [hl] using hb
    · by_cases hq : u.ownBlock = some b
      · exact Or.inr (hl b hq)
      · left
        rcases hb with h1 | h1 | h1 | h1 | h1 | h1 | h1 <;> first | exact absurd h1 hq | simp [h1]

/-- Its list t3 is another, in its own row or a new one. -/
theorem RefAt.set_t3 {w' : World} {u : Value} {ys : List Th} (h : RefAt w rb V x7 x8 x9 x10 x11 R) (hg : w.grownBy w' V.v3.ownBlock) (hr : RowAt w' 76 3 cellsT u ys) (hl : u.ownBlock = V.v3.ownBlock ∨ (∀ n, u.ownBlock = some n → w.heap.size ≤ n)) :
    RefAt (w'.setCell ⟨rb, 3, none⟩ u) rb { V with v3 := u } x7 x8 x9 x10 x11 { R with t3 := ys } ∧ Only (foot rb V) w (w'.setCell ⟨rb, 3, none⟩ u) ∧ (∀ b ∈ ({ V with v3 := u } : RVs).blocks, b ∈ V.blocks ∨ w.heap.size ≤ b) := by
  have hpp := h.pair
  have hp := hpp
  have hlt := h.rlt
  have hne := h.ne
  have hrb := h.lt
  simp only [List.pairwise_cons, List.mem_cons, List.not_mem_nil, or_false, forall_eq_or_imp, forall_eq, List.Pairwise.nil, and_true, false_implies, implies_true] at hp
  have hnb : V.v3.ownBlock ≠ some rb := fun e => hne (mem_blocks.2 (by simp [e]))
  have hub : u.ownBlock ≠ some rb := by
    rcases hl with hl | hl
    · rw [hl]; exact hnb
    · exact fun e => by have := hl rb e; omega
  have hcell : w'.heap[rb]? = some (.cells #[V.v0, V.v1, V.v2, V.v3, V.vw, V.vo, V.vt, x7, x8, x9, x10, x11] 45) := (hg.block rb hrb hnb.symm).trans h.cells
  have hset := grown_setCell w' ⟨rb, 3, none⟩ u
  have keep : ∀ {α : Type} {e size : Nat} {enc : α → List Value} {v : Value} {xs : List α}, RowAt w e size enc v xs → (∀ n, v.ownBlock = some n → V.v3.ownBlock ≠ some n) → (∀ n, v.ownBlock = some n → n ≠ rb) → RowAt (w'.setCell ⟨rb, 3, none⟩ u) e size enc v xs := fun {α e size enc v xs} hv h1 h2 => by
    refine RowAt.kept (RowAt.kept hv hg ?_) hset ?_
    · cases hq : v.ownBlock with
      | none => exact Or.inl rfl
      | some n => exact Or.inr (h1 n hq).symm
    · cases hq : v.ownBlock with
      | none => exact Or.inl rfl
      | some n => exact Or.inr (by simpa using h2 n hq)
  have nrb : ∀ {v : Value} {n : Nat}, v.ownBlock = some n → n ∈ V.blocks → n ≠ rb := fun {v n} _ hn e => hne (e ▸ hn)
  refine ⟨⟨heap_setCell hcell 3 u, keep h.r0 (fun n hn e => by simp only [hn, e] at hp; simp at hp) (fun n hn => nrb hn (mem_blocks.2 (by simp [hn]))),
    keep h.r1 (fun n hn e => by simp only [hn, e] at hp; simp at hp) (fun n hn => nrb hn (mem_blocks.2 (by simp [hn]))),
    keep h.r2 (fun n hn e => by simp only [hn, e] at hp; simp at hp) (fun n hn => nrb hn (mem_blocks.2 (by simp [hn]))),
    hr.kept hset (Or.inr (by simpa using hub)),
    keep h.rw (fun n hn e => by simp only [hn, e] at hp; simp at hp) (fun n hn => nrb hn (mem_blocks.2 (by simp [hn]))),
    keep h.ro (fun n hn e => by simp only [hn, e] at hp; simp at hp) (fun n hn => nrb hn (mem_blocks.2 (by simp [hn]))),
    keep h.rt (fun n hn e => by simp only [hn, e] at hp; simp at hp) (fun n hn => nrb hn (mem_blocks.2 (by simp [hn]))), ?_⟩, ?_, ?_⟩
  · refine (filterMap_nodup (l := [V.v0, V.v1, V.v2, u, V.vw, V.vo, V.vt])).2 ?_
    rcases hl with hl | hl
    · simp only [List.pairwise_cons, List.mem_cons, List.not_mem_nil, or_false, forall_eq_or_imp, forall_eq, List.Pairwise.nil, and_true, false_implies, implies_true]
      rw [hl]; exact hp
    · refine pairwise_set (fun a b hab n hb ha => hab n ha hb) u [V.v0, V.v1, V.v2, V.v3, V.vw, V.vo, V.vt] 3 hpp (fun x hx n hn hxn => ?_)
      have h1 := hl n hn
      have h2 := hlt n (List.mem_filterMap.2 ⟨x, hx, hxn⟩)
      omega
  · exact (Only.of_grown' hg (fun b hb => List.mem_cons_of_mem _ (mem_blocks.2 (by simp [hb])))).trans (Only.of_grown' hset (fun b hb => by cases hb; exact List.mem_cons_self))
  · intro b hb
    rw [mem_blocks] at hb ⊢
    rcases hl with hl | hl
    · left; simpa [hl] using hb
    · by_cases hq : u.ownBlock = some b
      · exact Or.inr (hl b hq)
      · left
        rcases hb with h1 | h1 | h1 | h1 | h1 | h1 | h1 <;> first | exact absurd h1 hq | simp [h1]

/-- Its list ws is another, in its own row or a new one. -/
theorem RefAt.set_ws {w' : World} {u : Value} {ys : List Wi} (h : RefAt w rb V x7 x8 x9 x10 x11 R) (hg : w.grownBy w' V.vw.ownBlock) (hr : RowAt w' 117 4 cellsW u ys) (hl : u.ownBlock = V.vw.ownBlock ∨ (∀ n, u.ownBlock = some n → w.heap.size ≤ n)) :
    RefAt (w'.setCell ⟨rb, 4, none⟩ u) rb { V with vw := u } x7 x8 x9 x10 x11 { R with ws := ys } ∧ Only (foot rb V) w (w'.setCell ⟨rb, 4, none⟩ u) ∧ (∀ b ∈ ({ V with vw := u } : RVs).blocks, b ∈ V.blocks ∨ w.heap.size ≤ b) := by
  have hpp := h.pair
  have hp := hpp
  have hlt := h.rlt
  have hne := h.ne
  have hrb := h.lt
  simp only [List.pairwise_cons, List.mem_cons, List.not_mem_nil, or_false, forall_eq_or_imp, forall_eq, List.Pairwise.nil, and_true, false_implies, implies_true] at hp
  have hnb : V.vw.ownBlock ≠ some rb := fun e => hne (mem_blocks.2 (by simp [e]))
  have hub : u.ownBlock ≠ some rb := by
    rcases hl with hl | hl
    · rw [hl]; exact hnb
    · exact fun e => by have := hl rb e; omega
  have hcell : w'.heap[rb]? = some (.cells #[V.v0, V.v1, V.v2, V.v3, V.vw, V.vo, V.vt, x7, x8, x9, x10, x11] 45) := (hg.block rb hrb hnb.symm).trans h.cells
  have hset := grown_setCell w' ⟨rb, 4, none⟩ u
  have keep : ∀ {α : Type} {e size : Nat} {enc : α → List Value} {v : Value} {xs : List α}, RowAt w e size enc v xs → (∀ n, v.ownBlock = some n → V.vw.ownBlock ≠ some n) → (∀ n, v.ownBlock = some n → n ≠ rb) → RowAt (w'.setCell ⟨rb, 4, none⟩ u) e size enc v xs := fun {α e size enc v xs} hv h1 h2 => by
    refine RowAt.kept (RowAt.kept hv hg ?_) hset ?_
    · cases hq : v.ownBlock with
      | none => exact Or.inl rfl
      | some n => exact Or.inr (h1 n hq).symm
    · cases hq : v.ownBlock with
      | none => exact Or.inl rfl
      | some n => exact Or.inr (by simpa using h2 n hq)
  have nrb : ∀ {v : Value} {n : Nat}, v.ownBlock = some n → n ∈ V.blocks → n ≠ rb := fun {v n} _ hn e => hne (e ▸ hn)
  refine ⟨⟨heap_setCell hcell 4 u, keep h.r0 (fun n hn e => by simp only [hn, e] at hp; simp at hp) (fun n hn => nrb hn (mem_blocks.2 (by simp [hn]))),
    keep h.r1 (fun n hn e => by simp only [hn, e] at hp; simp at hp) (fun n hn => nrb hn (mem_blocks.2 (by simp [hn]))),
    keep h.r2 (fun n hn e => by simp only [hn, e] at hp; simp at hp) (fun n hn => nrb hn (mem_blocks.2 (by simp [hn]))),
    keep h.r3 (fun n hn e => by simp only [hn, e] at hp; simp at hp) (fun n hn => nrb hn (mem_blocks.2 (by simp [hn]))),
    hr.kept hset (Or.inr (by simpa using hub)),
    keep h.ro (fun n hn e => by simp only [hn, e] at hp; simp at hp) (fun n hn => nrb hn (mem_blocks.2 (by simp [hn]))),
    keep h.rt (fun n hn e => by simp only [hn, e] at hp; simp at hp) (fun n hn => nrb hn (mem_blocks.2 (by simp [hn]))), ?_⟩, ?_, ?_⟩
  · refine (filterMap_nodup (l := [V.v0, V.v1, V.v2, V.v3, u, V.vo, V.vt])).2 ?_
    rcases hl with hl | hl
    · simp only [List.pairwise_cons, List.mem_cons, List.not_mem_nil, or_false, forall_eq_or_imp, forall_eq, List.Pairwise.nil, and_true, false_implies, implies_true]
      rw [hl]; exact hp
    · refine pairwise_set (fun a b hab n hb ha => hab n ha hb) u [V.v0, V.v1, V.v2, V.v3, V.vw, V.vo, V.vt] 4 hpp (fun x hx n hn hxn => ?_)
      have h1 := hl n hn
      have h2 := hlt n (List.mem_filterMap.2 ⟨x, hx, hxn⟩)
      omega
  · exact (Only.of_grown' hg (fun b hb => List.mem_cons_of_mem _ (mem_blocks.2 (by simp [hb])))).trans (Only.of_grown' hset (fun b hb => by cases hb; exact List.mem_cons_self))
  · intro b hb
    rw [mem_blocks] at hb ⊢
    rcases hl with hl | hl
    · left; simpa [hl] using hb
    · by_cases hq : u.ownBlock = some b
      · exact Or.inr (hl b hq)
      · left
        rcases hb with h1 | h1 | h1 | h1 | h1 | h1 | h1 <;> first | exact absurd h1 hq | simp [h1]

/-- Its list on is another, in its own row or a new one. -/
theorem RefAt.set_on {w' : World} {u : Value} {ys : List Int} (h : RefAt w rb V x7 x8 x9 x10 x11 R) (hg : w.grownBy w' V.vo.ownBlock) (hr : RowAt w' 3 1 cellsI u ys) (hl : u.ownBlock = V.vo.ownBlock ∨ (∀ n, u.ownBlock = some n → w.heap.size ≤ n)) :
    RefAt (w'.setCell ⟨rb, 5, none⟩ u) rb { V with vo := u } x7 x8 x9 x10 x11 { R with on := ys } ∧ Only (foot rb V) w (w'.setCell ⟨rb, 5, none⟩ u) ∧ (∀ b ∈ ({ V with vo := u } : RVs).blocks, b ∈ V.blocks ∨ w.heap.size ≤ b) := by
  have hpp := h.pair
  have hp := hpp
  have hlt := h.rlt
  have hne := h.ne
  have hrb := h.lt
  simp only [List.pairwise_cons, List.mem_cons, List.not_mem_nil, or_false, forall_eq_or_imp, forall_eq, List.Pairwise.nil, and_true, false_implies, implies_true] at hp
  have hnb : V.vo.ownBlock ≠ some rb := fun e => hne (mem_blocks.2 (by simp [e]))
  have hub : u.ownBlock ≠ some rb := by
    rcases hl with hl | hl
    · rw [hl]; exact hnb
    · exact fun e => by have := hl rb e; omega
  have hcell : w'.heap[rb]? = some (.cells #[V.v0, V.v1, V.v2, V.v3, V.vw, V.vo, V.vt, x7, x8, x9, x10, x11] 45) := (hg.block rb hrb hnb.symm).trans h.cells
  have hset := grown_setCell w' ⟨rb, 5, none⟩ u
  have keep : ∀ {α : Type} {e size : Nat} {enc : α → List Value} {v : Value} {xs : List α}, RowAt w e size enc v xs → (∀ n, v.ownBlock = some n → V.vo.ownBlock ≠ some n) → (∀ n, v.ownBlock = some n → n ≠ rb) → RowAt (w'.setCell ⟨rb, 5, none⟩ u) e size enc v xs := fun {α e size enc v xs} hv h1 h2 => by
    refine RowAt.kept (RowAt.kept hv hg ?_) hset ?_
    · cases hq : v.ownBlock with
      | none => exact Or.inl rfl
      | some n => exact Or.inr (h1 n hq).symm
    · cases hq : v.ownBlock with
      | none => exact Or.inl rfl
      | some n => exact Or.inr (by simpa using h2 n hq)
  have nrb : ∀ {v : Value} {n : Nat}, v.ownBlock = some n → n ∈ V.blocks → n ≠ rb := fun {v n} _ hn e => hne (e ▸ hn)
  refine ⟨⟨heap_setCell hcell 5 u, keep h.r0 (fun n hn e => by simp only [hn, e] at hp; simp at hp) (fun n hn => nrb hn (mem_blocks.2 (by simp [hn]))),
    keep h.r1 (fun n hn e => by simp only [hn, e] at hp; simp at hp) (fun n hn => nrb hn (mem_blocks.2 (by simp [hn]))),
    keep h.r2 (fun n hn e => by simp only [hn, e] at hp; simp at hp) (fun n hn => nrb hn (mem_blocks.2 (by simp [hn]))),
    keep h.r3 (fun n hn e => by simp only [hn, e] at hp; simp at hp) (fun n hn => nrb hn (mem_blocks.2 (by simp [hn]))),
    keep h.rw (fun n hn e => by simp only [hn, e] at hp; simp at hp) (fun n hn => nrb hn (mem_blocks.2 (by simp [hn]))),
    hr.kept hset (Or.inr (by simpa using hub)),
    keep h.rt (fun n hn e => by simp only [hn, e] at hp; simp at hp) (fun n hn => nrb hn (mem_blocks.2 (by simp [hn]))), ?_⟩, ?_, ?_⟩
  · refine (filterMap_nodup (l := [V.v0, V.v1, V.v2, V.v3, V.vw, u, V.vt])).2 ?_
    rcases hl with hl | hl
    · simp only [List.pairwise_cons, List.mem_cons, List.not_mem_nil, or_false, forall_eq_or_imp, forall_eq, List.Pairwise.nil, and_true, false_implies, implies_true]
      rw [hl]; exact hp
    · refine pairwise_set (fun a b hab n hb ha => hab n ha hb) u [V.v0, V.v1, V.v2, V.v3, V.vw, V.vo, V.vt] 5 hpp (fun x hx n hn hxn => ?_)
      have h1 := hl n hn
      have h2 := hlt n (List.mem_filterMap.2 ⟨x, hx, hxn⟩)
      omega
  · exact (Only.of_grown' hg (fun b hb => List.mem_cons_of_mem _ (mem_blocks.2 (by simp [hb])))).trans (Only.of_grown' hset (fun b hb => by cases hb; exact List.mem_cons_self))
  · intro b hb
    rw [mem_blocks] at hb ⊢
    rcases hl with hl | hl
    · left; simpa [hl] using hb
    · by_cases hq : u.ownBlock = some b
      · exact Or.inr (hl b hq)
      · left
        rcases hb with h1 | h1 | h1 | h1 | h1 | h1 | h1 <;> first | exact absurd h1 hq | simp [h1]

/-- Its list wt is another, in its own row or a new one. -/
theorem RefAt.set_wt {w' : World} {u : Value} {ys : List Int} (h : RefAt w rb V x7 x8 x9 x10 x11 R) (hg : w.grownBy w' V.vt.ownBlock) (hr : RowAt w' 3 1 cellsI u ys) (hl : u.ownBlock = V.vt.ownBlock ∨ (∀ n, u.ownBlock = some n → w.heap.size ≤ n)) :
    RefAt (w'.setCell ⟨rb, 6, none⟩ u) rb { V with vt := u } x7 x8 x9 x10 x11 { R with wt := ys } ∧ Only (foot rb V) w (w'.setCell ⟨rb, 6, none⟩ u) ∧ (∀ b ∈ ({ V with vt := u } : RVs).blocks, b ∈ V.blocks ∨ w.heap.size ≤ b) := by
  have hpp := h.pair
  have hp := hpp
  have hlt := h.rlt
  have hne := h.ne
  have hrb := h.lt
  simp only [List.pairwise_cons, List.mem_cons, List.not_mem_nil, or_false, forall_eq_or_imp, forall_eq, List.Pairwise.nil, and_true, false_implies, implies_true] at hp
  have hnb : V.vt.ownBlock ≠ some rb := fun e => hne (mem_blocks.2 (by simp [e]))
  have hub : u.ownBlock ≠ some rb := by
    rcases hl with hl | hl
    · rw [hl]; exact hnb
    · exact fun e => by have := hl rb e; omega
  have hcell : w'.heap[rb]? = some (.cells #[V.v0, V.v1, V.v2, V.v3, V.vw, V.vo, V.vt, x7, x8, x9, x10, x11] 45) := (hg.block rb hrb hnb.symm).trans h.cells
  have hset := grown_setCell w' ⟨rb, 6, none⟩ u
  have keep : ∀ {α : Type} {e size : Nat} {enc : α → List Value} {v : Value} {xs : List α}, RowAt w e size enc v xs → (∀ n, v.ownBlock = some n → V.vt.ownBlock ≠ some n) → (∀ n, v.ownBlock = some n → n ≠ rb) → RowAt (w'.setCell ⟨rb, 6, none⟩ u) e size enc v xs := fun {α e size enc v xs} hv h1 h2 => by
    refine RowAt.kept (RowAt.kept hv hg ?_) hset ?_
    · cases hq : v.ownBlock with
      | none => exact Or.inl rfl
      | some n => exact Or.inr (h1 n hq).symm
    · cases hq : v.ownBlock with
      | none => exact Or.inl rfl
      | some n => exact Or.inr (by simpa using h2 n hq)
  have nrb : ∀ {v : Value} {n : Nat}, v.ownBlock = some n → n ∈ V.blocks → n ≠ rb := fun {v n} _ hn e => hne (e ▸ hn)
  refine ⟨⟨heap_setCell hcell 6 u, keep h.r0 (fun n hn e => by simp only [hn, e] at hp; simp at hp) (fun n hn => nrb hn (mem_blocks.2 (by simp [hn]))),
    keep h.r1 (fun n hn e => by simp only [hn, e] at hp; simp at hp) (fun n hn => nrb hn (mem_blocks.2 (by simp [hn]))),
    keep h.r2 (fun n hn e => by simp only [hn, e] at hp; simp at hp) (fun n hn => nrb hn (mem_blocks.2 (by simp [hn]))),
    keep h.r3 (fun n hn e => by simp only [hn, e] at hp; simp at hp) (fun n hn => nrb hn (mem_blocks.2 (by simp [hn]))),
    keep h.rw (fun n hn e => by simp only [hn, e] at hp; simp at hp) (fun n hn => nrb hn (mem_blocks.2 (by simp [hn]))),
    keep h.ro (fun n hn e => by simp only [hn, e] at hp; simp at hp) (fun n hn => nrb hn (mem_blocks.2 (by simp [hn]))),
    hr.kept hset (Or.inr (by simpa using hub)), ?_⟩, ?_, ?_⟩
  · refine (filterMap_nodup (l := [V.v0, V.v1, V.v2, V.v3, V.vw, V.vo, u])).2 ?_
    rcases hl with hl | hl
    · simp only [List.pairwise_cons, List.mem_cons, List.not_mem_nil, or_false, forall_eq_or_imp, forall_eq, List.Pairwise.nil, and_true, false_implies, implies_true]
      rw [hl]; exact hp
    · refine pairwise_set (fun a b hab n hb ha => hab n ha hb) u [V.v0, V.v1, V.v2, V.v3, V.vw, V.vo, V.vt] 6 hpp (fun x hx n hn hxn => ?_)
      have h1 := hl n hn
      have h2 := hlt n (List.mem_filterMap.2 ⟨x, hx, hxn⟩)
      omega
  · exact (Only.of_grown' hg (fun b hb => List.mem_cons_of_mem _ (mem_blocks.2 (by simp [hb])))).trans (Only.of_grown' hset (fun b hb => by cases hb; exact List.mem_cons_self))
  · intro b hb
    rw [mem_blocks] at hb ⊢
    rcases hl with hl | hl
    · left; simpa [hl] using hb
    · by_cases hq : u.ownBlock = some b
      · exact Or.inr (hl b hq)
      · left
        rcases hb with h1 | h1 | h1 | h1 | h1 | h1 | h1 <;> first | exact absurd h1 hq | simp [h1]
end
end Go.Proofs.YtjdindfjfpdikaaGreat
