import Derived.Test.YtjdindfjfpdikaaChkD
import Derived.RangeFuncNested
import Derived.RangeFuncBound
import Derived.RangeFuncCalls
import Derived.RangeFuncLeaves
import Derived.Shelf.Abstract
import Derived.Shelf.RegionOpen
import Derived.WalkKit
import Derived.OwnWalkIn
import Derived.TacticsInMore
import Derived.LoopNIn
import Derived.LoopIn
import Derived.Sort.CutIn
namespace Go.Proofs.Ytjdindfjfpdikaa
open Go.RowKit Go.Shelf

attribute [local go_sem] Oper.semAt_some

/-- What is open. -/
abbrev Op3 (ls : Nat) := { x : Int × Int × Int × Int × Int // (0 ≤ x.1 ∧ x.1 < (ls : Int)) ∧ (0 ≤ x.2.1 ∧ x.2.1 < (ls : Int)) ∧ (-10000 ≤ x.2.2.1 ∧ x.2.2.1 ≤ 10000) }
def encO {ls : Nat} (x : Op3 ls) : Array Value := #[.agg #[.int .i64 x.1.1, .int .i64 x.1.2.1, .int .i64 x.1.2.2.1, .int .i64 x.1.2.2.2.1, .int .i64 x.1.2.2.2.2]]
def forth {ls : Nat} (a : Ar) (i : Nat) (h : ArcOk ls a) : Op3 ls := ⟨(a.f, a.t, a.k, (i : Int), 1), h.1, h.2.1, h.2.2.2⟩
def back {ls : Nat} (a : Ar) (i : Nat) (h : ArcOk ls a) : Op3 ls := ⟨(a.t, a.f, -a.k, (i : Int), -1), h.2.1, h.1, by have := h.2.2.2; constructor <;> simp only <;> omega⟩

def IsOpen (la : Nat) (A : Nat → Ar) (F : Nat → Int) (x : Int × Int × Int × Int × Int) : Prop := ∃ i, i < la ∧ ((F i < (A i).c ∧ x = ((A i).f, (A i).t, (A i).k, (i : Int), 1)) ∨ (0 < F i ∧ x = ((A i).t, (A i).f, -(A i).k, (i : Int), -1)))
def AllOpen (la : Nat) (A : Nat → Ar) (F : Nat → Int) {ls : Nat} (ys : List (Op3 ls)) : Prop := ∀ i, i < la → (F i < (A i).c → ∃ y ∈ ys, y.1 = ((A i).f, (A i).t, (A i).k, (i : Int), 1)) ∧ (0 < F i → ∃ y ∈ ys, y.1 = ((A i).t, (A i).f, -(A i).k, (i : Int), -1))

def AreOpen (la : Nat) (A : Nat → Ar) (F : Nat → Int) {ls : Nat} (ys : List (Op3 ls)) : Prop := ∀ y ∈ ys, IsOpen la A F y.1
theorem AreOpen.more {la : Nat} {A : Nat → Ar} {F : Nat → Int} {ls : Nat} {ys : List (Op3 ls)} (h : AreOpen la A F ys) {y : Op3 ls} (hy : IsOpen la A F y.1) : AreOpen la A F (ys ++ [y]) := fun z hz => (List.mem_append.1 hz).elim (h z) (fun e => by rw [List.mem_singleton.1 e]; exact hy)

theorem AllOpen.more {la : Nat} {A : Nat → Ar} {F : Nat → Int} {ls : Nat} {ys : List (Op3 ls)} (h : AllOpen la A F ys) (y : Op3 ls) : AllOpen la A F (ys ++ [y]) := fun i hi =>
  ⟨fun h1 => by obtain ⟨z, hz, e⟩ := (h i hi).1 h1; exact ⟨z, List.mem_append_left _ hz, e⟩, fun h1 => by obtain ⟨z, hz, e⟩ := (h i hi).2 h1; exact ⟨z, List.mem_append_left _ hz, e⟩⟩

/-- What a round has said. -/
def Said2 (e : Ending) (W : World) (p q : World → Prop) : Prop := ∃ b, e = .returned (.bool b) ∧ Hid ((b = true → p W) ∧ (b = false → q W))
theorem Said2.of {e : Ending} {W : World} {p q : World → Prop} (h : (e = .returned (.bool true) ∧ p W) ∨ (e = .returned (.bool false) ∧ q W)) : Said2 e W p q := by
  rcases h with ⟨h1, h2⟩ | ⟨h1, h2⟩
  · exact ⟨true, h1, fun _ => h2, fun e => by cases e⟩
  · exact ⟨false, h1, (fun e => by cases e), fun _ => h2⟩

/-- Whatever is cells lies as it lay. -/
structure Kc (W W' : World) : Prop where
  size : W.heap.size ≤ W'.heap.size
  same : ∀ (b : Nat) (cs : Array Value) (t : TypeId) (f : Nat × Nat), W.heap[b]? = some (.cells cs t f) → W'.heap[b]? = some (.cells cs t f)
theorem Kc.refl (W : World) : Kc W W := ⟨Nat.le_refl _, fun _ _ _ _ h => h⟩
theorem Kc.trans {A B C : World} (h : Kc A B) (k : Kc B C) : Kc A C := ⟨Nat.le_trans h.size k.size, fun b cs t f e => k.same b cs t f (h.same b cs t f e)⟩
theorem Kc.of_below {A B : World} (h : Below A.heap.size A B) : Kc A B := ⟨h.size, fun b _ _ _ e => (h.block b (Array.getElem?_eq_some_iff.1 e).1).trans e⟩
theorem Kc.put {w : World} (W : World) (l : Nat) (o o' : Obj) (_ : w.heap.size ≤ l) (h : W.heap[l]? = some o) (hc : o.isCells = false) (_ : o.isWalk = false) : Kc W (W.putObj l o') := by
  have hg := grownBy_putObj' W l o'
  refine ⟨hg.size, fun b cs t f e => (hg.block b (Array.getElem?_eq_some_iff.1 e).1 (fun q => ?_)).trans e⟩
  cases q
  rw [e] at h
  cases h
  cases hc
theorem Kc.cell {A B : World} (h : Kc A B) {p : Addr} {v : Value} (e : A.cell? p = some v) : B.cell? p = some v := by
  unfold World.cell? at e ⊢
  cases hb : A.heap[p.block]? with
  | none => rw [hb] at e; simp at e
  | some o =>
    rw [hb] at e
    cases o with
    | cells cs t f => rw [h.same _ _ _ _ hb]; exact e
    | _ => simp at e
theorem Ints.kc {w w' : World} {p : Option Addr} {len : Nat} {F : Nat → Int} (h : Ints w p len F) (hb : Kc w w') : Ints w' p len F := by
  rcases h with h | ⟨sb, off, hp, hs, hc⟩
  · exact Or.inl h
  · exact Or.inr ⟨sb, off, hp, Nat.lt_of_lt_of_le hs hb.size, fun i hi => hb.cell (hc i hi)⟩
theorem Arcs.kc {w w' : World} {p : Option Addr} {len : Nat} {A : Nat → Ar} (h : Arcs w p len A) (hb : Kc w w') : Arcs w' p len A := by
  rcases h with h | ⟨sb, off, hp, hs, hc⟩
  · exact Or.inl h
  · refine Or.inr ⟨sb, off, hp, Nat.lt_of_lt_of_le hs hb.size, fun i hi => ?_⟩
    obtain ⟨h0, h1, h2, h3⟩ := hc i hi
    exact ⟨hb.cell h0, hb.cell h1, hb.cell h2, hb.cell h3⟩
theorem grown_of_below' {w w' : World} {row : Option Nat} (h : Below w.heap.size w w') : w.grownBy w' row := ⟨h.os, h.tape, h.output, h.size, fun k hk _ => h.block k hk⟩

set_option maxHeartbeats 1000000 in
/-- 'opens(n, flow)'. -/
theorem opens_in (n : Nat) (w : World) (N : Int) (p q r : Option Addr) (ls cs la ca lf cf : Nat) :
    CallsIn Fence.wide n Try.prog 67 #[.agg #[.int .i64 N, .slice p ls cs, .slice q la ca], .slice r lf cf] w fun e w' => e = .returned (.func (.func 86) #[] #[.pointer (some ⟨w.heap.size, 0, none⟩), .pointer (some ⟨w.heap.size + 1, 0, none⟩)]) ∧ w' = (w.alloc (.cells #[.int .i64 N, .slice p ls cs, .slice q la ca] 40)).alloc (.cells #[.slice r lf cf] 35) := by
  refine callsIn_of_wp Try.func67 rfl trivial ?_ rfl
  simp only [Try.ntmps67, List.size_toArray, List.length_cons, List.length_nil, Nat.reduceAdd, Nat.reduceSub, Array.replicate_succ, Array.replicate_zero, List.push_toArray, List.append_toArray, List.nil_append, List.cons_append]
  gi_wp2
  go_ret
  exact ⟨rfl, rfl⟩

set_option maxRecDepth 100000 in
set_option maxHeartbeats 8000000 in
/-- What 'opens' hands back: called with some yield. -/
theorem opens1_in (n : Nat) (hn : 1 ≤ n) (l Bn Bf : Nat) (W0 : World) (p q r : Option Addr) (ls cs la ca cf : Nat) (S : Nat → Int) (A : Nat → Ar) (F : Nat → Int)
    (hok : NetOk ls ls S la A) (hA : Arcs W0 q la A) (hF : Ints W0 r la F) (hBn : W0.heap[Bn]? = some (.cells #[.int .i64 ls, .slice p ls cs, .slice q la ca] 40)) (hBf : W0.heap[Bf]? = some (.cells #[.slice r la cf] 35))
    (J Jx : List (Op3 ls) → World → Prop) (W : World) (hW : Kc W0 W) (hJ : AbidesFrom W.heap.size J)
    (hY : ∀ pre x W1, J pre W1 → pre.length < 2 * la → YieldAt Fence.wide (n - 1) Try.prog l (encO x) W1 fun e W' =>
      (e = .returned (.bool true) ∧ J (pre ++ [x]) W' ∧ Kc W1 W') ∨ (e = .returned (.bool false) ∧ Jx (pre ++ [x]) W'))
    (h0 : J [] W) :
    CallsIn Fence.wide n Try.prog 86 #[.func (.yield l) #[] #[], .pointer (some ⟨Bn, 0, none⟩), .pointer (some ⟨Bf, 0, none⟩)] W fun e W' => (∃ v, e = .returned v) ∧
      ((∃ ys, AllOpen la A F ys ∧ J ys W') ∨ (∃ pre, AreOpen la A F pre ∧ Jx pre W')) := by
  have hbn2 := at_cells (hW.same Bn _ _ _ hBn) 2
  simp only [List.getElem?_toArray, List.getElem?_cons_succ, List.getElem?_cons_zero] at hbn2
  have hBnW : Bn < W.heap.size := (Array.getElem?_eq_some_iff.1 (hW.same Bn _ _ _ hBn)).1
  have h600 : la ≤ 600 := hok.2.2.1
  have Hok := veil hok
  have HW := veil hW
  have hm : Try.prog.follows .mixedOrders = true := by kernel_rfl
  clear hok hW
  refine callsIn_of_wp Try.func86 rfl trivial ?_ rfl
  simp only [Try.ntmps86, List.size_toArray, List.length_cons, List.length_nil, Nat.reduceAdd, Nat.reduceSub, Array.replicate_succ, Array.replicate_zero, List.push_toArray, List.append_toArray, List.nil_append, List.cons_append]
  gi_wp2
  gi_loopw [9] (fun iv wr => ∃ (i : Nat) (pre : List (Op3 ls)), i ≤ la ∧ iv = .int .i64 i ∧ Kc W0 wr ∧ J pre wr ∧ Hid (AllOpen i A F pre ∧ AreOpen la A F pre ∧ pre.length ≤ 2 * i)) (fun iv _ => la - (intOf iv).toNat)
  case atStart => exact ⟨0, [], Nat.zero_le _, rfl, HW.out, h0, ⟨fun i hi => by omega, (fun y hy => by cases hy), Nat.zero_le _⟩⟩
  case' round => skip
  obtain ⟨i, pre, hi, rfl, hb, hJs, hall⟩ := hrel
  by_cases hlt : i < la
  · obtain ⟨sb, off, rfl, hsb, g0, g1, g2, g3⟩ := (hA.kc hb).at hlt
    obtain ⟨sf, of', rfl, hsf, gf⟩ := (hF.kc hb).at hlt
    have hiI : (i : Int) < (la : Int) := by omega
    have hac := veil (Hok.out.2.2.2.2 i hlt)
    obtain ⟨u0, hu0⟩ : ∃ u0, wr.alloc (.cells #[.int .i64 (A i).f, .int .i64 (A i).t, .int .i64 (A i).c, .int .i64 (A i).k] 37) = u0 := ⟨_, rfl⟩
    have hbu : Below wr.heap.size wr u0 := by rw [← hu0]; exact (Below.refl _ _).alloc (Nat.le_refl _) _
    have hub : u0.heap[wr.heap.size]? = some (.cells #[.int .i64 (A i).f, .int .i64 (A i).t, .int .i64 (A i).c, .int .i64 (A i).k] 37) := by rw [← hu0]; exact heap_alloc_new wr _
    have hku : Kc W0 u0 := hb.trans (Kc.of_below hbu)
    have hfu := hku.same Bf _ _ _ hBf
    have k0 := at_cells hub 0
    have k1 := at_cells hub 1
    have k2 := at_cells hub 2
    have k3 := at_cells hub 3
    have hbfu := at_cells hfu 0
    simp only [List.getElem?_toArray, List.getElem?_cons_succ, List.getElem?_cons_zero] at k0 k1 k2 k3 hbfu
    have gfu := (hbu.cell (p := ⟨sf, of' + i, none⟩) hsf).trans gf
    have y0 : wr.heap.size < u0.heap.size := (Array.getElem?_eq_some_iff.1 hub).1
    have y1 : Bf < u0.heap.size := (Array.getElem?_eq_some_iff.1 hfu).1
    have y2 : sf < u0.heap.size := by omega
    have Hu := veil (And.intro hu0 (And.intro hbu (And.intro hub (And.intro hfu hku))))
    clear hu0 hbu hub hfu hku
    have hJu : J pre u0.drew := hJ _ _ _ none hJs (grown_of_below' Hu.out.2.1.drew) (fun r e => by cases e)
    gi_wp2
    rw [Hu.out.1]
    gi_cut [33] from 14 (fun v wx => ∃ (b : Bool) (pre' : List (Op3 ls)), v = .bool (!b) ∧ Hid ((b = true → J pre' wx ∧ Kc u0 wx ∧ AllOpen i A F pre' ∧ (F i < (A i).c → ∃ y ∈ pre', y.1 = ((A i).f, (A i).t, (A i).k, (i : Int), 1))) ∧ (b = false → Jx pre' wx) ∧ AreOpen la A F pre' ∧ pre'.length ≤ 2 * i + 1))
    case first =>
      by_cases hc : F i < (A i).c
      · obtain ⟨fn, tmps, assign, body, hy, hR0⟩ := hY pre (forth (A i) i hac.out) u0.drew hJu (by have := hall.out.2.2; omega)
        simp only [encO, forth] at hy
        have hR := hR0.mono (fun e W' h => Said2.of (p := fun W' => J (pre ++ [_]) W' ∧ Kc _ W') (q := Jx _) h)
        clear hR0
        have mk : ∀ (b : Bool) (W3 : World), Hid ((b = true → (J (pre ++ [forth (A i) i hac.out]) W3 ∧ Kc u0.drew W3)) ∧ (b = false → Jx (pre ++ [forth (A i) i hac.out]) W3)) → ∃ (b' : Bool) (pre' : List (Op3 ls)), Value.bool (!b) = .bool (!b') ∧ Hid ((b' = true → J pre' W3 ∧ Kc u0 W3 ∧ AllOpen i A F pre' ∧ (F i < (A i).c → ∃ y ∈ pre', y.1 = ((A i).f, (A i).t, (A i).k, (i : Int), 1))) ∧ (b' = false → Jx pre' W3) ∧ AreOpen la A F pre' ∧ pre'.length ≤ 2 * i + 1) := fun b W3 hp =>
          ⟨b, _, rfl, fun e => ⟨(hp.out.1 e).1, (Kc.of_below (Below.refl _ _).drew).trans (hp.out.1 e).2, hall.out.1.more _, fun _ => ⟨_, List.mem_append_right _ (List.mem_singleton.2 rfl), rfl⟩⟩, fun e => hp.out.2 e, hall.out.2.1.more ⟨i, hlt, Or.inl ⟨hc, rfl⟩⟩, by rw [List.length_append]; have := hall.out.2.2; simp only [List.length_singleton]; omega⟩
        gi_region_with_o ((with_reducible refine hR.mono ?_); rintro e W3 ⟨b, rfl, hp⟩)
        all_goals (gi_wp2_with fail; gi_meet; exact mk b _ hp)
      · have mk : ∃ (b' : Bool) (pre' : List (Op3 ls)), Value.bool false = .bool (!b') ∧ Hid ((b' = true → J pre' u0.drew ∧ Kc u0 u0.drew ∧ AllOpen i A F pre' ∧ (F i < (A i).c → ∃ y ∈ pre', y.1 = ((A i).f, (A i).t, (A i).k, (i : Int), 1))) ∧ (b' = false → Jx pre' u0.drew) ∧ AreOpen la A F pre' ∧ pre'.length ≤ 2 * i + 1) :=
          ⟨true, pre, rfl, fun _ => ⟨hJu, Kc.of_below (Below.refl _ _).drew, hall.out.1, fun h => absurd h hc⟩, (fun e => by cases e), hall.out.2.1, by have := hall.out.2.2; omega⟩
        refine wpIn_region_any hm ?_
        change wpAnyIn _ _ _ _ _ _ _ _ _ (World.drew _)
        refine wpAnyIn_take (i := 1) (v := ?_) rfl rfl (by kernel_rfl) (by kernel_rfl) (by kernel_rfl) (fun _ _ _ h => h) ⟨Or.inl ⟨by rfl, ?_⟩, fun _ => rfl⟩ ?_
        rotate_left 1
        · (intro w; go_simp; try with_reducible rfl)
        change wpAnyIn _ _ _ _ _ _ _ _ (Act.put _ (some 15) _) _
        refine wpAnyIn_take (i := 4) (v := ?_) rfl rfl (by kernel_rfl) (by kernel_rfl) (by kernel_rfl) (fun _ _ _ h => h) ⟨Or.inl ⟨by rfl, ?_⟩, fun _ => rfl⟩ ?_
        rotate_left 1
        · (intro w; go_simp; try with_reducible rfl)
        change wpAnyIn _ _ _ _ _ _ _ _ (Act.put _ (some 18) _) _
        refine wpAnyIn_ready (rs := [0, 5]) (by kernel_rfl) (by simp) ?_
        refine (AllReadyIn.cons rfl (fun K hK => ?_) (AllReadyIn.cons rfl (fun K hK => ?_) AllReadyIn.nil))
        · go_simp
          refine hK _ _ ?_
          clear hK K
          refine wpAnyIn_take (i := 2) (v := ?_) rfl rfl (by kernel_rfl) (by kernel_rfl) (by kernel_rfl) (fun _ _ _ h => h) ⟨Or.inl ⟨by rfl, ?_⟩, fun _ => rfl⟩ ?_
          rotate_left 1
          · (intro w; go_simp; try with_reducible rfl)
          change wpAnyIn _ _ _ _ _ _ _ _ (Act.put _ (some 16) _) _
          refine wpAnyIn_ready (rs := [3, 5]) (by kernel_rfl) (by simp) ?_
          refine (AllReadyIn.cons rfl (fun K hK => ?_) (AllReadyIn.cons rfl (fun K hK => ?_) AllReadyIn.nil))
          · go_simp
            refine hK _ _ ?_
            clear hK K
            refine wpAnyIn_ready (rs := [5]) (by kernel_rfl) (by simp) ?_
            refine (AllReadyIn.cons rfl (fun K hK => ?_) AllReadyIn.nil)
            go_simp
            refine hK _ _ ?_
            clear hK K
            refine wpAnyIn_take (i := 6) (v := ?_) rfl rfl (by kernel_rfl) (by kernel_rfl) (by kernel_rfl) (fun _ _ _ h => h) ⟨Or.inl ⟨by rfl, ?_⟩, fun _ => rfl⟩ ?_
            rotate_left 1
            · (intro w; go_simp; try with_reducible rfl)
            change wpAnyIn _ _ _ _ _ _ _ _ (Act.put _ (some 20) _) _
            refine wpAnyIn_take (i := 7) (v := ?_) rfl rfl (by kernel_rfl) (by kernel_rfl) (by kernel_rfl) (fun _ _ _ h => h) ⟨Or.inl ⟨by rfl, ?_⟩, fun _ => rfl⟩ ?_
            rotate_left 1
            · (intro w; go_simp; try with_reducible rfl)
            change wpAnyIn _ _ _ _ _ _ _ _ (Act.put _ (some 21) _) _
            refine wpAnyIn_take (i := 8) (v := undef) rfl rfl (by kernel_rfl) (by kernel_rfl) (by kernel_rfl) (fun _ _ _ h => h) ⟨Or.inr ⟨by kernel_rfl, rfl⟩, fun _ => by kernel_rfl⟩ ?_
            change wpAnyIn _ _ _ _ _ _ _ _ (Act.put _ (some 22) undef) _
            refine wpAnyIn_take (i := 9) (v := undef) rfl rfl (by kernel_rfl) (by kernel_rfl) (by kernel_rfl) (fun _ _ _ h => h) ⟨Or.inr ⟨by kernel_rfl, rfl⟩, fun _ => by kernel_rfl⟩ ?_
            change wpAnyIn _ _ _ _ _ _ _ _ (Act.put _ (some 23) undef) _
            refine wpAnyIn_take (i := 11) (v := undef) rfl rfl (by kernel_rfl) (by kernel_rfl) (by kernel_rfl) (fun _ _ _ h => h) ⟨Or.inr ⟨by kernel_rfl, rfl⟩, fun _ => by kernel_rfl⟩ ?_
            change wpAnyIn _ _ _ _ _ _ _ _ (Act.put _ (some 25) undef) _
            refine wpAnyIn_take (i := 13) (v := undef) rfl rfl (by kernel_rfl) (by kernel_rfl) (by kernel_rfl) (fun _ _ _ h => h) ⟨Or.inr ⟨by kernel_rfl, rfl⟩, fun _ => by kernel_rfl⟩ ?_
            change wpAnyIn _ _ _ _ _ _ _ _ (Act.put _ (some 27) undef) _
            refine wpAnyIn_take (i := 10) (v := undef) rfl rfl (by kernel_rfl) (by kernel_rfl) (by kernel_rfl) (fun _ _ _ h => h) ⟨Or.inr ⟨by kernel_rfl, rfl⟩, fun _ => by kernel_rfl⟩ ?_
            change wpAnyIn _ _ _ _ _ _ _ _ (Act.put _ (some 24) undef) _
            refine wpAnyIn_take (i := 12) (v := undef) rfl rfl (by kernel_rfl) (by kernel_rfl) (by kernel_rfl) (fun _ _ _ h => h) ⟨Or.inr ⟨by kernel_rfl, rfl⟩, fun _ => by kernel_rfl⟩ ?_
            change wpAnyIn _ _ _ _ _ _ _ _ (Act.put _ (some 26) undef) _
            refine wpAnyIn_take (i := 14) (v := undef) rfl rfl (by kernel_rfl) (by kernel_rfl) (by kernel_rfl) (fun _ _ _ h => h) ⟨Or.inr ⟨by kernel_rfl, rfl⟩, fun _ => by kernel_rfl⟩ ?_
            change wpAnyIn _ _ _ _ _ _ _ _ (Act.put _ (some 28) undef) _
            refine wpAnyIn_take (i := 15) (v := undef) rfl rfl (by kernel_rfl) (by kernel_rfl) (by kernel_rfl) (fun _ _ _ h => h) ⟨Or.inr ⟨by kernel_rfl, rfl⟩, fun _ => by kernel_rfl⟩ ?_
            change wpAnyIn _ _ _ _ _ _ _ _ (Act.put _ (some 29) undef) _
            refine wpAnyIn_take (i := 16) (v := undef) rfl rfl (by kernel_rfl) (by kernel_rfl) (by kernel_rfl) (fun _ _ _ h => h) ⟨Or.inr ⟨by kernel_rfl, rfl⟩, fun _ => by kernel_rfl⟩ ?_
            change wpAnyIn _ _ _ _ _ _ _ _ (Act.put _ (some 30) undef) _
            refine wpAnyIn_take (i := 17) (v := undef) rfl rfl (by kernel_rfl) (by kernel_rfl) (by kernel_rfl) (fun _ _ _ h => h) ⟨Or.inr ⟨by kernel_rfl, rfl⟩, fun _ => by kernel_rfl⟩ ?_
            change wpAnyIn _ _ _ _ _ _ _ _ (Act.put _ (some 31) undef) _
            refine wpAnyIn_take (i := 18) (v := undef) rfl rfl (by kernel_rfl) (by kernel_rfl) (by kernel_rfl) (fun _ _ _ h => h) ⟨Or.inr ⟨by kernel_rfl, rfl⟩, fun _ => by kernel_rfl⟩ ?_
            change wpAnyIn _ _ _ _ _ _ _ _ (Act.put _ (some 32) undef) _
            refine wpAnyIn_take (i := 19) (v := ?_) rfl rfl (by kernel_rfl) (by kernel_rfl) (by kernel_rfl) (fun _ _ _ h => h) ⟨Or.inl ⟨by rfl, ?_⟩, fun _ => rfl⟩ ?_
            rotate_left 1
            · (intro w; go_simp; try with_reducible rfl)
            change wpAnyIn _ _ _ _ _ _ _ _ (Act.put _ (some 33) _) _
            refine wpAnyIn_done (by kernel_rfl) ?_ _
            simp only [Act.put, List.setIfInBounds_toArray, List.set_cons_succ, List.set_cons_zero]
            gi_wp2_with fail
            gi_meet
            exact mk
          · go_simp
            refine hK _ _ ?_
            clear hK K
            refine wpAnyIn_ready (rs := [3]) (by kernel_rfl) (by simp) ?_
            refine (AllReadyIn.cons rfl (fun K hK => ?_) AllReadyIn.nil)
            go_simp
            refine hK _ _ ?_
            clear hK K
            refine wpAnyIn_take (i := 6) (v := ?_) rfl rfl (by kernel_rfl) (by kernel_rfl) (by kernel_rfl) (fun _ _ _ h => h) ⟨Or.inl ⟨by rfl, ?_⟩, fun _ => rfl⟩ ?_
            rotate_left 1
            · (intro w; go_simp; try with_reducible rfl)
            change wpAnyIn _ _ _ _ _ _ _ _ (Act.put _ (some 20) _) _
            refine wpAnyIn_take (i := 7) (v := ?_) rfl rfl (by kernel_rfl) (by kernel_rfl) (by kernel_rfl) (fun _ _ _ h => h) ⟨Or.inl ⟨by rfl, ?_⟩, fun _ => rfl⟩ ?_
            rotate_left 1
            · (intro w; go_simp; try with_reducible rfl)
            change wpAnyIn _ _ _ _ _ _ _ _ (Act.put _ (some 21) _) _
            refine wpAnyIn_take (i := 8) (v := undef) rfl rfl (by kernel_rfl) (by kernel_rfl) (by kernel_rfl) (fun _ _ _ h => h) ⟨Or.inr ⟨by kernel_rfl, rfl⟩, fun _ => by kernel_rfl⟩ ?_
            change wpAnyIn _ _ _ _ _ _ _ _ (Act.put _ (some 22) undef) _
            refine wpAnyIn_take (i := 9) (v := undef) rfl rfl (by kernel_rfl) (by kernel_rfl) (by kernel_rfl) (fun _ _ _ h => h) ⟨Or.inr ⟨by kernel_rfl, rfl⟩, fun _ => by kernel_rfl⟩ ?_
            change wpAnyIn _ _ _ _ _ _ _ _ (Act.put _ (some 23) undef) _
            refine wpAnyIn_take (i := 11) (v := undef) rfl rfl (by kernel_rfl) (by kernel_rfl) (by kernel_rfl) (fun _ _ _ h => h) ⟨Or.inr ⟨by kernel_rfl, rfl⟩, fun _ => by kernel_rfl⟩ ?_
            change wpAnyIn _ _ _ _ _ _ _ _ (Act.put _ (some 25) undef) _
            refine wpAnyIn_take (i := 13) (v := undef) rfl rfl (by kernel_rfl) (by kernel_rfl) (by kernel_rfl) (fun _ _ _ h => h) ⟨Or.inr ⟨by kernel_rfl, rfl⟩, fun _ => by kernel_rfl⟩ ?_
            change wpAnyIn _ _ _ _ _ _ _ _ (Act.put _ (some 27) undef) _
            refine wpAnyIn_take (i := 10) (v := undef) rfl rfl (by kernel_rfl) (by kernel_rfl) (by kernel_rfl) (fun _ _ _ h => h) ⟨Or.inr ⟨by kernel_rfl, rfl⟩, fun _ => by kernel_rfl⟩ ?_
            change wpAnyIn _ _ _ _ _ _ _ _ (Act.put _ (some 24) undef) _
            refine wpAnyIn_take (i := 12) (v := undef) rfl rfl (by kernel_rfl) (by kernel_rfl) (by kernel_rfl) (fun _ _ _ h => h) ⟨Or.inr ⟨by kernel_rfl, rfl⟩, fun _ => by kernel_rfl⟩ ?_
            change wpAnyIn _ _ _ _ _ _ _ _ (Act.put _ (some 26) undef) _
            refine wpAnyIn_take (i := 14) (v := undef) rfl rfl (by kernel_rfl) (by kernel_rfl) (by kernel_rfl) (fun _ _ _ h => h) ⟨Or.inr ⟨by kernel_rfl, rfl⟩, fun _ => by kernel_rfl⟩ ?_
            change wpAnyIn _ _ _ _ _ _ _ _ (Act.put _ (some 28) undef) _
            refine wpAnyIn_take (i := 15) (v := undef) rfl rfl (by kernel_rfl) (by kernel_rfl) (by kernel_rfl) (fun _ _ _ h => h) ⟨Or.inr ⟨by kernel_rfl, rfl⟩, fun _ => by kernel_rfl⟩ ?_
            change wpAnyIn _ _ _ _ _ _ _ _ (Act.put _ (some 29) undef) _
            refine wpAnyIn_take (i := 16) (v := undef) rfl rfl (by kernel_rfl) (by kernel_rfl) (by kernel_rfl) (fun _ _ _ h => h) ⟨Or.inr ⟨by kernel_rfl, rfl⟩, fun _ => by kernel_rfl⟩ ?_
            change wpAnyIn _ _ _ _ _ _ _ _ (Act.put _ (some 30) undef) _
            refine wpAnyIn_take (i := 17) (v := undef) rfl rfl (by kernel_rfl) (by kernel_rfl) (by kernel_rfl) (fun _ _ _ h => h) ⟨Or.inr ⟨by kernel_rfl, rfl⟩, fun _ => by kernel_rfl⟩ ?_
            change wpAnyIn _ _ _ _ _ _ _ _ (Act.put _ (some 31) undef) _
            refine wpAnyIn_take (i := 18) (v := undef) rfl rfl (by kernel_rfl) (by kernel_rfl) (by kernel_rfl) (fun _ _ _ h => h) ⟨Or.inr ⟨by kernel_rfl, rfl⟩, fun _ => by kernel_rfl⟩ ?_
            change wpAnyIn _ _ _ _ _ _ _ _ (Act.put _ (some 32) undef) _
            refine wpAnyIn_take (i := 19) (v := ?_) rfl rfl (by kernel_rfl) (by kernel_rfl) (by kernel_rfl) (fun _ _ _ h => h) ⟨Or.inl ⟨by rfl, ?_⟩, fun _ => rfl⟩ ?_
            rotate_left 1
            · (intro w; go_simp; try with_reducible rfl)
            change wpAnyIn _ _ _ _ _ _ _ _ (Act.put _ (some 33) _) _
            refine wpAnyIn_done (by kernel_rfl) ?_ _
            simp only [Act.put, List.setIfInBounds_toArray, List.set_cons_succ, List.set_cons_zero]
            gi_wp2_with fail
            gi_meet
            exact mk
        · go_simp
          refine hK _ _ ?_
          clear hK K
          refine wpAnyIn_ready (rs := [0]) (by kernel_rfl) (by simp) ?_
          refine (AllReadyIn.cons rfl (fun K hK => ?_) AllReadyIn.nil)
          go_simp
          refine hK _ _ ?_
          clear hK K
          refine wpAnyIn_take (i := 2) (v := ?_) rfl rfl (by kernel_rfl) (by kernel_rfl) (by kernel_rfl) (fun _ _ _ h => h) ⟨Or.inl ⟨by rfl, ?_⟩, fun _ => rfl⟩ ?_
          rotate_left 1
          · (intro w; go_simp; try with_reducible rfl)
          change wpAnyIn _ _ _ _ _ _ _ _ (Act.put _ (some 16) _) _
          refine wpAnyIn_ready (rs := [3]) (by kernel_rfl) (by simp) ?_
          refine (AllReadyIn.cons rfl (fun K hK => ?_) AllReadyIn.nil)
          go_simp
          refine hK _ _ ?_
          clear hK K
          refine wpAnyIn_take (i := 6) (v := ?_) rfl rfl (by kernel_rfl) (by kernel_rfl) (by kernel_rfl) (fun _ _ _ h => h) ⟨Or.inl ⟨by rfl, ?_⟩, fun _ => rfl⟩ ?_
          rotate_left 1
          · (intro w; go_simp; try with_reducible rfl)
          change wpAnyIn _ _ _ _ _ _ _ _ (Act.put _ (some 20) _) _
          refine wpAnyIn_take (i := 7) (v := ?_) rfl rfl (by kernel_rfl) (by kernel_rfl) (by kernel_rfl) (fun _ _ _ h => h) ⟨Or.inl ⟨by rfl, ?_⟩, fun _ => rfl⟩ ?_
          rotate_left 1
          · (intro w; go_simp; try with_reducible rfl)
          change wpAnyIn _ _ _ _ _ _ _ _ (Act.put _ (some 21) _) _
          refine wpAnyIn_take (i := 8) (v := undef) rfl rfl (by kernel_rfl) (by kernel_rfl) (by kernel_rfl) (fun _ _ _ h => h) ⟨Or.inr ⟨by kernel_rfl, rfl⟩, fun _ => by kernel_rfl⟩ ?_
          change wpAnyIn _ _ _ _ _ _ _ _ (Act.put _ (some 22) undef) _
          refine wpAnyIn_take (i := 9) (v := undef) rfl rfl (by kernel_rfl) (by kernel_rfl) (by kernel_rfl) (fun _ _ _ h => h) ⟨Or.inr ⟨by kernel_rfl, rfl⟩, fun _ => by kernel_rfl⟩ ?_
          change wpAnyIn _ _ _ _ _ _ _ _ (Act.put _ (some 23) undef) _
          refine wpAnyIn_take (i := 11) (v := undef) rfl rfl (by kernel_rfl) (by kernel_rfl) (by kernel_rfl) (fun _ _ _ h => h) ⟨Or.inr ⟨by kernel_rfl, rfl⟩, fun _ => by kernel_rfl⟩ ?_
          change wpAnyIn _ _ _ _ _ _ _ _ (Act.put _ (some 25) undef) _
          refine wpAnyIn_take (i := 13) (v := undef) rfl rfl (by kernel_rfl) (by kernel_rfl) (by kernel_rfl) (fun _ _ _ h => h) ⟨Or.inr ⟨by kernel_rfl, rfl⟩, fun _ => by kernel_rfl⟩ ?_
          change wpAnyIn _ _ _ _ _ _ _ _ (Act.put _ (some 27) undef) _
          refine wpAnyIn_take (i := 10) (v := undef) rfl rfl (by kernel_rfl) (by kernel_rfl) (by kernel_rfl) (fun _ _ _ h => h) ⟨Or.inr ⟨by kernel_rfl, rfl⟩, fun _ => by kernel_rfl⟩ ?_
          change wpAnyIn _ _ _ _ _ _ _ _ (Act.put _ (some 24) undef) _
          refine wpAnyIn_take (i := 12) (v := undef) rfl rfl (by kernel_rfl) (by kernel_rfl) (by kernel_rfl) (fun _ _ _ h => h) ⟨Or.inr ⟨by kernel_rfl, rfl⟩, fun _ => by kernel_rfl⟩ ?_
          change wpAnyIn _ _ _ _ _ _ _ _ (Act.put _ (some 26) undef) _
          refine wpAnyIn_take (i := 14) (v := undef) rfl rfl (by kernel_rfl) (by kernel_rfl) (by kernel_rfl) (fun _ _ _ h => h) ⟨Or.inr ⟨by kernel_rfl, rfl⟩, fun _ => by kernel_rfl⟩ ?_
          change wpAnyIn _ _ _ _ _ _ _ _ (Act.put _ (some 28) undef) _
          refine wpAnyIn_take (i := 15) (v := undef) rfl rfl (by kernel_rfl) (by kernel_rfl) (by kernel_rfl) (fun _ _ _ h => h) ⟨Or.inr ⟨by kernel_rfl, rfl⟩, fun _ => by kernel_rfl⟩ ?_
          change wpAnyIn _ _ _ _ _ _ _ _ (Act.put _ (some 29) undef) _
          refine wpAnyIn_take (i := 16) (v := undef) rfl rfl (by kernel_rfl) (by kernel_rfl) (by kernel_rfl) (fun _ _ _ h => h) ⟨Or.inr ⟨by kernel_rfl, rfl⟩, fun _ => by kernel_rfl⟩ ?_
          change wpAnyIn _ _ _ _ _ _ _ _ (Act.put _ (some 30) undef) _
          refine wpAnyIn_take (i := 17) (v := undef) rfl rfl (by kernel_rfl) (by kernel_rfl) (by kernel_rfl) (fun _ _ _ h => h) ⟨Or.inr ⟨by kernel_rfl, rfl⟩, fun _ => by kernel_rfl⟩ ?_
          change wpAnyIn _ _ _ _ _ _ _ _ (Act.put _ (some 31) undef) _
          refine wpAnyIn_take (i := 18) (v := undef) rfl rfl (by kernel_rfl) (by kernel_rfl) (by kernel_rfl) (fun _ _ _ h => h) ⟨Or.inr ⟨by kernel_rfl, rfl⟩, fun _ => by kernel_rfl⟩ ?_
          change wpAnyIn _ _ _ _ _ _ _ _ (Act.put _ (some 32) undef) _
          refine wpAnyIn_take (i := 19) (v := ?_) rfl rfl (by kernel_rfl) (by kernel_rfl) (by kernel_rfl) (fun _ _ _ h => h) ⟨Or.inl ⟨by rfl, ?_⟩, fun _ => rfl⟩ ?_
          rotate_left 1
          · (intro w; go_simp; try with_reducible rfl)
          change wpAnyIn _ _ _ _ _ _ _ _ (Act.put _ (some 33) _) _
          refine wpAnyIn_done (by kernel_rfl) ?_ _
          simp only [Act.put, List.setIfInBounds_toArray, List.set_cons_succ, List.set_cons_zero]
          gi_wp2_with fail
          gi_meet
          exact mk
    case rest =>
      obtain ⟨b, pre', rfl, hp⟩ := hcut
      clear hJu
      cases b with
      | false =>
        have H5 := veil (And.intro hp.out.2.2.1 (hp.out.2.1 rfl))
        clear k0 k1 k2 k3 hbfu gfu y0 y1 y2 hp
        gi_wp2
        refine bodyPost_ret (results_none rfl _ _ _) rfl ?_
        exact ⟨⟨_, rfl⟩, .inr ⟨pre', H5.out.1, H5.out.2⟩⟩
      | true =>
        have hJp := (hp.out.1 rfl).1
        have hkc := (hp.out.1 rfl).2.1
        have H5 := veil (And.intro (hp.out.1 rfl).2.2 (And.intro hp.out.2.2.1 hp.out.2.2.2))
        clear hp
        replace k0 := hkc.cell k0
        replace k1 := hkc.cell k1
        replace k3 := hkc.cell k3
        replace hbfu := hkc.cell hbfu
        replace gfu := hkc.cell gfu
        have hkz := hkc.size
        replace y0 : wr.heap.size < wc.heap.size := by omega
        replace y1 : Bf < wc.heap.size := by omega
        replace y2 : sf < wc.heap.size := by omega
        clear k2 hkz
        have hk0 := hac.out.2.2.2.1
        have hk1 := hac.out.2.2.2.2
        by_cases hpos : 0 < F i
        · obtain ⟨fn, tmps, assign, body, hy, hR⟩ := hY pre' (back (A i) i hac.out) wc hJp (by have := H5.out.2.2; omega)
          simp only [encO, back] at hy
          gi_wp2
          refine hR.mono ?_
          rintro e W3 (⟨rfl, hJ3, hk3⟩ | ⟨rfl, hJx3⟩)
          · gi_wp2
            go_roundw
            case rel =>
              refine ⟨i + 1, _, by omega, by go_num, (Hu.out.2.2.2.2.trans hkc).trans hk3, hJ3, fun m hm => ?_, H5.out.2.1.more ⟨i, hlt, Or.inr ⟨hpos, rfl⟩⟩, by rw [List.length_append]; have := H5.out.2.2; simp only [List.length_singleton]; omega⟩
              by_cases h1 : m < i
              · exact H5.out.1.1.more _ m h1
              · obtain rfl : m = i := by omega
                exact ⟨fun h2 => by obtain ⟨z, hz, e⟩ := H5.out.1.2 h2; exact ⟨z, List.mem_append_left _ hz, e⟩, fun _ => ⟨_, List.mem_append_right _ (List.mem_singleton.2 rfl), rfl⟩⟩
            case measure => simp [intOf]; omega
          · gi_wp2
            refine bodyPost_ret (results_none rfl _ _ _) rfl ?_
            exact ⟨⟨_, rfl⟩, .inr ⟨_, H5.out.2.1.more ⟨i, hlt, Or.inr ⟨hpos, rfl⟩⟩, hJx3⟩⟩
        · gi_wp2
          refine ⟨fun _ h => (by cases h), ?_⟩
          gi_wp2
          go_roundw
          case rel =>
            refine ⟨i + 1, _, by omega, by go_num, Hu.out.2.2.2.2.trans hkc, hJp, fun m hm => ?_, H5.out.2.1, by have := H5.out.2.2; omega⟩
            by_cases h1 : m < i
            · exact H5.out.1.1 m h1
            · obtain rfl : m = i := by omega
              exact ⟨H5.out.1.2, fun h2 => absurd h2 (by omega)⟩
          case measure => simp [intOf]; omega
  · obtain rfl : i = la := by omega
    gi_wp2
    go_end0
    exact ⟨⟨_, rfl⟩, .inl ⟨_, hall.out.1, hJs⟩⟩
end Go.Proofs.Ytjdindfjfpdikaa
