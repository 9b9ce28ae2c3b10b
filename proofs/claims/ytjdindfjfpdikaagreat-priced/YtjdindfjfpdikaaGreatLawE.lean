import Derived.Test.YtjdindfjfpdikaaGreatLawB
import Derived.BigRegion
namespace Go.Proofs.YtjdindfjfpdikaaGreat
open Go.RowKit

theorem spot (m : Int) (n : Nat) (hn : 0 < n) : ∃ i : Nat, i < n ∧ (m.tmod n + n).tmod n = i ∧ -(n : Int) < m.tmod n ∧ m.tmod n < n := by
  have h1 : -(n : Int) < m.tmod n ∧ m.tmod n < n := by
    rcases Int.le_total 0 m with hm | hm
    · rw [Int.tmod_eq_emod_of_nonneg hm]
      have := Int.emod_nonneg m (b := (n : Int)) (by omega)
      have := Int.emod_lt_of_pos m (b := (n : Int)) (by omega)
      omega
    · have e : m = -(-m) := by omega
      rw [e, Int.neg_tmod, Int.tmod_eq_emod_of_nonneg (by omega)]
      have := Int.emod_nonneg (-m) (b := (n : Int)) (by omega)
      have := Int.emod_lt_of_pos (-m) (b := (n : Int)) (by omega)
      omega
  have h2 := Int.tmod_eq_emod_of_nonneg (a := m.tmod n + n) (b := n) (by omega)
  have h3 := Int.emod_nonneg (m.tmod n + n) (b := (n : Int)) (by omega)
  have h4 := Int.emod_lt_of_pos (m.tmod n + n) (b := (n : Int)) (by omega)
  exact ⟨((m.tmod n + n) % n).toNat, by omega, by rw [h2]; omega, h1.1, h1.2⟩

theorem cells11 {w : World} {b : Nat} {z0 z1 z2 z3 z4 z5 z6 z7 z8 z9 z10 : Value} {t : TypeId} (h : w.heap[b]? = some (.cells #[z0, z1, z2, z3, z4, z5, z6, z7, z8, z9, z10] t)) :
    w.cell? ⟨b, 0, none⟩ = some z0 ∧ w.cell? ⟨b, 1, none⟩ = some z1 ∧ w.cell? ⟨b, 2, none⟩ = some z2 ∧ w.cell? ⟨b, 3, none⟩ = some z3 ∧ w.cell? ⟨b, 4, none⟩ = some z4 ∧ w.cell? ⟨b, 5, none⟩ = some z5 ∧ w.cell? ⟨b, 6, none⟩ = some z6 ∧ w.cell? ⟨b, 7, none⟩ = some z7 ∧ w.cell? ⟨b, 8, none⟩ = some z8 ∧ w.cell? ⟨b, 9, none⟩ = some z9 ∧ w.cell? ⟨b, 10, none⟩ = some z10 := by
  simp [World.cell?, h]
theorem cells3 {w : World} {b : Nat} {z0 z1 z2 : Value} {t : TypeId} (h : w.heap[b]? = some (.cells #[z0, z1, z2] t)) :
    w.cell? ⟨b, 0, none⟩ = some z0 ∧ w.cell? ⟨b, 1, none⟩ = some z1 ∧ w.cell? ⟨b, 2, none⟩ = some z2 := by
  simp [World.cell?, h]

section
variable {w : World} {base wb : Nat} {v vh : Value} {xs : List Pr}

set_option maxRecDepth 100000 in
set_option maxHeartbeats 4000000 in
theorem step_else (h : WAt w base wb v vh xs) (hn : 0 < xs.length) (hlen : xs.length < 1000000000000) (k m a b c d : Int) (y6 y7 y8 y9 y10 : Value) (hk : k ≤ 0) :
    Calls Tryz.prog 11 #[.pointer (some ⟨wb, 0, none⟩), .agg #[.int .i64 k, .int .i64 m, .int .i64 a, .int .i64 b, .int .i64 c, .int .i64 d, y6, y7, y8, y9, y10]] w fun e w' => e = .returned (.bool true) ∧ Below w.heap.size w w' := by
  obtain ⟨i, hi, hI, hm0, hm1⟩ := spot m xs.length hn
  have hl : wb < w.heap.size := (Array.getElem?_eq_some_iff.1 h.cells).1
  have hl1 : wb < w.heap.size + 1 := by omega
  have hl2 : w.heap.size < w.heap.size + 1 := by omega
  have c0 := cell_of h.cells 0
  simp only [List.getElem?_toArray, List.getElem?_cons_zero] at c0
  rcases h.row.shape (fun _ => rfl) with ⟨_, e0⟩ | ⟨g, cap, cur, hv, _, hgl, hle, _, hc⟩
  · simp at e0; subst e0; simp at hn
  rw [List.length_map] at hv hle
  rw [hv] at c0
  have q0 := (hc i 0 (by simpa using hi) (by decide)).1
  have q1 := (hc i 1 (by simpa using hi) (by decide)).1
  have q2 := (hc i 2 (by simpa using hi) (by decide)).1
  simp only [cellsP, Pr.a, List.getElem?_cons_zero, List.getElem?_cons_succ, Nat.add_zero, List.getElem_map] at q0 q1 q2
  have hgl1 : g < w.heap.size + 1 := by omega
  have hiI : (i : Int) < (xs.length : Int) := by omega
  have hnz : ¬ (xs.length : Int) = 0 := by omega
  have k1 : (k == 1) = false := by simp; omega
  have k11 : (k == 11) = false := by simp; omega
  have k2 : decide (2 ≤ k) = false := by simp; omega
  have k9 : (k == 9) = false := by simp; omega
  have k10 : (k == 10) = false := by simp; omega
  have k12 : (k == 12) = false := by simp; omega
  have k13 : (k == 13) = false := by simp; omega
  clear hk
  clear hc
  go_enter Tryz.func11, Tryz.ntmps11
  go_wp2_with fail
  go_region
  go_wp2_with fail
  go_ret
  exact ⟨rfl, (((Below.refl _ _).alloc (Nat.le_refl _) _).alloc (by simp) _).drew⟩

set_option maxRecDepth 100000 in
set_option maxHeartbeats 4000000 in
theorem step_new (h : WAt w base wb v vh xs) (hlen : xs.length < 1000000000000) (m a b c d : Int) (y6 y7 y8 y9 y10 : Value) :
    Calls Tryz.prog 11 #[.pointer (some ⟨wb, 0, none⟩), .agg #[.int .i64 1, .int .i64 m, .int .i64 a, .int .i64 b, .int .i64 c, .int .i64 d, y6, y7, y8, y9, y10]] w fun e w' => e = .returned (.bool true) ∧ ∃ v' y, WAt w' base wb v' vh (xs ++ [y]) ∧ Only (FW wb v xs) w w' ∧ ∀ b ∈ FW wb v' (xs ++ [y]), b ∈ FW wb v xs ∨ w.heap.size ≤ b := by
  have hb1 : Below w.heap.size w (w.alloc (.cells #[.int .i64 1, .int .i64 m, .int .i64 a, .int .i64 b, .int .i64 c, .int .i64 d, y6, y7, y8, y9, y10] 37)) := (Below.refl _ _).alloc (Nat.le_refl _) _
  have h1 := h.below hb1
  have A1 := hid (begin_any _ wb v _ _ h1.cells h1.row (by simpa using hlen))
  have hlw : wb < w.heap.size := (Array.getElem?_eq_some_iff.1 h.cells).1
  go_enter Tryz.func11, Tryz.ntmps11
  go_wp2_with fail
  refine A1.out.mono ?_
  rintro e w2 ⟨rfl, v', p, b0, b1, b2, b3, q, c0, c1, c2, c3, r, mm, hB⟩
  go_wp2_with fail
  go_ret
  obtain ⟨y, hy, hby, hfy⟩ := h1.begun hB
  exact ⟨rfl, v', y, hy, (Only.of_below hb1).trans hby, fun b hm => (hfy b hm).imp_right (fun q => Nat.le_trans hb1.size q)⟩

set_option maxRecDepth 100000 in
set_option maxHeartbeats 4000000 in
theorem step_ask9 (h : WAt w base wb v vh xs) (hn : 0 < xs.length) (hlen : xs.length < 1000000000000) (m a b c d : Int) (y6 y7 y8 y9 y10 : Value) :
    Calls Tryz.prog 11 #[.pointer (some ⟨wb, 0, none⟩), .agg #[.int .i64 9, .int .i64 m, .int .i64 a, .int .i64 b, .int .i64 c, .int .i64 d, y6, y7, y8, y9, y10]] w fun e w' => e = .returned (.bool true) ∧ Below w.heap.size w w' := by
  obtain ⟨i, hi, hI, hm0, hm1⟩ := spot m xs.length hn
  have hl : wb < w.heap.size := (Array.getElem?_eq_some_iff.1 h.cells).1
  have hl1 : wb < w.heap.size + 1 := by omega
  have hl2 : w.heap.size < w.heap.size + 1 := by omega
  have c0 := cell_of h.cells 0
  simp only [List.getElem?_toArray, List.getElem?_cons_zero] at c0
  rcases h.row.shape (fun _ => rfl) with ⟨_, e0⟩ | ⟨g, cap, cur, hv, _, hgl, hle, _, hc⟩
  · simp at e0; subst e0; simp at hn
  rw [List.length_map] at hv hle
  rw [hv] at c0
  have q0 := (hc i 0 (by simpa using hi) (by decide)).1
  have q1 := (hc i 1 (by simpa using hi) (by decide)).1
  have q2 := (hc i 2 (by simpa using hi) (by decide)).1
  simp only [cellsP, Pr.a, List.getElem?_cons_zero, List.getElem?_cons_succ, Nat.add_zero, List.getElem_map] at q0 q1 q2
  have hgl1 : g < w.heap.size + 1 := by omega
  have hiI : (i : Int) < (xs.length : Int) := by omega
  have hnz : ¬ (xs.length : Int) = 0 := by omega
  clear hc
  go_enter Tryz.func11, Tryz.ntmps11
  go_wp2_with fail
  go_region
  go_wp2_with fail
  have hbW : Below w.heap.size w ((w.alloc (.cells #[.int .i64 9, .int .i64 m, .int .i64 a, .int .i64 b, .int .i64 c, .int .i64 d, y6, y7, y8, y9, y10] 37)).alloc (.cells #[.pointer (some ⟨xs[i].pb, 0, none⟩), .pointer (some ⟨xs[i].qb, 0, none⟩), .pointer (some ⟨xs[i].rb, 0, none⟩)] 47)).drew := (((Below.refl _ _).alloc (Nat.le_refl _) _).alloc (by simp) _).drew
  have hx := ((h.below hbW).ok _ (List.getElem_mem hi))
  refine (asks9 (qb := xs[i].qb) hx.p hx.r hx.sp m a b c d y6 y7 y8 y9 y10).mono ?_
  rintro e w3 ⟨rfl, hb3⟩
  go_wp2_with fail
  go_ret
  exact ⟨rfl, next2 hbW hb3⟩

set_option maxRecDepth 100000 in
set_option maxHeartbeats 4000000 in
theorem step_ask10 (h : WAt w base wb v vh xs) (hn : 0 < xs.length) (hlen : xs.length < 1000000000000) (m a b c d : Int) (y6 y7 y8 y9 y10 : Value) :
    Calls Tryz.prog 11 #[.pointer (some ⟨wb, 0, none⟩), .agg #[.int .i64 10, .int .i64 m, .int .i64 a, .int .i64 b, .int .i64 c, .int .i64 d, y6, y7, y8, y9, y10]] w fun e w' => e = .returned (.bool true) ∧ Below w.heap.size w w' := by
  obtain ⟨i, hi, hI, hm0, hm1⟩ := spot m xs.length hn
  have hl : wb < w.heap.size := (Array.getElem?_eq_some_iff.1 h.cells).1
  have hl1 : wb < w.heap.size + 1 := by omega
  have hl2 : w.heap.size < w.heap.size + 1 := by omega
  have c0 := cell_of h.cells 0
  simp only [List.getElem?_toArray, List.getElem?_cons_zero] at c0
  rcases h.row.shape (fun _ => rfl) with ⟨_, e0⟩ | ⟨g, cap, cur, hv, _, hgl, hle, _, hc⟩
  · simp at e0; subst e0; simp at hn
  rw [List.length_map] at hv hle
  rw [hv] at c0
  have q0 := (hc i 0 (by simpa using hi) (by decide)).1
  have q1 := (hc i 1 (by simpa using hi) (by decide)).1
  have q2 := (hc i 2 (by simpa using hi) (by decide)).1
  simp only [cellsP, Pr.a, List.getElem?_cons_zero, List.getElem?_cons_succ, Nat.add_zero, List.getElem_map] at q0 q1 q2
  have hgl1 : g < w.heap.size + 1 := by omega
  have hiI : (i : Int) < (xs.length : Int) := by omega
  have hnz : ¬ (xs.length : Int) = 0 := by omega
  clear hc
  go_enter Tryz.func11, Tryz.ntmps11
  go_wp2_with fail
  go_region
  go_wp2_with fail
  have hbW : Below w.heap.size w ((w.alloc (.cells #[.int .i64 10, .int .i64 m, .int .i64 a, .int .i64 b, .int .i64 c, .int .i64 d, y6, y7, y8, y9, y10] 37)).alloc (.cells #[.pointer (some ⟨xs[i].pb, 0, none⟩), .pointer (some ⟨xs[i].qb, 0, none⟩), .pointer (some ⟨xs[i].rb, 0, none⟩)] 47)).drew := (((Below.refl _ _).alloc (Nat.le_refl _) _).alloc (by simp) _).drew
  have hx := ((h.below hbW).ok _ (List.getElem_mem hi))
  refine (asks10 (qb := xs[i].qb) hx.p hx.r hx.sp m a b c d y6 y7 y8 y9 y10).mono ?_
  rintro e w3 ⟨rfl, hb3⟩
  go_wp2_with fail
  go_ret
  exact ⟨rfl, next2 hbW hb3⟩

theorem build_pair {W w1 w2 w3 : World} {x : Pr} (hx : x.ok W) {a : Value} {R : RSt} {e1 e2 e3 : Ending} (h1 : PPost W x.pb x.b0 x.b1 x.b2 x.b3 R a e1 w1) (h2 : PPost w1 x.qb x.c0 x.c1 x.c2 x.c3 R a e2 w2) (h3 : RPost w2 x.rb x.V x.x7 x.x8 x.x9 x.x10 x.x11 R a e3 w3) :
    ∃ y : Pr, y.ok w3 ∧ Only x.F W w3 ∧ (∀ b ∈ y.F, b ∈ x.F ∨ W.heap.size ≤ b) ∧ y.a = x.a := by
  obtain ⟨_, l0, l1, l2, l3, hp, hs, ho1⟩ := h1
  obtain ⟨_, m0, m1, m2, m3, hq, hsq, ho2⟩ := h2
  obtain ⟨_, V, hr, ho3, hv⟩ := h3
  have hpl := hx.p.lts
  have hql := hx.q.lts
  have s1 := ho1.size
  have s2 := ho2.size
  have subP : ∀ b ∈ [x.b0, x.b1, x.b2, x.b3], b ∈ x.P := fun b hb => List.mem_cons_of_mem _ hb
  have subQ : ∀ b ∈ [x.c0, x.c1, x.c2, x.c3], b ∈ x.Q := fun b hb => List.mem_cons_of_mem _ hb
  have hfo : ∀ b ∈ foot x.rb V, b ∈ foot x.rb x.V ∨ w2.heap.size ≤ b := fun b hb => by
    rcases List.mem_cons.1 hb with rfl | hb
    · exact Or.inl List.mem_cons_self
    · exact (hv b hb).imp_left (List.mem_cons_of_mem _)
  let y : Pr := { x with V := V, R := R, l0 := l0, l1 := l1, l2 := l2, l3 := l3, m0 := m0, m1 := m1, m2 := m2, m3 := m3 }
  refine ⟨y, ⟨?_, ?_, hr, hs, hsq, hx.d1, fun b h1 h2 => ?_, fun b h1 h2 => ?_⟩, ?_, fun b hb => ?_, rfl⟩
  · refine (hp.move (fun b hb => ?_)).move (fun b hb => ?_) (w := w2)
    · exact ho2.block b (by have := hpl b hb; omega) (fun hm => hx.d1 b hb (subQ b hm))
    · exact ho3.block b (by have := hpl b hb; omega) (hx.d2 b hb)
  · exact hq.move (fun b hb => ho3.block b (by have := hql b hb; omega) (hx.d3 b hb))
  · rcases hfo b h2 with h3 | h3
    · exact hx.d2 b h1 h3
    · have := hpl b h1; omega
  · rcases hfo b h2 with h3 | h3
    · exact hx.d3 b h1 h3
    · have := hql b h1; omega
  · exact ((ho1.mono (fun b hb => List.mem_append_left _ (subP b hb))).trans (ho2.mono (fun b hb => List.mem_append_right _ (List.mem_append_left _ (subQ b hb))))).trans (ho3.mono (fun b hb => List.mem_append_right _ (List.mem_append_right _ hb)))
  · rcases List.mem_append.1 hb with hb | hb
    · exact Or.inl (List.mem_append_left _ hb)
    · rcases List.mem_append.1 hb with hb | hb
      · exact Or.inl (List.mem_append_right _ (List.mem_append_left _ hb))
      · rcases hfo b hb with h3 | h3
        · exact Or.inl (List.mem_append_right _ (List.mem_append_right _ h3))
        · exact Or.inr (by omega)

set_option maxRecDepth 100000 in
set_option maxHeartbeats 4000000 in
theorem step_build (h : WAt w base wb v vh xs) (hn : 0 < xs.length) (hlen : xs.length < 1000000000000) (k m a b c d : Int) (y6 y7 y8 y9 y10 : Value) (hk : 2 ≤ k ∧ k ≤ 8) :
    Calls Tryz.prog 11 #[.pointer (some ⟨wb, 0, none⟩), .agg #[.int .i64 k, .int .i64 m, .int .i64 a, .int .i64 b, .int .i64 c, .int .i64 d, y6, y7, y8, y9, y10]] w fun e w' => e = .returned (.bool true) ∧ ∃ xs', WAt w' base wb v vh xs' ∧ xs'.length = xs.length ∧ Only (FW wb v xs) w w' ∧ ∀ b ∈ FW wb v xs', b ∈ FW wb v xs ∨ w.heap.size ≤ b := by
  obtain ⟨i, hi, hI, hm0, hm1⟩ := spot m xs.length hn
  have hl : wb < w.heap.size := (Array.getElem?_eq_some_iff.1 h.cells).1
  have hl1 : wb < w.heap.size + 1 := by omega
  have hl2 : w.heap.size < w.heap.size + 1 := by omega
  have c0 := cell_of h.cells 0
  simp only [List.getElem?_toArray, List.getElem?_cons_zero] at c0
  rcases h.row.shape (fun _ => rfl) with ⟨_, e0⟩ | ⟨g, cap, cur, hv, _, hgl, hle, _, hc⟩
  · simp at e0; subst e0; simp at hn
  rw [List.length_map] at hv hle
  rw [hv] at c0
  have q0 := (hc i 0 (by simpa using hi) (by decide)).1
  have q1 := (hc i 1 (by simpa using hi) (by decide)).1
  have q2 := (hc i 2 (by simpa using hi) (by decide)).1
  simp only [cellsP, Pr.a, List.getElem?_cons_zero, List.getElem?_cons_succ, Nat.add_zero, List.getElem_map] at q0 q1 q2
  have hgl1 : g < w.heap.size + 1 := by omega
  have hiI : (i : Int) < (xs.length : Int) := by omega
  have hnz : ¬ (xs.length : Int) = 0 := by omega
  have k1 : (k == 1) = false := by simp; omega
  have k11 : (k == 11) = false := by simp; omega
  have k2 : decide (2 ≤ k) = true := by simp; omega
  have k8 : decide (k ≤ 8) = true := by simp; omega
  have Hk := hid hk
  clear hc hk
  go_enter Tryz.func11, Tryz.ntmps11
  go_wp2_with fail
  go_region
  go_wp2_with fail
  have hbW : Below w.heap.size w ((w.alloc (.cells #[.int .i64 k, .int .i64 m, .int .i64 a, .int .i64 b, .int .i64 c, .int .i64 d, y6, y7, y8, y9, y10] 37)).alloc (.cells #[.pointer (some ⟨xs[i].pb, 0, none⟩), .pointer (some ⟨xs[i].qb, 0, none⟩), .pointer (some ⟨xs[i].rb, 0, none⟩)] 47)).drew := (((Below.refl _ _).alloc (Nat.le_refl _) _).alloc (by simp) _).drew
  have hW := h.below hbW
  have hx := (hW.ok _ (List.getElem_mem hi))
  have hxw := (h.ok _ (List.getElem_mem hi)).lt
  have hbx := two_boxes (w := w) (o1 := .cells #[.int .i64 k, .int .i64 m, .int .i64 a, .int .i64 b, .int .i64 c, .int .i64 d, y6, y7, y8, y9, y10] 37) (o2 := .cells #[.pointer (some ⟨xs[i].pb, 0, none⟩), .pointer (some ⟨xs[i].qb, 0, none⟩), .pointer (some ⟨xs[i].rb, 0, none⟩)] 47) (w2 := ((w.alloc (.cells #[.int .i64 k, .int .i64 m, .int .i64 a, .int .i64 b, .int .i64 c, .int .i64 d, y6, y7, y8, y9, y10] 37)).alloc (.cells #[.pointer (some ⟨xs[i].pb, 0, none⟩), .pointer (some ⟨xs[i].qb, 0, none⟩), .pointer (some ⟨xs[i].rb, 0, none⟩)] 47)).drew) ((Below.refl _ _).drew)
  have A1 := hid (builds_any hx.p hx.sp k m a b c d y6 y7 y8 y9 y10 Hk.out)
  unfold opV at A1
  have Hx := hid (And.intro hW (And.intro hx (And.intro hxw hbW)))
  have Hbx := hid hbx
  clear hbx hx hxw hW hbW
  refine A1.out.mono ?_
  intro e w1 hP1
  have hP1' := hP1
  obtain ⟨rfl, l0, l1, l2, l3, hp1, hs1, ho1⟩ := hP1'
  have ns1 : ∀ n, w.heap.size ≤ n → n ∉ [xs[i].b0, xs[i].b1, xs[i].b2, xs[i].b3] := fun n hn hm => by
    have := Hx.out.2.2.1 n (List.mem_append_left _ (List.mem_cons_of_mem _ hm))
    omega
  have o1 := (ho1.block _ Hbx.out.2.2.1 (ns1 _ (Nat.le_refl _))).trans Hbx.out.1
  have o2 := (ho1.block _ Hbx.out.2.2.2 (ns1 _ (by omega))).trans Hbx.out.2.1
  obtain ⟨f0, f1, f2, f3, f4, f5, f6, f7, f8, f9, f10⟩ := cells11 o1
  obtain ⟨g0, g1, g2⟩ := cells3 o2
  have z1 : w.heap.size < w1.heap.size := Nat.lt_of_lt_of_le Hbx.out.2.2.1 ho1.size
  have z2 : w.heap.size + 1 < w1.heap.size := Nat.lt_of_lt_of_le Hbx.out.2.2.2 ho1.size
  have hq1 : PlanAt w1 xs[i].qb xs[i].c0 xs[i].c1 xs[i].c2 xs[i].c3 xs[i].m0 xs[i].m1 xs[i].m2 xs[i].m3 := Hx.out.2.1.q.move (fun n hn => ho1.block n (Hx.out.2.1.q.lts n hn) (fun hm => Hx.out.2.1.d1 n (List.mem_cons_of_mem _ hm) hn))
  have hr1 : RefAt w1 xs[i].rb xs[i].V xs[i].x7 xs[i].x8 xs[i].x9 xs[i].x10 xs[i].x11 xs[i].R := Hx.out.2.1.r.move (fun n hn => ho1.block n (Hx.out.2.1.r.lts n hn) (fun hm => Hx.out.2.1.d2 n (List.mem_cons_of_mem _ hm) hn))
  have A2 := hid (builds_any hq1 Hx.out.2.1.sq k m a b c d y6 y7 y8 y9 y10 Hk.out)
  unfold opV at A2
  have HP1 := hid (And.intro hP1 (And.intro o1 (And.intro o2 hr1)))
  clear hP1 hp1 hs1 o1 o2 hr1 hq1 A1
  have Ho1 := hid ho1
  clear ho1
  go_wp2_with fail
  refine A2.out.mono ?_
  intro e w2 hP2
  have hP2' := hP2
  obtain ⟨rfl, m0, m1, m2, m3, hp2, hs2, ho2⟩ := hP2'
  clear f0 f1 f2 f3 f4 f5 f6 f7 f8 f9 f10 g0 g1 g2 A2
  have ns2 : ∀ n, w.heap.size ≤ n → n ∉ [xs[i].c0, xs[i].c1, xs[i].c2, xs[i].c3] := fun n hn hm => by
    have := Hx.out.2.2.1 n (List.mem_append_right _ (List.mem_append_left _ (List.mem_cons_of_mem _ hm)))
    omega
  have o1 := (ho2.block _ z1 (ns2 _ (Nat.le_refl _))).trans HP1.out.2.1
  have o2 := (ho2.block _ z2 (ns2 _ (by omega))).trans HP1.out.2.2.1
  obtain ⟨f0, f1, f2, f3, f4, f5, f6, f7, f8, f9, f10⟩ := cells11 o1
  obtain ⟨g0, g1, g2⟩ := cells3 o2
  have z3 : w.heap.size < w2.heap.size := Nat.lt_of_lt_of_le z1 ho2.size
  have z4 : w.heap.size + 1 < w2.heap.size := Nat.lt_of_lt_of_le z2 ho2.size
  have hr2 : RefAt w2 xs[i].rb xs[i].V xs[i].x7 xs[i].x8 xs[i].x9 xs[i].x10 xs[i].x11 xs[i].R := HP1.out.2.2.2.move (fun n hn => ho2.block n (HP1.out.2.2.2.lts n hn) (fun hm => Hx.out.2.1.d3 n (List.mem_cons_of_mem _ hm) hn))
  have A3 := hid (built_any hr2 Hx.out.2.1.sp.fit k m a b c d y6 y7 y8 y9 y10 Hk.out)
  unfold opV at A3
  have HP2 := hid hP2
  clear hP2 hp2 hs2 o1 o2 hr2 ho2
  go_wp2_with fail
  refine A3.out.mono ?_
  intro e w3 hP3
  obtain ⟨rfl, _⟩ := id hP3
  have HP3 := hid hP3
  clear hP3
  go_wp2_with fail
  go_ret
  obtain ⟨y, hy, hoy, hFy, hay⟩ := build_pair Hx.out.2.1 HP1.out.1 HP2.out HP3.out
  exact ⟨rfl, xs.set i y, Hx.out.1.upd hi hy hoy hFy hay, by simp, (Only.of_below Hx.out.2.2.2).trans (hoy.mono (fun n hn => List.mem_cons_of_mem _ (List.mem_append_right _ (List.mem_flatMap.2 ⟨_, List.getElem_mem hi, hn⟩)))), FW_set hi (fun b hb => (hFy b hb).imp_right (fun q => Nat.le_trans Hx.out.2.2.2.size q))⟩

/-- One call of a script. -/
theorem step_any (h : WAt w base wb v vh xs) (hn : 0 < xs.length) (hlen : xs.length < 1000000000000) (k m a b c d : Int) (y6 y7 y8 y9 y10 : Value) (hk : k ≤ 10) :
    Calls Tryz.prog 11 #[.pointer (some ⟨wb, 0, none⟩), .agg #[.int .i64 k, .int .i64 m, .int .i64 a, .int .i64 b, .int .i64 c, .int .i64 d, y6, y7, y8, y9, y10]] w fun e w' => e = .returned (.bool true) ∧ ∃ v' xs', WAt w' base wb v' vh xs' ∧ xs.length ≤ xs'.length ∧ xs'.length ≤ xs.length + 1 ∧ Only (FW wb v xs) w w' ∧ ∀ b ∈ FW wb v' xs', b ∈ FW wb v xs ∨ w.heap.size ≤ b := by
  by_cases k0 : k ≤ 0
  · exact (step_else h hn hlen k m a b c d y6 y7 y8 y9 y10 k0).mono fun e w' hh => ⟨hh.1, v, xs, h.below hh.2, Nat.le_refl _, Nat.le_succ _, Only.of_below hh.2, fun _ q => Or.inl q⟩
  by_cases k1 : k = 1
  · subst k1
    refine (step_new h hlen m a b c d y6 y7 y8 y9 y10).mono fun e w' hh => ?_
    obtain ⟨he, v', y, hy, ho, hf⟩ := hh
    exact ⟨he, v', _, hy, by simp, by simp, ho, hf⟩
  by_cases k8 : k ≤ 8
  · refine (step_build h hn hlen k m a b c d y6 y7 y8 y9 y10 ⟨by omega, k8⟩).mono fun e w' hh => ?_
    obtain ⟨he, xs', hy, hl, ho, hf⟩ := hh
    exact ⟨he, v, xs', hy, by omega, by omega, ho, hf⟩
  by_cases k9 : k = 9
  · subst k9
    exact (step_ask9 h hn hlen m a b c d y6 y7 y8 y9 y10).mono fun e w' hh => ⟨hh.1, v, xs, h.below hh.2, Nat.le_refl _, Nat.le_succ _, Only.of_below hh.2, fun _ q => Or.inl q⟩
  obtain rfl : k = 10 := by omega
  exact (step_ask10 h hn hlen m a b c d y6 y7 y8 y9 y10).mono fun e w' hh => ⟨hh.1, v, xs, h.below hh.2, Nat.le_refl _, Nat.le_succ _, Only.of_below hh.2, fun _ q => Or.inl q⟩
end
end Go.Proofs.YtjdindfjfpdikaaGreat
