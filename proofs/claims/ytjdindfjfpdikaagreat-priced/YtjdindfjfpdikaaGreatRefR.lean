import Derived.Test.YtjdindfjfpdikaaGreatRefL
import Derived.Deep.QuietTactic
import Derived.BigQuiet
namespace Go.Proofs.YtjdindfjfpdikaaGreat
open Go.RowKit

/-- The wishes of a task for a machine or its rack: the least cost. -/
def mineW (t m r : Int) (x : Wi) : Bool := decide (x.1 = t) && ((decide (x.2.1 = 1) && decide (x.2.2.1 = m)) || (decide (x.2.1 = 0) && decide (x.2.2.1 = r)))
def lessW (t m r : Int) (c : Int) (x : Wi) : Int := if mineW t m r x = true ∧ x.2.2.2 < c then x.2.2.2 else c
def minW (t m r c : Int) (ws : List Wi) : Int := ws.foldl (lessW t m r) c

theorem minW_take {t m r c : Int} {ws : List Wi} {k : Nat} (hk : k < ws.length) : minW t m r c (ws.take (k + 1)) = lessW t m r (minW t m r c (ws.take k)) ws[k] := by
  unfold minW
  rw [List.take_succ_eq_append_getElem hk, List.foldl_append]
  rfl

section
variable {w : World} {rb : Nat} {V : RVs} {x7 x8 x9 x10 x11 : Value} {R : RSt}

set_option maxRecDepth 100000 in
set_option maxHeartbeats 4000000 in
theorem rprice_none (h : RefAt w rb V x7 x8 x9 x10 x11 R) (i j : Nat) (hi : i < R.t3.length) (hio : i < R.on.length) (hit : i < R.wt.length) (hon : R.on[i] = -1) (hl2 : R.t2.length ≤ 1000) (hj : j < R.t2.length) (hat : atOf R.t3[i].2.1 R.t2 = j) (hb0 : 0 ≤ R.t2[j].2.2) (hb1 : R.t2[j].2.2 ≤ 1000) (hw0 : 0 ≤ R.wt[i]) (hw1 : R.wt[i] ≤ 100) :
    Calls Tryz.prog 68 #[.pointer (some ⟨rb, 0, none⟩), .int .i64 i, .int .i64 (-1)] w fun e w' => e = .returned (.int .i64 (R.t2[j].2.2 + R.wt[i])) ∧ Below w.heap.size w w' := by
  obtain ⟨z1, z2, z3, hz⟩ : ∃ z1 z2 z3, R.t3[i] = (z1, z2, z3) := ⟨_, _, _, rfl⟩
  rw [hz] at hat
  have hp1 := h.alloc (.cells #[.int .i64 z1, .int .i64 z2, .int .i64 z3] 76)
  have A1 := hid (fun n => at_any ((w.alloc (.cells #[.int .i64 z1, .int .i64 z2, .int .i64 z3] 76)).drewN n) rb 2 V.v2 R.t2 z2 (by decide) (hp1.drewN n).c2 (hp1.drewN n).r2 hl2)
  rw [hat] at A1
  rcases h.r3.shape (fun _ => rfl) with ⟨_, e0⟩ | ⟨g3, cap3, cur3, hv3, _, hgl3, hle3, _, hc3⟩
  · rw [e0] at hi; simp at hi
  rcases h.r2.shape (fun _ => rfl) with ⟨_, e0⟩ | ⟨g2, cap2, cur2, hv2, _, hgl2, hle2, _, hc2⟩
  · rw [e0] at hj; simp at hj
  rcases h.ro.shape (fun _ => rfl) with ⟨_, e0⟩ | ⟨go, capo, curo, hvo, _, hglo, hleo, _, hco⟩
  · rw [e0] at hio; simp at hio
  rcases h.rt.shape (fun _ => rfl) with ⟨_, e0⟩ | ⟨gt, capt, curt, hvt, _, hglt, hlet, _, hct⟩
  · rw [e0] at hit; simp at hit
  have q0 := (hc3 i 0 hi (by decide)).1
  have q1 := (hc3 i 1 hi (by decide)).1
  have q2 := (hc3 i 2 hi (by decide)).1
  rw [hz] at q0 q1 q2
  have q3 := (hc2 j 2 hj (by decide)).1
  have q4 := (hco i 0 hio (by decide)).1
  have q5 := (hct i 0 hit (by decide)).1
  rw [hon] at q4
  simp only [cellsT, cellsI, List.getElem?_cons_zero, List.getElem?_cons_succ, Nat.add_zero, Nat.mul_one] at q0 q1 q2 q3 q4 q5
  generalize R.t2[j].2.2 = b at q3 hb0 hb1
  generalize R.wt[i] = t at q5 hw0 hw1
  have c3 := h.c3
  have c2 := h.c2
  have c5 := h.c5
  have c6 := h.c6
  rw [hv3] at c3
  rw [hv2] at c2
  rw [hvo] at c5
  rw [hvt] at c6
  have hrb := h.lt
  have hrb1 : rb < w.heap.size + 1 := by omega
  have hiI : (i : Int) < (R.t3.length : Int) := by omega
  have hjI : (j : Int) < (R.t2.length : Int) := by omega
  have hioI : (i : Int) < (R.on.length : Int) := by omega
  have hitI : (i : Int) < (R.wt.length : Int) := by omega
  clear hc3 hc2 hco hct
  go_enter Tryz.func68, Tryz.ntmps68
  go_wp2_with fail
  go_quiet ((go_at_call 62; exact Calls.quiet_of_same (A1.out _)))
  go_wp2_with fail
  go_ret
  refine ⟨rfl, ?_⟩
  have hb1 : Below w.heap.size w (w.alloc (.cells #[.int .i64 z1, .int .i64 z2, .int .i64 z3] 76)) := (Below.refl _ _).alloc (Nat.le_refl _) _
  exact ⟨hb1.os, hb1.tape, hb1.output, hb1.size, hb1.block⟩

set_option maxRecDepth 100000 in
set_option maxHeartbeats 4000000 in
theorem rprice_on (h : RefAt w rb V x7 x8 x9 x10 x11 R) (i j : Nat) (m : Int) (hm : 0 ≤ m) (hi : i < R.t3.length) (hio : i < R.on.length) (hon : R.on[i] = -1) (hl1 : R.t1.length ≤ 1000) (hj : j < R.t1.length) (hat : atOf m R.t1 = j) (hlw : R.ws.length ≤ 1000000000) :
    Calls Tryz.prog 68 #[.pointer (some ⟨rb, 0, none⟩), .int .i64 i, .int .i64 m] w fun e w' => e = .returned (.int .i64 (minW R.t3[i].1 m R.t1[j].2.1 R.t3[i].2.2 R.ws)) ∧ Below w.heap.size w w' := by
  obtain ⟨z1, z2, z3, hz⟩ : ∃ z1 z2 z3, R.t3[i] = (z1, z2, z3) := ⟨_, _, _, rfl⟩
  have hp1 := h.alloc (.cells #[.int .i64 z1, .int .i64 z2, .int .i64 z3] 76)
  have A1 := hid (fun n => at_any ((w.alloc (.cells #[.int .i64 z1, .int .i64 z2, .int .i64 z3] 76)).drewN n) rb 1 V.v1 R.t1 m (by decide) (hp1.drewN n).c1 (hp1.drewN n).r1 hl1)
  rw [hat] at A1
  rcases h.r3.shape (fun _ => rfl) with ⟨_, e0⟩ | ⟨g3, cap3, cur3, hv3, _, hgl3, hle3, _, hc3⟩
  · rw [e0] at hi; simp at hi
  rcases h.r1.shape (fun _ => rfl) with ⟨_, e0⟩ | ⟨g2, cap2, cur2, hv2, _, hgl2, hle2, _, hc2⟩
  · rw [e0] at hj; simp at hj
  have q0 := (hc3 i 0 hi (by decide)).1
  have q1 := (hc3 i 1 hi (by decide)).1
  have q2 := (hc3 i 2 hi (by decide)).1
  rw [hz] at q0 q1 q2
  rw [hz]
  have q3 := (hc2 j 1 hj (by decide)).1
  simp only [cellsT, List.getElem?_cons_zero, List.getElem?_cons_succ, Nat.add_zero] at q0 q1 q2 q3
  generalize R.t1[j].2.1 = r at q3
  have c3 := h.c3
  have c2 := h.c1
  rw [hv3] at c3
  rw [hv2] at c2
  have hrb := h.lt
  have hrb1 : rb < w.heap.size + 1 := by omega
  have hiI : (i : Int) < (R.t3.length : Int) := by omega
  have hjI : (j : Int) < (R.t1.length : Int) := by omega
  have hmb : decide (m < 0) = false := by simp; omega
  clear hc3 hc2
  go_enter Tryz.func68, Tryz.ntmps68
  go_wp2_with fail
  go_quiet ((go_at_call 62; exact Calls.quiet_of_same (A1.out _)))
  go_wp2_with fail
  have hp2 := hp1.drewN nq
  have hb1 : Below w.heap.size w (w.alloc (.cells #[.int .i64 z1, .int .i64 z2, .int .i64 z3] 76)) := (Below.refl _ _).alloc (Nat.le_refl _) _
  have hb2 : Below w.heap.size w ((w.alloc (.cells #[.int .i64 z1, .int .i64 z2, .int .i64 z3] 76)).drewN nq) := ⟨hb1.os, hb1.tape, hb1.output, hb1.size, hb1.block⟩
  have k0 : ((w.alloc (.cells #[.int .i64 z1, .int .i64 z2, .int .i64 z3] 76)).drewN nq).cell? ⟨w.heap.size, 0, none⟩ = some (.int .i64 z1) := by show (w.alloc _).cell? _ = _; rw [World.cell?_alloc_at _ _ _ _ rfl]; rfl
  have hzz : w.heap.size < ((w.alloc (.cells #[.int .i64 z1, .int .i64 z2, .int .i64 z3] 76)).drewN nq).heap.size := by simp [World.drewN]
  clear A1 hp1 hb1 c3 c2 q0 q1 q2 q3 h hrb hrb1
  generalize (w.alloc (.cells #[.int .i64 z1, .int .i64 z2, .int .i64 z3] 76)).drewN nq = W2 at hp2 hb2 k0 hzz ⊢
  obtain ⟨pw, cw, hvw⟩ := slice_of hp2.rw
  obtain ⟨po, co, hvo⟩ := slice_of hp2.ro
  have Hv := hid hvw
  have Hvo := hid hvo
  have Hz := hid hz
  have Hk := hid (And.intro k0 hzz)
  clear hvw hvo hz k0 hzz
  go_loopg [8, 10] R.ws.length (fun gk v iv wr => ∃ k : Nat, k ≤ R.ws.length ∧ R.ws.length - k ≤ gk ∧ iv = .int .i64 k ∧ v = .int .i64 (minW z1 m r z3 (R.ws.take k)) ∧ Below W2.heap.size W2 wr)
  case atStart => exact ⟨0, Nat.zero_le _, Nat.le_refl _, rfl, rfl, Below.refl _ _⟩
  case' round => skip
  obtain ⟨k, hk, hgk, rfl, rfl, hb⟩ := hrel
  have hp := hp2.below hb
  have c4 := hp.c4
  rw [Hv.out] at c4
  have hrb := hp.lt
  have k0 := (hb.cell (p := ⟨w.heap.size, 0, none⟩) Hk.out.2).trans Hk.out.1
  have hzw : w.heap.size < wr.heap.size := Nat.lt_of_lt_of_le Hk.out.2 hb.size
  have hzw1 : w.heap.size < wr.heap.size + 1 := by omega
  by_cases hlt : k < R.ws.length
  · rcases hp.rw.shape (fun _ => rfl) with ⟨e, _⟩ | ⟨g, cap, cur, e, _, hgl, _, _, hc⟩
    · rw [Hv.out] at e; injection e with _ e2 _; omega
    have ee := Hv.out.symm.trans e
    simp only [Value.slice.injEq] at ee
    obtain ⟨rfl, _, rfl⟩ := ee
    have p0 := (hc k 0 hlt (by decide)).1
    have p1 := (hc k 1 hlt (by decide)).1
    have p2 := (hc k 2 hlt (by decide)).1
    have p3 := (hc k 3 hlt (by decide)).1
    simp only [cellsW, List.getElem?_cons_zero, List.getElem?_cons_succ, Nat.add_zero] at p0 p1 p2 p3
    have hkI : (k : Int) < (R.ws.length : Int) := by omega
    have htk := minW_take (t := z1) (m := m) (r := r) (c := z3) hlt
    obtain ⟨y1, y2, y3, y4, hy⟩ : ∃ y1 y2 y3 y4, R.ws[k] = (y1, y2, y3, y4) := ⟨_, _, _, _, rfl⟩
    rw [hy] at p0 p1 p2 p3 htk
    generalize minW z1 m r z3 (R.ws.take k) = c at htk ⊢
    have Htk := hid htk
    clear hc e htk hy
    have Fin := hid (fun (c' : Int) (hc' : lessW z1 m r c (y1, y2, y3, y4) = c') => show (Value.int .i64 c') = .int .i64 (minW z1 m r z3 (R.ws.take (k + 1))) from by rw [Htk.out, hc'])
    clear Htk
    by_cases a1 : y1 = z1
    · by_cases a2 : y2 = 1
      · by_cases a3 : y3 = m
        · by_cases a4 : y4 < c
          · have F := hid (Fin.out y4 (by simp [lessW, mineW, a1, a2, a3, a4]))
            subst a1 a2 a3
            go_wp2
            go_roundg (R.ws.length - (k + 1))
            case measure => omega
            case rel => exact ⟨k + 1, by omega, Nat.le_refl _, by go_num, F.out, hb.alloc hb.size _⟩
          · have F := hid (Fin.out c (by simp [lessW, a4]))
            have a4b : decide (y4 < c) = false := by simpa using a4
            subst a1 a2 a3
            go_wp2
            go_roundg (R.ws.length - (k + 1))
            case measure => omega
            case rel => exact ⟨k + 1, by omega, Nat.le_refl _, by go_num, F.out, hb.alloc hb.size _⟩
        · have F := hid (Fin.out c (by simp [lessW, mineW, a2, a3]))
          have a3b : (y3 == m) = false := by simpa using a3
          subst a1 a2
          clear a3
          go_wp2
          go_roundg (R.ws.length - (k + 1))
          case measure => omega
          case rel => exact ⟨k + 1, by omega, Nat.le_refl _, by go_num, F.out, hb.alloc hb.size _⟩
      · have a2b : (y2 == 1) = false := by simpa using a2
        by_cases b2 : y2 = 0
        · by_cases b3 : y3 = r
          · by_cases a4 : y4 < c
            · have F := hid (Fin.out y4 (by simp [lessW, mineW, a1, b2, b3, a4]))
              subst a1 b2 b3
              clear a2
              go_wp2
              go_roundg (R.ws.length - (k + 1))
              case measure => omega
              case rel => exact ⟨k + 1, by omega, Nat.le_refl _, by go_num, F.out, hb.alloc hb.size _⟩
            · have F := hid (Fin.out c (by simp [lessW, a4]))
              have a4b : decide (y4 < c) = false := by simpa using a4
              subst a1 b2 b3
              clear a2
              go_wp2
              go_roundg (R.ws.length - (k + 1))
              case measure => omega
              case rel => exact ⟨k + 1, by omega, Nat.le_refl _, by go_num, F.out, hb.alloc hb.size _⟩
          · have F := hid (Fin.out c (by simp [lessW, mineW, b2, b3]))
            have b3b : (y3 == r) = false := by simpa using b3
            subst a1 b2
            clear a2 b3
            go_wp2
            go_roundg (R.ws.length - (k + 1))
            case measure => omega
            case rel => exact ⟨k + 1, by omega, Nat.le_refl _, by go_num, F.out, hb.alloc hb.size _⟩
        · have F := hid (Fin.out c (by simp [lessW, mineW, a2, b2]))
          have b2b : (y2 == 0) = false := by simpa using b2
          subst a1
          clear a2 b2
          go_wp2
          go_roundg (R.ws.length - (k + 1))
          case measure => omega
          case rel => exact ⟨k + 1, by omega, Nat.le_refl _, by go_num, F.out, hb.alloc hb.size _⟩
    · have F := hid (Fin.out c (by simp [lessW, mineW, a1]))
      have a1b : (y1 == z1) = false := by simpa using a1
      clear a1
      go_wp2
      go_roundg (R.ws.length - (k + 1))
      case measure => omega
      case rel => exact ⟨k + 1, by omega, Nat.le_refl _, by go_num, F.out, hb.alloc hb.size _⟩
  · obtain rfl : k = R.ws.length := by omega
    rw [List.take_length]
    rcases hp.ro.shape (fun _ => rfl) with ⟨_, e0⟩ | ⟨go, capo, curo, eo, _, hglo, hleo, _, hco⟩
    · rw [e0] at hio; simp at hio
    have q4 := (hco i 0 hio (by decide)).1
    rw [hon] at q4
    simp only [cellsI, List.getElem?_cons_zero, Nat.add_zero, Nat.mul_one] at q4
    have c5 := hp.c5
    rw [eo] at c5
    have hioI : (i : Int) < (R.on.length : Int) := by omega
    clear hco
    go_wp2
    go_ret
    exact ⟨rfl, next2 hb2 hb⟩
end
end Go.Proofs.YtjdindfjfpdikaaGreat
