import Derived.Test.YtjdindfjfpdikaaGreatRefL
import Derived.Test.YtjdindfjfpdikaaGreatRefG
import Derived.Deep.LoopGhost
namespace Go.Proofs.YtjdindfjfpdikaaGreat
open Go.RowKit

/-- What ran on a machine that goes runs on none. -/
def off (id n : Int) : Int := if n = id then -1 else n
def offTo (id : Int) (on : List Int) (k : Nat) : List Int := (List.range on.length).map fun i => if i < k then off id (on.getD i 0) else on.getD i 0
theorem offTo_length (id : Int) (on : List Int) (k : Nat) : (offTo id on k).length = on.length := by simp [offTo]
theorem offTo_zero (id : Int) (on : List Int) : offTo id on 0 = on := by
  apply List.ext_getElem (by simp [offTo])
  intro i h1 h2
  simp [offTo, h2]
theorem offTo_all (id : Int) (on : List Int) : offTo id on on.length = on.map (off id) := by
  apply List.ext_getElem (by simp [offTo])
  intro i h1 h2
  have h3 : i < on.length := by simpa using h2
  simp [offTo, h3]
theorem offTo_at (id : Int) (on : List Int) (k i : Nat) (hi : i < on.length) : (offTo id on k)[i]'(by rw [offTo_length]; exact hi) = if i < k then off id on[i] else on[i] := by
  simp [offTo, hi]
theorem offTo_succ (id : Int) (on : List Int) (k : Nat) (hk : k < on.length) : offTo id on (k + 1) = (offTo id on k).set k (off id on[k]) := by
  apply List.ext_getElem (by simp [offTo])
  intro i h1 h2
  have h3 : i < on.length := by simpa [offTo] using h1
  rw [offTo_at id on (k + 1) i h3, List.getElem_set]
  by_cases e : k = i
  · subst e; simp
  · rw [if_neg e, offTo_at id on k i h3]
    by_cases q : i < k
    · rw [if_pos q, if_pos (by omega)]
    · rw [if_neg q, if_neg (by omega)]
theorem offTo_same (id : Int) (on : List Int) (k : Nat) (hk : k < on.length) (h : on[k] ≠ id) : offTo id on (k + 1) = offTo id on k := by
  rw [offTo_succ id on k hk]
  have : off id on[k] = (offTo id on k)[k]'(by rw [offTo_length]; exact hk) := by rw [offTo_at id on k k hk, if_neg (by omega)]; simp [off, h]
  rw [this, List.set_getElem_self]

section
variable {w : World} {rb : Nat} {V : RVs} {x7 x8 x9 x10 x11 : Value} {R : RSt}

set_option maxRecDepth 100000 in
set_option maxHeartbeats 8000000 in
theorem rrem1_ok (h : RefAt w rb V x7 x8 x9 x10 x11 R) (id : Int) (k : Nat) (hk : k < R.t1.length) (hat : atOf id R.t1 = k) (hl1 : R.t1.length ≤ 1000) (hl3 : R.t3.length ≤ 1000) (hlk : R.t1.length ≤ 1000) (hlw : R.ws.length ≤ 1000000000) (hlo : R.on.length = R.t3.length) (hlt : R.wt.length = R.t3.length) :
    Calls Tryz.prog 36 #[.pointer (some ⟨rb, 0, none⟩), .int .i64 1, .int .i64 id] w fun e w' => e = .returned (.int .i64 0) ∧ ∃ V', RefAt w' rb V' x7 x8 x9 x10 x11 { R with t1 := R.t1.eraseIdx k, ws := R.ws.filter (fun x => !goneW 1 id x), on := R.on.map (off id) } ∧ Only (foot rb V) w w' ∧ (∀ b ∈ V'.blocks, b ∈ V.blocks ∨ w.heap.size ≤ b) := by
  have A1 := hid (at_any _ rb 1 V.v1 R.t1 id (by decide) h.c1 h.r1 hlk)
  rw [hat] at A1
  obtain ⟨p1, cp1, hv1⟩ := slice_of h.r1
  obtain ⟨p3, cp3, hv3⟩ := slice_of h.r3
  have c1 := h.c1
  have c3 := h.c3
  have Hs1 := hid (h.r1.shape (fun _ => rfl))
  have Hs3 := hid (h.r3.shape (fun _ => rfl))
  rw [hv1] at c1
  rw [hv3] at c3
  have hrb := h.lt
  obtain ⟨i0, hi, hz0, hz1, hz2⟩ := info_parts info122
  have hkneg : decide ((k : Int) < 0) = false := by simp
  have Hlo := hid (And.intro hlo hlt)
  clear hlo hlt
  go_enter Tryz.func36, Tryz.ntmps36
  go_wp2_with fail
  refine A1.out.mono ?_
  rintro e w2 ⟨rfl, rfl⟩
  go_wp2_with fail
  clear A1
  go_loop [8] (fun i => ∃ j : Nat, j ≤ R.t1.length ∧ i = .int .i64 j) (fun i => R.t1.length - (intOf i).toNat)
  case atStart => exact ⟨0, Nat.zero_le _, rfl⟩
  case' round => skip
  obtain ⟨j, hj', rfl⟩ := hrel
  by_cases hj : j < R.t1.length
  · have hjI : (j : Int) < (R.t1.length : Int) := by omega
    go_wp2
    go_round
    case rel => exact ⟨j + 1, by omega, by go_num⟩
    case measure => simp [intOf]; omega
  go_wp2_with fail
  clear hj hj'
  go_loop [9] (fun i => ∃ j : Nat, j ≤ R.t3.length ∧ i = .int .i64 j) (fun i => R.t3.length - (intOf i).toNat)
  case atStart => exact ⟨0, Nat.zero_le _, rfl⟩
  case' round => skip
  obtain ⟨j, hj', rfl⟩ := hrel
  by_cases hj : j < R.t3.length
  · have hjI : (j : Int) < (R.t3.length : Int) := by omega
    go_wp2
    go_round
    case rel => exact ⟨j + 1, by omega, by go_num⟩
    case measure => simp [intOf]; omega
  have hjI : ¬ (j : Int) < (R.t3.length : Int) := by omega
  clear hj hj'
  rcases h.r1.shape (fun _ => rfl) with ⟨e, e0⟩ | ⟨g, cap, cur, hvk, hg, hgl, hle, hcm, hc⟩
  · rw [e0] at hk; simp at hk
  rw [hv1.symm.trans hvk] at c1
  have hk1 : (k : Int) < (R.t1.length : Int) := by omega
  have hk2 : (R.t1.length : Int) ≤ (cap : Int) := by omega
  have hk3 : (k : Int) ≤ (cap : Int) := by omega
  have hk4 : (k : Int) + 1 ≤ (cap : Int) := by omega
  have hk5 : (k : Int) + 1 ≤ (R.t1.length : Int) := by omega
  have F1 := hid (RowAt.from hc 0 k (by omega))
  rw [Nat.zero_mul, List.drop_zero] at F1
  have F2 := hid (RowAt.from hc (k + 1) (R.t1.length - (k + 1)) (by omega))
  rw [List.take_of_length_le (by simp)] at F2
  have hlk1 : ((R.t1.take k).flatMap cellsT).length = k * 3 := by rw [flatMap_length (enc := cellsT) (size := 3) (fun _ => rfl)]; simp; omega
  have hld1 : ((R.t1.drop (k + 1)).flatMap cellsT).length = (R.t1.length - (k + 1)) * 3 := by rw [flatMap_length (enc := cellsT) (size := 3) (fun _ => rfl)]; simp
  have O1 := hid (oneT (R.t1.take k))
  have O2 := hid (oneT (R.t1.drop (k + 1)))
  have Her := hid (show (R.t1.eraseIdx k).length = k + (R.t1.length - (k + 1)) ∧ (R.t1.eraseIdx k).flatMap cellsT = (R.t1.take k).flatMap cellsT ++ (R.t1.drop (k + 1)).flatMap cellsT from ⟨by rw [List.length_eraseIdx_of_lt hk]; omega, by rw [List.eraseIdx_eq_take_drop_succ, List.flatMap_append]⟩)
  clear hc hg
  go_upto_region 18 with (first
    | (at_builtin; refine wpList_append_own _ rfl _ _ 41 rfl w2.heap.size 76 i0 (.agg #[.int .i64 0, .int .i64 0, .int .i64 0]) 3 24 Tryz.underlying41 hi hz0 hz1 hz2 rfl (by decide) (.slice none 0 0) 0 [] rfl (World.ownsRow_nil _ _ _ _) ⟨g, 0, none⟩ k cap ((R.t1.take k).flatMap cellsT) rfl hlk1 F1.out O1.out (by unfold maxLen; omega) (by omega) (Nat.le_refl _) ?_; intro v1 w1 hrow1 hg1 _; simp only [Nat.zero_add, List.nil_append] at hrow1; obtain ⟨p1, cp1, rfl⟩ := ownsRow_shape hrow1; have hb1 : Below w2.heap.size w2 w1 := (Below.refl _ _).grown hg1 (Nat.le_refl _) (fun j hj => by cases hj); clear hlk1)
    | go_in)
  have ck1 := (h.below hb1).c1
  rw [hvk] at ck1
  have hrb1 := (h.below hb1).lt
  clear c1 c3 hjI
  have hjI : True := trivial
  by_cases hcap : cap = k + 1
  · have hx : R.t1.length = k + 1 := by omega
    subst hcap
    have hd0 : R.t1.drop (k + 1) = [] := List.drop_eq_nil_of_le (by omega)
    have hx0 : R.t1.length - (k + 1) = 0 := by omega
    rw [hd0, hx0] at Her
    have Hx := hid (And.intro hx hd0)
    clear hx hd0 F2 hld1
    go_wp2_with (first
      | (at_builtin; refine wpList_append_own _ rfl _ _ 41 rfl w2.heap.size 76 i0 (.agg #[.int .i64 0, .int .i64 0, .int .i64 0]) 3 24 Tryz.underlying41 hi hz0 hz1 hz2 rfl (by decide) _ _ _ rfl hrow1 ⟨g, 0, none⟩ 0 0 [] rfl rfl (by simp) (by simp) (by unfold maxLen; omega) (by omega) hb1.size ?_; intro v2 wB hrow2 hg2 _; have hrow3 : wB.ownsRow w2.heap.size 76 3 v2 (R.t1.eraseIdx k).length ((R.t1.eraseIdx k).flatMap cellsT) := (by rw [Her.out.1, Her.out.2]; simpa using hrow2); clear hrow2; have hb2 := hb1.grown hg2 hb1.size (fun j hj => (hrow1.lt j hj).1); have hs := hid (h.set_t1 (grown_of_below hb2 _) (own_zero hrow3) (Or.inr (fun n hn => (hrow3.lt n hn).1))); obtain ⟨p2, cp2, rfl⟩ := ownsRow_shape hrow3; have fK := (h.below hb2).fr 1; have cK := (h.below hb2).c1; have hrbB := (h.below hb2).lt; have Hrow3 := hid hrow3; clear hrow3 hrow1 hg2 hg1)
      | (go_at_call 64; refine (rforget_any hs.out.1 1 id hlw).mono ?_; rintro e w3 ⟨rfl, V3, h3, ho3⟩)
      | go_in)
    have st3 := hid (rchain hs.out.2 ho3)
    have h3ro : RowAt w3 3 1 cellsI V3.vo R.on := h3.ro
    obtain ⟨po, cpo, hvo⟩ := slice_of h3ro
    have c5 := h3.c5
    rw [hvo] at c5
    have hrb3 := h3.lt
    clear hs ho3 fK cK hrbB hb2 hb1 hjI
    have hzo := offTo_zero id R.on
    have hlo3 := Hlo.out.1
    have hlon : R.on.length ≤ 1000 := by omega
    go_loopg [11] R.on.length (fun gk i wr => ∃ j : Nat, j ≤ R.on.length ∧ R.on.length - j ≤ gk ∧ i = .int .i64 j ∧ RefAt wr rb V3 x7 x8 x9 x10 x11 { R with t1 := R.t1.eraseIdx k, ws := R.ws.filter (fun x => !goneW 1 id x), on := offTo id R.on j } ∧ Only (foot rb V3) w3 wr)
    case atStart => exact ⟨0, Nat.zero_le _, by omega, rfl, by rw [hzo]; exact h3, Only.of_below (Below.refl _ _)⟩
    case' round => skip
    obtain ⟨j, hj', hgk, rfl, hr, hO⟩ := hrel
    clear h3ro c5 hrb3 hzo
    obtain ⟨c5, hrb3⟩ : wr.cell? ⟨rb, 5, none⟩ = some V3.vo ∧ rb < wr.heap.size := ⟨hr.c5, hr.lt⟩
    rw [hvo] at c5
    by_cases hj : j < R.on.length
    · have hjI : (j : Int) < (R.on.length : Int) := by omega
      have hsh := hr.ro.shape (fun _ => rfl)
      rcases hsh with ⟨e, e0⟩ | ⟨go, capo, curo, eo, _, hglo, _, _, hco⟩
      · have e0 : offTo id R.on j = [] := e0
        have : (offTo id R.on j).length = 0 := by rw [e0]; rfl
        rw [offTo_length] at this; omega
      have ee := hvo.symm.trans eo
      simp only [Value.slice.injEq] at ee
      obtain ⟨rfl, _, rfl⟩ := ee
      have q1 := (hco j 0 (by rw [offTo_length]; exact hj) (by decide)).1
      have q2 := (hco j 0 (by rw [offTo_length]; exact hj) (by decide)).2
      rw [offTo_at id R.on j j hj, if_neg (by omega)] at q1
      simp only [cellsI, List.getElem?_cons_zero, Nat.mul_one, Nat.add_zero] at q1 q2
      have hput := hid (hr.put_on (g := go) (cap := cpo) (by rw [hvo, offTo_length]) j (-1))
      have H3 := hid (And.intro hr hO)
      clear hco eo hr hO
      by_cases hnb : R.on[j] = id
      · have hnb' : (R.on[j] == id) = true := by simpa using hnb
        have hsx := offTo_succ id R.on j hj
        rw [show off id R.on[j] = -1 by simp [off, hnb]] at hsx
        have Hsx := hid (And.intro hsx hnb)
        clear hsx hnb
        go_wp2
        go_roundg (R.on.length - (j + 1))
        case measure => omega
        case rel =>
          refine ⟨j + 1, by omega, Nat.le_refl _, by go_num, ?_, H3.out.2.trans hput.out.2⟩
          rw [Hsx.out.1]
          exact hput.out.1
      · have hnb' : (R.on[j] == id) = false := by simpa using hnb
        have Hsx := hid (offTo_same id R.on j hj hnb)
        clear hnb
        go_wp2
        go_roundg (R.on.length - (j + 1))
        case measure => omega
        case rel =>
          refine ⟨j + 1, by omega, Nat.le_refl _, by go_num, ?_, H3.out.2⟩
          rw [Hsx.out]
          exact H3.out.1
    have hjI : ¬ (j : Int) < (R.on.length : Int) := by omega
    obtain rfl : j = R.on.length := by omega
    rw [offTo_all] at hr
    have H3 := hid (And.intro hr hO)
    clear hr hO
    go_wp2_with fail
    go_ret
    exact ⟨rfl, V3, H3.out.1, (rchain st3.out ⟨H3.out.2, fun b hb => Or.inl hb⟩)⟩

  · have hcap' : (k : Int) + 1 < (cap : Int) := by omega
    have hcapn : k + 1 < cap := by omega
    clear hcap
    go_wp2_with (first
      | (at_builtin; refine wpList_append_own _ rfl _ _ 41 rfl w2.heap.size 76 i0 (.agg #[.int .i64 0, .int .i64 0, .int .i64 0]) 3 24 Tryz.underlying41 hi hz0 hz1 hz2 rfl (by decide) _ _ _ rfl hrow1 ⟨g, (k + 1) * 3, none⟩ (R.t1.length - (k + 1)) (cap - (k + 1)) ((R.t1.drop (k + 1)).flatMap cellsT) rfl hld1 (fun j u hu => by rw [hb1.cell (p := (⟨g, (k + 1) * 3, none⟩ : Addr).add j) (by rw [Addr.add_lit]; exact hgl)]; exact F2.out j u hu) O2.out (by unfold maxLen; omega) (by omega) hb1.size ?_; intro v2 wB hrow2 hg2 _; have hrow3 : wB.ownsRow w2.heap.size 76 3 v2 (R.t1.eraseIdx k).length ((R.t1.eraseIdx k).flatMap cellsT) := (by rw [Her.out.1, Her.out.2]; exact hrow2); clear hrow2; have hb2 := hb1.grown hg2 hb1.size (fun j hj => (hrow1.lt j hj).1); have hs := hid (h.set_t1 (grown_of_below hb2 _) (own_zero hrow3) (Or.inr (fun n hn => (hrow3.lt n hn).1))); obtain ⟨p2, cp2, rfl⟩ := ownsRow_shape hrow3; have fK := (h.below hb2).fr 1; have cK := (h.below hb2).c1; have hrbB := (h.below hb2).lt; have Hrow3 := hid hrow3; clear hrow3 hrow1 hg2 hg1)
      | (go_at_call 64; refine (rforget_any hs.out.1 1 id hlw).mono ?_; rintro e w3 ⟨rfl, V3, h3, ho3⟩)
      | go_in)
    have st3 := hid (rchain hs.out.2 ho3)
    have h3ro : RowAt w3 3 1 cellsI V3.vo R.on := h3.ro
    obtain ⟨po, cpo, hvo⟩ := slice_of h3ro
    have c5 := h3.c5
    rw [hvo] at c5
    have hrb3 := h3.lt
    clear hs ho3 fK cK hrbB hb2 hb1 hjI
    have hzo := offTo_zero id R.on
    have hlo3 := Hlo.out.1
    have hlon : R.on.length ≤ 1000 := by omega
    go_loopg [11] R.on.length (fun gk i wr => ∃ j : Nat, j ≤ R.on.length ∧ R.on.length - j ≤ gk ∧ i = .int .i64 j ∧ RefAt wr rb V3 x7 x8 x9 x10 x11 { R with t1 := R.t1.eraseIdx k, ws := R.ws.filter (fun x => !goneW 1 id x), on := offTo id R.on j } ∧ Only (foot rb V3) w3 wr)
    case atStart => exact ⟨0, Nat.zero_le _, by omega, rfl, by rw [hzo]; exact h3, Only.of_below (Below.refl _ _)⟩
    case' round => skip
    obtain ⟨j, hj', hgk, rfl, hr, hO⟩ := hrel
    clear h3ro c5 hrb3 hzo
    obtain ⟨c5, hrb3⟩ : wr.cell? ⟨rb, 5, none⟩ = some V3.vo ∧ rb < wr.heap.size := ⟨hr.c5, hr.lt⟩
    rw [hvo] at c5
    by_cases hj : j < R.on.length
    · have hjI : (j : Int) < (R.on.length : Int) := by omega
      have hsh := hr.ro.shape (fun _ => rfl)
      rcases hsh with ⟨e, e0⟩ | ⟨go, capo, curo, eo, _, hglo, _, _, hco⟩
      · have e0 : offTo id R.on j = [] := e0
        have : (offTo id R.on j).length = 0 := by rw [e0]; rfl
        rw [offTo_length] at this; omega
      have ee := hvo.symm.trans eo
      simp only [Value.slice.injEq] at ee
      obtain ⟨rfl, _, rfl⟩ := ee
      have q1 := (hco j 0 (by rw [offTo_length]; exact hj) (by decide)).1
      have q2 := (hco j 0 (by rw [offTo_length]; exact hj) (by decide)).2
      rw [offTo_at id R.on j j hj, if_neg (by omega)] at q1
      simp only [cellsI, List.getElem?_cons_zero, Nat.mul_one, Nat.add_zero] at q1 q2
      have hput := hid (hr.put_on (g := go) (cap := cpo) (by rw [hvo, offTo_length]) j (-1))
      have H3 := hid (And.intro hr hO)
      clear hco eo hr hO
      by_cases hnb : R.on[j] = id
      · have hnb' : (R.on[j] == id) = true := by simpa using hnb
        have hsx := offTo_succ id R.on j hj
        rw [show off id R.on[j] = -1 by simp [off, hnb]] at hsx
        have Hsx := hid (And.intro hsx hnb)
        clear hsx hnb
        go_wp2
        go_roundg (R.on.length - (j + 1))
        case measure => omega
        case rel =>
          refine ⟨j + 1, by omega, Nat.le_refl _, by go_num, ?_, H3.out.2.trans hput.out.2⟩
          rw [Hsx.out.1]
          exact hput.out.1
      · have hnb' : (R.on[j] == id) = false := by simpa using hnb
        have Hsx := hid (offTo_same id R.on j hj hnb)
        clear hnb
        go_wp2
        go_roundg (R.on.length - (j + 1))
        case measure => omega
        case rel =>
          refine ⟨j + 1, by omega, Nat.le_refl _, by go_num, ?_, H3.out.2⟩
          rw [Hsx.out]
          exact H3.out.1
    have hjI : ¬ (j : Int) < (R.on.length : Int) := by omega
    obtain rfl : j = R.on.length := by omega
    rw [offTo_all] at hr
    have H3 := hid (And.intro hr hO)
    clear hr hO
    go_wp2_with fail
    go_ret
    exact ⟨rfl, V3, H3.out.1, (rchain st3.out ⟨H3.out.2, fun b hb => Or.inl hb⟩)⟩

end
end Go.Proofs.YtjdindfjfpdikaaGreat
