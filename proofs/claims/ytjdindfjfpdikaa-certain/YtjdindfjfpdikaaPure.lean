import Derived.WalkKit
namespace Go.Proofs.Ytjdindfjfpdikaa

/-- An arc. -/
structure Ar where
  f : Int
  t : Int
  c : Int
  k : Int

def ArcOk (N : Int) (a : Ar) : Prop := (0 ≤ a.f ∧ a.f < N) ∧ (0 ≤ a.t ∧ a.t < N) ∧ (0 ≤ a.c ∧ a.c ≤ 1000) ∧ (-10000 ≤ a.k ∧ a.k ≤ 10000)
/-- A network that may be. -/
def NetOk (N : Int) (ls : Nat) (S : Nat → Int) (la : Nat) (A : Nat → Ar) : Prop :=
  (0 ≤ N ∧ N ≤ 60) ∧ (ls : Int) = N ∧ la ≤ 600 ∧ (∀ i, i < ls → -1000 ≤ S i ∧ S i ≤ 1000) ∧ ∀ i, i < la → ArcOk N (A i)

/-- What flows into a node, and out of it, on the first arcs. -/
def inn (A : Nat → Ar) (F : Nat → Int) (v : Nat) : Nat → Int
  | 0 => 0
  | n + 1 => inn A F v n + (if (A n).t = (v : Int) then F n else 0)
def out (A : Nat → Ar) (F : Nat → Int) (v : Nat) : Nat → Int
  | 0 => 0
  | n + 1 => out A F v n + (if (A n).f = (v : Int) then F n else 0)

def Caps (la : Nat) (A : Nat → Ar) (F : Nat → Int) : Prop := ∀ i, i < la → 0 ≤ F i ∧ F i ≤ (A i).c
def Bal (ls : Nat) (S : Nat → Int) (la : Nat) (A : Nat → Ar) (F : Nat → Int) : Prop := ∀ v, v < ls → S v + inn A F v la = out A F v la
def FlowOk (ls : Nat) (S : Nat → Int) (la : Nat) (A : Nat → Ar) (lf : Nat) (F : Nat → Int) : Prop :=
  lf = la ∧ Caps la A F ∧ Bal ls S la A F

def dd (P : Nat → Int) (a : Ar) : Int := a.k + P a.f.toNat - P a.t.toNat
def PairOk (P : Nat → Int) (a : Ar) (x : Int) : Prop := ¬ (dd P a < 0 ∧ x < a.c) ∧ ¬ (0 < dd P a ∧ 0 < x)
def PriceOk (N : Int) (la : Nat) (A : Nat → Ar) (F : Nat → Int) (lp : Nat) (P : Nat → Int) : Prop :=
  (lp : Int) = N ∧ (∀ i, i < lp → -1000000 ≤ P i ∧ P i ≤ 1000000) ∧ ∀ i, i < la → PairOk P (A i) (F i)

/-- What Check answers. -/
structure IsChk (e : Int) (N : Int) (ls : Nat) (S : Nat → Int) (la : Nat) (A : Nat → Ar) (lf : Nat) (F : Nat → Int) (lp : Nat) (P : Nat → Int) : Prop where
  net : ¬ NetOk N ls S la A → e = 8
  flow : NetOk N ls S la A → ¬ FlowOk ls S la A lf F → e = 9
  price : NetOk N ls S la A → FlowOk ls S la A lf F → ¬ PriceOk N la A F lp P → e = 10
  ok : NetOk N ls S la A → FlowOk ls S la A lf F → PriceOk N la A F lp P → e = 0

theorem IsChk.same {e e' N : Int} {ls : Nat} {S : Nat → Int} {la : Nat} {A : Nat → Ar} {lf : Nat} {F : Nat → Int} {lp : Nat} {P : Nat → Int} (h : IsChk e N ls S la A lf F lp P) (h' : IsChk e' N ls S la A lf F lp P) : e = e' := by
  by_cases h1 : NetOk N ls S la A
  · by_cases h2 : FlowOk ls S la A lf F
    · by_cases h3 : PriceOk N la A F lp P
      · rw [h.ok h1 h2 h3, h'.ok h1 h2 h3]
      · rw [h.price h1 h2 h3, h'.price h1 h2 h3]
    · rw [h.flow h1 h2, h'.flow h1 h2]
  · rw [h.net h1, h'.net h1]

theorem inn_bound {A : Nat → Ar} {F : Nat → Int} {v la : Nat} (h : ∀ i, i < la → 0 ≤ F i ∧ F i ≤ 1000) : 0 ≤ inn A F v la ∧ inn A F v la ≤ 1000 * la := by
  induction la with
  | zero => simp [inn]
  | succ n ih =>
    have h1 := ih (fun i hi => h i (by omega))
    have h2 := h n (by omega)
    simp only [inn]
    split <;> omega
theorem out_bound {A : Nat → Ar} {F : Nat → Int} {v la : Nat} (h : ∀ i, i < la → 0 ≤ F i ∧ F i ≤ 1000) : 0 ≤ out A F v la ∧ out A F v la ≤ 1000 * la := by
  induction la with
  | zero => simp [out]
  | succ n ih =>
    have h1 := ih (fun i hi => h i (by omega))
    have h2 := h n (by omega)
    simp only [out]
    split <;> omega

/-- Sums. -/
def sumN (g : Nat → Int) : Nat → Int
  | 0 => 0
  | n + 1 => sumN g n + g n
theorem sumN_add (g h : Nat → Int) (n : Nat) : sumN (fun i => g i + h i) n = sumN g n + sumN h n := by
  induction n with
  | zero => rfl
  | succ n ih => simp only [sumN, ih]; omega
theorem sumN_sub (g h : Nat → Int) (n : Nat) : sumN (fun i => g i - h i) n = sumN g n - sumN h n := by
  induction n with
  | zero => rfl
  | succ n ih => simp only [sumN, ih]; omega
theorem sumN_congr {g h : Nat → Int} {n : Nat} (e : ∀ i, i < n → g i = h i) : sumN g n = sumN h n := by
  induction n with
  | zero => rfl
  | succ n ih => simp only [sumN]; rw [ih (fun i hi => e i (by omega)), e n (by omega)]
theorem sumN_zero (n : Nat) : sumN (fun _ => 0) n = 0 := by
  induction n with
  | zero => rfl
  | succ n ih => simp only [sumN, ih]; rfl
theorem sumN_one (p : Nat → Int) (x : Int) (f N : Nat) (hf : f < N) : sumN (fun v => p v * (if (f : Int) = (v : Int) then x else 0)) N = p f * x := by
  induction N with
  | zero => omega
  | succ n ih =>
    simp only [sumN]
    by_cases e : f = n
    · subst e
      rw [sumN_congr (h := fun _ => 0) (fun i hi => by rw [if_neg (by omega)]; simp), sumN_zero]
      simp
    · rw [ih (by omega), if_neg (by omega)]
      simp
theorem sumN_le {g h : Nat → Int} {n : Nat} (e : ∀ i, i < n → g i ≤ h i) : sumN g n ≤ sumN h n := by
  induction n with
  | zero => exact Int.le_refl _
  | succ n ih =>
    have h1 := ih (fun i hi => e i (by omega))
    have h2 := e n (by omega)
    simp only [sumN]
    omega

theorem sum_out (A : Nat → Ar) (F p : Nat → Int) (N la : Nat) (h : ∀ i, i < la → 0 ≤ (A i).f ∧ (A i).f < (N : Int)) :
    sumN (fun i => F i * p (A i).f.toNat) la = sumN (fun v => p v * out A F v la) N := by
  induction la with
  | zero =>
    simp only [sumN, out]
    rw [sumN_congr (h := fun _ => 0) (fun i _ => by simp), sumN_zero]
  | succ n ih =>
    obtain ⟨h1, h2⟩ := h n (by omega)
    simp only [sumN, out]
    rw [ih (fun i hi => h i (by omega)), sumN_congr (g := fun v => p v * (out A F v n + _)) (h := fun v => p v * out A F v n + p v * (if (((A n).f.toNat : Nat) : Int) = (v : Int) then F n else 0)) (fun i _ => by rw [Int.mul_add, Int.toNat_of_nonneg h1]), sumN_add, sumN_one p _ _ N (by omega), Int.mul_comm]
theorem sum_inn (A : Nat → Ar) (F p : Nat → Int) (N la : Nat) (h : ∀ i, i < la → 0 ≤ (A i).t ∧ (A i).t < (N : Int)) :
    sumN (fun i => F i * p (A i).t.toNat) la = sumN (fun v => p v * inn A F v la) N := by
  induction la with
  | zero =>
    simp only [sumN, inn]
    rw [sumN_congr (h := fun _ => 0) (fun i _ => by simp), sumN_zero]
  | succ n ih =>
    obtain ⟨h1, h2⟩ := h n (by omega)
    simp only [sumN, inn]
    rw [ih (fun i hi => h i (by omega)), sumN_congr (g := fun v => p v * (inn A F v n + _)) (h := fun v => p v * inn A F v n + p v * (if (((A n).t.toNat : Nat) : Int) = (v : Int) then F n else 0)) (fun i _ => by rw [Int.mul_add, Int.toNat_of_nonneg h1]), sumN_add, sumN_one p _ _ N (by omega), Int.mul_comm]

/-- What a flow costs. -/
def cost (A : Nat → Ar) (F : Nat → Int) (la : Nat) : Int := sumN (fun i => F i * (A i).k) la

theorem cost_dd (A : Nat → Ar) (F S p : Nat → Int) (N la : Nat) (h : ∀ i, i < la → ArcOk N (A i)) (hb : Bal N S la A F) :
    sumN (fun i => F i * dd p (A i)) la = cost A F la + sumN (fun v => p v * S v) N := by
  have e1 : sumN (fun i => F i * dd p (A i)) la = sumN (fun i => (F i * (A i).k + F i * p (A i).f.toNat) - F i * p (A i).t.toNat) la :=
    sumN_congr (fun i _ => by simp only [dd]; rw [Int.mul_sub, Int.mul_add])
  have e2 : sumN (fun v => p v * S v) N = sumN (fun v => p v * out A F v la - p v * inn A F v la) N :=
    sumN_congr (fun v hv => by rw [← Int.mul_sub, ← hb v hv]; congr 1; omega)
  rw [e1, sumN_sub, sumN_add, sum_out A F p N la (fun i hi => (h i hi).1), sum_inn A F p N la (fun i hi => (h i hi).2.1), e2, sumN_sub]
  unfold cost
  omega

/-- P10. -/
theorem cost_least {N : Nat} {S : Nat → Int} {la : Nat} {A : Nat → Ar} {F G p : Nat → Int} (h : ∀ i, i < la → ArcOk N (A i)) (hF : Caps la A F) (hG : Caps la A G) (bF : Bal N S la A F) (bG : Bal N S la A G) (hp : ∀ i, i < la → PairOk p (A i) (F i)) : cost A F la ≤ cost A G la := by
  have e1 := cost_dd A F S p N la h bF
  have e2 := cost_dd A G S p N la h bG
  have e3 : sumN (fun i => F i * dd p (A i)) la ≤ sumN (fun i => G i * dd p (A i)) la := by
    refine sumN_le (fun i hi => ?_)
    obtain ⟨h1, h2⟩ := hp i hi
    have hf := hF i hi
    have hg := hG i hi
    rcases Int.lt_trichotomy (dd p (A i)) 0 with hd | hd | hd
    · have : F i = (A i).c := by have := fun q => h1 ⟨hd, q⟩; omega
      exact Int.mul_le_mul_of_nonpos_right (by omega) (by omega)
    · rw [hd]; simp
    · have : F i = 0 := by have := fun q => h2 ⟨hd, q⟩; omega
      exact Int.mul_le_mul_of_nonneg_right (by omega) (by omega)
  omega
end Go.Proofs.Ytjdindfjfpdikaa
