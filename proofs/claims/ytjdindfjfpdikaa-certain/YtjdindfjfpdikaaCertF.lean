import Derived.Test.YtjdindfjfpdikaaCertD
import Derived.Test.YtjdindfjfpdikaaCertE
import Derived.Test.YtjdindfjfpdikaaChkG
import Derived.Deep.RegionHeld
namespace Go.Proofs.Ytjdindfjfpdikaa
open Go.RowKit

def S0 (i : Nat) : Int := if i = 0 then 1 else -1
def A0 (i : Nat) : Ar := if i = 0 then ⟨0, 1, 1, 4⟩ else ⟨0, 1, 1, 5⟩
def two (a b : Int) (i : Nat) : Int := if i = 0 then a else b

theorem lt2 {i : Nat} (h : i < 2) : i = 0 ∨ i = 1 := by omega
theorem net0 : NetOk 2 2 S0 2 A0 := by
  refine ⟨by decide, rfl, by decide, fun i hi => ?_, fun i hi => ?_⟩
  · rcases lt2 hi with rfl | rfl <;> decide
  · rcases lt2 hi with rfl | rfl <;> simp [ArcOk, A0]
theorem flow0 : FlowOk 2 S0 2 A0 2 (two 1 0) := by
  refine ⟨rfl, fun i hi => ?_, fun v hv => ?_⟩
  · rcases lt2 hi with rfl | rfl <;> simp [A0, two]
  · rcases lt2 hv with rfl | rfl <;> simp [S0, A0, two, inn, out]
theorem flow1 : FlowOk 2 S0 2 A0 2 (two 0 1) := by
  refine ⟨rfl, fun i hi => ?_, fun v hv => ?_⟩
  · rcases lt2 hi with rfl | rfl <;> simp [A0, two]
  · rcases lt2 hv with rfl | rfl <;> simp [S0, A0, two, inn, out]
theorem flow2 : ¬ FlowOk 2 S0 2 A0 2 (two 1 1) := fun h => by
  have := h.2.2 0 (by decide)
  simp [S0, A0, two, inn, out] at this
theorem price0 : PriceOk 2 2 A0 (two 1 0) 2 (two 0 4) := by
  refine ⟨rfl, fun i hi => ?_, fun i hi => ?_⟩
  · rcases lt2 hi with rfl | rfl <;> decide
  · rcases lt2 hi with rfl | rfl <;> simp [PairOk, dd, A0, two]
theorem price1 : ¬ PriceOk 2 2 A0 (two 0 1) 2 (two 0 4) := fun h => by
  have := h.2.2 1 (by decide)
  simp [PairOk, dd, A0, two] at this

theorem ints2 {w : World} {b : Nat} {x y : Int} (h : w.heap[b]? = some (.cells #[.int .i64 x, .int .i64 y] 3)) : Ints w (some ⟨b, 0, none⟩) 2 (two x y) :=
  Or.inr ⟨b, 0, rfl, (Array.getElem?_eq_some_iff.1 h).1, fun i hi => by rcases lt2 hi with rfl | rfl <;> simp [World.cell?, h, two]⟩
theorem arcs2 {w : World} {b : Nat} (h : w.heap[b]? = some (.cells #[.int .i64 0, .int .i64 1, .int .i64 1, .int .i64 4, .int .i64 0, .int .i64 1, .int .i64 1, .int .i64 5] 37)) : Arcs w (some ⟨b, 0, none⟩) 2 A0 :=
  Or.inr ⟨b, 0, rfl, (Array.getElem?_eq_some_iff.1 h).1, fun i hi => by rcases lt2 hi with rfl | rfl <;> simp [World.cell?, h, A0]⟩
theorem two_S0 : two 1 (-1) = S0 := rfl

theorem flow_bound {A : Nat → Ar} {F : Nat → Int} {v : Nat} {c : Int} : ∀ la, (∀ i, i < la → 0 ≤ F i ∧ F i ≤ 3) → (0 ≤ inn A F v la ∧ inn A F v la ≤ 3 * (la : Int)) ∧ (0 ≤ out A F v la ∧ out A F v la ≤ 3 * (la : Int))
  | 0, _ => by simp [inn, out]
  | n + 1, h => by
    have h1 := flow_bound (A := A) (v := v) (c := c) n (fun i hi => h i (by omega))
    have h2 := h n (by omega)
    simp only [inn, out]
    constructor <;> constructor <;> split <;> omega

section
variable {w W : World} {N la sb fb rb pb g : Nat} {A : Nat → Ar} {F R P : Nat → Int}
theorem Made.arcOk (h : Made w W N la sb fb rb pb g A F R P) : ∀ i, i < la → ArcOk (N : Int) (A i) := fun i hi => by
  have := h.small i hi
  exact ⟨this.1, this.2.1, ⟨this.2.2.1.1, by have := this.2.2.1.2; omega⟩, by have := this.2.2.2.1; omega, by have := this.2.2.2.2; omega⟩
theorem Made.net (h : Made w W N la sb fb rb pb g A F R P) : NetOk N N (sup A F la) la A := by
  have h1 := h.nodes
  have h2 := h.arcsN
  refine ⟨by omega, rfl, by omega, fun v hv => ?_, h.arcOk⟩
  have := flow_bound (A := A) (F := F) (v := v) (c := 0) la (fun i hi => ⟨(h.capF i hi).1, by have h3 := (h.capF i hi).2; have h4 := (h.small i hi).2.2.1.2; omega⟩)
  unfold sup
  omega
theorem Made.flowOk (h : Made w W N la sb fb rb pb g A F R P) : FlowOk N (sup A F la) la A la F := ⟨rfl, h.capF, bal_iff.1 (fun _ _ => rfl)⟩
theorem Made.rivalOk (h : Made w W N la sb fb rb pb g A F R P) : FlowOk N (sup A F la) la A la R ↔ Bal N (sup A F la) la A R := ⟨fun q => q.2.2, fun q => ⟨rfl, h.capR, q⟩⟩
theorem Made.least (h : Made w W N la sb fb rb pb g A F R P) (hb : Bal N (sup A F la) la A R) (hp : PriceOk N la A F N P) : cost A F la ≤ cost A R la :=
  cost_least h.arcOk h.capF h.capR h.flowOk.2.2 hb hp.2.2
theorem Made.keep {W' : World} (h : Made w W N la sb fb rb pb g A F R P) (hb : Below W.heap.size W W') : Made w W' N la sb fb rb pb g A F R P :=
  ⟨beyond h.below hb, h.nodes, h.arcsN, h.small, h.arcs.below hb, h.flow.below hb, h.supply.below hb, h.rival.below hb, h.prices.below hb, h.capF, h.capR, h.capP⟩
end

/-- The first network lies in memory. -/
structure B3 (w W : World) : Prop where
  below : Below w.heap.size w W
  supply : W.heap[w.heap.size]? = some (.cells #[.int .i64 1, .int .i64 (-1)] 3)
  arcs : W.heap[w.heap.size + 1]? = some (.cells #[.int .i64 0, .int .i64 1, .int .i64 1, .int .i64 4, .int .i64 0, .int .i64 1, .int .i64 1, .int .i64 5] 37)
  net : W.heap[w.heap.size + 1 + 1]? = some (.cells #[.int .i64 2, .slice (some ⟨w.heap.size, 0, none⟩) 2 2, .slice (some ⟨w.heap.size + 1, 0, none⟩) 2 2] 40)

section
variable {w W W' : World}
theorem B3.lt (h : B3 w W) : w.heap.size + 1 + 1 < W.heap.size := (Array.getElem?_eq_some_iff.1 h.net).1
theorem B3.keep (h : B3 w W) (hb : Below W.heap.size W W') : B3 w W' := by
  have := h.lt
  exact ⟨beyond h.below hb, (hb.block _ (by omega)).trans h.supply, (hb.block _ (by omega)).trans h.arcs, (hb.block _ h.lt).trans h.net⟩
theorem B3.check (h : B3 w W) (x y : Int) : Calls Try.prog 20 #[.agg #[.int .i64 2, .slice (some ⟨w.heap.size, 0, none⟩) 2 2, .slice (some ⟨w.heap.size + 1, 0, none⟩) 2 2], .slice (some ⟨W.heap.size, 0, none⟩) 2 2, .slice (some ⟨W.heap.size + 1, 0, none⟩) 2 2] ((W.alloc (.cells #[.int .i64 x, .int .i64 y] 3)).alloc (.cells #[.int .i64 0, .int .i64 4] 3)) fun e w' => ∃ c, e = .returned (.int .i64 c) ∧ Hid (IsChk c 2 2 S0 2 A0 2 (two x y) 2 (two 0 4) ∧ B3 w w') := by
  have hb : Below W.heap.size W ((W.alloc (.cells #[.int .i64 x, .int .i64 y] 3)).alloc (.cells #[.int .i64 0, .int .i64 4] 3)) := ((Below.refl _ _).alloc (Nat.le_refl _) _).alloc (by simp) _
  have hk := h.keep hb
  have hf : ((W.alloc (.cells #[.int .i64 x, .int .i64 y] 3)).alloc (.cells #[.int .i64 0, .int .i64 4] 3)).heap[W.heap.size]? = some (.cells #[.int .i64 x, .int .i64 y] 3) := by
    rw [Below.heap_alloc _ _ _ (by simp)]
    exact heap_alloc_new W _
  have hp : ((W.alloc (.cells #[.int .i64 x, .int .i64 y] 3)).alloc (.cells #[.int .i64 0, .int .i64 4] 3)).heap[W.heap.size + 1]? = some (.cells #[.int .i64 0, .int .i64 4] 3) := by
    have := heap_alloc_new (W.alloc (.cells #[.int .i64 x, .int .i64 y] 3)) (.cells #[.int .i64 0, .int .i64 4] 3)
    simpa using this
  refine (check_any _ 2 _ _ _ _ 2 2 2 2 2 2 2 2 S0 A0 (two x y) (two 0 4) (ints2 hk.supply) (arcs2 hk.arcs) (ints2 hf) (ints2 hp)).mono ?_
  rintro e w' ⟨c, rfl, hc, hb'⟩
  exact ⟨c, rfl, hc, hk.keep hb'⟩
end

/-- The second network lies in memory. -/
structure B4 (w W : World) (nb N la sb fb rb pb g ca : Nat) (A : Nat → Ar) (F R P : Nat → Int) : Prop where
  made : Made w W N la sb fb rb pb g A F R P
  box : W.heap[nb]? = some (.cells #[.int .i64 N, .slice (some ⟨sb, 0, none⟩) N N, .slice (some ⟨g, 0, none⟩) la ca] 40)

section
variable {w W W' : World} {nb N la sb fb rb pb g ca : Nat} {A : Nat → Ar} {F R P : Nat → Int}
theorem B4.lt (h : B4 w W nb N la sb fb rb pb g ca A F R P) : nb < W.heap.size := (Array.getElem?_eq_some_iff.1 h.box).1
theorem B4.keep (h : B4 w W nb N la sb fb rb pb g ca A F R P) (hb : Below W.heap.size W W') : B4 w W' nb N la sb fb rb pb g ca A F R P := ⟨h.made.keep hb, (hb.block _ h.lt).trans h.box⟩
theorem B4.drew (h : B4 w W nb N la sb fb rb pb g ca A F R P) : B4 w W.drew nb N la sb fb rb pb g ca A F R P := h.keep (Below.refl _ _).drew
theorem B4.k0 (h : B4 w W nb N la sb fb rb pb g ca A F R P) : W.cell? ⟨nb, 0, none⟩ = some (.int .i64 N) := by simp [World.cell?, h.box]
theorem B4.k1 (h : B4 w W nb N la sb fb rb pb g ca A F R P) : W.cell? ⟨nb, 1, none⟩ = some (.slice (some ⟨sb, 0, none⟩) N N) := by simp [World.cell?, h.box]
theorem B4.k2 (h : B4 w W nb N la sb fb rb pb g ca A F R P) : W.cell? ⟨nb, 2, none⟩ = some (.slice (some ⟨g, 0, none⟩) la ca) := by simp [World.cell?, h.box]
theorem B4.check1 (h : B4 w W nb N la sb fb rb pb g ca A F R P) : Calls Try.prog 20 #[.agg #[.int .i64 N, .slice (some ⟨sb, 0, none⟩) N N, .slice (some ⟨g, 0, none⟩) la ca], .slice (some ⟨fb, 0, none⟩) la la, .slice (some ⟨pb, 0, none⟩) N N] W fun e w' => ∃ c, e = .returned (.int .i64 c) ∧ Hid (((c = 0 ∧ PriceOk N la A F N P) ∨ c = 10) ∧ B4 w w' nb N la sb fb rb pb g ca A F R P) := by
  refine (check_any _ N _ _ _ _ N N la ca la la N N (sup A F la) A F P h.made.supply.ints h.made.arcs h.made.flow.ints h.made.prices.ints).mono ?_
  rintro e w' ⟨c, rfl, hc, hb⟩
  refine ⟨c, rfl, ?_, h.keep hb⟩
  by_cases hp : PriceOk N la A F N P
  · exact Or.inl ⟨hc.ok h.made.net h.made.flowOk hp, hp⟩
  · exact Or.inr (hc.price h.made.net h.made.flowOk hp)
theorem B4.check2 (h : B4 w W nb N la sb fb rb pb g ca A F R P) : Calls Try.prog 20 #[.agg #[.int .i64 N, .slice (some ⟨sb, 0, none⟩) N N, .slice (some ⟨g, 0, none⟩) la ca], .slice (some ⟨rb, 0, none⟩) la la, .slice (some ⟨pb, 0, none⟩) N N] W fun e w' => ∃ c, e = .returned (.int .i64 c) ∧ Hid ((Bal N (sup A F la) la A R → c = 0 ∨ c = 10) ∧ (¬ Bal N (sup A F la) la A R → c = 9) ∧ B4 w w' nb N la sb fb rb pb g ca A F R P) := by
  refine (check_any _ N _ _ _ _ N N la ca la la N N (sup A F la) A R P h.made.supply.ints h.made.arcs h.made.rival.ints h.made.prices.ints).mono ?_
  rintro e w' ⟨c, rfl, hc, hb⟩
  refine ⟨c, rfl, fun hB => ?_, fun hB => hc.flow h.made.net (fun q => hB (h.made.rivalOk.1 q)), h.keep hb⟩
  have hf := h.made.rivalOk.2 hB
  by_cases hp : PriceOk N la A R N P
  · exact Or.inl (hc.ok h.made.net hf hp)
  · exact Or.inr (hc.price h.made.net hf hp)
theorem B4.flows (h : B4 w W nb N la sb fb rb pb g ca A F R P) : Calls Try.prog 22 #[.agg #[.int .i64 N, .slice (some ⟨sb, 0, none⟩) N N, .slice (some ⟨g, 0, none⟩) la ca], .slice (some ⟨rb, 0, none⟩) la la] W fun e w' => ∃ b, e = .returned (.bool b) ∧ Hid ((b = true ↔ Bal N (sup A F la) la A R) ∧ B4 w w' nb N la sb fb rb pb g ca A F R P) := by
  refine (flows_any _ _ _ _ N N la ca la (sup A F la) R A h.made.supply.ints h.made.arcs h.made.rival.ints h.made.nodes h.made.arcsN h.made.small h.made.capR).mono ?_
  rintro e w' ⟨⟨b, rfl, hb⟩, hb'⟩
  exact ⟨b, rfl, hb, h.keep hb'⟩
theorem B4.total1 (h : B4 w W nb N la sb fb rb pb g ca A F R P) : Calls Try.prog 23 #[.agg #[.int .i64 N, .slice (some ⟨sb, 0, none⟩) N N, .slice (some ⟨g, 0, none⟩) la ca], .slice (some ⟨fb, 0, none⟩) la la] W fun e w' => e = .returned (.int .i64 (cost A F la)) ∧ Hid (B4 w w' nb N la sb fb rb pb g ca A F R P) :=
  (total_any _ _ _ _ N N la ca la N F A h.made.arcs h.made.flow.ints h.made.arcsN h.made.small h.made.capF).mono fun _ _ ⟨he, hb⟩ => ⟨he, h.keep hb⟩
theorem B4.total2 (h : B4 w W nb N la sb fb rb pb g ca A F R P) : Calls Try.prog 23 #[.agg #[.int .i64 N, .slice (some ⟨sb, 0, none⟩) N N, .slice (some ⟨g, 0, none⟩) la ca], .slice (some ⟨rb, 0, none⟩) la la] W fun e w' => e = .returned (.int .i64 (cost A R la)) ∧ Hid (B4 w w' nb N la sb fb rb pb g ca A F R P) :=
  (total_any _ _ _ _ N N la ca la N R A h.made.arcs h.made.rival.ints h.made.arcsN h.made.small h.made.capR).mono fun _ _ ⟨he, hb⟩ => ⟨he, h.keep hb⟩
end

set_option maxRecDepth 100000 in
set_option maxHeartbeats 8000000 in
theorem certain_walk (w : World) (p : Option Addr) (len cap : Nat) (hc : ∀ W, Below w.heap.size w W → Codes W W.heap.size p len) (hlen : len < 1000000000000000) :
    Calls Try.prog 4 #[.slice p len cap] w fun e w' => e = .returned (.bool true) ∧ Below w.heap.size w w' := by
  obtain ⟨W3, hW3⟩ : ∃ W3, ((w.alloc (.cells #[.int .i64 1, .int .i64 (-1)] 3)).alloc (.cells #[.int .i64 0, .int .i64 1, .int .i64 1, .int .i64 4, .int .i64 0, .int .i64 1, .int .i64 1, .int .i64 5] 37)).alloc (.cells #[.int .i64 2, .slice (some ⟨w.heap.size, 0, none⟩) 2 2, .slice (some ⟨w.heap.size + 1, 0, none⟩) 2 2] 40) = W3 := ⟨_, rfl⟩
  have hB3 : B3 w W3 := by
    rw [← hW3]
    refine ⟨(((Below.refl _ _).alloc (Nat.le_refl _) _).alloc (by simp) _).alloc (by simp; omega) _, ?_, ?_, ?_⟩
    · rw [Below.heap_alloc _ _ _ (by simp; omega), Below.heap_alloc _ _ _ (by simp)]
      exact heap_alloc_new w _
    · rw [Below.heap_alloc _ _ _ (by simp)]
      have := heap_alloc_new (w.alloc (.cells #[.int .i64 1, .int .i64 (-1)] 3)) (.cells #[.int .i64 0, .int .i64 1, .int .i64 1, .int .i64 4, .int .i64 0, .int .i64 1, .int .i64 1, .int .i64 5] 37)
      simpa using this
    · have := heap_alloc_new ((w.alloc (.cells #[.int .i64 1, .int .i64 (-1)] 3)).alloc (.cells #[.int .i64 0, .int .i64 1, .int .i64 1, .int .i64 4, .int .i64 0, .int .i64 1, .int .i64 1, .int .i64 5] 37)) (.cells #[.int .i64 2, .slice (some ⟨w.heap.size, 0, none⟩) 2 2, .slice (some ⟨w.heap.size + 1, 0, none⟩) 2 2] 40)
      simpa using this
  have hz3 : W3.heap.size = w.heap.size + 1 + 1 + 1 := by rw [← hW3]; simp
  have A1 := hid' (hB3.check 1 0)
  rw [hz3] at A1
  have H3 := hid' (And.intro hW3 hz3)
  clear hW3 hz3 hB3
  have Hc := hid' hc
  clear hc
  go_enter Try.func4, Try.ntmps4
  go_wp2_with fail
  rw [H3.out.1]
  refine A1.out.mono ?_
  rintro e w1 ⟨c1, rfl, h1⟩
  clear A1 H3
  obtain rfl : c1 = 0 := h1.out.1.ok net0 flow0 price0
  have hB1 := h1.out.2
  have k := hB1.net
  have k0 := at_cells k 0
  have k1 := at_cells k 1
  have k2 := at_cells k 2
  simp only [List.getElem?_toArray, List.getElem?_cons_succ, List.getElem?_cons_zero] at k0 k1 k2
  have kl := hB1.lt
  have A2 := hid' (hB1.check 0 1)
  clear k h1 hB1
  go_wp2_with fail
  refine A2.out.mono ?_
  rintro e w2 ⟨c2, rfl, h2⟩
  clear A2 k0 k1 k2 kl
  obtain rfl : c2 = 10 := h2.out.1.price net0 flow1 price1
  have hB2 := h2.out.2
  have k := hB2.net
  have k0 := at_cells k 0
  have k1 := at_cells k 1
  have k2 := at_cells k 2
  simp only [List.getElem?_toArray, List.getElem?_cons_succ, List.getElem?_cons_zero] at k0 k1 k2
  have kl := hB2.lt
  have A3 := hid' (hB2.check 1 1)
  clear k h2 hB2
  go_wp2_with fail
  refine A3.out.mono ?_
  rintro e w3 ⟨c3, rfl, h3⟩
  clear A3 k0 k1 k2 kl
  obtain rfl : c3 = 9 := h3.out.1.flow net0 flow2
  have hb3 := h3.out.2.below
  have A4 := hid' (net_any w3 p len cap (Hc.out w3 hb3) hlen)
  have Hb3 := hid' hb3
  clear h3 hb3
  go_wp2_with fail
  refine A4.out.mono ?_
  rintro e w4 ⟨N, la, sb, fb, rb, pb, g, ca, A, F, R, P, rfl, hM⟩
  clear A4
  have hbx : Below w4.heap.size w4 (w4.alloc (.cells #[.int .i64 N, .slice (some ⟨sb, 0, none⟩) N N, .slice (some ⟨g, 0, none⟩) la ca] 40)) := (Below.refl _ _).alloc (Nat.le_refl _) _
  have hB4 : B4 w3 (w4.alloc (.cells #[.int .i64 N, .slice (some ⟨sb, 0, none⟩) N N, .slice (some ⟨g, 0, none⟩) la ca] 40)) w4.heap.size N la sb fb rb pb g ca A F R P := ⟨hM.keep hbx, heap_alloc_new w4 _⟩
  have A5 := hid' hB4.check1
  clear hM hbx hB4
  go_wp2_with fail
  refine A5.out.mono ?_
  rintro e w5 ⟨c5, rfl, h5⟩
  clear A5
  have hB5 := h5.out.2
  have k0 := hB5.k0
  have k1 := hB5.k1
  have k2 := hB5.k2
  have kl := hB5.lt
  have A6 := hid' hB5.check2
  have H5 := hid' h5.out.1
  clear h5 hB5
  go_wp2_with fail
  refine A6.out.mono ?_
  rintro e w6 ⟨c6, rfl, h6⟩
  clear A6 k0 k1 k2 kl
  have hB6 := h6.out.2.2
  have k0 := hB6.k0
  have k1 := hB6.k1
  have k2 := hB6.k2
  have kl := hB6.lt
  have A7 := hid' hB6.flows
  have H6 := hid' (And.intro h6.out.1 h6.out.2.1)
  clear h6 hB6
  go_wp2_with fail
  refine A7.out.mono ?_
  rintro e w7 ⟨b, rfl, h7⟩
  clear A7 k0 k1 k2 kl
  have hB7 := h7.out.2
  have k0 := hB7.k0
  have k1 := hB7.k1
  have k2 := hB7.k2
  have kl := hB7.lt
  have HB := hid' hB7
  have Hend : ∀ W', Below w7.heap.size w7 W' → Below w.heap.size w W' := fun W' hb => beyond Hb3.out (hB7.keep hb).made.below
  have HE := hid' Hend
  clear hB7 Hend
  cases b with
  | false =>
    have hno : ¬ Bal N (sup A F la) la A R := fun h => absurd (h7.out.1.2 h) (by simp)
    obtain rfl : c6 = 9 := H6.out.2 hno
    clear h7 H6 hno
    rcases H5.out with ⟨rfl, _⟩ | rfl
    · clear H5
      go_wp2_with fail
      go_quiet (fail)
      go_wp2_with fail
      go_ret
      exact ⟨rfl, HE.out _ (below_drewN (Below.refl _ _))⟩
    · clear H5
      go_wp2_with fail
      go_quiet (fail)
      go_wp2_with fail
      go_ret
      exact ⟨rfl, HE.out _ (below_drewN (Below.refl _ _))⟩
  | true =>
    have hyes : Bal N (sup A F la) la A R := h7.out.1.1 rfl
    have Hy := hid' hyes
    have H66 := hid' (H6.out.1 hyes)
    clear h7 H6 hyes
    rcases H5.out with ⟨rfl, hp⟩ | rfl
    · have hle := HB.out.made.least Hy.out hp
      have hd : decide (cost A F la ≤ cost A R la) = true := decide_eq_true hle
      have gx := HB.out.drew
      clear H5 hp hle Hy
      rcases H66.out with rfl | rfl
      · clear H66
        go_wp2_with fail
        have hS0 : (fun W' : World => W'.cell? ⟨w4.heap.size, 0, none⟩ = some (.int .i64 N) ∧ W'.cell? ⟨w4.heap.size, 1, none⟩ = some (.slice (some ⟨sb, 0, none⟩) N N) ∧ W'.cell? ⟨w4.heap.size, 2, none⟩ = some (.slice (some ⟨g, 0, none⟩) la ca)) w7.drew := ⟨gx.k0, gx.k1, gx.k2⟩
        refine wp_region_held_drew (S := fun W' : World => W'.cell? ⟨w4.heap.size, 0, none⟩ = some (.int .i64 N) ∧ W'.cell? ⟨w4.heap.size, 1, none⟩ = some (.slice (some ⟨sb, 0, none⟩) N N) ∧ W'.cell? ⟨w4.heap.size, 2, none⟩ = some (.slice (some ⟨g, 0, none⟩) la ca)) (by kernel_rfl) hS0 (fun _ => ?_)
        refine wpAnyH_take (i := 0) (v := ?_) rfl (by kernel_rfl) (by kernel_rfl) (by kernel_rfl) (fun _ _ _ h => h) (Or.inl ⟨by rfl, ?_⟩) hS0 ?_
        rotate_left 1
        · (rintro w ⟨e1, e2, e3⟩; go_simp; try with_reducible rfl)
        change wpAnyH _ _ _ _ _ _ _ (Act.put _ (some 80) _) _
        simp only [Act.put, List.setIfInBounds_toArray, List.set_cons_succ, List.set_cons_zero]
        refine wpAnyH_take (i := 1) (v := ?_) rfl (by kernel_rfl) (by kernel_rfl) (by kernel_rfl) (fun _ _ _ h => h) (Or.inl ⟨by rfl, ?_⟩) hS0 ?_
        rotate_left 1
        · (rintro w ⟨e1, e2, e3⟩; go_simp; try with_reducible rfl)
        change wpAnyH _ _ _ _ _ _ _ (Act.put _ (some 81) _) _
        simp only [Act.put, List.setIfInBounds_toArray, List.set_cons_succ, List.set_cons_zero]
        refine wpAnyH_take (i := 2) (v := ?_) rfl (by kernel_rfl) (by kernel_rfl) (by kernel_rfl) (fun _ _ _ h => h) (Or.inl ⟨by rfl, ?_⟩) hS0 ?_
        rotate_left 1
        · (rintro w ⟨e1, e2, e3⟩; go_simp; try with_reducible rfl)
        change wpAnyH _ _ _ _ _ _ _ (Act.put _ (some 82) _) _
        simp only [Act.put, List.setIfInBounds_toArray, List.set_cons_succ, List.set_cons_zero]
        refine wpAnyH_take (i := 3) (v := ?_) rfl (by kernel_rfl) (by kernel_rfl) (by kernel_rfl) (fun _ _ _ h => h) (Or.inl ⟨by rfl, ?_⟩) hS0 ?_
        rotate_left 1
        · (rintro w ⟨e1, e2, e3⟩; go_simp; try with_reducible rfl)
        change wpAnyH _ _ _ _ _ _ _ (Act.put _ (some 83) _) _
        simp only [Act.put, List.setIfInBounds_toArray, List.set_cons_succ, List.set_cons_zero]
        refine wpAnyH_take (i := 4) (v := ?_) rfl (by kernel_rfl) (by kernel_rfl) (by kernel_rfl) (fun _ _ _ h => h) (Or.inl ⟨by rfl, ?_⟩) hS0 ?_
        rotate_left 1
        · (rintro w ⟨e1, e2, e3⟩; go_simp; try with_reducible rfl)
        change wpAnyH _ _ _ _ _ _ _ (Act.put _ (some 84) _) _
        simp only [Act.put, List.setIfInBounds_toArray, List.set_cons_succ, List.set_cons_zero]
        refine wpAnyH_take (i := 5) (v := ?_) rfl (by kernel_rfl) (by kernel_rfl) (by kernel_rfl) (fun _ _ _ h => h) (Or.inl ⟨by rfl, ?_⟩) hS0 ?_
        rotate_left 1
        · (rintro w ⟨e1, e2, e3⟩; go_simp; try with_reducible rfl)
        change wpAnyH _ _ _ _ _ _ _ (Act.put _ (some 85) _) _
        simp only [Act.put, List.setIfInBounds_toArray, List.set_cons_succ, List.set_cons_zero]
        refine wpAnyH_take (i := 6) (v := ?_) rfl (by kernel_rfl) (by kernel_rfl) (by kernel_rfl) (fun _ _ _ h => h) (Or.inl ⟨by rfl, ?_⟩) hS0 ?_
        rotate_left 1
        · (rintro w ⟨e1, e2, e3⟩; go_simp; try with_reducible rfl)
        change wpAnyH _ _ _ _ _ _ _ (Act.put _ (some 86) _) _
        simp only [Act.put, List.setIfInBounds_toArray, List.set_cons_succ, List.set_cons_zero]
        refine wpAnyH_take (i := 7) (v := ?_) rfl (by kernel_rfl) (by kernel_rfl) (by kernel_rfl) (fun _ _ _ h => h) (Or.inl ⟨by rfl, ?_⟩) hS0 ?_
        rotate_left 1
        · (rintro w ⟨e1, e2, e3⟩; go_simp; try with_reducible rfl)
        change wpAnyH _ _ _ _ _ _ _ (Act.put _ (some 87) _) _
        simp only [Act.put, List.setIfInBounds_toArray, List.set_cons_succ, List.set_cons_zero]
        refine wpAnyH_take (i := 8) (v := ?_) rfl (by kernel_rfl) (by kernel_rfl) (by kernel_rfl) (fun _ _ _ h => h) (Or.inl ⟨by rfl, ?_⟩) hS0 ?_
        rotate_left 1
        · (rintro w ⟨e1, e2, e3⟩; go_simp; try with_reducible rfl)
        change wpAnyH _ _ _ _ _ _ _ (Act.put _ (some 88) _) _
        simp only [Act.put, List.setIfInBounds_toArray, List.set_cons_succ, List.set_cons_zero]
        refine wpAnyH_take (i := 10) (v := ?_) rfl (by kernel_rfl) (by kernel_rfl) (by kernel_rfl) (fun _ _ _ h => h) (Or.inl ⟨by rfl, ?_⟩) hS0 ?_
        rotate_left 1
        · (rintro w ⟨e1, e2, e3⟩; go_simp; try with_reducible rfl)
        change wpAnyH _ _ _ _ _ _ _ (Act.put _ (some 90) _) _
        simp only [Act.put, List.setIfInBounds_toArray, List.set_cons_succ, List.set_cons_zero]
        refine wpAnyH_take (i := 11) (v := ?_) rfl (by kernel_rfl) (by kernel_rfl) (by kernel_rfl) (fun _ _ _ h => h) (Or.inl ⟨by rfl, ?_⟩) hS0 ?_
        rotate_left 1
        · (rintro w ⟨e1, e2, e3⟩; go_simp; try with_reducible rfl)
        change wpAnyH _ _ _ _ _ _ _ (Act.put _ (some 91) _) _
        simp only [Act.put, List.setIfInBounds_toArray, List.set_cons_succ, List.set_cons_zero]
        refine wpAnyH_ready (rs := [9]) (by kernel_rfl) (by simp) ?_
        refine AllReadyH.cons rfl (fun K hK => ?_) AllReadyH.nil
        go_simp
        refine gx.total1.mono ?_
        rintro e wn ⟨rfl, hx⟩
        have gy := hx.out
        have hS1 : (fun W' : World => W'.cell? ⟨w4.heap.size, 0, none⟩ = some (.int .i64 N) ∧ W'.cell? ⟨w4.heap.size, 1, none⟩ = some (.slice (some ⟨sb, 0, none⟩) N N) ∧ W'.cell? ⟨w4.heap.size, 2, none⟩ = some (.slice (some ⟨g, 0, none⟩) la ca)) wn := ⟨gy.k0, gy.k1, gy.k2⟩
        refine hK.out _ _ hS1 (fun _ => ?_)
        clear hK K hx
        refine wpAnyH_ready (rs := [12]) (by kernel_rfl) (by simp) ?_
        refine AllReadyH.cons rfl (fun K hK => ?_) AllReadyH.nil
        go_simp
        refine gy.total2.mono ?_
        rintro e wn ⟨rfl, hx⟩
        have gz := hx.out
        have hS2 : (fun W' : World => W'.cell? ⟨w4.heap.size, 0, none⟩ = some (.int .i64 N) ∧ W'.cell? ⟨w4.heap.size, 1, none⟩ = some (.slice (some ⟨sb, 0, none⟩) N N) ∧ W'.cell? ⟨w4.heap.size, 2, none⟩ = some (.slice (some ⟨g, 0, none⟩) la ca)) wn := ⟨gz.k0, gz.k1, gz.k2⟩
        refine hK.out _ _ hS2 (fun _ => ?_)
        clear hK K hx
        refine wpAnyH_take (i := 13) (v := ?_) rfl (by kernel_rfl) (by kernel_rfl) (by kernel_rfl) (fun _ _ _ h => h) (Or.inl ⟨by rfl, ?_⟩) hS2 ?_
        rotate_left 1
        · (rintro w ⟨e1, e2, e3⟩; go_simp; try with_reducible rfl)
        change wpAnyH _ _ _ _ _ _ _ (Act.put _ (some 93) _) _
        simp only [Act.put, List.setIfInBounds_toArray, List.set_cons_succ, List.set_cons_zero]
        refine wpAnyH_take (i := 14) (v := ?_) rfl (by kernel_rfl) (by kernel_rfl) (by kernel_rfl) (fun _ _ _ h => h) (Or.inl ⟨by rfl, ?_⟩) hS2 ?_
        rotate_left 1
        · (rintro w ⟨e1, e2, e3⟩; go_simp; try with_reducible rfl)
        change wpAnyH _ _ _ _ _ _ _ (Act.put _ (some 94) _) _
        simp only [Act.put, List.setIfInBounds_toArray, List.set_cons_succ, List.set_cons_zero]
        refine wpAnyH_take (i := 15) (v := ?_) rfl (by kernel_rfl) (by kernel_rfl) (by kernel_rfl) (fun _ _ _ h => h) (Or.inl ⟨by rfl, ?_⟩) hS2 ?_
        rotate_left 1
        · (rintro w ⟨e1, e2, e3⟩; go_simp; try with_reducible rfl)
        change wpAnyH _ _ _ _ _ _ _ (Act.put _ (some 2) _) _
        simp only [Act.put, List.setIfInBounds_toArray, List.set_cons_succ, List.set_cons_zero]
        refine wpAnyH_done (by kernel_rfl) ?_ _
        go_wp2_with fail
        go_ret
        exact ⟨by first | rfl | (rw [hd]; rfl) | simp [hd], beyond Hb3.out gz.made.below⟩
      · clear H66
        go_wp2_with fail
        have hS0 : (fun W' : World => W'.cell? ⟨w4.heap.size, 0, none⟩ = some (.int .i64 N) ∧ W'.cell? ⟨w4.heap.size, 1, none⟩ = some (.slice (some ⟨sb, 0, none⟩) N N) ∧ W'.cell? ⟨w4.heap.size, 2, none⟩ = some (.slice (some ⟨g, 0, none⟩) la ca)) w7.drew := ⟨gx.k0, gx.k1, gx.k2⟩
        refine wp_region_held_drew (S := fun W' : World => W'.cell? ⟨w4.heap.size, 0, none⟩ = some (.int .i64 N) ∧ W'.cell? ⟨w4.heap.size, 1, none⟩ = some (.slice (some ⟨sb, 0, none⟩) N N) ∧ W'.cell? ⟨w4.heap.size, 2, none⟩ = some (.slice (some ⟨g, 0, none⟩) la ca)) (by kernel_rfl) hS0 (fun _ => ?_)
        refine wpAnyH_take (i := 0) (v := ?_) rfl (by kernel_rfl) (by kernel_rfl) (by kernel_rfl) (fun _ _ _ h => h) (Or.inl ⟨by rfl, ?_⟩) hS0 ?_
        rotate_left 1
        · (rintro w ⟨e1, e2, e3⟩; go_simp; try with_reducible rfl)
        change wpAnyH _ _ _ _ _ _ _ (Act.put _ (some 80) _) _
        simp only [Act.put, List.setIfInBounds_toArray, List.set_cons_succ, List.set_cons_zero]
        refine wpAnyH_take (i := 1) (v := ?_) rfl (by kernel_rfl) (by kernel_rfl) (by kernel_rfl) (fun _ _ _ h => h) (Or.inl ⟨by rfl, ?_⟩) hS0 ?_
        rotate_left 1
        · (rintro w ⟨e1, e2, e3⟩; go_simp; try with_reducible rfl)
        change wpAnyH _ _ _ _ _ _ _ (Act.put _ (some 81) _) _
        simp only [Act.put, List.setIfInBounds_toArray, List.set_cons_succ, List.set_cons_zero]
        refine wpAnyH_take (i := 2) (v := ?_) rfl (by kernel_rfl) (by kernel_rfl) (by kernel_rfl) (fun _ _ _ h => h) (Or.inl ⟨by rfl, ?_⟩) hS0 ?_
        rotate_left 1
        · (rintro w ⟨e1, e2, e3⟩; go_simp; try with_reducible rfl)
        change wpAnyH _ _ _ _ _ _ _ (Act.put _ (some 82) _) _
        simp only [Act.put, List.setIfInBounds_toArray, List.set_cons_succ, List.set_cons_zero]
        refine wpAnyH_take (i := 3) (v := ?_) rfl (by kernel_rfl) (by kernel_rfl) (by kernel_rfl) (fun _ _ _ h => h) (Or.inl ⟨by rfl, ?_⟩) hS0 ?_
        rotate_left 1
        · (rintro w ⟨e1, e2, e3⟩; go_simp; try with_reducible rfl)
        change wpAnyH _ _ _ _ _ _ _ (Act.put _ (some 83) _) _
        simp only [Act.put, List.setIfInBounds_toArray, List.set_cons_succ, List.set_cons_zero]
        refine wpAnyH_take (i := 4) (v := ?_) rfl (by kernel_rfl) (by kernel_rfl) (by kernel_rfl) (fun _ _ _ h => h) (Or.inl ⟨by rfl, ?_⟩) hS0 ?_
        rotate_left 1
        · (rintro w ⟨e1, e2, e3⟩; go_simp; try with_reducible rfl)
        change wpAnyH _ _ _ _ _ _ _ (Act.put _ (some 84) _) _
        simp only [Act.put, List.setIfInBounds_toArray, List.set_cons_succ, List.set_cons_zero]
        refine wpAnyH_take (i := 5) (v := ?_) rfl (by kernel_rfl) (by kernel_rfl) (by kernel_rfl) (fun _ _ _ h => h) (Or.inl ⟨by rfl, ?_⟩) hS0 ?_
        rotate_left 1
        · (rintro w ⟨e1, e2, e3⟩; go_simp; try with_reducible rfl)
        change wpAnyH _ _ _ _ _ _ _ (Act.put _ (some 85) _) _
        simp only [Act.put, List.setIfInBounds_toArray, List.set_cons_succ, List.set_cons_zero]
        refine wpAnyH_take (i := 6) (v := ?_) rfl (by kernel_rfl) (by kernel_rfl) (by kernel_rfl) (fun _ _ _ h => h) (Or.inl ⟨by rfl, ?_⟩) hS0 ?_
        rotate_left 1
        · (rintro w ⟨e1, e2, e3⟩; go_simp; try with_reducible rfl)
        change wpAnyH _ _ _ _ _ _ _ (Act.put _ (some 86) _) _
        simp only [Act.put, List.setIfInBounds_toArray, List.set_cons_succ, List.set_cons_zero]
        refine wpAnyH_take (i := 7) (v := ?_) rfl (by kernel_rfl) (by kernel_rfl) (by kernel_rfl) (fun _ _ _ h => h) (Or.inl ⟨by rfl, ?_⟩) hS0 ?_
        rotate_left 1
        · (rintro w ⟨e1, e2, e3⟩; go_simp; try with_reducible rfl)
        change wpAnyH _ _ _ _ _ _ _ (Act.put _ (some 87) _) _
        simp only [Act.put, List.setIfInBounds_toArray, List.set_cons_succ, List.set_cons_zero]
        refine wpAnyH_take (i := 8) (v := ?_) rfl (by kernel_rfl) (by kernel_rfl) (by kernel_rfl) (fun _ _ _ h => h) (Or.inl ⟨by rfl, ?_⟩) hS0 ?_
        rotate_left 1
        · (rintro w ⟨e1, e2, e3⟩; go_simp; try with_reducible rfl)
        change wpAnyH _ _ _ _ _ _ _ (Act.put _ (some 88) _) _
        simp only [Act.put, List.setIfInBounds_toArray, List.set_cons_succ, List.set_cons_zero]
        refine wpAnyH_take (i := 10) (v := ?_) rfl (by kernel_rfl) (by kernel_rfl) (by kernel_rfl) (fun _ _ _ h => h) (Or.inl ⟨by rfl, ?_⟩) hS0 ?_
        rotate_left 1
        · (rintro w ⟨e1, e2, e3⟩; go_simp; try with_reducible rfl)
        change wpAnyH _ _ _ _ _ _ _ (Act.put _ (some 90) _) _
        simp only [Act.put, List.setIfInBounds_toArray, List.set_cons_succ, List.set_cons_zero]
        refine wpAnyH_take (i := 11) (v := ?_) rfl (by kernel_rfl) (by kernel_rfl) (by kernel_rfl) (fun _ _ _ h => h) (Or.inl ⟨by rfl, ?_⟩) hS0 ?_
        rotate_left 1
        · (rintro w ⟨e1, e2, e3⟩; go_simp; try with_reducible rfl)
        change wpAnyH _ _ _ _ _ _ _ (Act.put _ (some 91) _) _
        simp only [Act.put, List.setIfInBounds_toArray, List.set_cons_succ, List.set_cons_zero]
        refine wpAnyH_ready (rs := [9]) (by kernel_rfl) (by simp) ?_
        refine AllReadyH.cons rfl (fun K hK => ?_) AllReadyH.nil
        go_simp
        refine gx.total1.mono ?_
        rintro e wn ⟨rfl, hx⟩
        have gy := hx.out
        have hS1 : (fun W' : World => W'.cell? ⟨w4.heap.size, 0, none⟩ = some (.int .i64 N) ∧ W'.cell? ⟨w4.heap.size, 1, none⟩ = some (.slice (some ⟨sb, 0, none⟩) N N) ∧ W'.cell? ⟨w4.heap.size, 2, none⟩ = some (.slice (some ⟨g, 0, none⟩) la ca)) wn := ⟨gy.k0, gy.k1, gy.k2⟩
        refine hK.out _ _ hS1 (fun _ => ?_)
        clear hK K hx
        refine wpAnyH_ready (rs := [12]) (by kernel_rfl) (by simp) ?_
        refine AllReadyH.cons rfl (fun K hK => ?_) AllReadyH.nil
        go_simp
        refine gy.total2.mono ?_
        rintro e wn ⟨rfl, hx⟩
        have gz := hx.out
        have hS2 : (fun W' : World => W'.cell? ⟨w4.heap.size, 0, none⟩ = some (.int .i64 N) ∧ W'.cell? ⟨w4.heap.size, 1, none⟩ = some (.slice (some ⟨sb, 0, none⟩) N N) ∧ W'.cell? ⟨w4.heap.size, 2, none⟩ = some (.slice (some ⟨g, 0, none⟩) la ca)) wn := ⟨gz.k0, gz.k1, gz.k2⟩
        refine hK.out _ _ hS2 (fun _ => ?_)
        clear hK K hx
        refine wpAnyH_take (i := 13) (v := ?_) rfl (by kernel_rfl) (by kernel_rfl) (by kernel_rfl) (fun _ _ _ h => h) (Or.inl ⟨by rfl, ?_⟩) hS2 ?_
        rotate_left 1
        · (rintro w ⟨e1, e2, e3⟩; go_simp; try with_reducible rfl)
        change wpAnyH _ _ _ _ _ _ _ (Act.put _ (some 93) _) _
        simp only [Act.put, List.setIfInBounds_toArray, List.set_cons_succ, List.set_cons_zero]
        refine wpAnyH_take (i := 14) (v := ?_) rfl (by kernel_rfl) (by kernel_rfl) (by kernel_rfl) (fun _ _ _ h => h) (Or.inl ⟨by rfl, ?_⟩) hS2 ?_
        rotate_left 1
        · (rintro w ⟨e1, e2, e3⟩; go_simp; try with_reducible rfl)
        change wpAnyH _ _ _ _ _ _ _ (Act.put _ (some 94) _) _
        simp only [Act.put, List.setIfInBounds_toArray, List.set_cons_succ, List.set_cons_zero]
        refine wpAnyH_take (i := 15) (v := ?_) rfl (by kernel_rfl) (by kernel_rfl) (by kernel_rfl) (fun _ _ _ h => h) (Or.inl ⟨by rfl, ?_⟩) hS2 ?_
        rotate_left 1
        · (rintro w ⟨e1, e2, e3⟩; go_simp; try with_reducible rfl)
        change wpAnyH _ _ _ _ _ _ _ (Act.put _ (some 2) _) _
        simp only [Act.put, List.setIfInBounds_toArray, List.set_cons_succ, List.set_cons_zero]
        refine wpAnyH_done (by kernel_rfl) ?_ _
        go_wp2_with fail
        go_ret
        exact ⟨by first | rfl | (rw [hd]; rfl) | simp [hd], beyond Hb3.out gz.made.below⟩
    · clear H5 Hy
      rcases H66.out with rfl | rfl
      · clear H66
        go_wp2_with fail
        go_quiet (fail)
        go_wp2_with fail
        go_ret
        exact ⟨rfl, HE.out _ (below_drewN (Below.refl _ _))⟩
      · clear H66
        go_wp2_with fail
        go_quiet (fail)
        go_wp2_with fail
        go_ret
        exact ⟨rfl, HE.out _ (below_drewN (Below.refl _ _))⟩
end Go.Proofs.Ytjdindfjfpdikaa
