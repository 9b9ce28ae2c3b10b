import Derived.Test.YtjdindfjfpdikabB00
import Derived.Test.YtjdindfjfpdikabPre
set_option maxRecDepth 100000
set_option maxHeartbeats 8000000
namespace Go.Proofs.Ytjdindfjfpdikab
section
open Go.RowKit
def prefOf (l0:Things)(task kind id cost:Int):Int :=
 if (get (3,task) l0).isSome then (if kind=1∨kind=0 then (if (get (kind,id) l0).isSome then (if costB cost then 0 else 5) else 4) else 7) else 4
def prefTo (l0:Things)(l3:Prefs)(task kind id cost:Int):Prefs:=if prefOf l0 task kind id cost=0 then put ((3,task),(kind,id)) cost l3 else l3
theorem box4 {w w3:World}{x1 x2 x3 x4:Value}(h:Below (w.alloc (.cells #[x1,x2,x3,x4] 109)).heap.size (w.alloc (.cells #[x1,x2,x3,x4] 109)) w3) :
  w3.cell? ⟨w.heap.size,0,none⟩=some x1∧w3.cell? ⟨w.heap.size,1,none⟩=some x2∧w3.cell? ⟨w.heap.size,2,none⟩=some x3∧w3.cell? ⟨w.heap.size,3,none⟩=some x4:=by
 have e1:∀ i,w3.cell? ⟨w.heap.size,i,none⟩=#[x1,x2,x3,x4][i]?:=fun i=>by
  rw [h.cell (p:=⟨w.heap.size,i,none⟩) (by simp),World.cell?_alloc_at _ _ _ _ rfl]
 exact ⟨by rw [e1]; rfl,by rw [e1]; rfl,by rw [e1]; rfl,by rw [e1]; rfl⟩
section
variable {w:World}{pb b0 b1 b2 b3:Nat}{l0:Things}{l1:Runs}{l2:Waits}{l3:Prefs}
theorem prefer_a (h:PlanAt w pb b0 b1 b2 b3 l0 l1 l2 l3)(task kind id cost:Int)(hg:get (3,task) l0=none) :
  Calls Try.prog 36 #[.pointer (some ⟨pb,0,none⟩),.int .i64 task,.int .i64 kind,.int .i64 id,.int .i64 cost] w fun e w'=>e=.returned (.int .i64 4)∧Below w.heap.size w w':=by
 have hp1:=h.alloc (.cells #[.int .i64 3,.int .i64 task,.int .i64 kind,.int .i64 id] 109)
 have hb1:Below w.heap.size w (w.alloc (.cells #[.int .i64 3,.int .i64 task,.int .i64 kind,.int .i64 id] 109)):=(Jd _ _).alloc (Jb _) _
 go_enter Try.func36,Try.ntmps36
 go_wp2_with (go_at_call 35; refine (has_any hp1 3 task).mono ?_; rw [hg]; rintro e w2 ⟨rfl,hb2⟩)
 go_ret
 exact ⟨rfl,next2 hb1 hb2⟩
theorem prefer_b (h:PlanAt w pb b0 b1 b2 b3 l0 l1 l2 l3)(task kind id cost:Int)(hg:(get (3,task) l0).isSome=true)(hk1:kind≠1)(hk0:kind≠0) :
  Calls Try.prog 36 #[.pointer (some ⟨pb,0,none⟩),.int .i64 task,.int .i64 kind,.int .i64 id,.int .i64 cost] w fun e w'=>e=.returned (.int .i64 7)∧Below w.heap.size w w':=by
 have hp1:=h.alloc (.cells #[.int .i64 3,.int .i64 task,.int .i64 kind,.int .i64 id] 109)
 have hb1:Below w.heap.size w (w.alloc (.cells #[.int .i64 3,.int .i64 task,.int .i64 kind,.int .i64 id] 109)):=(Jd _ _).alloc (Jb _) _
 have hd1:(kind != 1)=true:=by simpa using hk1
 have hd0:(kind != 0)=true:=by simpa using hk0
 have Hg:=hid hg
 clear hg hk1 hk0
 go_enter Try.func36,Try.ntmps36
 go_wp2_with (go_at_call 35; refine (has_any hp1 3 task).mono ?_; rw [Hg.out]; rintro e w2 ⟨rfl,hb2⟩; obtain ⟨k1,k2,k3,k4⟩:=box4 hb2)
 go_ret
 exact ⟨rfl,next2 hb1 hb2⟩
theorem prefer_c0 (h:PlanAt w pb b0 b1 b2 b3 l0 l1 l2 l3)(task id cost:Int)(hg:(get (3,task) l0).isSome=true)(hq:(get (0,id) l0).isSome=false) :
  Calls Try.prog 36 #[.pointer (some ⟨pb,0,none⟩),.int .i64 task,.int .i64 0,.int .i64 id,.int .i64 cost] w fun e w'=>e=.returned (.int .i64 4)∧Below w.heap.size w w':=by
 have hp1:=h.alloc (.cells #[.int .i64 3,.int .i64 task,.int .i64 0,.int .i64 id] 109)
 have hb1:Below w.heap.size w (w.alloc (.cells #[.int .i64 3,.int .i64 task,.int .i64 0,.int .i64 id] 109)):=(Jd _ _).alloc (Jb _) _
 have Hg:=hid hg
 clear hg
 have Hq:=hid hq
 clear hq
 go_enter Try.func36,Try.ntmps36
 go_wp2_with fail
 refine (has_any hp1 3 task).mono ?_
 rw [Hg.out]
 rintro e w2 ⟨rfl,hb2⟩
 obtain ⟨k1,k2,k3,k4⟩:=box4 hb2
 go_wp2_with fail
 refine (has_any (hp1.below hb2) 0 id).mono ?_
 rw [Hq.out]
 rintro e w3 ⟨rfl,hb3⟩
 go_wp2
 go_ret
 exact ⟨rfl,next2 (next2 hb1 hb2) hb3⟩
theorem prefer_d0 (h:PlanAt w pb b0 b1 b2 b3 l0 l1 l2 l3)(task id cost:Int)(hg:(get (3,task) l0).isSome=true)(hq:(get (0,id) l0).isSome=true)(hc:costB cost=false) :
  Calls Try.prog 36 #[.pointer (some ⟨pb,0,none⟩),.int .i64 task,.int .i64 0,.int .i64 id,.int .i64 cost] w fun e w'=>e=.returned (.int .i64 5)∧Below w.heap.size w w':=by
 have hp1:=h.alloc (.cells #[.int .i64 3,.int .i64 task,.int .i64 0,.int .i64 id] 109)
 have hb1:Below w.heap.size w (w.alloc (.cells #[.int .i64 3,.int .i64 task,.int .i64 0,.int .i64 id] 109)):=(Jd _ _).alloc (Jb _) _
 have Hg:=hid hg
 clear hg
 have Hq:=hid hq
 have Hc:=hid hc
 clear hq hc
 go_enter Try.func36,Try.ntmps36
 go_wp2_with fail
 refine (has_any hp1 3 task).mono ?_
 rw [Hg.out]
 rintro e w2 ⟨rfl,hb2⟩
 obtain ⟨k1,k2,k3,k4⟩:=box4 hb2
 go_wp2_with fail
 refine (has_any (hp1.below hb2) 0 id).mono ?_
 rw [Hq.out]
 rintro e w3 ⟨rfl,hb3⟩
 go_wp2_with fail
 refine (isCost_any cost _).mono ?_
 rw [Hc.out]
 rintro e w4 ⟨rfl,rfl⟩
 go_wp2
 go_ret
 exact ⟨rfl,next2 (next2 hb1 hb2) hb3⟩
theorem prefer_e0 (h:PlanAt w pb b0 b1 b2 b3 l0 l1 l2 l3)(task id cost:Int)(hg:(get (3,task) l0).isSome=true)(hq:(get (0,id) l0).isSome=true)(hc:costB cost=true) :
  Calls Try.prog 36 #[.pointer (some ⟨pb,0,none⟩),.int .i64 task,.int .i64 0,.int .i64 id,.int .i64 cost] w fun e w'=>e=.returned (.int .i64 0)∧PlanAt w' pb b0 b1 b2 b3 l0 l1 l2 (put ((3,task),(0,id)) cost l3)∧Only [b0,b1,b2,b3] w w':=by
 have hp1:=h.alloc (.cells #[.int .i64 3,.int .i64 task,.int .i64 0,.int .i64 id] 109)
 have hb1:Below w.heap.size w (w.alloc (.cells #[.int .i64 3,.int .i64 task,.int .i64 0,.int .i64 id] 109)):=(Jd _ _).alloc (Jb _) _
 have Hg:=hid hg
 clear hg
 have Hq:=hid hq
 have Hc:=hid hc
 clear hq hc
 go_enter Try.func36,Try.ntmps36
 go_wp2_with fail
 refine (has_any hp1 3 task).mono ?_
 rw [Hg.out]
 rintro e w2 ⟨rfl,hb2⟩
 obtain ⟨k1,k2,k3,k4⟩:=box4 hb2
 go_wp2_with fail
 refine (has_any (hp1.below hb2) 0 id).mono ?_
 rw [Hq.out]
 rintro e w3 ⟨rfl,hb3⟩
 go_wp2_with fail
 refine (isCost_any cost _).mono ?_
 rw [Hc.out]
 rintro e w4 ⟨rfl,rfl⟩
 obtain ⟨k5,k6,k7,k8⟩:=box4 (next2 hb2 hb3)
 have k9:=((hp1.below hb2).below hb3).c3
 have hu:(Instr.mapUpdate 72 (.map (some b3)) (.agg #[.int .i64 3,.int .i64 task,.int .i64 0,.int .i64 id]) (.int .i64 cost)).run Try.prog w4.drew=.ok () (upd Try.prog 72 b3 (wv ((3,task),(0,id))) (iv cost) w4.drew):=(run_put kt86 Try.underlying72 ((hp1.below hb2).below hb3).m3.drew ((3,task),(0,id)) cost).1
 go_wp2
 go_region
 all_goals
  go_wp2
  go_ret
  have hq:=((hp1.below hb2).below hb3).drew.put3 ((3,task),(0,id)) cost
  exact ⟨rfl,hq.1,((Only.of_below (next2 (next2 hb1 hb2) hb3)).drew).trans hq.2⟩
theorem prefer_c1 (h:PlanAt w pb b0 b1 b2 b3 l0 l1 l2 l3)(task id cost:Int)(hg:(get (3,task) l0).isSome=true)(hq:(get (1,id) l0).isSome=false) :
  Calls Try.prog 36 #[.pointer (some ⟨pb,0,none⟩),.int .i64 task,.int .i64 1,.int .i64 id,.int .i64 cost] w fun e w'=>e=.returned (.int .i64 4)∧Below w.heap.size w w':=by
 have hp1:=h.alloc (.cells #[.int .i64 3,.int .i64 task,.int .i64 1,.int .i64 id] 109)
 have hb1:Below w.heap.size w (w.alloc (.cells #[.int .i64 3,.int .i64 task,.int .i64 1,.int .i64 id] 109)):=(Jd _ _).alloc (Jb _) _
 have Hg:=hid hg
 clear hg
 have Hq:=hid hq
 clear hq
 go_enter Try.func36,Try.ntmps36
 go_wp2_with fail
 refine (has_any hp1 3 task).mono ?_
 rw [Hg.out]
 rintro e w2 ⟨rfl,hb2⟩
 obtain ⟨k1,k2,k3,k4⟩:=box4 hb2
 go_wp2_with fail
 refine (has_any (hp1.below hb2) 1 id).mono ?_
 rw [Hq.out]
 rintro e w3 ⟨rfl,hb3⟩
 go_wp2
 go_ret
 exact ⟨rfl,next2 (next2 hb1 hb2) hb3⟩
theorem prefer_d1 (h:PlanAt w pb b0 b1 b2 b3 l0 l1 l2 l3)(task id cost:Int)(hg:(get (3,task) l0).isSome=true)(hq:(get (1,id) l0).isSome=true)(hc:costB cost=false) :
  Calls Try.prog 36 #[.pointer (some ⟨pb,0,none⟩),.int .i64 task,.int .i64 1,.int .i64 id,.int .i64 cost] w fun e w'=>e=.returned (.int .i64 5)∧Below w.heap.size w w':=by
 have hp1:=h.alloc (.cells #[.int .i64 3,.int .i64 task,.int .i64 1,.int .i64 id] 109)
 have hb1:Below w.heap.size w (w.alloc (.cells #[.int .i64 3,.int .i64 task,.int .i64 1,.int .i64 id] 109)):=(Jd _ _).alloc (Jb _) _
 have Hg:=hid hg
 clear hg
 have Hq:=hid hq
 have Hc:=hid hc
 clear hq hc
 go_enter Try.func36,Try.ntmps36
 go_wp2_with fail
 refine (has_any hp1 3 task).mono ?_
 rw [Hg.out]
 rintro e w2 ⟨rfl,hb2⟩
 obtain ⟨k1,k2,k3,k4⟩:=box4 hb2
 go_wp2_with fail
 refine (has_any (hp1.below hb2) 1 id).mono ?_
 rw [Hq.out]
 rintro e w3 ⟨rfl,hb3⟩
 go_wp2_with fail
 refine (isCost_any cost _).mono ?_
 rw [Hc.out]
 rintro e w4 ⟨rfl,rfl⟩
 go_wp2
 go_ret
 exact ⟨rfl,next2 (next2 hb1 hb2) hb3⟩
theorem prefer_e1 (h:PlanAt w pb b0 b1 b2 b3 l0 l1 l2 l3)(task id cost:Int)(hg:(get (3,task) l0).isSome=true)(hq:(get (1,id) l0).isSome=true)(hc:costB cost=true) :
  Calls Try.prog 36 #[.pointer (some ⟨pb,0,none⟩),.int .i64 task,.int .i64 1,.int .i64 id,.int .i64 cost] w fun e w'=>e=.returned (.int .i64 0)∧PlanAt w' pb b0 b1 b2 b3 l0 l1 l2 (put ((3,task),(1,id)) cost l3)∧Only [b0,b1,b2,b3] w w':=by
 have hp1:=h.alloc (.cells #[.int .i64 3,.int .i64 task,.int .i64 1,.int .i64 id] 109)
 have hb1:Below w.heap.size w (w.alloc (.cells #[.int .i64 3,.int .i64 task,.int .i64 1,.int .i64 id] 109)):=(Jd _ _).alloc (Jb _) _
 have Hg:=hid hg
 clear hg
 have Hq:=hid hq
 have Hc:=hid hc
 clear hq hc
 go_enter Try.func36,Try.ntmps36
 go_wp2_with fail
 refine (has_any hp1 3 task).mono ?_
 rw [Hg.out]
 rintro e w2 ⟨rfl,hb2⟩
 obtain ⟨k1,k2,k3,k4⟩:=box4 hb2
 go_wp2_with fail
 refine (has_any (hp1.below hb2) 1 id).mono ?_
 rw [Hq.out]
 rintro e w3 ⟨rfl,hb3⟩
 go_wp2_with fail
 refine (isCost_any cost _).mono ?_
 rw [Hc.out]
 rintro e w4 ⟨rfl,rfl⟩
 obtain ⟨k5,k6,k7,k8⟩:=box4 (next2 hb2 hb3)
 have k9:=((hp1.below hb2).below hb3).c3
 have hu:(Instr.mapUpdate 72 (.map (some b3)) (.agg #[.int .i64 3,.int .i64 task,.int .i64 1,.int .i64 id]) (.int .i64 cost)).run Try.prog w4.drew=.ok () (upd Try.prog 72 b3 (wv ((3,task),(1,id))) (iv cost) w4.drew):=(run_put kt86 Try.underlying72 ((hp1.below hb2).below hb3).m3.drew ((3,task),(1,id)) cost).1
 go_wp2
 go_region
 all_goals
  go_wp2
  go_ret
  have hq:=((hp1.below hb2).below hb3).drew.put3 ((3,task),(1,id)) cost
  exact ⟨rfl,hq.1,((Only.of_below (next2 (next2 hb1 hb2) hb3)).drew).trans hq.2⟩
theorem prefer_any (h:PlanAt w pb b0 b1 b2 b3 l0 l1 l2 l3)(task kind id cost:Int) :
  Calls Try.prog 36 #[.pointer (some ⟨pb,0,none⟩),.int .i64 task,.int .i64 kind,.int .i64 id,.int .i64 cost] w fun e w'=>e=.returned (.int .i64 (prefOf l0 task kind id cost))∧PlanAt w' pb b0 b1 b2 b3 l0 l1 l2 (prefTo l0 l3 task kind id cost)∧Only [b0,b1,b2,b3] w w':=by
 have fin:∀ r:Int,r≠0→prefOf l0 task kind id cost=r→(Calls Try.prog 36 #[.pointer (some ⟨pb,0,none⟩),.int .i64 task,.int .i64 kind,.int .i64 id,.int .i64 cost] w fun e w'=>e=.returned (.int .i64 r)∧Below w.heap.size w w') →
   Calls Try.prog 36 #[.pointer (some ⟨pb,0,none⟩),.int .i64 task,.int .i64 kind,.int .i64 id,.int .i64 cost] w fun e w'=>e=.returned (.int .i64 (prefOf l0 task kind id cost))∧PlanAt w' pb b0 b1 b2 b3 l0 l1 l2 (prefTo l0 l3 task kind id cost)∧Only [b0,b1,b2,b3] w w':=fun r hr he hc =>
  hc.mono fun e w' ⟨h1,h2⟩=>⟨by rw [he]; exact h1,by unfold prefTo; rw [he,if_neg hr]; exact h.below h2,Only.of_below h2⟩
 cases hg:(get (3,task) l0).isSome with
 | false=>exact fin 4 (by decide) (by simp [prefOf,hg]) (prefer_a h task kind id cost (by simpa using hg))
 | true =>
  by_cases hk:kind=1∨kind=0
  ·cases hq:(get (kind,id) l0).isSome with
   | false =>
    refine fin 4 (by decide) (by simp [prefOf,hg,hk,hq]) ?_
    rcases hk with rfl | rfl
    ·exact prefer_c1 h task id cost hg hq
    ·exact prefer_c0 h task id cost hg hq
   | true =>
    cases hc:costB cost with
    | false =>
     refine fin 5 (by decide) (by simp [prefOf,hg,hk,hq,hc]) ?_
     rcases hk with rfl | rfl
     ·exact prefer_d1 h task id cost hg hq hc
     ·exact prefer_d0 h task id cost hg hq hc
    | true =>
     have e0:prefOf l0 task kind id cost=0:=by simp [prefOf,hg,hk,hq,hc]
     have e1:prefTo l0 l3 task kind id cost=put ((3,task),(kind,id)) cost l3:=by simp [prefTo,e0]
     rw [e0,e1]
     rcases hk with rfl | rfl
     ·exact prefer_e1 h task id cost hg hq hc
     ·exact prefer_e0 h task id cost hg hq hc
  ·exact fin 7 (by decide) (by simp [prefOf,hg,hk]) (prefer_b h task kind id cost hg (fun e=>hk (Jr e)) (fun e=>hk (Js e)))
end
end
section
open Go.RowKit
theorem mapAt_made {K V:Type}{ek:K→Value}{ev:V→Value}(w:World):MapAt ek ev (w.alloc (.map #[] 0)) w.heap.size [] :=
 ⟨#[],0,(MapKept.heap_alloc w _).1,rfl,by simp,by simp⟩
theorem planAt_made (w:World)(s0 s1 s2 s3 s4:Value):PlanAt (((((w.alloc (.map #[] 0)).alloc (.map #[] 0)).alloc (.map #[] 0)).alloc (.map #[] 0)).alloc (.cells #[.map (some w.heap.size),.map (some (w.heap.size+1)),.map (some (w.heap.size+1+1)),.map (some (w.heap.size+1+1+1)),s0,s1,s2,s3,s4] 74))
  (w.heap.size+1+1+1+1) w.heap.size (w.heap.size+1) (w.heap.size+1+1) (w.heap.size+1+1+1) [] [] [] []:=by
 have e1:(w.alloc (.map #[] 0)).heap.size=w.heap.size+1:=by simp
 have e2:((w.alloc (.map #[] 0)).alloc (.map #[] 0)).heap.size=w.heap.size+1+1:=by simp
 have e3:(((w.alloc (.map #[] 0)).alloc (.map #[] 0)).alloc (.map #[] 0)).heap.size=w.heap.size+1+1+1:=by simp
 have e4:((((w.alloc (.map #[] 0)).alloc (.map #[] 0)).alloc (.map #[] 0)).alloc (.map #[] 0)).heap.size=w.heap.size+1+1+1+1:=by simp
 refine ⟨?_,((((mapAt_made w).alloc _).alloc _).alloc _).alloc _,?_,?_,?_,by omega⟩
 ·rw [← e4]; exact ⟨s0,s1,s2,s3,s4,(MapKept.heap_alloc _ _).1⟩
 ·rw [← e1]; exact (((mapAt_made _).alloc _).alloc _).alloc _
 ·rw [← e2]; exact ((mapAt_made _).alloc _).alloc _
 ·rw [← e3]; exact (mapAt_made _).alloc _
theorem made_cells (w:World)(o:Obj):(((((w.alloc (.map #[] 0)).alloc (.map #[] 0)).alloc (.map #[] 0)).alloc (.map #[] 0)).alloc o).heap[w.heap.size+1+1+1+1]?=some o:=by
 have e4:((((w.alloc (.map #[] 0)).alloc (.map #[] 0)).alloc (.map #[] 0)).alloc (.map #[] 0)).heap.size=w.heap.size+1+1+1+1:=by simp
 rw [← e4]
 exact (MapKept.heap_alloc _ _).1
theorem new_any (w:World):Calls Try.prog 14 #[] w fun e w'=>e=.returned (.pointer (some ⟨w.heap.size+1+1+1+1,0,none⟩)) ∧
  PlanAt w' (w.heap.size+1+1+1+1) w.heap.size (w.heap.size+1) (w.heap.size+1+1) (w.heap.size+1+1+1) [] [] [] []∧w'.heap[w.heap.size+1+1+1+1]?=some (.cells #[.map (some w.heap.size),.map (some (w.heap.size+1)),.map (some (w.heap.size+1+1)),.map (some (w.heap.size+1+1+1)),.int .i64 0,.slice none 0 0,.slice none 0 0,.slice none 0 0,.slice none 0 0] 74)∧Below w.heap.size w w':=by
 have hmm:=@run_makeMap Try.prog
 go_enter Try.func14,Try.ntmps14
 go_wp2
 go_ret
 exact ⟨rfl,planAt_made w _ _ _ _ _,made_cells w _,by repeat (first | exact Jd _ _ | refine Below.alloc ?_ (by simp <;> omega) _)⟩
end
section
theorem flat_at (ys:List (Int×Int))(k:Nat)(hk:k<ys.length):(flat ys)[k*2]?=some (.int .i64 ys[k].1)∧(flat ys)[k*2+1]?=some (.int .i64 ys[k].2):=by
 induction ys generalizing k with
 | nil=>simp at hk
 | cons y ys ih =>
  cases k with
  | zero=>simp [flat]
  | succ k =>
   have:=ih k (by simpa using hk)
   have e:flat (y :: ys)=.int .i64 y.1 :: .int .i64 y.2 :: flat ys:=by simp [flat]
   rw [e,show (k+1)*2=k*2+1+1 by omega]
   simpa using this
end
section
open Go.RowKit
section
variable {K V:Type} [DecidableEq K]
theorem get_put (a b:K)(v:V):∀ l:List (K×V),get a (put b v l)=if a=b then some v else get a l
 | []=>by simp [put,get]
 | x :: r=>by
  have ih:=get_put a b v r
  unfold put
  by_cases hb:b=x.1
  ·rw [if_pos hb]
   by_cases ha:a=b
   ·simp [get,ha]
   ·have:a≠x.1:=fun e=>ha (e.trans hb.symm)
    simp [get,ha,this]
  ·rw [if_neg hb]
   by_cases hx:a=x.1
   ·have:a≠b:=fun e=>hb (e.symm.trans hx)
    simp [get,hx]
    intro e
    exact absurd (hx.trans e) this
   ·simp only [get,if_neg hx]
    exact ih
end
def Waited (l2:Waits):Prop:=∀ a n,get a l2=some n→0≤n∧n≤100
section
variable {w:World}{pb b0 b1 b2 b3:Nat}{l0:Things}{l1:Runs}{l2:Waits}{l3:Prefs}
theorem row_cell {wr:World}{g:Nat}{cur:Array Value}{ys:List (Int×Int)}{k:Nat}(hg:wr.heap[g]?=some (.cells cur 79))(ht:cur.toList.take (ys.length*2)=flat ys)(hk:k<ys.length) :
  wr.cell? ⟨g,k*2,none⟩=some (.int .i64 ys[k].1)∧wr.cell? ⟨g,k*2+1,none⟩=some (.int .i64 ys[k].2):=by
 have h:=flat_at ys k hk
 rw [← ht] at h
 obtain ⟨h1,h2⟩:=h
 rw [List.getElem?_take_of_lt (by omega),Array.getElem?_toList] at h1 h2
 simp [World.cell?,hg,h1,h2]
end
end
end Go.Proofs.Ytjdindfjfpdikab
