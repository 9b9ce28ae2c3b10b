import Derived.Test.YtjdindfjfpdikabProg
import Derived.Deep.LoopGhost
import Derived.BigRegion
import Derived.BigQuiet
import Derived.Deep.QuietTactic
import Derived.Deep.RegionHeld
import Derived.Test.YtjdindfjfpdikabB00
import Derived.Test.YtjdindfjfpdikabB01
import Derived.Test.YtjdindfjfpdikabB02
import Derived.Test.YtjdindfjfpdikabB06
import Derived.Test.YtjdindfjfpdikabB07
import Derived.Test.YtjdindfjfpdikabB10
import Derived.Test.YtjdindfjfpdikabB20
import Derived.Test.YtjdindfjfpdikabB30
import Derived.Test.YtjdindfjfpdikabPre
set_option maxRecDepth 100000
set_option maxHeartbeats 8000000
namespace Go.Proofs.Ytjdindfjfpdikab
section
open Go.RowKit
theorem hid' {p:Prop}(h:p):Hid p:=h
def pickOf (c n:Int):Int:=if c<0 then (-(c+1)).tmod n else c.tmod n
theorem pickOf_bounds (c n:Int)(hn:0<n):0≤pickOf c n∧pickOf c n<n:=by
 unfold pickOf
 split
 ·rw [Int.tmod_eq_emod_of_nonneg (by omega)]
  exact ⟨Int.emod_nonneg _ (by omega),Int.emod_lt_of_pos _ hn⟩
 ·rw [Int.tmod_eq_emod_of_nonneg (by omega)]
  exact ⟨Int.emod_nonneg _ (by omega),Int.emod_lt_of_pos _ hn⟩
theorem pick_some (c n:Int)(w:World)(hc:(Lit.int .i64 c).wf=true)(h1:1≤n)(h2:n≤1001) :
  Calls Try.prog 13 #[.int .i64 c,.int .i64 n] w fun e w'=>e=.returned (.int .i64 (pickOf c n))∧w'=w:=by
 have hb:=bounds_i64 hc
 have hn0:¬ n=0:=by omega
 by_cases h:c<0
 ·go_enter Try.func13,Try.ntmps13
  go_wp2
  go_ret
  exact ⟨ret_int (by unfold pickOf; rw [if_pos h,Int.neg_tmod]),rfl⟩
 ·go_enter Try.func13,Try.ntmps13
  go_wp2
  go_ret
  exact ⟨ret_int (by unfold pickOf; rw [if_neg (by omega),Int.tmod_eq_emod_of_nonneg (by omega)]),rfl⟩
structure Stir (xb:Nat)(w w':World):Prop where
 os:w'.os=w.os
 tape:w'.tape=w.tape
 output:w'.output=w.output
 size:w'.heap.size=w.heap.size
 block:∀ b,b≠xb→w'.heap[b]?=w.heap[b]?
theorem Stir.cell {xb:Nat}{w w':World}(h:Stir xb w w'){b o:Nat}(hb:b≠xb):w'.cell? ⟨b,o,none⟩=w.cell? ⟨b,o,none⟩:=by simp only [World.cell?,h.block b hb]
def nv (c:Nat→Int)(len a:Nat)(n:Int):Int:=if a<len then pickOf (c a) n else 0
def na (len a:Nat):Nat:=if a<len then a+1 else a
theorem nv_bounds (c:Nat→Int)(len a:Nat){n:Int}(hn:0<n):0≤nv c len a n∧nv c len a n<n:=by
 unfold nv
 split
 ·exact pickOf_bounds _ _ hn
 ·omega
structure DiceAt (w:World)(xb:Nat)(p:Option Addr)(len cap:Nat)(c:Nat→Int)(a:Nat):Prop where
 le:a≤len
 cells:w.heap[xb]?=some (.cells #[.slice p len cap,.int .i64 a] 25)
 codes:len=0∨∃ sb off,p=some ⟨sb,off,none⟩∧sb<xb∧∀ i,i<len→w.cell? ⟨sb,off+i,none⟩=some (.int .i64 (c i))∧(Lit.int .i64 (c i)).wf=true
 few:len<1000000000000000
theorem next_any {w:World}{xb:Nat}{p:Option Addr}{len cap a:Nat}{c:Nat→Int}(hx:DiceAt w xb p len cap c a)(n:Int)(h1:1≤n)(h2:n≤1001) :
  Calls Try.prog 18 #[.pointer (some ⟨xb,0,none⟩),.int .i64 n] w fun e w'=>e=.returned (.int .i64 (nv c len a n))∧DiceAt w' xb p len cap c (na len a)∧Stir xb w w':=by
 obtain ⟨ha,hb,hc,hlen⟩:=hx
 have c0:w.cell? ⟨xb,0,none⟩=some (.slice p len cap):=by simp [World.cell?,hb]
 have c1:w.cell? ⟨xb,1,none⟩=some (.int .i64 a):=by simp [World.cell?,hb]
 have hf:w.frozen? ⟨xb,1,none⟩=false:=by simp [World.frozen?,hb]
 have hl:xb<w.heap.size:=(Ja.1 hb).1
 have Hb:=hid' hb
 clear hb
 by_cases hlt:a<len
 ·rcases hc with h0 | ⟨sb,off,rfl,hsb,hcs⟩
  ·omega
  obtain ⟨hcc,hwf⟩:=hcs a hlt
  have HC:=hid' (Jc hsb hcs)
  have hs:sb<w.heap.size:=by omega
  have hI:(a:Int)<(len:Int):=by omega
  have hI2:¬ (len:Int)≤(a:Int):=by omega
  have HA:=hid' (fun W=>pick_some (c a) n W hwf h1 h2)
  clear hcs hwf
  go_enter Try.func18,Try.ntmps18
  go_wp2_with fail
  go_region
  go_wp2_with fail
  obtain ⟨u,hu⟩:∃ u,w.drew=u:=⟨_,rfl⟩
  have d0:u.cell? ⟨xb,0,none⟩=some (.slice (some ⟨sb,off,none⟩) len cap):=by rw [← hu]; exact c0
  have d1:u.cell? ⟨xb,1,none⟩=some (.int .i64 a):=by rw [← hu]; exact c1
  have d2:u.cell? ⟨sb,off+a,none⟩=some (.int .i64 (c a)):=by rw [← hu]; exact hcc
  have d3:u.frozen? ⟨xb,1,none⟩=false:=by rw [← hu]; exact hf
  have d4:xb<u.heap.size:=by rw [← hu]; exact hl
  have d5:sb<u.heap.size:=by rw [← hu]; exact hs
  have d6:u.heap[xb]?=some (.cells #[.slice (some ⟨sb,off,none⟩) len cap,.int .i64 a] 25):=by rw [← hu]; exact Hb.out
  have d7:Stir xb w u:=by rw [← hu]; exact ⟨rfl,rfl,rfl,rfl,fun _ _=>rfl⟩
  have HD:=hid' (Jc d6 d7)
  rw [hu]
  clear hu c0 c1 hcc hf d6 d7
  go_quiet ((go_at_call 13; exact Calls.quiet_of_same (HA.out _)))
  go_wp2_with fail
  go_ret
  have h7:=HD.out.2
  have hst:∀ nq,Stir xb w ((u.drewN nq).setCell ⟨xb,1,none⟩ (.int .i64 ((a:Int)+1))):=fun nq=>⟨h7.os,h7.tape,h7.output,by simpa using h7.size,fun b hb=>(Below.heap_setCell (u.drewN nq) ⟨xb,1,none⟩ _ b (by simpa using hb)).trans (h7.block b hb)⟩
  refine ⟨ret_int (by unfold nv; rw [if_pos hlt]),⟨by unfold na; rw [if_pos hlt]; omega,?_,Js ⟨sb,off,rfl,HC.out.1,fun i hi=>⟨((hst _).cell (by have:=HC.out.1; omega)).trans (HC.out.2 i hi).1,(HC.out.2 i hi).2⟩⟩,hlen⟩,hst _⟩
  unfold na
  rw [if_pos hlt]
  simp [World.setCell,Array.getElem?_modify,HD.out.1]
 ·have hI:(len:Int)≤(a:Int):=by omega
  have HC:=hid' hc
  clear hc
  go_enter Try.func18,Try.ntmps18
  go_wp2_with fail
  go_region
  go_wp2_with fail
  go_ret
  refine ⟨ret_int (by unfold nv; rw [if_neg hlt]),⟨by unfold na; rw [if_neg hlt]; exact ha,?_,HC.out,hlen⟩,rfl,rfl,rfl,rfl,fun _ _=>rfl⟩
  unfold na
  rw [if_neg hlt]
  exact Hb.out
def idOf (more k:Int):Int:=(7*k+more) % 100
theorem id_any (w:World)(more k:Int)(h0:0≤k)(h1:k≤1000)(h2:0≤more)(h3:more≤1000) :
  Calls Try.prog 16 #[.agg #[.int .i64 more],.int .i64 k] w fun e w'=>e=.returned (.int .i64 (idOf more k))∧Below w.heap.size w w':=by
 have hb1:Below w.heap.size w (w.alloc (.cells #[.int .i64 more] 29)):=(Jd _ _).alloc (Jb _) _
 go_enter Try.func16,Try.ntmps16
 go_wp2
 go_ret
 exact ⟨ret_int rfl,hb1⟩
end
section
open Go.RowKit
def Cel (w w':World):Prop:=∀ (b:Nat)(cs:Array Value)(t:TypeId)(f:Nat×Nat),w.heap[b]?=some (.cells cs t f)→w'.heap[b]?=some (.cells cs t f)
theorem Cel.of_below {w w':World}(h:Below w.heap.size w w'):Cel w w':=fun b _ _ _ q=>(h.block b (Ja.1 q).1).trans q
theorem PlanAt.notmap {w:World}{pb b0 b1 b2 b3:Nat}{l0:Things}{l1:Runs}{l2:Waits}{l3:Prefs}(h:PlanAt w pb b0 b1 b2 b3 l0 l1 l2 l3){b:Nat}{cs:Array Value}{t:TypeId}{f:Nat×Nat}(hb:w.heap[b]?=some (.cells cs t f)):b∉[b0,b1,b2,b3]:=fun hm=>by
 simp only [List.mem_cons,List.not_mem_nil,or_false] at hm
 rcases hm with rfl | rfl | rfl | rfl
 ·obtain ⟨es,c,q,_⟩:=h.m0; rw [hb] at q; cases q
 ·obtain ⟨es,c,q,_⟩:=h.m1; rw [hb] at q; cases q
 ·obtain ⟨es,c,q,_⟩:=h.m2; rw [hb] at q; cases q
 ·obtain ⟨es,c,q,_⟩:=h.m3; rw [hb] at q; cases q
theorem Cel.of_plan {w w':World}{pb b0 b1 b2 b3:Nat}{l0:Things}{l1:Runs}{l2:Waits}{l3:Prefs}(h:PlanAt w pb b0 b1 b2 b3 l0 l1 l2 l3)(ho:Only [b0,b1,b2,b3] w w'):Cel w w':=fun b _ _ _ q =>
 (ho.block b (Ja.1 q).1 (h.notmap q)).trans q
theorem cell_cells {w:World}{b i:Nat}{v:Value}(h:w.cell? ⟨b,i,none⟩=some v):∃ cs t f,w.heap[b]?=some (.cells cs t f):=by
 cases e:w.heap[b]? with
 | none=>simp [World.cell?,e] at h
 | some o =>
  cases o with
  | cells cs t f=>exact ⟨cs,t,f,rfl⟩
  | _=>simp [World.cell?,e] at h
theorem Cel.cell {w w':World}(h:Cel w w'){b i:Nat}{v:Value}(hc:w.cell? ⟨b,i,none⟩=some v):w'.cell? ⟨b,i,none⟩=some v:=by
 obtain ⟨cs,t,f,e⟩:=cell_cells hc
 rw [← hc]
 simp only [World.cell?,h b cs t f e,e]
theorem DiceAt.cel {w w':World}{xb:Nat}{p:Option Addr}{len cap a:Nat}{c:Nat→Int}(h:DiceAt w xb p len cap c a)(hc:Cel w w'):DiceAt w' xb p len cap c a:=by
 refine ⟨h.le,hc _ _ _ _ h.cells,?_,h.few⟩
 rcases h.codes with q | ⟨sb,off,e,hs,hi⟩
 ·exact Jr q
 ·exact Js ⟨sb,off,e,hs,fun i hl=>⟨hc.cell (hi i hl).1,(hi i hl).2⟩⟩
theorem NRow.cel {b0:Nat}{w w':World}{v:Value}{xs:List Int}(h:NRow b0 w v xs)(hc:Cel w w'):NRow b0 w' v xs:=by
 refine ⟨h.1,?_⟩
 rcases h.2 with h2 | ⟨g,cap,cur,hv,h0,hg,hr⟩
 ·exact Jr h2
 ·exact Js ⟨g,cap,cur,hv,h0,hc _ _ _ _ hg,hr⟩
structure BelowX (n x:Nat)(w w':World):Prop where
 os:w'.os=w.os
 tape:w'.tape=w.tape
 output:w'.output=w.output
 size:w.heap.size≤w'.heap.size
 block:∀ b,b<n→b≠x→w'.heap[b]?=w.heap[b]?
theorem BelowX.refl (n x:Nat)(w:World):BelowX n x w w:=⟨rfl,rfl,rfl,Jb _,fun _ _ _=>rfl⟩
theorem BelowX.trans {n x:Nat}{w w' w'':World}(h:BelowX n x w w')(h':BelowX n x w' w''):BelowX n x w w'':=⟨h'.os.trans h.os,h'.tape.trans h.tape,h'.output.trans h.output,Nat.le_trans h.size h'.size,fun b hb hx=>(h'.block b hb hx).trans (h.block b hb hx)⟩
theorem BelowX.of {n:Nat}(x:Nat){w w':World}(h:Below n w w'):BelowX n x w w':=⟨h.os,h.tape,h.output,h.size,fun b hb _=>h.block b hb⟩
theorem BelowX.mono {n m x:Nat}{w w':World}(h:BelowX n x w w')(hm:m≤n):BelowX m x w w':=⟨h.os,h.tape,h.output,h.size,fun b hb hx=>h.block b (by omega) hx⟩
theorem BelowX.below {n x:Nat}{w w':World}(h:BelowX n x w w')(hx:n≤x):Below n w w':=⟨h.os,h.tape,h.output,h.size,fun b hb=>h.block b hb (by omega)⟩
structure Fr where
 w:World
 ks:List Nat
structure MK (base:Nat)(w0:Fr)(w:World)(mb pb b0 b1 b2 b3 xb:Nat)(more:Int)(vs:Value)(slots:List Int)(tasks:Int)(R:RSt)(p:Option Addr)(len cap:Nat)(c:Nat→Int)(a:Nat):Prop where
 cells:w.heap[mb]?=some (.cells #[.pointer (some ⟨pb,0,none⟩),.int .i64 more,vs,.int .i64 tasks] 35)
 row:NRow base w vs slots
 plan:∃ l0 l1 l2 l3,PlanAt w pb b0 b1 b2 b3 l0 l1 l2 l3∧Sim l0 l1 l2 l3 R
 dice:DiceAt w xb p len cap c a
 old:∀ b∈[mb,pb,b0,b1,b2,b3],base≤b
 below:BelowX base xb w0.w w
 kept:∀ b∈w0.ks,w.heap[b]?=w0.w.heap[b]?
 apart:∀ b∈w0.ks,b≠mb∧b∉[b0,b1,b2,b3]∧b≠xb∧vs.ownBlock≠some b∧b<w.heap.size
 more0:0≤more∧more<100
 arg:∀ q,len≠0→p=some q→q.block<base
section
variable {base:Nat}{w0:Fr}{w w':World}{mb pb b0 b1 b2 b3 xb:Nat}{more:Int}{vs:Value}{slots:List Int}{tasks:Int}{R R':RSt}{p:Option Addr}{len cap a a':Nat}{c:Nat→Int}
theorem MK.lt (h:MK base w0 w mb pb b0 b1 b2 b3 xb more vs slots tasks R p len cap c a):mb<w.heap.size:=(Ja.1 h.cells).1
theorem MK.base_le (h:MK base w0 w mb pb b0 b1 b2 b3 xb more vs slots tasks R p len cap c a):base≤w.heap.size:=by
 have h1:=h.old mb (by simp)
 have h2:=h.lt
 omega
theorem MK.of_below (h:MK base w0 w mb pb b0 b1 b2 b3 xb more vs slots tasks R p len cap c a)(hb:Below w.heap.size w w'):MK base w0 w' mb pb b0 b1 b2 b3 xb more vs slots tasks R p len cap c a:=by
 have hc:=Cel.of_below hb
 obtain ⟨l0,l1,l2,l3,h1,h2⟩:=h.plan
 exact ⟨hc _ _ _ _ h.cells,h.row.cel hc,⟨l0,l1,l2,l3,h1.below hb,h2⟩,h.dice.cel hc,h.old,h.below.trans (BelowX.of xb (hb.mono h.base_le)),fun b q=>(hb.block b (h.apart b q).2.2.2.2).trans (h.kept b q),fun b q=>⟨(h.apart b q).1,(h.apart b q).2.1,(h.apart b q).2.2.1,(h.apart b q).2.2.2.1,Jm (h.apart b q).2.2.2.2 hb.size⟩,h.more0,h.arg⟩
theorem MK.drew (h:MK base w0 w mb pb b0 b1 b2 b3 xb more vs slots tasks R p len cap c a):MK base w0 w.drew mb pb b0 b1 b2 b3 xb more vs slots tasks R p len cap c a:=h.of_below ((Jd _ _).drew)
theorem MK.thrown (h:MK base w0 w mb pb b0 b1 b2 b3 xb more vs slots tasks R p len cap c a)(hd:DiceAt w' xb p len cap c a')(hs:Stir xb w w'):MK base w0 w' mb pb b0 b1 b2 b3 xb more vs slots tasks R p len cap c a':=by
 have hxc:=h.dice.cells
 have hc:∀ (b:Nat) (cs:Array Value) (t:TypeId),t≠25→w.heap[b]?=some (.cells cs t)→w'.heap[b]?=some (.cells cs t):=fun b cs t ht q=>(hs.block b (fun e=>by subst e; rw [hxc] at q; cases q; exact ht rfl)).trans q
 obtain ⟨l0,l1,l2,l3,h1,h2⟩:=h.plan
 refine ⟨hc _ _ _ (by decide) h.cells,⟨h.row.1,?_⟩,⟨l0,l1,l2,l3,h1.move (fun b hb=>hs.block b (fun e=>?_)),h2⟩,hd,h.old,?_,fun b q=>(hs.block b (h.apart b q).2.2.1).trans (h.kept b q),fun b q=>⟨(h.apart b q).1,(h.apart b q).2.1,(h.apart b q).2.2.1,(h.apart b q).2.2.2.1,Jm (h.apart b q).2.2.2.2 (Nat.le_of_eq hs.size.symm)⟩,h.more0,h.arg⟩
 ·rcases h.row.2 with q | ⟨g,cap,cur,hv,q0,hg,hr⟩
  ·exact Jr q
  ·exact Js ⟨g,cap,cur,hv,q0,hc _ _ _ (by decide) hg,hr⟩
 ·subst e
  rcases List.mem_cons.1 hb with rfl | hb
  ·obtain ⟨_,_,_,_,_,q⟩:=h1.cells
   rw [hxc] at q
   cases q
  ·exact h1.notmap hxc hb
 ·exact h.below.trans ⟨hs.os,hs.tape,hs.output,Nat.le_of_eq hs.size.symm,fun b _ hx=>hs.block b hx⟩
theorem MK.did {l0 l1 l2 l3 m0 m1 m2 m3}(h:MK base w0 w mb pb b0 b1 b2 b3 xb more vs slots tasks R p len cap c a)(hp:PlanAt w pb b0 b1 b2 b3 l0 l1 l2 l3)(ho:Only [b0,b1,b2,b3] w w')(hp':PlanAt w' pb b0 b1 b2 b3 m0 m1 m2 m3)(hs:Sim m0 m1 m2 m3 R'):MK base w0 w' mb pb b0 b1 b2 b3 xb more vs slots tasks R' p len cap c a:=by
 have hc:=Cel.of_plan hp ho
 refine ⟨hc _ _ _ _ h.cells,h.row.cel hc,⟨m0,m1,m2,m3,hp',hs⟩,h.dice.cel hc,h.old,?_,fun b q=>(ho.block b (h.apart b q).2.2.2.2 (h.apart b q).2.1).trans (h.kept b q),fun b q=>⟨(h.apart b q).1,(h.apart b q).2.1,(h.apart b q).2.2.1,(h.apart b q).2.2.2.1,Jm (h.apart b q).2.2.2.2 ho.size⟩,h.more0,h.arg⟩
 refine ⟨ho.os.trans h.below.os,ho.tape.trans h.below.tape,ho.output.trans h.below.output,Nat.le_trans h.below.size ho.size,fun b hb hx=>(ho.block b (Jm hb h.base_le) (fun hm=>?_)).trans (h.below.block b hb hx)⟩
 have:=h.old b (Jk _ (Jk _ (by simp at hm ⊢; rcases hm with q | q | q | q <;> simp [q])))
 omega
theorem MK.widen {base':Nat}{w0':World}(h:MK base w0 w mb pb b0 b1 b2 b3 xb more vs slots tasks R p len cap c a)(hb:base'≤base)(h0:BelowX base' xb w0' w0.w)(harg:∀ q,len≠0→p=some q→q.block<base'):MK base' ⟨w0',[]⟩ w mb pb b0 b1 b2 b3 xb more vs slots tasks R p len cap c a:=by
 refine ⟨h.cells,⟨h.row.1,?_⟩,h.plan,h.dice,fun b q=>Nat.le_trans hb (h.old b q),h0.trans (h.below.mono hb),fun b q=>(by cases q),fun b q=>(by cases q),h.more0,harg⟩
 rcases h.row.2 with q | ⟨g,cap,cur,hv,q0,r⟩
 ·exact Jr q
 ·exact Js ⟨g,cap,cur,hv,Nat.le_trans hb q0,r⟩
theorem MK.frame (h:MK base w0 w mb pb b0 b1 b2 b3 xb more vs slots tasks R p len cap c a)(ks:List Nat)(hk:∀ b∈ks,b≠mb∧b∉[b0,b1,b2,b3]∧b≠xb∧vs.ownBlock≠some b∧b<w.heap.size):MK base ⟨w,ks⟩ w mb pb b0 b1 b2 b3 xb more vs slots tasks R p len cap c a :=
 ⟨h.cells,h.row,h.plan,h.dice,h.old,BelowX.refl _ _ _,fun _ _=>rfl,hk,h.more0,h.arg⟩
theorem MK.unframe {w1:World}(h:MK base w0 w mb pb b0 b1 b2 b3 xb more vs slots tasks R p len cap c a)(h0:BelowX base xb w1 w0.w):MK base ⟨w1,[]⟩ w mb pb b0 b1 b2 b3 xb more vs slots tasks R p len cap c a :=
 ⟨h.cells,h.row,h.plan,h.dice,h.old,h0.trans h.below,fun b q=>(by cases q),fun b q=>(by cases q),h.more0,h.arg⟩
theorem MK.cs (h:MK base w0 w mb pb b0 b1 b2 b3 xb more vs slots tasks R p len cap c a):w.cell? ⟨mb,0,none⟩=some (.pointer (some ⟨pb,0,none⟩))∧w.cell? ⟨mb,1,none⟩=some (.int .i64 more)∧w.cell? ⟨mb,2,none⟩=some vs∧w.cell? ⟨mb,3,none⟩=some (.int .i64 tasks):=by
 have:=h.cells
 refine ⟨?_,?_,?_,?_⟩ <;> simp [World.cell?,this]
end
end
section
open Go.RowKit
def S4 (mb:Nat)(z0 z1 z2:Value)(W:World):Prop:=W.cell? ⟨mb,0,none⟩=some z0∧W.cell? ⟨mb,1,none⟩=some z1∧W.cell? ⟨mb,2,none⟩=some z2∧mb<W.heap.size
section
variable {base:Nat}{w0:Fr}{w w':World}{mb pb b0 b1 b2 b3 xb:Nat}{more:Int}{vs:Value}{slots:List Int}{tasks:Int}{R R':RSt}{p:Option Addr}{len cap a a':Nat}{c:Nat→Int}
theorem S4.of (h:MK base w0 w mb pb b0 b1 b2 b3 xb more vs slots tasks R p len cap c a):S4 mb (.pointer (some ⟨pb,0,none⟩)) (.int .i64 more) vs w:=⟨h.cs.1,h.cs.2.1,h.cs.2.2.1,h.lt⟩
theorem NRow.sl' {b0:Nat}{w:World}{v:Value}{xs:List Int}(h:NRow b0 w v xs):∃ p c,v=.slice p xs.length c:=by
 rcases h.2 with ⟨e1,e2⟩ | ⟨g,cap,cur,e1,_⟩
 ·exact ⟨none,0,by rw [e1,e2]⟩
 ·exact ⟨_,_,e1⟩
def wish1 (c:Nat→Int)(len:Nat)(more:Int)(ns:Nat)(task:Int)(s:RSt×Nat):RSt×Nat :=
 if nv c len s.2 2=0 then (n6 s.1 (idOf more task) 1 (idOf more (nv c len (na len s.2) ns)) (nv c len (na len (na len s.2)) 150),na len (na len (na len s.2)))
 else (n6 s.1 (idOf more task) 0 (idOf more (nv c len (na len s.2) 2)) (nv c len (na len (na len s.2)) 150),na len (na len (na len s.2)))
def wishN (c:Nat→Int)(len:Nat)(more:Int)(ns:Nat)(task:Int):Nat→RSt×Nat→RSt×Nat
 | 0,s=>s
 | k+1,s=>wishN c len more ns task k (wish1 c len more ns task s)
def wishT (c:Nat→Int)(len:Nat)(more:Int)(ns:Nat)(task:Int)(s:RSt×Nat):RSt×Nat:=wishN c len more ns task (nv c len s.2 3).toNat (s.1,na len s.2)
theorem wish_any (hM:MK base w0 w mb pb b0 b1 b2 b3 xb more vs slots tasks R p len cap c a)(task:Int)(ht0:0≤task)(ht1:task≤100)(hs1:1≤slots.length)(hs2:slots.length≤100) :
  Calls Try.prog 21 #[.pointer (some ⟨mb,0,none⟩),.pointer (some ⟨xb,0,none⟩),.int .i64 task] w fun e w'=>e=.returned (.tuple #[])∧MK base w0 w' mb pb b0 b1 b2 b3 xb more vs slots tasks (wishT c len more slots.length task (R,a)).1 p len cap c (wishT c len more slots.length task (R,a)).2:=by
 have A0:=hid' (next_any hM.dice 3 (by omega) (by omega))
 have hv3:=nv_bounds c len a (n:=3) (by omega)
 have H0:=hid' hM
 obtain ⟨ps,cs,rfl⟩:=hM.row.sl'
 go_enter Try.func21,Try.ntmps21
 go_upto_region 1 with (first
  | (go_at_call 18; refine A0.out.mono ?_; rintro e W1 ⟨rfl,hd1,st1⟩)
  | fail)
 have M1:=H0.out.thrown hd1 st1
 have HT:=hid' (show wishT c len more slots.length task (R,a)=wishN c len more slots.length task (nv c len a 3).toNat (R,na len a) from rfl)
 clear hd1 st1 A0
 go_wp2_with fail
 go_loopg [6] (nv c len a 3).toNat (fun gk kv wr=>∃ (k:Nat) (s:RSt×Nat),(k:Int)<3∧k≤gk∧kv=.int .i64 k∧Hid (MK base w0 wr mb pb b0 b1 b2 b3 xb more (.slice ps slots.length cs) slots tasks s.1 p len cap c s.2∧wishN c len more slots.length task k s=wishT c len more slots.length task (R,a)))
 case atStart=>exact ⟨(nv c len a 3).toNat,(R,na len a),by omega,Jb _,by rw [Int.toNat_of_nonneg hv3.1],(show _∧_ from ⟨M1,HT.out.symm⟩)⟩
 case' round=>skip
 obtain ⟨k,s,hk3,hgk,rfl,HR⟩:=hrel
 rename World=>Z0
 clear M1
 by_cases hk:0<k
 ·have hkI:(0:Int)<(k:Int):=by omega
  have A1:=hid' (next_any HR.out.1.dice 2 (by omega) (by omega))
  have hv2:=nv_bounds c len s.2 (n:=2) (by omega)
  obtain ⟨k',rfl⟩:∃ k',k=k'+1:=⟨k - 1,by omega⟩
  have hW:=HR.out.2
  by_cases hq:nv c len s.2 2=0
  ·go_upto_region 4 with (first
    | (go_at_call 18; refine A1.out.mono ?_; rintro e Z ⟨rfl,hd,st⟩)
    | fail)
   have MZ:=HR.out.1.thrown hd st
   obtain ⟨y0,y1,y2,_⟩:=MZ.cs
   have hz:=MZ.lt
   have MA:=hid' MZ.drew
   have HW:=hid' hW
   clear hd st MZ hW A1
   have hS0:S4 mb (.pointer (some ⟨pb,0,none⟩)) (.int .i64 more) (.slice ps slots.length cs) Z.drew:=⟨y0,y1,y2,hz⟩
   refine wp_region_held_drew (S:=S4 mb (.pointer (some ⟨pb,0,none⟩)) (.int .i64 more) (.slice ps slots.length cs)) (by kernel_rfl) hS0 (fun _=>?_)
   refine tkH (v:=?_) 0 16 hS0 ?_ ?_; rotate_left 1
   ·(rintro w' ⟨e0,e1,e2,e3⟩; go_simp; try with_reducible rfl)
   simp only [Act.put,Jh,Ji,Jj]
   refine tkH (v:=?_) 1 17 hS0 ?_ ?_; rotate_left 1
   ·(rintro w' ⟨e0,e1,e2,e3⟩; go_simp; try with_reducible rfl)
   simp only [Act.put,Jh,Ji,Jj]
   refine tkH (v:=?_) 2 18 hS0 ?_ ?_; rotate_left 1
   ·(rintro w' ⟨e0,e1,e2,e3⟩; go_simp; try with_reducible rfl)
   simp only [Act.put,Jh,Ji,Jj]
   refine tkH (v:=?_) 3 19 hS0 ?_ ?_; rotate_left 1
   ·(rintro w' ⟨e0,e1,e2,e3⟩; go_simp; try with_reducible rfl)
   simp only [Act.put,Jh,Ji,Jj]
   refine tkH (v:=?_) 4 20 hS0 ?_ ?_; rotate_left 1
   ·(rintro w' ⟨e0,e1,e2,e3⟩; go_simp; try with_reducible rfl)
   simp only [Act.put,Jh,Ji,Jj]
   refine tkH (v:=?_) 5 21 hS0 ?_ ?_; rotate_left 1
   ·(rintro w' ⟨e0,e1,e2,e3⟩; go_simp; try with_reducible rfl)
   simp only [Act.put,Jh,Ji,Jj]
   refine tkH (v:=?_) 6 22 hS0 ?_ ?_; rotate_left 1
   ·(rintro w' ⟨e0,e1,e2,e3⟩; go_simp; try with_reducible rfl)
   simp only [Act.put,Jh,Ji,Jj]
   refine tkH (v:=?_) 7 23 hS0 ?_ ?_; rotate_left 1
   ·(rintro w' ⟨e0,e1,e2,e3⟩; go_simp; try with_reducible rfl)
   simp only [Act.put,Jh,Ji,Jj]
   refine tkH (v:=?_) 8 24 hS0 ?_ ?_; rotate_left 1
   ·(rintro w' ⟨e0,e1,e2,e3⟩; go_simp; try with_reducible rfl)
   simp only [Act.put,Jh,Ji,Jj]
   refine tkH (v:=?_) 10 26 hS0 ?_ ?_; rotate_left 1
   ·(rintro w' ⟨e0,e1,e2,e3⟩; go_simp; try with_reducible rfl)
   simp only [Act.put,Jh,Ji,Jj]
   refine tkH (v:=?_) 11 27 hS0 ?_ ?_; rotate_left 1
   ·(rintro w' ⟨e0,e1,e2,e3⟩; go_simp; try with_reducible rfl)
   simp only [Act.put,Jh,Ji,Jj]
   refine tkH (v:=?_) 12 28 hS0 ?_ ?_; rotate_left 1
   ·(rintro w' ⟨e0,e1,e2,e3⟩; go_simp; try with_reducible rfl)
   simp only [Act.put,Jh,Ji,Jj]
   refine tkH (v:=?_) 13 29 hS0 ?_ ?_; rotate_left 1
   ·(rintro w' ⟨e0,e1,e2,e3⟩; go_simp; try with_reducible rfl)
   simp only [Act.put,Jh,Ji,Jj]
   refine tkH (v:=?_) 14 30 hS0 ?_ ?_; rotate_left 1
   ·(rintro w' ⟨e0,e1,e2,e3⟩; go_simp; try with_reducible rfl)
   simp only [Act.put,Jh,Ji,Jj]
   refine tkH (v:=?_) 15 31 hS0 ?_ ?_; rotate_left 1
   ·(rintro w' ⟨e0,e1,e2,e3⟩; go_simp; try with_reducible rfl)
   simp only [Act.put,Jh,Ji,Jj]
   refine tkH (v:=?_) 16 32 hS0 ?_ ?_; rotate_left 1
   ·(rintro w' ⟨e0,e1,e2,e3⟩; go_simp; try with_reducible rfl)
   simp only [Act.put,Jh,Ji,Jj]
   refine tkH (v:=?_) 17 33 hS0 ?_ ?_; rotate_left 1
   ·(rintro w' ⟨e0,e1,e2,e3⟩; go_simp; try with_reducible rfl)
   simp only [Act.put,Jh,Ji,Jj]
   refine tkH (v:=?_) 18 34 hS0 ?_ ?_; rotate_left 1
   ·(rintro w' ⟨e0,e1,e2,e3⟩; go_simp; try with_reducible rfl)
   simp only [Act.put,Jh,Ji,Jj]
   refine tkH (v:=?_) 19 35 hS0 ?_ ?_; rotate_left 1
   ·(rintro w' ⟨e0,e1,e2,e3⟩; go_simp; try with_reducible rfl)
   simp only [Act.put,Jh,Ji,Jj]
   refine tkH (v:=?_) 22 38 hS0 ?_ ?_; rotate_left 1
   ·(rintro w' ⟨e0,e1,e2,e3⟩; go_simp; try with_reducible rfl)
   simp only [Act.put,Jh,Ji,Jj]
   refine wpAnyH_ready (rs:=[9]) (by kernel_rfl) (by simp) ?_
   refine AllReadyH.cons rfl (fun K hK=>?_) AllReadyH.nil
   go_simp
   refine (id_any _ more task ht0 (by omega) hM.more0.1 (by have:=hM.more0; omega)).mono ?_
   rintro e Z1 ⟨rfl,bz1⟩
   have M1:=MA.out.of_below bz1
   have hS1:S4 mb (.pointer (some ⟨pb,0,none⟩)) (.int .i64 more) (.slice ps slots.length cs) Z1:=S4.of M1
   refine hK.out _ _ hS1 (fun _=>?_)
   clear hK K bz1
   have D1:=hid' (next_any M1.dice (slots.length:Int) (by omega) (by omega))
   have MB:=hid' M1
   clear M1
   refine wpAnyH_ready (rs:=[20]) (by kernel_rfl) (by simp) ?_
   refine AllReadyH.cons rfl (fun K hK=>?_) AllReadyH.nil
   go_simp
   refine D1.out.mono ?_
   rintro e Z2 ⟨rfl,hd2,st2⟩
   have M2:=MB.out.thrown hd2 st2
   have hS2:S4 mb (.pointer (some ⟨pb,0,none⟩)) (.int .i64 more) (.slice ps slots.length cs) Z2:=S4.of M2
   refine hK.out _ _ hS2 (fun _=>?_)
   clear hK K hd2 st2 D1 MB hS1
   have MC:=hid' M2
   clear M2
   refine wpAnyH_ready (rs:=[21]) (by kernel_rfl) (by simp) ?_
   refine AllReadyH.cons rfl (fun K hK=>?_) AllReadyH.nil
   go_simp
   have hv:=nv_bounds c len (na len s.2) (n:=(slots.length:Int)) (by omega)
   refine (id_any _ more (nv c len (na len s.2) (slots.length:Int)) hv.1 (by omega) hM.more0.1 (by have:=hM.more0; omega)).mono ?_
   rintro e Z3 ⟨rfl,bz3⟩
   have M3:=MC.out.of_below bz3
   have hS3:S4 mb (.pointer (some ⟨pb,0,none⟩)) (.int .i64 more) (.slice ps slots.length cs) Z3:=S4.of M3
   refine hK.out _ _ hS3 (fun _=>?_)
   clear hK K bz3 MC hS2
   have D3:=hid' (next_any M3.dice 150 (by omega) (by omega))
   have MD:=hid' M3
   clear M3
   refine wpAnyH_ready (rs:=[23]) (by kernel_rfl) (by simp) ?_
   refine AllReadyH.cons rfl (fun K hK=>?_) AllReadyH.nil
   go_simp
   refine D3.out.mono ?_
   rintro e Z4 ⟨rfl,hd4,st4⟩
   have M4:=MD.out.thrown hd4 st4
   have hS4:S4 mb (.pointer (some ⟨pb,0,none⟩)) (.int .i64 more) (.slice ps slots.length cs) Z4:=S4.of M4
   refine hK.out _ _ hS4 (fun _=>?_)
   clear hK K hd4 st4 D3 MD hS3
   obtain ⟨l0,l1,l2,l3,hp4,hs4⟩:=M4.plan
   have P4:=hid' (prefer_any hp4 (idOf more task) 1 (idOf more (nv c len (na len s.2) (slots.length:Int))) (nv c len (na len (na len s.2)) 150))
   have ME:=hid' (Jc M4 (Jc hp4 hs4))
   clear M4 hp4 hs4
   refine wpAnyH_ready (rs:=[24]) (by kernel_rfl) (by simp) ?_
   refine AllReadyH.cons rfl (fun K hK=>?_) AllReadyH.nil
   go_simp
   refine P4.out.mono ?_
   rintro e Z5 ⟨rfl,hp5,ho5⟩
   have M5:=ME.out.1.did ME.out.2.1 ho5 hp5 (sim_pref ME.out.2.2 (idOf more task) 1 (idOf more (nv c len (na len s.2) (slots.length:Int))) (nv c len (na len (na len s.2)) 150)).2
   have hS5:S4 mb (.pointer (some ⟨pb,0,none⟩)) (.int .i64 more) (.slice ps slots.length cs) Z5:=S4.of M5
   refine hK.out _ _ hS5 (fun _=>?_)
   clear hK K ho5 hp5 P4 ME hS4 hS0
   have MF:=hid' M5
   clear M5
   refine wpAnyH_done (by kernel_rfl) ?_ _
   go_wp2_with fail
   go_roundg k'
   case measure=>omega
   case rel=>exact ⟨k',wish1 c len more slots.length task s,by omega,Jb _,by go_num,(show _∧_ from ⟨by unfold wish1; rw [if_pos hq]; exact MF.out,HW.out⟩)⟩
  ·go_upto_region 5 with (first
    | (go_at_call 18; refine A1.out.mono ?_; rintro e Z ⟨rfl,hd,st⟩)
    | fail)
   have MZ:=HR.out.1.thrown hd st
   obtain ⟨y0,y1,y2,_⟩:=MZ.cs
   have hz:=MZ.lt
   have MA:=hid' MZ.drew
   have HW:=hid' hW
   clear hd st MZ hW A1
   have hS0:S4 mb (.pointer (some ⟨pb,0,none⟩)) (.int .i64 more) (.slice ps slots.length cs) Z.drew:=⟨y0,y1,y2,hz⟩
   refine wp_region_held_drew (S:=S4 mb (.pointer (some ⟨pb,0,none⟩)) (.int .i64 more) (.slice ps slots.length cs)) (by kernel_rfl) hS0 (fun _=>?_)
   refine tkH (v:=?_) 0 41 hS0 ?_ ?_; rotate_left 1
   ·(rintro w' ⟨e0,e1,e2,e3⟩; go_simp; try with_reducible rfl)
   simp only [Act.put,Jh,Ji,Jj]
   refine tkH (v:=?_) 1 42 hS0 ?_ ?_; rotate_left 1
   ·(rintro w' ⟨e0,e1,e2,e3⟩; go_simp; try with_reducible rfl)
   simp only [Act.put,Jh,Ji,Jj]
   refine tkH (v:=?_) 2 43 hS0 ?_ ?_; rotate_left 1
   ·(rintro w' ⟨e0,e1,e2,e3⟩; go_simp; try with_reducible rfl)
   simp only [Act.put,Jh,Ji,Jj]
   refine tkH (v:=?_) 3 44 hS0 ?_ ?_; rotate_left 1
   ·(rintro w' ⟨e0,e1,e2,e3⟩; go_simp; try with_reducible rfl)
   simp only [Act.put,Jh,Ji,Jj]
   refine tkH (v:=?_) 4 45 hS0 ?_ ?_; rotate_left 1
   ·(rintro w' ⟨e0,e1,e2,e3⟩; go_simp; try with_reducible rfl)
   simp only [Act.put,Jh,Ji,Jj]
   refine tkH (v:=?_) 5 46 hS0 ?_ ?_; rotate_left 1
   ·(rintro w' ⟨e0,e1,e2,e3⟩; go_simp; try with_reducible rfl)
   simp only [Act.put,Jh,Ji,Jj]
   refine tkH (v:=?_) 6 47 hS0 ?_ ?_; rotate_left 1
   ·(rintro w' ⟨e0,e1,e2,e3⟩; go_simp; try with_reducible rfl)
   simp only [Act.put,Jh,Ji,Jj]
   refine tkH (v:=?_) 7 48 hS0 ?_ ?_; rotate_left 1
   ·(rintro w' ⟨e0,e1,e2,e3⟩; go_simp; try with_reducible rfl)
   simp only [Act.put,Jh,Ji,Jj]
   refine tkH (v:=?_) 8 49 hS0 ?_ ?_; rotate_left 1
   ·(rintro w' ⟨e0,e1,e2,e3⟩; go_simp; try with_reducible rfl)
   simp only [Act.put,Jh,Ji,Jj]
   refine tkH (v:=?_) 10 51 hS0 ?_ ?_; rotate_left 1
   ·(rintro w' ⟨e0,e1,e2,e3⟩; go_simp; try with_reducible rfl)
   simp only [Act.put,Jh,Ji,Jj]
   refine tkH (v:=?_) 11 52 hS0 ?_ ?_; rotate_left 1
   ·(rintro w' ⟨e0,e1,e2,e3⟩; go_simp; try with_reducible rfl)
   simp only [Act.put,Jh,Ji,Jj]
   refine tkH (v:=?_) 12 53 hS0 ?_ ?_; rotate_left 1
   ·(rintro w' ⟨e0,e1,e2,e3⟩; go_simp; try with_reducible rfl)
   simp only [Act.put,Jh,Ji,Jj]
   refine tkH (v:=?_) 13 54 hS0 ?_ ?_; rotate_left 1
   ·(rintro w' ⟨e0,e1,e2,e3⟩; go_simp; try with_reducible rfl)
   simp only [Act.put,Jh,Ji,Jj]
   refine tkH (v:=?_) 14 55 hS0 ?_ ?_; rotate_left 1
   ·(rintro w' ⟨e0,e1,e2,e3⟩; go_simp; try with_reducible rfl)
   simp only [Act.put,Jh,Ji,Jj]
   refine tkH (v:=?_) 17 58 hS0 ?_ ?_; rotate_left 1
   ·(rintro w' ⟨e0,e1,e2,e3⟩; go_simp; try with_reducible rfl)
   simp only [Act.put,Jh,Ji,Jj]
   refine wpAnyH_ready (rs:=[9]) (by kernel_rfl) (by simp) ?_
   refine AllReadyH.cons rfl (fun K hK=>?_) AllReadyH.nil
   go_simp
   refine (id_any _ more task ht0 (by omega) hM.more0.1 (by have:=hM.more0; omega)).mono ?_
   rintro e Z1 ⟨rfl,bz1⟩
   have M1:=MA.out.of_below bz1
   have hS1:S4 mb (.pointer (some ⟨pb,0,none⟩)) (.int .i64 more) (.slice ps slots.length cs) Z1:=S4.of M1
   refine hK.out _ _ hS1 (fun _=>?_)
   clear hK K bz1
   have D1:=hid' (next_any M1.dice 2 (by omega) (by omega))
   have MB:=hid' M1
   clear M1
   refine wpAnyH_ready (rs:=[15]) (by kernel_rfl) (by simp) ?_
   refine AllReadyH.cons rfl (fun K hK=>?_) AllReadyH.nil
   go_simp
   refine D1.out.mono ?_
   rintro e Z2 ⟨rfl,hd2,st2⟩
   have M2:=MB.out.thrown hd2 st2
   have hS2:S4 mb (.pointer (some ⟨pb,0,none⟩)) (.int .i64 more) (.slice ps slots.length cs) Z2:=S4.of M2
   refine hK.out _ _ hS2 (fun _=>?_)
   clear hK K hd2 st2 D1 MB hS1
   have MC:=hid' M2
   clear M2
   refine wpAnyH_ready (rs:=[16]) (by kernel_rfl) (by simp) ?_
   refine AllReadyH.cons rfl (fun K hK=>?_) AllReadyH.nil
   go_simp
   have hv:=nv_bounds c len (na len s.2) (n:=2) (by omega)
   refine (id_any _ more (nv c len (na len s.2) 2) hv.1 (by omega) hM.more0.1 (by have:=hM.more0; omega)).mono ?_
   rintro e Z3 ⟨rfl,bz3⟩
   have M3:=MC.out.of_below bz3
   have hS3:S4 mb (.pointer (some ⟨pb,0,none⟩)) (.int .i64 more) (.slice ps slots.length cs) Z3:=S4.of M3
   refine hK.out _ _ hS3 (fun _=>?_)
   clear hK K bz3 MC hS2
   have D3:=hid' (next_any M3.dice 150 (by omega) (by omega))
   have MD:=hid' M3
   clear M3
   refine wpAnyH_ready (rs:=[18]) (by kernel_rfl) (by simp) ?_
   refine AllReadyH.cons rfl (fun K hK=>?_) AllReadyH.nil
   go_simp
   refine D3.out.mono ?_
   rintro e Z4 ⟨rfl,hd4,st4⟩
   have M4:=MD.out.thrown hd4 st4
   have hS4:S4 mb (.pointer (some ⟨pb,0,none⟩)) (.int .i64 more) (.slice ps slots.length cs) Z4:=S4.of M4
   refine hK.out _ _ hS4 (fun _=>?_)
   clear hK K hd4 st4 D3 MD hS3
   obtain ⟨l0,l1,l2,l3,hp4,hs4⟩:=M4.plan
   have P4:=hid' (prefer_any hp4 (idOf more task) 0 (idOf more (nv c len (na len s.2) 2)) (nv c len (na len (na len s.2)) 150))
   have ME:=hid' (Jc M4 (Jc hp4 hs4))
   clear M4 hp4 hs4
   refine wpAnyH_ready (rs:=[19]) (by kernel_rfl) (by simp) ?_
   refine AllReadyH.cons rfl (fun K hK=>?_) AllReadyH.nil
   go_simp
   refine P4.out.mono ?_
   rintro e Z5 ⟨rfl,hp5,ho5⟩
   have M5:=ME.out.1.did ME.out.2.1 ho5 hp5 (sim_pref ME.out.2.2 (idOf more task) 0 (idOf more (nv c len (na len s.2) 2)) (nv c len (na len (na len s.2)) 150)).2
   have hS5:S4 mb (.pointer (some ⟨pb,0,none⟩)) (.int .i64 more) (.slice ps slots.length cs) Z5:=S4.of M5
   refine hK.out _ _ hS5 (fun _=>?_)
   clear hK K ho5 hp5 P4 ME hS4 hS0
   have MF:=hid' M5
   clear M5
   refine wpAnyH_done (by kernel_rfl) ?_ _
   go_wp2_with fail
   go_roundg k'
   case measure=>omega
   case rel=>exact ⟨k',wish1 c len more slots.length task s,by omega,Jb _,by go_num,(show _∧_ from ⟨by unfold wish1; rw [if_neg hq]; exact MF.out,HW.out⟩)⟩
 ·obtain rfl:k=0:=by omega
  go_wp2_with fail
  go_end0
  have h1:=HR.out.1
  have h2:s=wishT c len more slots.length task (R,a):=HR.out.2
  rw [← h2]
  exact ⟨rfl,h1⟩
end
end
section
open Go.RowKit
theorem idOf_bounds (more k:Int):0≤idOf more k∧idOf more k≤99:=by unfold idOf; omega
theorem idOf_inj {more:Int}{j k:Nat}(hj:j<14)(hk:k<14)(e:idOf more j=idOf more k):j=k:=by unfold idOf at e; omega
def idsL (more:Int)(n:Nat):List Int:=(List.range n).map (fun k:Nat=>idOf more (k:Int))
theorem idsL_succ (more:Int)(n:Nat):idsL more (n+1)=idsL more n ++ [idOf more n]:=by simp [idsL,List.range_succ]
theorem ids_at {more:Int}{n:Nat}{xs:List Th}(h:xs.map (·.1)=idsL more n){k:Nat}(hk:k<n):∃ hl:k<xs.length,xs[k].1=idOf more k:=by
 have hl:xs.length=n:=by
  have:=congrArg List.length h
  simpa [idsL] using this
 refine ⟨by omega,?_⟩
 have:=congrArg (fun l=>l[k]?) h
 simpa [idsL,hk,show k<xs.length by omega] using this
theorem at_ids {more:Int}{n k:Nat}{xs:List Th}(h:xs.map (·.1)=idsL more n)(hn:n≤14)(hk:k<n):atOf (idOf more k) xs=k:=by
 obtain ⟨hl,e⟩:=ids_at h hk
 refine atOf_found hl (fun j hj hlt q=>?_) e
 obtain ⟨_,e'⟩:=ids_at h (k:=j) (by omega)
 rw [e'] at q
 have:=idOf_inj (by omega) (by omega) q
 omega
theorem no_ids {more:Int}{n k:Nat}{xs:List Th}(h:xs.map (·.1)=idsL more n)(hk:n≤k)(hk':k<14):atOf (idOf more k) xs<0:=by
 rw [atOf_neg]
 intro x hx q
 obtain ⟨j,hj,rfl⟩:=List.mem_iff_getElem.1 hx
 have hl:xs.length=n:=by
  have:=congrArg List.length h
  simpa [idsL] using this
 obtain ⟨_,e⟩:=ids_at h (k:=j) (by omega)
 rw [e] at q
 have:=idOf_inj (by omega) hk' q
 omega
structure RK (more:Int)(R:RSt)(nr nj nm nt:Nat):Prop where
 i0:R.t0.map (·.1)=idsL more nr
 i1:R.t1.map (·.1)=idsL more nm
 i2:R.t2.map (·.1)=idsL more nj
 i3:R.t3.map (·.1)=idsL more nt
section
variable {more:Int}{R:RSt}{nr nj nm nt:Nat}
theorem len_of {xs:List Th}{n:Nat}(h:xs.map (·.1)=idsL more n):xs.length=n:=by
 have:=congrArg List.length h
 simpa [idsL] using this
theorem RK.rack (h:RK more R nr nj nm nt)(hn:nr<4):c2 R (idOf more nr)=0∧RK more (n2 R (idOf more nr)) (nr+1) nj nm nt:=by
 have hb:=idOf_bounds more nr
 have hc:c2 R (idOf more nr)=0:=by
  have h1:=no_ids h.i0 (Jb _) (by omega)
  have h2:=len_of h.i0
  unfold c2 makeOf
  rw [if_neg (by omega),if_neg (by omega),if_neg (by omega),if_neg (by omega),if_neg (by simp)]
 refine ⟨hc,?_⟩
 unfold n2
 rw [if_pos hc]
 exact ⟨by rw [List.map_append,h.i0,idsL_succ]; rfl,h.i1,h.i2,h.i3⟩
theorem RK.again (h:RK more R nr nj nm nt)(hn:0<nr)(hn':nr≤4):c2 R (idOf more 0)=2∧n2 R (idOf more 0)=R:=by
 have hb:=idOf_bounds more 0
 have hc:c2 R (idOf more 0)=2:=by
  have h1:atOf (idOf more ((0:Nat):Int)) R.t0=((0:Nat):Int):=at_ids h.i0 (by omega) hn
  have h1':atOf (idOf more 0) R.t0=0:=h1
  unfold c2 makeOf
  rw [if_neg (by omega),if_pos (by omega)]
 refine ⟨hc,?_⟩
 unfold n2
 rw [if_neg (by omega)]
theorem RK.job (h:RK more R nr nj nm nt)(hn:nj<4){v:Int}(h0:0≤v)(h1:v≤1000):c4 R (idOf more nj) v=0∧RK more (n4 R (idOf more nj) v) nr (nj+1) nm nt:=by
 have hb:=idOf_bounds more nj
 have hc:c4 R (idOf more nj) v=0:=by
  have h1:=no_ids h.i2 (Jb _) (by omega)
  have h2:=len_of h.i2
  unfold c4 makeOf
  rw [if_neg (by omega),if_neg (by omega),if_neg (by omega),if_neg (by omega),if_neg (by omega)]
 refine ⟨hc,?_⟩
 unfold n4
 rw [if_pos hc]
 exact ⟨h.i0,h.i1,by rw [List.map_append,h.i2,idsL_succ]; rfl,h.i3⟩
theorem RK.mach (h:RK more R nr nj nm nt)(hn:nm<8)(hr':nr≤4){r:Nat}(hr:r<nr){v:Int}(h0:1≤v)(h1:v≤4):c3 R (idOf more nm) (idOf more r) v=0∧RK more (n3 R (idOf more nm) (idOf more r) v) nr nj (nm+1) nt:=by
 have hb:=idOf_bounds more nm
 have hc:c3 R (idOf more nm) (idOf more r) v=0:=by
  have h1:=no_ids h.i1 (Jb _) (by omega)
  have h2:=len_of h.i1
  have h3:=at_ids h.i0 (by omega) hr
  unfold c3 makeOf
  rw [if_neg (by omega),if_neg (by omega),if_neg (by omega),if_neg (by omega),if_neg (by omega)]
 refine ⟨hc,?_⟩
 unfold n3
 rw [if_pos hc]
 exact ⟨h.i0,by rw [List.map_append,h.i1,idsL_succ]; rfl,h.i2,h.i3⟩
theorem RK.task (h:RK more R nr nj nm nt)(hn:nt<14)(hj':nj≤4){j:Nat}(hj:j<nj){v:Int}(h0:0≤v)(h1:v≤1000):c5 R (idOf more nt) (idOf more j) v=0∧RK more (n5 R (idOf more nt) (idOf more j) v) nr nj nm (nt+1):=by
 have hb:=idOf_bounds more nt
 have hc:c5 R (idOf more nt) (idOf more j) v=0:=by
  have h1:=no_ids h.i3 (Jb _) (by omega)
  have h2:=len_of h.i3
  have h3:=at_ids h.i2 (by omega) hj
  unfold c5 makeOf
  rw [if_neg (by omega),if_neg (by omega),if_neg (by omega),if_neg (by omega),if_neg (by omega)]
 refine ⟨hc,?_⟩
 unfold n5
 rw [if_pos hc]
 exact ⟨h.i0,h.i1,h.i2,by rw [List.map_append,h.i3,idsL_succ]; rfl⟩
theorem RK.pref (h:RK more R nr nj nm nt)(t k i c:Int):RK more (n6 R t k i c) nr nj nm nt:=by
 unfold n6
 split
 ·exact ⟨h.i0,h.i1,h.i2,h.i3⟩
 ·exact h
theorem RK.wish1 (h:RK more R nr nj nm nt)(c:Nat→Int)(len ns:Nat)(task:Int)(a:Nat):RK more (wish1 c len more ns task (R,a)).1 nr nj nm nt:=by
 unfold Ytjdindfjfpdikab.wish1
 split
 ·exact h.pref _ _ _ _
 ·exact h.pref _ _ _ _
theorem RK.wishN {nr nj nm nt:Nat}(c:Nat→Int)(len ns:Nat)(task:Int):∀ (k:Nat)(s:RSt×Nat),RK more s.1 nr nj nm nt→RK more (wishN c len more ns task k s).1 nr nj nm nt
 | 0,_,h=>h
 | k+1,(_,a),h=>RK.wishN c len ns task k _ (RK.wish1 h c len ns task a)
theorem RK.wishT (h:RK more R nr nj nm nt)(c:Nat→Int)(len ns:Nat)(task:Int)(a:Nat):RK more (wishT c len more ns task (R,a)).1 nr nj nm nt:=RK.wishN c len ns task _ _ h
theorem rk0:RK more R0 0 0 0 0:=⟨rfl,rfl,rfl,rfl⟩
end
def madeRJ (c:Nat→Int)(len:Nat)(more:Int):Nat→RSt×Nat→RSt×Nat
 | 0,s=>s
 | k+1,s=>(fun q:RSt×Nat=>(n4 (n2 q.1 (idOf more k)) (idOf more k) (nv c len q.2 200),na len q.2)) (madeRJ c len more k s)
def mach1 (c:Nat→Int)(len:Nat)(more:Int)(k:Nat)(s:RSt×Nat×List Int):RSt×Nat×List Int :=
 (n3 s.1 (idOf more k) (idOf more (nv c len (na len s.2.1) 2)) (1+nv c len s.2.1 3),na len (na len s.2.1),s.2.2 ++ [1+nv c len s.2.1 3])
def machN (c:Nat→Int)(len:Nat)(more:Int):Nat→RSt×Nat×List Int→RSt×Nat×List Int
 | 0,s=>(s.1,na len s.2.1,s.2.2)
 | f+1,s=>if (s.2.2.length:Int)<1+nv c len s.2.1 4 then machN c len more f (mach1 c len more s.2.2.length (s.1,na len s.2.1,s.2.2)) else (s.1,na len s.2.1,s.2.2)
def task1 (c:Nat→Int)(len:Nat)(more:Int)(ns k:Nat)(s:RSt×Nat):RSt×Nat :=
 wishT c len more ns k (n5 s.1 (idOf more k) (idOf more (nv c len s.2 2)) (nv c len (na len s.2) 200),na len (na len s.2))
def taskN (c:Nat→Int)(len:Nat)(more:Int)(ns:Nat):Nat→RSt×Nat→RSt×Nat
 | 0,s=>s
 | k+1,s=>task1 c len more ns k (taskN c len more ns k s)
end
section
open Go.RowKit
section
variable {base:Nat}{w0:Fr}{w w':World}{mb pb b0 b1 b2 b3 xb:Nat}{more:Int}{vs:Value}{slots:List Int}{tasks:Int}{R R':RSt}{p:Option Addr}{len cap a a':Nat}{c:Nat→Int}
def CelX (w w':World):Prop:=∀ (b:Nat)(cs:Array Value)(t:TypeId)(f:Nat×Nat),t≠25→w.heap[b]?=some (.cells cs t f)→w'.heap[b]?=some (.cells cs t f)
theorem CelX.of_cel (h:Cel w w'):CelX w w':=fun b cs t f _ q=>h b cs t f q
theorem CelX.trans {w'':World}(h:CelX w w')(h':CelX w' w''):CelX w w'':=fun b cs t f q1 q=>h' b cs t f q1 (h b cs t f q1 q)
theorem CelX.of_stir (h:MK base w0 w mb pb b0 b1 b2 b3 xb more vs slots tasks R p len cap c a)(hs:Stir xb w w'):CelX w w':=fun b cs t f ht q=>(hs.block b (fun e=>by
 have hx:=h.dice.cells
 subst e
 rw [hx] at q
 cases q
 exact ht rfl)).trans q
theorem mk_rack (h:MK base w0 w mb pb b0 b1 b2 b3 xb more vs slots tasks R p len cap c a)(x:Int) :
  Calls Try.prog 15 #[.pointer (some ⟨pb,0,none⟩),.int .i64 x] w fun e w'=>e=.returned (.int .i64 (c2 R x))∧MK base w0 w' mb pb b0 b1 b2 b3 xb more vs slots tasks (n2 R x) p len cap c a∧CelX w w':=by
 obtain ⟨l0,l1,l2,l3,hp,hs⟩:=h.plan
 refine (rack_any sortSaid hp x hs.len).mono ?_
 rintro e w' ⟨rfl,hp',ho⟩
 exact ⟨by rw [(sim_rack hs x).1],h.did hp ho hp' (sim_rack hs x).2,CelX.of_cel (Cel.of_plan hp ho)⟩
theorem mk_mach (h:MK base w0 w mb pb b0 b1 b2 b3 xb more vs slots tasks R p len cap c a)(x y z:Int) :
  Calls Try.prog 19 #[.pointer (some ⟨pb,0,none⟩),.int .i64 x,.int .i64 y,.int .i64 z] w fun e w'=>e=.returned (.int .i64 (c3 R x y z))∧MK base w0 w' mb pb b0 b1 b2 b3 xb more vs slots tasks (n3 R x y z) p len cap c a∧CelX w w':=by
 obtain ⟨l0,l1,l2,l3,hp,hs⟩:=h.plan
 refine (machine_any sortSaid hp x y z hs.len).mono ?_
 rintro e w' ⟨rfl,hp',ho⟩
 exact ⟨by rw [(sim_mach hs x y z).1],h.did hp ho hp' (sim_mach hs x y z).2,CelX.of_cel (Cel.of_plan hp ho)⟩
theorem mk_job (h:MK base w0 w mb pb b0 b1 b2 b3 xb more vs slots tasks R p len cap c a)(x y:Int) :
  Calls Try.prog 17 #[.pointer (some ⟨pb,0,none⟩),.int .i64 x,.int .i64 y] w fun e w'=>e=.returned (.int .i64 (c4 R x y))∧MK base w0 w' mb pb b0 b1 b2 b3 xb more vs slots tasks (n4 R x y) p len cap c a∧CelX w w':=by
 obtain ⟨l0,l1,l2,l3,hp,hs⟩:=h.plan
 refine (job_any sortSaid hp x y hs.len).mono ?_
 rintro e w' ⟨rfl,hp',ho⟩
 exact ⟨by rw [(sim_job hs x y).1],h.did hp ho hp' (sim_job hs x y).2,CelX.of_cel (Cel.of_plan hp ho)⟩
theorem mk_task (h:MK base w0 w mb pb b0 b1 b2 b3 xb more vs slots tasks R p len cap c a)(x y z:Int) :
  Calls Try.prog 20 #[.pointer (some ⟨pb,0,none⟩),.int .i64 x,.int .i64 y,.int .i64 z] w fun e w'=>e=.returned (.int .i64 (c5 R x y z))∧MK base w0 w' mb pb b0 b1 b2 b3 xb more vs slots tasks (n5 R x y z) p len cap c a∧CelX w w':=by
 obtain ⟨l0,l1,l2,l3,hp,hs⟩:=h.plan
 refine (task_any sortSaid hp x y z hs.len).mono ?_
 rintro e w' ⟨rfl,hp',ho⟩
 exact ⟨by rw [(sim_task hs x y z).1],h.did hp ho hp' (sim_task hs x y z).2,CelX.of_cel (Cel.of_plan hp ho)⟩
theorem mk_tick (h:MK base w0 w mb pb b0 b1 b2 b3 xb more vs slots tasks R p len cap c a) :
  Calls Try.prog 30 #[.pointer (some ⟨pb,0,none⟩)] w fun e w'=>e=.returned (.tuple #[])∧MK base w0 w' mb pb b0 b1 b2 b3 xb more vs slots tasks (n8 R) p len cap c a∧CelX w w':=by
 obtain ⟨l0,l1,l2,l3,hp,hs⟩:=h.plan
 refine (tick_any sortSaid hp hs.len hs.wd).mono ?_
 rintro e w' ⟨rfl,⟨ys,hy,hp'⟩,ho⟩
 exact ⟨rfl,h.did hp ho hp' (sim_tick hs ys hy),CelX.of_cel (Cel.of_plan hp ho)⟩
theorem mk_rem (h:MK base w0 w mb pb b0 b1 b2 b3 xb more vs slots tasks R p len cap c a)(k i:Int) :
  Calls Try.prog 31 #[.pointer (some ⟨pb,0,none⟩),.int .i64 k,.int .i64 i] w fun e w'=>e=.returned (.int .i64 (c7 R k i))∧MK base w0 w' mb pb b0 b1 b2 b3 xb more vs slots tasks (n7 R k i) p len cap c a∧CelX w w':=by
 obtain ⟨l0,l1,l2,l3,hp,hs⟩:=h.plan
 refine (remove_runs hp hs.kn0 hs.runs.kn1 hs.kn2 hs.kn3 k i).mono ?_
 rintro e w' ⟨rfl,hp',ho⟩
 exact ⟨by rw [(sim_rem hs k i).1],h.did hp ho hp' (sim_rem hs k i).2,CelX.of_cel (Cel.of_plan hp ho)⟩
theorem mk_next (h:MK base w0 w mb pb b0 b1 b2 b3 xb more vs slots tasks R p len cap c a)(n:Int)(h1:1≤n)(h2:n≤1001) :
  Calls Try.prog 18 #[.pointer (some ⟨xb,0,none⟩),.int .i64 n] w fun e w'=>e=.returned (.int .i64 (nv c len a n))∧MK base w0 w' mb pb b0 b1 b2 b3 xb more vs slots tasks R p len cap c (na len a)∧CelX w w':=by
 refine (next_any h.dice n h1 h2).mono ?_
 rintro e w' ⟨rfl,hd,st⟩
 exact ⟨rfl,h.thrown hd st,CelX.of_stir h st⟩
theorem mk_id (h:MK base w0 w mb pb b0 b1 b2 b3 xb more vs slots tasks R p len cap c a)(k:Int)(h0:0≤k)(h1:k≤1000) :
  Calls Try.prog 16 #[.agg #[.int .i64 more],.int .i64 k] w fun e w'=>e=.returned (.int .i64 (idOf more k))∧MK base w0 w' mb pb b0 b1 b2 b3 xb more vs slots tasks R p len cap c a∧CelX w w':=by
 refine (id_any w more k h0 h1 h.more0.1 (by have:=h.more0; omega)).mono ?_
 rintro e w' ⟨rfl,hb⟩
 exact ⟨rfl,h.of_below hb,CelX.of_cel (Cel.of_below hb)⟩
end
end
section
open Go.RowKit
section
variable {base:Nat}{w0:Fr}{w w1 w':World}{mb pb b0 b1 b2 b3 xb:Nat}{more:Int}{vs v':Value}{slots:List Int}{tasks:Int}{R R':RSt}{p:Option Addr}{len cap a a':Nat}{c:Nat→Int}
theorem MK.wrote {slots':List Int}{tasks':Int}(h:MK base w0 w mb pb b0 b1 b2 b3 xb more vs slots tasks R p len cap c a)(hc:w'.heap[mb]?=some (.cells #[.pointer (some ⟨pb,0,none⟩),.int .i64 more,v',.int .i64 tasks'] 35))(hr:NRow base w' v' slots')
  (hk:∀ (b:Nat),b≠mb→vs.ownBlock≠some b→b<w.heap.size→w'.heap[b]?=w.heap[b]?) (ho:w'.os=w.os∧w'.tape=w.tape∧w'.output=w.output) (hz:w.heap.size≤w'.heap.size) (hv':∀ b,v'.ownBlock=some b→vs.ownBlock=some b∨w.heap.size≤b):MK base w0 w' mb pb b0 b1 b2 b3 xb more v' slots' tasks' R p len cap c a:=by
 obtain ⟨l0,l1,l2,l3,hp,hs⟩:=h.plan
 have hmc:=h.cells
 have hvt:∀ b cs t f,w.heap[b]?=some (.cells cs t f)→t≠3→vs.ownBlock≠some b:=fun b cs t f q ht e=>by
  rcases h.row.2 with ⟨e1,_⟩ | ⟨g,cp,cur,e1,_,hg,_⟩
  ·rw [e1] at e; cases e
  ·rw [e1] at e
   cases e
   rw [hg] at q
   cases q
   exact ht rfl
 have hvb:∀ b,vs.ownBlock=some b→base≤b:=h.row.base
 have hmb:=h.old mb (by simp)
 have hbl:base≤w.heap.size:=h.base_le
 refine ⟨hc,hr,⟨l0,l1,l2,l3,hp.move (fun b hb=>?_),hs⟩,⟨h.dice.le,?_,?_,h.dice.few⟩,h.old,?_,fun b q=>(hk b (h.apart b q).1 (h.apart b q).2.2.2.1 (h.apart b q).2.2.2.2).trans (h.kept b q),fun b q=>⟨(h.apart b q).1,(h.apart b q).2.1,(h.apart b q).2.2.1,fun e=>?_,Jm (h.apart b q).2.2.2.2 hz⟩,h.more0,h.arg⟩
 ·refine hk b (fun e=>?_) (fun e=>?_) (hp.lts b hb)
  ·subst e
   rcases List.mem_cons.1 hb with rfl | hb
   ·obtain ⟨_,_,_,_,_,q⟩:=hp.cells
    rw [hmc] at q
    cases q
   ·exact hp.notmap hmc hb
  ·rcases List.mem_cons.1 hb with rfl | hb
   ·obtain ⟨_,_,_,_,_,q⟩:=hp.cells
    exact hvt _ _ _ _ q (by decide) e
   ·rcases h.row.2 with ⟨e1,_⟩ | ⟨g,cp,cur,e1,_,hg,_⟩
    ·rw [e1] at e; cases e
    ·rw [e1] at e
     cases e
     exact hp.notmap hg hb
 ·have hx:=h.dice.cells
  refine (hk xb (fun e=>?_) (hvt _ _ _ _ hx (by decide)) (Ja.1 hx).1).trans hx
  rw [e,hmc] at hx
  cases hx
 ·rcases h.dice.codes with q | ⟨sb,off,e,hsx,hi⟩
  ·exact Jr q
  ·refine Js ⟨sb,off,e,hsx,fun i hl=>⟨?_,(hi i hl).2⟩⟩
   have hsb:=h.arg _ (by omega) e
   have h1:=hk sb (fun q=>by simp at hsb; omega) (fun q=>by have:=hvb sb q; simp at hsb; omega) (by simp at hsb; omega)
   rw [← (hi i hl).1]
   simp only [World.cell?,h1]
 ·exact ⟨ho.1.trans h.below.os,ho.2.1.trans h.below.tape,ho.2.2.trans h.below.output,Nat.le_trans h.below.size hz,fun b hb hx=>(hk b (by omega) (fun e=>by have:=hvb b e; omega) (by omega)).trans (h.below.block b hb hx)⟩
 ·rcases hv' b e with z | z
  ·exact (h.apart b q).2.2.2.1 z
  ·have:=(h.apart b q).2.2.2.2
   omega
theorem mk_mb {W:World}(h:MK base w0 W mb pb b0 b1 b2 b3 xb more vs slots tasks R p len cap c a):vs.ownBlock≠some mb:=fun e=>by
 have hmc:=h.cells
 rcases h.row.2 with ⟨e1,_⟩ | ⟨g,cp,cur,e1,_,hg,_⟩
 ·rw [e1] at e; cases e
 ·rw [e1] at e
  cases e
  rw [hmc] at hg
  cases hg
theorem MK.pushed {o:Obj}{x:Int}(h:MK base w0 w mb pb b0 b1 b2 b3 xb more vs slots tasks R p len cap c a)(hr:NRow base w1 v' (slots ++ [x]))(hg:(w.alloc o).grownBy w1 vs.ownBlock)(hl:v'.ownBlock=vs.ownBlock∨v'.ownBlock=some (w.alloc o).heap.size):MK base w0 (w1.setCell ⟨mb,2,none⟩ v') mb pb b0 b1 b2 b3 xb more v' (slots ++ [x]) tasks R p len cap c a:=by
 have hvm:=mk_mb h
 have hlt:=h.lt
 have hz:=hg.size
 have hz':w.heap.size≤w1.heap.size:=by simp at hz; omega
 have h1:w1.heap[mb]?=some (.cells #[.pointer (some ⟨pb,0,none⟩),.int .i64 more,vs,.int .i64 tasks] 35):=(hg.block mb (by simp; omega) (fun e=>hvm e.symm)).trans ((heap_alloc_old w _ hlt).trans h.cells)
 refine h.wrote (by simp [World.setCell,Array.getElem?_modify,h1]) ?_ (fun b q1 q2 q3=>?_) ⟨hg.os,hg.tape,hg.output⟩ (by simpa [World.setCell] using hz') (fun b e=>by
  rcases hl with q | q
  ·exact Jr (q.symm.trans e)
  ·rw [q] at e; cases e; right; simp)
 ·refine ⟨hr.1,?_⟩
  rcases hr.2 with q | ⟨g,cp,cur,e,q0,qg,qr⟩
  ·exact Jr q
  ·refine Js ⟨g,cp,cur,e,q0,?_,qr⟩
   have hne:¬ mb=g:=fun e'=>by
    subst e'
    have e2:v'.ownBlock=some mb:=by rw [e]; rfl
    rcases hl with q | q
    ·exact hvm (q.symm.trans e2)
    ·rw [e2] at q; simp at q; omega
   simp [World.setCell,Array.getElem?_modify,hne,qg]
 ·have hne:¬ mb=b:=fun e=>q1 e.symm
  simp only [World.setCell,Array.getElem?_modify,if_neg hne]
  rw [hg.block b (by simp; omega) (fun e=>q2 e.symm)]
  exact heap_alloc_old w _ q3
theorem MK.told (h:MK base w0 w mb pb b0 b1 b2 b3 xb more vs slots tasks R p len cap c a)(n:Int):MK base w0 (w.setCell ⟨mb,3,none⟩ (.int .i64 n)) mb pb b0 b1 b2 b3 xb more vs slots n R p len cap c a:=by
 have hvm:=mk_mb h
 refine h.wrote (by simp [World.setCell,Array.getElem?_modify,h.cells]) ?_ (fun b q1 q2 q3=>?_) ⟨rfl,rfl,rfl⟩ (by simp [World.setCell]) (fun b e=>Jr e)
 ·refine ⟨h.row.1,?_⟩
  rcases h.row.2 with q | ⟨g,cp,cur,e,q0,qg,qr⟩
  ·exact Jr q
  ·refine Js ⟨g,cp,cur,e,q0,?_,qr⟩
   have hne:¬ mb=g:=fun e'=>by
    subst e'
    exact hvm (by rw [e]; rfl)
   simp [World.setCell,Array.getElem?_modify,hne,qg]
 ·have hne:¬ mb=b:=fun e=>q1 e.symm
  simp [World.setCell,Array.getElem?_modify,hne]
end
end
end Go.Proofs.Ytjdindfjfpdikab
