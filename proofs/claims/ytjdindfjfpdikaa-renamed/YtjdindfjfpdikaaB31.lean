import Derived.Deep.LoopGhost
import Derived.Deep.RegionHeld
import Derived.Test.YtjdindfjfpdikaaB00
import Derived.Test.YtjdindfjfpdikaaB01
import Derived.Test.YtjdindfjfpdikaaB02
import Derived.Test.YtjdindfjfpdikaaB06
import Derived.Test.YtjdindfjfpdikaaB30
import Derived.Test.YtjdindfjfpdikaaPre
set_option maxRecDepth 100000
set_option maxHeartbeats 8000000
namespace Go.Proofs.Ytjdindfjfpdikaa
section
open Go.RowKit
structure RM (more:Int)(R:RSt)(slots:List Int)(nt:Nat):Prop where
 i0:R.t0.map (·.1)=idsL more 2
 i3:R.t3.map (·.1)=idsL more nt
 few:1≤slots.length∧slots.length≤4∧1≤nt∧nt≤6
 sl:∀ s∈slots,1≤s∧s≤3
 all:∀ x∈R.t1,∃ k,∃ h:k<slots.length,x.1=idOf more k∧x.2.2=slots[k]
 each:∀ k,k<slots.length→∃ x∈R.t1,x.1=idOf more k
def posM (more:Int)(R:RSt)(k:Nat):Nat:=(atOf (idOf more k) R.t1).toNat
section
variable {more:Int}{R:RSt}{slots:List Int}{nt:Nat}
theorem RM.len3 (h:RM more R slots nt):R.t3.length=nt:=len_of h.i3
theorem RM.task (h:RM more R slots nt){t:Nat}(ht:t<nt):∃ hl:t<R.t3.length,R.t3[t].1=idOf more t:=ids_at h.i3 ht
theorem RM.pos (h:RM more R slots nt)(hf:RunFit R){k:Nat}(hk:k<slots.length):∃ hl:posM more R k<R.t1.length,R.t1[posM more R k].1=idOf more k∧R.t1[posM more R k].2.2=slots[k]:=by
 obtain ⟨x,hx,e⟩:=h.each k hk
 obtain ⟨j,hj,rfl⟩:=List.mem_iff_getElem.1 hx
 have hp:posM more R k=j:=by
  unfold posM
  rw [← e,hf.at1 j hj]
  simp
 have hl:posM more R k<R.t1.length:=by rw [hp]; exact hj
 refine ⟨hl,?_⟩
 have e2:R.t1[posM more R k]=R.t1[j]:=by simp [hp]
 rw [e2]
 refine ⟨e,?_⟩
 obtain ⟨k',hk',q1,q2⟩:=h.all _ (Jl hj)
 have h4:=h.few
 have:k'=k:=idOf_inj (by omega) (by omega) (q1.symm.trans e)
 subst this
 exact q2
theorem RM.pos_inj (h:RM more R slots nt)(hf:RunFit R){k k':Nat}(hk:k<slots.length)(hk':k'<slots.length)(e:posM more R k=posM more R k'):k=k':=by
 obtain ⟨l1,e1,_⟩:=h.pos hf hk
 obtain ⟨l2,e2,_⟩:=h.pos hf hk'
 have h4:=h.few
 refine idOf_inj (by omega) (by omega) (e1.symm.trans (Eq.trans ?_ e2))
 simp [e]
theorem RM.pos_all (h:RM more R slots nt)(hf:RunFit R){j:Nat}(hj:j<R.t1.length):∃ k,k<slots.length∧posM more R k=j∧R.t1[j].1=idOf more k:=by
 obtain ⟨k,hk,q1,_⟩:=h.all _ (Jl hj)
 refine ⟨k,hk,?_,q1⟩
 unfold posM
 rw [← q1,hf.at1 j hj]
 simp
def plc (more:Int)(R:RSt)(on:Nat→Int)(t:Nat):Nat:=if on t<0 then R.t1.length else posM more R (on t).toNat
def cntI (on:Nat→Int)(x:Int):Nat→Nat
 | 0=>0
 | i+1=>cntI on x i+(if on i=x then 1 else 0)
theorem cntI_congr {on on':Nat→Int}{x:Int}:∀ {i:Nat},(∀ j,j<i→on j=on' j)→cntI on x i=cntI on' x i
 | 0,_=>rfl
 | i+1,h=>by
  simp only [cntI]
  rw [cntI_congr (i:=i) (fun j hj=>h j (by omega)),h i (by omega)]
theorem cntI_eq {P:Nat→Nat}{on:Nat→Int}{x:Int}{y:Nat}:∀ {i:Nat},(∀ j,j<i→(P j=y↔on j=x))→cnt P y i=cntI on x i
 | 0,_=>rfl
 | i+1,h=>by
  simp only [cnt,cntI]
  rw [cntI_eq (i:=i) (fun j hj=>h j (by omega))]
  have:=h i (by omega)
  by_cases e:on i=x
  ·rw [if_pos e,if_pos (this.2 e)]
  ·rw [if_neg e,if_neg (fun q=>e (this.1 q))]
def tabF (more:Int)(R:RSt)(t j:Nat):Int:=if j=0 then cR R t R.t1.length else cR R t (posM more R (j - 1))
theorem tab_plc (more:Int)(R:RSt)(on:Nat→Int)(t:Nat)(h:-1≤on t):tabF more R t (on t+1).toNat=cR R t (plc more R on t):=by
 unfold tabF plc
 by_cases e:on t<0
 ·rw [if_pos e,if_pos (by omega)]
 ·rw [if_neg e,if_neg (by omega)]
  congr 2
  omega
def sumT (more:Int)(R:RSt)(on:Nat→Int)(n:Nat):Int:=sumN (fun t=>tabF more R t (on t+1).toNat) n
theorem sum_plc (more:Int)(R:RSt)(on:Nat→Int)(n:Nat)(h:∀ t,t<n→-1≤on t):sumT more R on n=pcost (cR R) (plc more R on) n:=sumN_congr (fun t ht=>tab_plc more R on t (h t ht))
theorem RM.place (h:RM more R slots nt)(hf:RunFit R){on:Nat→Int}(hb:∀ t,t<nt→-1≤on t∧on t<slots.length)(hr:∀ k,(hk:k<slots.length)→(cntI on k nt:Int)≤slots[k]):PlaceOk R.t1.length (sR R) (plc more R on) R.t3.length:=by
 rw [h.len3]
 refine ⟨fun t ht=>?_,fun j hj=>?_⟩
 ·unfold plc
  split
  ·exact Jb _
  ·have:=hb t ht
   exact Nat.le_of_lt (h.pos hf (by omega)).1
 ·obtain ⟨k,hk,e,_⟩:=h.pos_all hf hj
  obtain ⟨hl,_,es⟩:=h.pos hf hk
  have h1:=hr k hk
  have h2:sR R j=slots[k].toNat:=by
   unfold sR
   rw [← e,getD_at hl,es]
  rw [h2,cntI_eq (on:=on) (x:=(k:Int)) (fun t ht=>?_)]
  ·omega
  ·have hbt:=hb t ht
   unfold plc
   by_cases q:on t<0
   ·rw [if_pos q]
    constructor <;> intro <;> omega
   ·rw [if_neg q]
    constructor
    ·intro e2
     have:=h.pos_inj hf (k:=(on t).toNat) (k':=k) (by omega) hk (e2.trans e.symm)
     omega
    ·intro e2
     rw [e2]
     simpa using e
def onK (more id:Int):Nat→Int
 | 0=>-1
 | k+1=>if idOf more k=id then (k:Int) else onK more id k
theorem onK_bounds (more id:Int):∀ k:Nat,-1≤onK more id k∧onK more id k<k
 | 0=>by unfold onK; omega
 | k+1=>by
  have:=onK_bounds more id k
  unfold onK
  split <;> omega
theorem onK_none (more:Int):∀ k:Nat,onK more (-1) k=-1
 | 0=>rfl
 | k+1=>by
  have:=idOf_bounds more k
  unfold onK
  rw [if_neg (by omega)]
  exact onK_none more k
theorem onK_at {more:Int}{j:Nat}:∀ {k:Nat},j<k→k≤14→onK more (idOf more j) k=j
 | 0,h,_=>by omega
 | k+1,h,h'=>by
  unfold onK
  by_cases e:j=k
  ·rw [if_pos (by rw [e]),e]
  ·rw [if_neg (fun q=>e (idOf_inj (by omega) (by omega) q.symm))]
   exact onK_at (by omega) (by omega)
theorem onK_id {more id:Int}:∀ {k:Nat},0≤onK more id k→idOf more (onK more id k)=id
 | 0,h=>by unfold onK at h; omega
 | k+1,h=>by
  unfold onK at h ⊢
  split
  ·rename_i e; exact e
  ·rename_i e
   rw [if_neg e] at h
   exact onK_id h
def nums (more:Int)(R:RSt)(ns:Nat)(t:Nat):Int:=onK more (R.on.getD t (-1)) ns
theorem nums_bounds (more:Int)(R:RSt)(ns t:Nat):-1≤nums more R ns t∧nums more R ns t<ns:=onK_bounds _ _ _
theorem RM.on_of (h:RM more R slots nt)(ho:∀ n∈R.on,n=-1∨∃ y∈R.t1,y.1=n){t:Nat}(ht:t<R.on.length):R.on[t]=-1∨∃ k,k<slots.length∧R.on[t]=idOf more k:=by
 rcases ho _ (Jl ht) with e | ⟨y,hy,e⟩
 ·exact Jr e
 ·obtain ⟨k,hk,q,_⟩:=h.all y hy
  exact Js ⟨k,hk,e.symm.trans q⟩
theorem cntI_on (ns:Nat){k:Nat}(hk:k<ns)(hn:ns≤14):∀ {n:Nat},n≤R.on.length→cntI (nums more R ns) k n=(R.on.take n).count (idOf more k)
 | 0,_=>rfl
 | n+1,h=>by
  have ih:=cntI_on ns hk hn (n:=n) (by omega)
  have hb:=idOf_bounds more k
  simp only [cntI]
  rw [ih,List.take_add_one,List.count_append,List.getElem?_eq_getElem (by omega)]
  have e:nums more R ns n=(k:Int)↔R.on[n]=idOf more k:=by
   unfold nums
   rw [getD_at (show n<R.on.length by omega)]
   constructor
   ·intro q
    have:=onK_id (more:=more) (id:=R.on[n]) (k:=ns) (by omega)
    rw [q] at this
    exact this.symm
   ·intro q
    rw [q]
    exact onK_at hk hn
  by_cases q:R.on[n]=idOf more k
  ·rw [if_pos (e.2 q)]
   simp [q]
  ·rw [if_neg (fun z=>q (e.1 z))]
   simp [q]
theorem RM.used (h:RM more R slots nt)(hc:∀ y∈R.t1,(R.on.count y.1:Int)≤y.2.2){k n:Nat}(hk:k<slots.length)(hn:n≤R.on.length):(cntI (nums more R slots.length) k n:Int)≤slots[k]:=by
 have h4:=h.few
 obtain ⟨x,hx,e⟩:=h.each k hk
 obtain ⟨k',hk',q1,q2⟩:=h.all x hx
 have:k'=k:=idOf_inj (by omega) (by omega) (q1.symm.trans e)
 subst this
 have h1:=hc x hx
 rw [cntI_on slots.length hk (by omega) hn,← q1,← q2]
 have h2:(R.on.take n).count x.1≤R.on.count x.1:=(List.take_sublist n R.on).count_le x.1
 omega
theorem RM.stay (h:RM more R slots nt)(hf:RunFit R)(hc:∀ y∈R.t1,(R.on.count y.1:Int)≤y.2.2):PlaceOk R.t1.length (sR R) (plc more R (nums more R slots.length)) R.t3.length:=by
 refine h.place hf (fun t _=>nums_bounds _ _ _ _) (fun k hk=>h.used hc hk ?_)
 rw [hf.lo,h.len3]
 exact Jb _
theorem RM.solved (h:RM more R slots nt)(hf:RunFit R){P:Nat→Nat}(hP:PlaceOk R.t1.length (sR R) P R.t3.length){t:Nat}(ht:t<nt):plc more R (nums more (Rn R P R.t3.length) slots.length) t=P t:=by
 have ht':t<R.t3.length:=by rw [h.len3]; exact ht
 have hle:=hP.le t ht'
 have h4:=h.few
 have e0:nums more (Rn R P R.t3.length) slots.length t=onK more (onId R P t) slots.length:=by
  unfold nums
  rw [Rn_on ht']
 by_cases hq:P t<R.t1.length
 ·obtain ⟨k,hk,e,e1⟩:=h.pos_all hf hq
  have e2:onId R P t=idOf more k:=by
   unfold onId
   rw [if_pos hq,getD_at hq,e1]
  have e3:nums more (Rn R P R.t3.length) slots.length t=k:=by rw [e0,e2,onK_at hk (by omega)]
  unfold plc
  rw [e3,if_neg (by omega)]
  simpa using e
 ·have e2:onId R P t=-1:=by unfold onId; rw [if_neg hq]
  have e3:nums more (Rn R P R.t3.length) slots.length t=-1:=by rw [e0,e2,onK_none]
  unfold plc
  rw [e3,if_pos (by omega)]
  omega
theorem RM.solved_sum (h:RM more R slots nt)(hf:RunFit R){P:Nat→Nat}(hP:PlaceOk R.t1.length (sR R) P R.t3.length):sumT more R (nums more (Rn R P R.t3.length) slots.length) nt=pcost (cR R) P R.t3.length:=by
 rw [sum_plc _ _ _ _ (fun t _=>(nums_bounds _ _ _ t).1),h.len3]
 refine sumN_congr (fun t ht=>?_)
 have e:=h.solved hf hP ht
 rw [h.len3] at e
 show cR R t (plc more R _ t)=cR R t (P t)
 rw [e]
theorem RM.rn (h:RM more R slots nt)(P:Nat→Nat)(n:Nat):RM more (Rn R P n) slots nt:=⟨h.i0,h.i3,h.few,h.sl,h.all,h.each⟩
theorem cR_stay (hf:RunFit R){P:Nat→Nat}{t:Nat}(ht:t<R.t3.length):cR (Rn R P R.t3.length) t (P t)≤cR R t (P t):=by
 have e1:(Rn R P R.t3.length).on.getD t (-1)=onId R P t:=Rn_on ht
 have e2:(Rn R P R.t3.length).wt.getD t 0=wtF R P R.t3.length t:=by
  show (intL R.t3.length (wtF R P R.t3.length)).getD t 0=_
  rw [getD_at (by rw [intL_length]; exact ht),intL_get]
 unfold cR
 rw [e1,e2]
 show (if P t<R.t1.length then minW (R.t3.getD t (0,0,0)).1 (R.t1.getD (P t) (0,0,0)).1 (R.t1.getD (P t) (0,0,0)).2.1 (R.t3.getD t (0,0,0)).2.2 R.ws+mvR (onId R P t) (R.t1.getD (P t) (0,0,0)).1 else (R.t2.getD (atOf (R.t3.getD t (0,0,0)).2.1 R.t2).toNat (0,0,0)).2.2+wtF R P R.t3.length t+mvR (onId R P t) (-1))≤_
 by_cases hq:P t<R.t1.length
 ·have e3:onId R P t=(R.t1.getD (P t) (0,0,0)).1:=by unfold onId; rw [if_pos hq]
  have h1:=mvR_bound (R.on.getD t (-1)) (R.t1.getD (P t) (0,0,0)).1
  rw [if_pos hq,if_pos hq,e3]
  have h2:∀ x,mvR x x=0:=fun x=>by unfold mvR; rw [if_neg (fun q=>q.2 rfl)]
  rw [h2]
  omega
 ·have e3:onId R P t=-1:=by unfold onId; rw [if_neg hq]
  have h1:=mvR_bound (R.on.getD t (-1)) (-1)
  have htw:t<R.wt.length:=by rw [hf.wl]; exact ht
  have h3:0≤R.wt.getD t 0:=by
   rw [getD_at htw]
   exact (hf.wt _ (Jl htw)).1
  rw [if_neg hq,if_neg hq,e3]
  have h2:mvR (-1) (-1)=0:=rfl
  rw [h2]
  have h4:wtF R P R.t3.length t≤R.wt.getD t 0:=by
   unfold wtF
   split
   ·exact h3
   ·exact Int.le_refl _
  omega
theorem again_less (hf:RunFit R){P:Nat→Nat}(hP:PlaceOk R.t1.length (sR R) P R.t3.length){s:Int}(h:LeastOf (Rn R P R.t3.length) s):s≤pcost (cR R) P R.t3.length:=by
 refine Int.le_trans (h.le (Q:=P) hP) ?_
 exact sumN_le (fun t ht=>cR_stay hf ht)
end
end
section
open Go.RowKit
section
variable {base:Nat}{w0 w w':World}{mb pb b0 b1 b2 b3 xb:Nat}{more:Int}{vs:Value}{slots:List Int}{tasks:Int}{R R':RSt}{p:Option Addr}{len cap a a':Nat}{c:Nat→Int}
def CelX (w w':World):Prop:=∀ (b:Nat)(cs:Array Value)(t:TypeId)(f:Nat×Nat),t≠49→w.heap[b]?=some (.cells cs t f)→w'.heap[b]?=some (.cells cs t f)
theorem CelX.of_cel (h:Cel w w'):CelX w w':=fun b cs t f _ q=>h b cs t f q
theorem CelX.trans {w'':World}(h:CelX w w')(h':CelX w' w''):CelX w w'':=fun b cs t f q1 q=>h' b cs t f q1 (h b cs t f q1 q)
theorem CelX.of_stir (h:MK base w0 w mb pb b0 b1 b2 b3 xb more vs slots tasks R p len cap c a)(hs:Stir xb w w'):CelX w w':=fun b cs t f ht q=>(hs.block b (fun e=>by
 have hx:=h.dice.cells
 subst e
 rw [hx] at q
 cases q
 exact ht rfl)).trans q
theorem mk_rack (h:MK base w0 w mb pb b0 b1 b2 b3 xb more vs slots tasks R p len cap c a)(x:Int) :
  Calls Try.prog 11 #[.pointer (some ⟨pb,0,none⟩),.int .i64 x] w fun e w'=>e=.returned (.int .i64 (c2 R x))∧MK base w0 w' mb pb b0 b1 b2 b3 xb more vs slots tasks (n2 R x) p len cap c a∧CelX w w':=by
 obtain ⟨l0,l1,l2,l3,hp,hs⟩:=h.plan
 refine (rack_any sortSaid hp x hs.len).mono ?_
 rintro e w' ⟨rfl,hp',ho⟩
 exact ⟨by rw [(sim_rack hs x).1],h.did hp ho hp' (sim_rack hs x).2,CelX.of_cel (Cel.of_plan hp ho)⟩
theorem mk_mach (h:MK base w0 w mb pb b0 b1 b2 b3 xb more vs slots tasks R p len cap c a)(x y z:Int) :
  Calls Try.prog 12 #[.pointer (some ⟨pb,0,none⟩),.int .i64 x,.int .i64 y,.int .i64 z] w fun e w'=>e=.returned (.int .i64 (c3 R x y z))∧MK base w0 w' mb pb b0 b1 b2 b3 xb more vs slots tasks (n3 R x y z) p len cap c a∧CelX w w':=by
 obtain ⟨l0,l1,l2,l3,hp,hs⟩:=h.plan
 refine (machine_any sortSaid hp x y z hs.len).mono ?_
 rintro e w' ⟨rfl,hp',ho⟩
 exact ⟨by rw [(sim_mach hs x y z).1],h.did hp ho hp' (sim_mach hs x y z).2,CelX.of_cel (Cel.of_plan hp ho)⟩
theorem mk_job (h:MK base w0 w mb pb b0 b1 b2 b3 xb more vs slots tasks R p len cap c a)(x y:Int) :
  Calls Try.prog 13 #[.pointer (some ⟨pb,0,none⟩),.int .i64 x,.int .i64 y] w fun e w'=>e=.returned (.int .i64 (c4 R x y))∧MK base w0 w' mb pb b0 b1 b2 b3 xb more vs slots tasks (n4 R x y) p len cap c a∧CelX w w':=by
 obtain ⟨l0,l1,l2,l3,hp,hs⟩:=h.plan
 refine (job_any sortSaid hp x y hs.len).mono ?_
 rintro e w' ⟨rfl,hp',ho⟩
 exact ⟨by rw [(sim_job hs x y).1],h.did hp ho hp' (sim_job hs x y).2,CelX.of_cel (Cel.of_plan hp ho)⟩
theorem mk_task (h:MK base w0 w mb pb b0 b1 b2 b3 xb more vs slots tasks R p len cap c a)(x y z:Int) :
  Calls Try.prog 14 #[.pointer (some ⟨pb,0,none⟩),.int .i64 x,.int .i64 y,.int .i64 z] w fun e w'=>e=.returned (.int .i64 (c5 R x y z))∧MK base w0 w' mb pb b0 b1 b2 b3 xb more vs slots tasks (n5 R x y z) p len cap c a∧CelX w w':=by
 obtain ⟨l0,l1,l2,l3,hp,hs⟩:=h.plan
 refine (task_any sortSaid hp x y z hs.len).mono ?_
 rintro e w' ⟨rfl,hp',ho⟩
 exact ⟨by rw [(sim_task hs x y z).1],h.did hp ho hp' (sim_task hs x y z).2,CelX.of_cel (Cel.of_plan hp ho)⟩
theorem mk_tick (h:MK base w0 w mb pb b0 b1 b2 b3 xb more vs slots tasks R p len cap c a) :
  Calls Try.prog 16 #[.pointer (some ⟨pb,0,none⟩)] w fun e w'=>e=.returned (.tuple #[])∧MK base w0 w' mb pb b0 b1 b2 b3 xb more vs slots tasks (n8 R) p len cap c a∧CelX w w':=by
 obtain ⟨l0,l1,l2,l3,hp,hs⟩:=h.plan
 refine (tick_any sortSaid hp hs.len hs.wd).mono ?_
 rintro e w' ⟨rfl,⟨ys,hy,hp'⟩,ho⟩
 exact ⟨rfl,h.did hp ho hp' (sim_tick hs ys hy),CelX.of_cel (Cel.of_plan hp ho)⟩
theorem mk_rem (h:MK base w0 w mb pb b0 b1 b2 b3 xb more vs slots tasks R p len cap c a)(k i:Int) :
  Calls Try.prog 47 #[.pointer (some ⟨pb,0,none⟩),.int .i64 k,.int .i64 i] w fun e w'=>e=.returned (.int .i64 (c7 R k i))∧MK base w0 w' mb pb b0 b1 b2 b3 xb more vs slots tasks (n7 R k i) p len cap c a∧CelX w w':=by
 obtain ⟨l0,l1,l2,l3,hp,hs⟩:=h.plan
 refine (remove_runs hp hs.kn0 hs.runs.kn1 hs.kn2 hs.kn3 k i).mono ?_
 rintro e w' ⟨rfl,hp',ho⟩
 exact ⟨by rw [(sim_rem hs k i).1],h.did hp ho hp' (sim_rem hs k i).2,CelX.of_cel (Cel.of_plan hp ho)⟩
theorem mk_next (h:MK base w0 w mb pb b0 b1 b2 b3 xb more vs slots tasks R p len cap c a)(n:Int)(h1:1≤n)(h2:n≤1001) :
  Calls Try.prog 39 #[.pointer (some ⟨xb,0,none⟩),.int .i64 n] w fun e w'=>e=.returned (.int .i64 (nv c len a n))∧MK base w0 w' mb pb b0 b1 b2 b3 xb more vs slots tasks R p len cap c (na len a)∧CelX w w':=by
 refine (next_any h.dice n h1 h2).mono ?_
 rintro e w' ⟨rfl,hd,st⟩
 exact ⟨rfl,h.thrown hd st,CelX.of_stir h st⟩
theorem mk_id (h:MK base w0 w mb pb b0 b1 b2 b3 xb more vs slots tasks R p len cap c a)(k:Int)(h0:0≤k)(h1:k≤1000) :
  Calls Try.prog 31 #[.agg #[.int .i64 more],.int .i64 k] w fun e w'=>e=.returned (.int .i64 (idOf more k))∧MK base w0 w' mb pb b0 b1 b2 b3 xb more vs slots tasks R p len cap c a∧CelX w w':=by
 refine (id_any w more k h0 h1 h.more0.1 (by have:=h.more0; omega)).mono ?_
 rintro e w' ⟨rfl,hb⟩
 exact ⟨rfl,h.of_below hb,CelX.of_cel (Cel.of_below hb)⟩
end
end
section
open Go.RowKit
section
variable {base:Nat}{w0 w w1 w':World}{mb pb b0 b1 b2 b3 xb:Nat}{more:Int}{vs v':Value}{slots:List Int}{tasks:Int}{R R':RSt}{p:Option Addr}{len cap a a':Nat}{c:Nat→Int}
theorem MK.wrote {slots':List Int}{tasks':Int}(h:MK base w0 w mb pb b0 b1 b2 b3 xb more vs slots tasks R p len cap c a)(hc:w'.heap[mb]?=some (.cells #[.pointer (some ⟨pb,0,none⟩),.int .i64 more,v',.int .i64 tasks'] 58))(hr:NRow base w' v' slots')
  (hk:∀ (b:Nat),b≠mb→vs.ownBlock≠some b→b<w.heap.size→w'.heap[b]?=w.heap[b]?) (ho:w'.os=w.os∧w'.tape=w.tape∧w'.output=w.output) (hz:w.heap.size≤w'.heap.size):MK base w0 w' mb pb b0 b1 b2 b3 xb more v' slots' tasks' R p len cap c a:=by
 obtain ⟨l0,l1,l2,l3,hp,hs⟩:=h.plan
 have hmc:=h.cells
 have hvt:∀ b cs t f,w.heap[b]?=some (.cells cs t f)→t≠3→vs.ownBlock≠some b:=fun b cs t f q ht e=>by
  rcases h.row.2 with ⟨e1,_⟩ | ⟨g,cp,cur,e1,_,hg,_⟩
  ·rw [e1] at e; cases e
  ·rw [e1] at e
   cases e
   rw [hg] at q
   cases q
   exact ht rfl
 have hvb:∀ b,vs.ownBlock=some b→base≤b:=h.row.base
 have hmb:=h.old mb (by simp)
 have hbl:base≤w.heap.size:=h.base_le
 refine ⟨hc,hr,⟨l0,l1,l2,l3,hp.move (fun b hb=>?_),hs⟩,⟨h.dice.le,?_,?_,h.dice.few⟩,h.old,?_,h.more0,h.arg⟩
 ·refine hk b (fun e=>?_) (fun e=>?_) (hp.lts b hb)
  ·subst e
   rcases List.mem_cons.1 hb with rfl | hb
   ·obtain ⟨_,_,_,_,_,q⟩:=hp.cells
    rw [hmc] at q
    cases q
   ·exact hp.notmap hmc hb
  ·rcases List.mem_cons.1 hb with rfl | hb
   ·obtain ⟨_,_,_,_,_,q⟩:=hp.cells
    exact hvt _ _ _ _ q (by decide) e
   ·rcases h.row.2 with ⟨e1,_⟩ | ⟨g,cp,cur,e1,_,hg,_⟩
    ·rw [e1] at e; cases e
    ·rw [e1] at e
     cases e
     exact hp.notmap hg hb
 ·have hx:=h.dice.cells
  refine (hk xb (fun e=>?_) (hvt _ _ _ _ hx (by decide)) (Ja.1 hx).1).trans hx
  rw [e,hmc] at hx
  cases hx
 ·rcases h.dice.codes with q | ⟨sb,off,e,hsx,hi⟩
  ·exact Jr q
  ·refine Js ⟨sb,off,e,hsx,fun i hl=>⟨?_,(hi i hl).2⟩⟩
   have hsb:=h.arg _ (by omega) e
   have h1:=hk sb (fun q=>by simp at hsb; omega) (fun q=>by have:=hvb sb q; simp at hsb; omega) (by simp at hsb; omega)
   rw [← (hi i hl).1]
   simp only [World.cell?,h1]
 ·exact ⟨ho.1.trans h.below.os,ho.2.1.trans h.below.tape,ho.2.2.trans h.below.output,Nat.le_trans h.below.size hz,fun b hb hx=>(hk b (by omega) (fun e=>by have:=hvb b e; omega) (by omega)).trans (h.below.block b hb hx)⟩
theorem mk_mb {W:World}(h:MK base w0 W mb pb b0 b1 b2 b3 xb more vs slots tasks R p len cap c a):vs.ownBlock≠some mb:=fun e=>by
 have hmc:=h.cells
 rcases h.row.2 with ⟨e1,_⟩ | ⟨g,cp,cur,e1,_,hg,_⟩
 ·rw [e1] at e; cases e
 ·rw [e1] at e
  cases e
  rw [hmc] at hg
  cases hg
theorem MK.pushed {o:Obj}{x:Int}(h:MK base w0 w mb pb b0 b1 b2 b3 xb more vs slots tasks R p len cap c a)(hr:NRow base w1 v' (slots ++ [x]))(hg:(w.alloc o).grownBy w1 vs.ownBlock)(hl:v'.ownBlock=vs.ownBlock∨v'.ownBlock=some (w.alloc o).heap.size):MK base w0 (w1.setCell ⟨mb,2,none⟩ v') mb pb b0 b1 b2 b3 xb more v' (slots ++ [x]) tasks R p len cap c a:=by
 have hvm:=mk_mb h
 have hlt:=h.lt
 have hz:=hg.size
 have hz':w.heap.size≤w1.heap.size:=by simp at hz; omega
 have h1:w1.heap[mb]?=some (.cells #[.pointer (some ⟨pb,0,none⟩),.int .i64 more,vs,.int .i64 tasks] 58):=(hg.block mb (by simp; omega) (fun e=>hvm e.symm)).trans ((heap_alloc_old w _ hlt).trans h.cells)
 refine h.wrote (by simp [World.setCell,Array.getElem?_modify,h1]) ?_ (fun b q1 q2 q3=>?_) ⟨hg.os,hg.tape,hg.output⟩ (by simpa [World.setCell] using hz')
 ·refine ⟨hr.1,?_⟩
  rcases hr.2 with q | ⟨g,cp,cur,e,q0,qg,qr⟩
  ·exact Jr q
  ·refine Js ⟨g,cp,cur,e,q0,?_,qr⟩
   have hne:¬ mb=g:=fun e'=>by
    subst e'
    have e2:v'.ownBlock=some mb:=by rw [e]; rfl
    rcases hl with q | q
    ·exact hvm (q.symm.trans e2)
    ·rw [e2] at q; simp at q; omega
   simp [World.setCell,Array.getElem?_modify,hne,qg]
 ·have hne:¬ mb=b:=fun e=>q1 e.symm
  simp only [World.setCell,Array.getElem?_modify,if_neg hne]
  rw [hg.block b (by simp; omega) (fun e=>q2 e.symm)]
  exact heap_alloc_old w _ q3
theorem MK.told (h:MK base w0 w mb pb b0 b1 b2 b3 xb more vs slots tasks R p len cap c a)(n:Int):MK base w0 (w.setCell ⟨mb,3,none⟩ (.int .i64 n)) mb pb b0 b1 b2 b3 xb more vs slots n R p len cap c a:=by
 have hvm:=mk_mb h
 refine h.wrote (by simp [World.setCell,Array.getElem?_modify,h.cells]) ?_ (fun b q1 q2 q3=>?_) ⟨rfl,rfl,rfl⟩ (by simp [World.setCell])
 ·refine ⟨h.row.1,?_⟩
  rcases h.row.2 with q | ⟨g,cp,cur,e,q0,qg,qr⟩
  ·exact Jr q
  ·refine Js ⟨g,cp,cur,e,q0,?_,qr⟩
   have hne:¬ mb=g:=fun e'=>by
    subst e'
    exact hvm (by rw [e]; rfl)
   simp [World.setCell,Array.getElem?_modify,hne,qg]
 ·have hne:¬ mb=b:=fun e=>q1 e.symm
  simp [World.setCell,Array.getElem?_modify,hne]
end
end
section
open Go.RowKit
def S1 (nb:Nat)(more:Int)(W:World):Prop:=W.cell? ⟨nb,0,none⟩=some (.int .i64 more)∧nb<W.heap.size
theorem S1.of {nb:Nat}{more:Int}{W:World}(h:W.heap[nb]?=some (.cells #[.int .i64 more] 53)):S1 nb more W:=⟨by simp [World.cell?,h],(Ja.1 h).1⟩
structure MadeIs (c:Nat→Int)(len:Nat)(more:Int)(a:Nat)(slots:List Int)(tasks:Int)(R:RSt)(a':Nat):Prop where
 how:∃ (s1:RSt×Nat) (s2:RSt×Nat×List Int) (nt:Nat),madeRJ c len more 2 (R0,a)=s1∧machN c len more 4 (s1.1,s1.2,[])=s2∧s2.2.2=slots∧(nt:Int)=1+nv c len s2.2.1 6∧tasks=nt∧taskN c len more slots.length nt (s2.1,na len s2.2.1)=(R,a')
 ids:RK more R 2 2 slots.length tasks.toNat
 few:1≤slots.length∧slots.length≤4∧1≤tasks∧tasks≤6
 each:∀ s∈slots,1≤s∧s≤3
 at1:R.t1.map (·.2.2)=slots
theorem n5_t1 (R:RSt)(a b c:Int):(n5 R a b c).t1=R.t1:=by unfold n5; split <;> rfl
theorem n6_t1 (R:RSt)(t k i c:Int):(n6 R t k i c).t1=R.t1:=by unfold n6; split <;> rfl
theorem wish1_t1 (c:Nat→Int)(len:Nat)(more:Int)(ns:Nat)(task:Int)(s:RSt×Nat):(wish1 c len more ns task s).1.t1=s.1.t1:=by
 unfold wish1
 split
 ·exact n6_t1 _ _ _ _ _
 ·exact n6_t1 _ _ _ _ _
theorem wishN_t1 (c:Nat→Int)(len:Nat)(more:Int)(ns:Nat)(task:Int):∀ (k:Nat)(s:RSt×Nat),(wishN c len more ns task k s).1.t1=s.1.t1
 | 0,_=>rfl
 | k+1,s=>(wishN_t1 c len more ns task k _).trans (wish1_t1 c len more ns task s)
theorem taskN_t1 (c:Nat→Int)(len:Nat)(more:Int)(ns:Nat):∀ (k:Nat)(s:RSt×Nat),(taskN c len more ns k s).1.t1=s.1.t1
 | 0,_=>rfl
 | k+1,s=>((wishN_t1 c len more ns k _ _).trans (n5_t1 _ _ _ _)).trans (taskN_t1 c len more ns k s)
section
variable {base:Nat}{w0 w w':World}{mb pb b0 b1 b2 b3 xb:Nat}{more:Int}{vs:Value}{slots:List Int}{tasks:Int}{R R':RSt}{p:Option Addr}{len cap a a':Nat}{c:Nat→Int}
theorem MK.apart {nb:Nat}{cs:Array Value}(h:MK base w0 w mb pb b0 b1 b2 b3 xb more vs slots tasks R p len cap c a)(hn:w.heap[nb]?=some (.cells cs 53)):nb≠mb∧vs.ownBlock≠some nb:=by
 have hmc:=h.cells
 refine ⟨fun e=>?_,fun e=>?_⟩
 ·rw [e,hmc] at hn
  cases hn
 ·rcases h.row.2 with ⟨e1,_⟩ | ⟨g,cp,cur,e1,_,hg,_⟩
  ·rw [e1] at e; cases e
  ·rw [e1] at e
   cases e
   rw [hn] at hg
   cases hg
theorem MK.names {nb:Nat}{cs:Array Value}{o:Obj}{w1:World}{v':Value}(h:MK base w0 w mb pb b0 b1 b2 b3 xb more vs slots tasks R p len cap c a)(hn:w.heap[nb]?=some (.cells cs 53))(hg:(w.alloc o).grownBy w1 vs.ownBlock):(w1.setCell ⟨mb,2,none⟩ v').heap[nb]?=some (.cells cs 53):=by
 obtain ⟨h1,h2⟩:=h.apart hn
 have hl:=(Ja.1 hn).1
 have hne:¬ mb=nb:=fun e=>h1 e.symm
 simp only [World.setCell,Array.getElem?_modify,if_neg hne]
 rw [hg.block nb (by simp; omega) (fun e=>h2 e.symm),heap_alloc_old w _ hl,hn]
theorem made_in (hd:DiceAt w xb p len cap c a)(hbw:base=w.heap.size+1)(hb0:w.alloc (.cells #[.int .i64 more] 53)=w0)(hm:0≤more∧more<100)(harg:∀ q,len≠0→p=some q→q.block<base) :
  Calls Try.prog 24 #[.pointer (some ⟨xb,0,none⟩),.agg #[.int .i64 more]] w fun e w'=>∃ mb pb b0 b1 b2 b3 vs slots tasks R a',e=.returned (.pointer (some ⟨mb,0,none⟩))∧MK base w0 w' mb pb b0 b1 b2 b3 xb more vs slots tasks R p len cap c a'∧MadeIs c len more a slots tasks R a':=by
 obtain ⟨W1,hW1⟩:∃ W1,w.alloc (.cells #[.int .i64 more] 53)=W1:=⟨_,rfl⟩
 have b1:Below w.heap.size w W1:=by rw [← hW1]; exact (Jd _ _).alloc (Jb _) _
 have X1:W1.heap[w.heap.size]?=some (.cells #[.int .i64 more] 53):=by rw [← hW1]; exact heap_alloc_new w _
 have z1:w.heap.size<W1.heap.size:=(Ja.1 X1).1
 have A1:=hid' (new_any W1)
 have H0:=hid' (Jc hW1 (Jc b1 (Jc X1 (Jc hd (Jc hbw (Jc hb0 (Jc hm harg)))))))
 clear hW1 b1 X1 hd hbw hb0 hm harg
 go_enter Try.func24,Try.ntmps24
 go_upto_region 1 with fail
 rw [H0.out.1]
 go_upto_region 4 with (first
  | (go_at_call 9; refine A1.out.mono ?_; rintro e W2 ⟨rfl,hp2,_,b2⟩)
  | fail)
 have X2:=(b2.block _ z1).trans H0.out.2.2.1
 have y0:W2.cell? ⟨w.heap.size,0,none⟩=some (.int .i64 more):=by simp [World.cell?,X2]
 have z2:w.heap.size<W2.heap.size:=(Ja.1 X2).1
 obtain ⟨pb,hpb⟩:∃ pb,W1.heap.size+1+1+1+1=pb:=⟨_,rfl⟩
 rw [hpb] at hp2
 simp only [hpb]
 have H2:=hid' (Jc hp2 (Jc b2 (Jc X2 hpb)))
 clear hp2 b2 X2 A1 hpb
 go_upto_region 5 with fail
 obtain ⟨mb,hmb⟩:∃ mb,W2.heap.size=mb:=⟨_,rfl⟩
 obtain ⟨W3,hW3⟩:∃ W3,W2.alloc (.cells #[.pointer (some ⟨pb,0,none⟩),.int .i64 more,.slice none 0 0,.int .i64 0] 58)=W3:=⟨_,rfl⟩
 have b3:Below W2.heap.size W2 W3:=by rw [← hW3]; exact (Jd _ _).alloc (Jb _) _
 have X3:W3.heap[mb]?=some (.cells #[.pointer (some ⟨pb,0,none⟩),.int .i64 more,.slice none 0 0,.int .i64 0] 58):=by rw [← hW3,← hmb]; exact heap_alloc_new W2 _
 rw [hW3]
 simp only [hmb]
 have bw3:Below w.heap.size w W3:=next2 (next2 H0.out.2.1 H2.out.2.1) b3
 have N3:=(b3.block _ z2).trans H2.out.2.2.1
 have M3:MK base w0 W3 mb pb W1.heap.size (W1.heap.size+1) (W1.heap.size+1+1) (W1.heap.size+1+1+1) xb more (.slice none 0 0) [] 0 R0 p len cap c a:=by
  have e1:=H0.out.1
  have e2:=H0.out.2.2.2.2.2.1
  have e3:W1=w0:=e1.symm.trans e2
  have h2:=H0.out.2.2.2.2.1
  have h3:=H2.out.2.2.2
  have h4:W1.heap.size=w.heap.size+1:=by rw [← e1]; simp
  have h5:=H2.out.2.1.size
  refine ⟨X3,NRow.nil _ _,⟨[],[],[],[],H2.out.1.below b3,sim0⟩,H0.out.2.2.2.1.cel (Cel.of_below bw3),fun b hb=>?_,BelowX.of xb (e3 ▸ ((next2 H2.out.2.1 b3).mono (by omega))),H0.out.2.2.2.2.2.2.1,H0.out.2.2.2.2.2.2.2⟩
  simp only [List.mem_cons,List.not_mem_nil,or_false] at hb
  rcases hb with rfl | rfl | rfl | rfl | rfl | rfl <;> omega
 obtain ⟨nb,hnb⟩:∃ nb,w.heap.size=nb:=⟨_,rfl⟩
 rw [hnb] at N3
 simp only [hnb]
 have H3:=hid' (Jc M3 N3)
 clear hW3 hmb b3 X3 bw3 N3 M3 y0 z2
 go_wp2_with fail
 go_loopg [7,8] 2 (fun gk okv kv wr=>∃ k:Nat,k≤2∧2 - k≤gk∧okv=.bool true∧kv=.int .i64 k∧Hid (MK base w0 wr mb pb W1.heap.size (W1.heap.size+1) (W1.heap.size+1+1) (W1.heap.size+1+1+1) xb more (.slice none 0 0) [] 0 (madeRJ c len more k (R0,a)).1 p len cap c (madeRJ c len more k (R0,a)).2∧RK more (madeRJ c len more k (R0,a)).1 k k 0 0∧wr.heap[nb]?=some (.cells #[.int .i64 more] 53)))
 case atStart=>exact ⟨0,by omega,by omega,rfl,rfl,(show _∧_∧_ from ⟨H3.out.1,rk0,H3.out.2⟩)⟩
 case' round=>skip
 obtain ⟨k,hk2,hgk,rfl,rfl,HR⟩:=hrel
 rename World=>Z0
 have n0:Z0.cell? ⟨nb,0,none⟩=some (.int .i64 more):=by simp [World.cell?,HR.out.2.2]
 have m0:nb<Z0.heap.size:=(Ja.1 HR.out.2.2).1
 by_cases hk:k<2
 ·have hkI:(k:Int)<2:=by omega
  obtain ⟨q,hq⟩:∃ q,madeRJ c len more k (R0,a)=q:=⟨_,rfl⟩
  have HR':=HR.out
  rw [hq] at HR'
  have B1:=hid' (mk_id HR'.1 (k:Int) (by omega) (by omega))
  have K2:=HR'.2.1.rack (by omega:k<4)
  have hv:=nv_bounds c len q.2 (n:=200) (by omega)
  have K4:=K2.2.job (by omega:k<4) hv.1 (by omega)
  have HK:=hid' (Jc hq (Jc HR' (Jc K2 K4)))
  clear HR' K2 K4 HR hq
  go_upto_region 10 with (first
   | (go_at_call 31; refine B1.out.mono ?_; rintro e Y1 ⟨rfl,M1,C1⟩; have B2:=mk_rack M1 (idOf more k); rw [HK.out.2.2.1.1] at B2; have C1:=hid' C1; clear M1)
   | (go_at_call 11; refine B2.mono ?_; rintro e Y2 ⟨rfl,M2,C2⟩; have H4:=hid' (Jc M2 (C1.out.trans C2)); clear M2 C2 B2)
   | fail)
  have N2:=H4.out.2 _ _ _ _ (by decide) HK.out.2.1.2.2
  have n2':Y2.cell? ⟨nb,0,none⟩=some (.int .i64 more):=by simp [World.cell?,N2]
  have m2:nb<Y2.heap.size:=(Ja.1 N2).1
  have B3:=hid' (mk_id H4.out.1 (k:Int) (by omega) (by omega))
  clear n0 m0 B1 N2 C1
  go_upto_region 11 with (first
   | (go_at_call 31; refine B3.out.mono ?_; rintro e Y3 ⟨rfl,M3,C3⟩; have B4:=hid' (mk_next M3 200 (by omega) (by omega)); have C3:=hid' C3; clear M3)
   | (go_at_call 39; refine B4.out.mono ?_; rintro e Y4 ⟨rfl,M4,C4⟩; have B5:=mk_job M4 (idOf more k) (nv c len q.2 200); rw [HK.out.2.2.2.1] at B5; have C4:=hid' (C3.out.trans C4); clear M4)
   | (go_at_call 13; refine B5.mono ?_; rintro e Y5 ⟨rfl,M5,C5⟩; have H5:=hid' (Jc M5 (H4.out.2.trans (C4.out.trans C5))); clear M5 C5 B5)
   | fail)
  go_wp2_with fail
  go_roundg (2 - (k+1))
  case measure=>omega
  case rel =>
   have e:madeRJ c len more (k+1) (R0,a)=(n4 (n2 q.1 (idOf more k)) (idOf more k) (nv c len q.2 200),na len q.2):=by rw [← HK.out.1]; rfl
   exact ⟨k+1,by omega,Jb _,rfl,by go_num,(show _∧_∧_ from ⟨by rw [e]; exact H5.out.1,by rw [e]; exact HK.out.2.2.2.2,H5.out.2 _ _ _ _ (by decide) HK.out.2.1.2.2⟩)⟩
 ·obtain rfl:k=2:=by omega
  obtain ⟨s1,hs1⟩:∃ s1,madeRJ c len more 2 (R0,a)=s1:=⟨_,rfl⟩
  have HR':=HR.out
  rw [hs1] at HR'
  have B1:=hid' (mk_id HR'.1 (0:Int) (by omega) (by omega))
  have K2:=HR'.2.1.again (by omega) (by omega)
  have HK:=hid' (Jc hs1 (Jc HR' K2))
  clear HR' K2 HR hs1
  go_upto_region 14 with (first
   | (go_at_call 31; refine B1.out.mono ?_; rintro e Y1 ⟨rfl,M1,C1⟩; have B2:=mk_rack M1 (idOf more 0); rw [HK.out.2.2.1,HK.out.2.2.2] at B2; have C1:=hid' C1; clear M1)
   | (go_at_call 11; refine B2.mono ?_; rintro e Y2 ⟨rfl,M2,C2⟩; have H4:=hid' (Jc M2 (C1.out.trans C2)); clear M2 C2 B2)
   | fail)
  have N2:=H4.out.2 _ _ _ _ (by decide) HK.out.2.1.2.2
  have H5:=hid' (Jc H4.out.1 N2)
  clear n0 m0 B1 N2 C1
  go_wp2_with fail
  go_loopg [7,12] 4 (fun gk okv kv wr=>∃ (s:RSt×Nat×List Int) (vs:Value),s.2.2.length≤4∧4 - s.2.2.length≤gk∧okv=.bool true∧kv=.int .i64 s.2.2.length∧Hid (MK base w0 wr mb pb W1.heap.size (W1.heap.size+1) (W1.heap.size+1+1) (W1.heap.size+1+1+1) xb more vs s.2.2 0 s.1 p len cap c s.2.1∧RK more s.1 2 2 s.2.2.length 0∧wr.heap[nb]?=some (.cells #[.int .i64 more] 53)∧(∀ x∈s.2.2,1≤x∧x≤3)∧s.1.t1.map (·.2.2)=s.2.2∧machN c len more (4 - s.2.2.length) s=machN c len more 4 (s1.1,s1.2,[])))
  case atStart=>exact ⟨(s1.1,s1.2,[]),_,by simp,by simp,rfl,rfl,(show _∧_∧_∧_∧_∧_ from ⟨H5.out.1,HK.out.2.1.2.1,H5.out.2,by simp,by rw [List.eq_nil_of_length_eq_zero (len_of HK.out.2.1.2.1.i1)]; rfl,rfl⟩)⟩
  case' round=>skip
  obtain ⟨s,vs,hs4,hgk,rfl,rfl,HL⟩:=hrel
  rename World=>Z1
  have A1:=hid' (mk_next HL.out.1 4 (by omega) (by omega))
  have hv4:=nv_bounds c len s.2.1 (n:=4) (by omega)
  by_cases hlt:(s.2.2.length:Int)<1+nv c len s.2.1 4
  ·have hl4:(s.2.2.length:Int)<4:=by omega
   go_upto_region 17 with (first
    | (go_at_call 39; refine A1.out.mono ?_; rintro e Y1 ⟨rfl,M1,C1⟩)
    | fail)
   have A2:=hid' (mk_next M1 3 (by omega) (by omega))
   have hv3:=nv_bounds c len (na len s.2.1) (n:=3) (by omega)
   have J1:=hid' (C1 _ _ _ _ (by decide) HL.out.2.2.1)
   clear M1 C1 A1
   go_upto_region 18 with (first
    | (go_at_call 39; refine A2.out.mono ?_; rintro e Y2 ⟨rfl,M2,C2⟩)
    | fail)
   have G0:=hid' (show Y2.drew.heap[nb]?=some (.cells #[.int .i64 more] 53) from C2 _ _ _ _ (by decide) J1.out)
   have u0:Y2.cell? ⟨nb,0,none⟩=some (.int .i64 more):=(S1.of (W:=Y2) G0.out).1
   have u1:nb<Y2.heap.size:=(S1.of (W:=Y2) G0.out).2
   have D1:=hid' (mk_id M2.drew (s.2.2.length:Int) (by omega) (by omega))
   have hv2:=nv_bounds c len (na len (na len s.2.1)) (n:=2) (by omega)
   have KM:=hid' (show c3 s.1 (idOf more s.2.2.length) (idOf more (nv c len (na len (na len s.2.1)) 2)) (1+nv c len (na len s.2.1) 3)=0∧RK more (n3 s.1 (idOf more s.2.2.length) (idOf more (nv c len (na len (na len s.2.1)) 2)) (1+nv c len (na len s.2.1) 3)) 2 2 (s.2.2.length+1) 0 from by
    have:=HL.out.2.1.mach (by omega) (by omega) (r:=(nv c len (na len (na len s.2.1)) 2).toNat) (by omega) (v:=1+nv c len (na len s.2.1) 3) (by omega) (by omega)
    rwa [Int.toNat_of_nonneg hv2.1] at this)
   clear M2 C2 A2 J1
   have hS0:S1 nb more Y2.drew:=⟨u0,u1⟩
   refine wp_region_held_drew (S:=S1 nb more) (by kernel_rfl) hS0 (fun _=>?_)
   refine tkH (v:=?_) 0 72 hS0 ?_ ?_; rotate_left 1
   ·(rintro w' ⟨e0,e1⟩; go_simp; try with_reducible rfl)
   simp only [Act.put,Jh,Ji,Jj]
   refine tkH (v:=?_) 1 73 hS0 ?_ ?_; rotate_left 1
   ·(rintro w' ⟨e0,e1⟩; go_simp; try with_reducible rfl)
   simp only [Act.put,Jh,Ji,Jj]
   refine tkH (v:=?_) 2 74 hS0 ?_ ?_; rotate_left 1
   ·(rintro w' ⟨e0,e1⟩; go_simp; try with_reducible rfl)
   simp only [Act.put,Jh,Ji,Jj]
   refine tkH (v:=?_) 4 76 hS0 ?_ ?_; rotate_left 1
   ·(rintro w' ⟨e0,e1⟩; go_simp; try with_reducible rfl)
   simp only [Act.put,Jh,Ji,Jj]
   refine tkH (v:=?_) 5 77 hS0 ?_ ?_; rotate_left 1
   ·(rintro w' ⟨e0,e1⟩; go_simp; try with_reducible rfl)
   simp only [Act.put,Jh,Ji,Jj]
   refine tkH (v:=?_) 8 80 hS0 ?_ ?_; rotate_left 1
   ·(rintro w' ⟨e0,e1⟩; go_simp; try with_reducible rfl)
   simp only [Act.put,Jh,Ji,Jj]
   refine wpAnyH_ready (rs:=[3]) (by kernel_rfl) (by simp) ?_
   refine AllReadyH.cons rfl (fun K hK=>?_) AllReadyH.nil
   go_simp
   refine D1.out.mono ?_
   rintro e T1 ⟨rfl,M1,C1⟩
   have G1:=C1 _ _ _ _ (by decide) G0.out
   have hS1:S1 nb more T1:=S1.of G1
   refine hK.out _ _ hS1 (fun _=>?_)
   clear hK K
   have D2:=hid' (mk_next M1 2 (by omega) (by omega))
   have F1:=hid' (Jc G1 C1)
   clear M1 G1 C1 D1
   refine wpAnyH_ready (rs:=[6]) (by kernel_rfl) (by simp) ?_
   refine AllReadyH.cons rfl (fun K hK=>?_) AllReadyH.nil
   go_simp
   refine D2.out.mono ?_
   rintro e T2 ⟨rfl,M2,C2⟩
   have G2:=C2 _ _ _ _ (by decide) F1.out.1
   have hS2:S1 nb more T2:=S1.of G2
   refine hK.out _ _ hS2 (fun _=>?_)
   clear hK K
   have D3:=hid' (mk_id M2 (nv c len (na len (na len s.2.1)) 2) hv2.1 (by omega))
   have F2:=hid' (Jc G2 C2)
   clear M2 G2 C2 D2
   refine wpAnyH_ready (rs:=[7]) (by kernel_rfl) (by simp) ?_
   refine AllReadyH.cons rfl (fun K hK=>?_) AllReadyH.nil
   go_simp
   refine D3.out.mono ?_
   rintro e T3 ⟨rfl,M3,C3⟩
   have G3:=C3 _ _ _ _ (by decide) F2.out.1
   have hS3:S1 nb more T3:=S1.of G3
   refine hK.out _ _ hS3 (fun _=>?_)
   clear hK K
   have D4:=mk_mach M3 (idOf more s.2.2.length) (idOf more (nv c len (na len (na len s.2.1)) 2)) (1+nv c len (na len s.2.1) 3)
   rw [KM.out.1] at D4
   have D4:=hid' D4
   have F3:=hid' (Jc G3 C3)
   clear M3 G3 C3 D3
   refine wpAnyH_ready (rs:=[9]) (by kernel_rfl) (by simp) ?_
   refine AllReadyH.cons rfl (fun K hK=>?_) AllReadyH.nil
   go_simp
   refine D4.out.mono ?_
   rintro e T4 ⟨rfl,M4,C4⟩
   have G4:=C4 _ _ _ _ (by decide) F3.out.1
   have hS4:S1 nb more T4:=S1.of G4
   refine hK.out _ _ hS4 (fun _=>?_)
   clear hK K
   have F4:=hid' (Jc G4 M4)
   clear M4 G4 C4 D4 hS0 hS1 hS2 hS3
   refine tkH (v:=?_) 10 14 hS4 ?_ ?_; rotate_left 1
   ·(rintro w' ⟨e0,e1⟩; go_simp; try with_reducible rfl)
   simp only [Act.put,Jh,Ji,Jj]
   refine wpAnyH_done (by kernel_rfl) ?_ _
   have MT:=F4.out.2
   obtain ⟨pv,cv,rfl⟩:=MT.row.sl'
   obtain ⟨q0,q1,q2,q3⟩:=MT.cs
   have hmT:=MT.lt
   have hbT:=MT.base_le
   obtain ⟨X,hX⟩:∃ X:Int,1+nv c len (na len s.2.1) 3=X:=⟨_,rfl⟩
   simp only [hX]
   have hrA:NRow base (T4.alloc (.cells #[.int .i64 X] 3)) (.slice pv s.2.2.length cv) s.2.2:=MT.row.below ((Jd _ _).alloc (Jb _) _)
   have HX:=hid' hX
   clear MT hX hS4
   go_wp2_with (first
    | (at_builtin; refine wpList_push _ base X _ _ rfl _ _ rfl rfl hrA T4.heap.size rfl (by simp) (by simp; omega) (by omega) ?_; intro v' T5 hrow hg hloc; obtain ⟨pv',cv',rfl⟩:=hrow.sl'; have hT5:T5.heap[mb]?=_:=(hg.block mb (by simp; omega) (fun e=>mk_mb F4.out.2 e.symm)).trans ((heap_alloc_old T4 _ hmT).trans F4.out.2.cells); have o2:T5.cell? ⟨mb,2,none⟩=some (.slice pv s.2.2.length cv):=(by simp [World.cell?,hT5]); have o3:T5.frozen? ⟨mb,2,none⟩=false:=(by simp [World.frozen?,hT5]); have o4:mb<T5.heap.size:=(Ja.1 hT5).1; have HP:=hid' (Jc (F4.out.2.pushed hrow hg hloc) (Jc hT5 (Jc hg hloc))); clear hrow hg hloc hT5)
    | fail)
   go_roundg (4 - (s.2.2.length+1))
   case measure=>omega
   case rel =>
    have eM:machN c len more (4 - s.2.2.length) s=machN c len more (4 - (s.2.2.length+1)) (mach1 c len more s.2.2.length (s.1,na len s.2.1,s.2.2)):=by
     rw [show 4 - s.2.2.length=(4 - (s.2.2.length+1))+1 by omega]
     show (if _ then _ else _)=_
     rw [if_pos hlt]
    have hX:=HX.out
    subst hX
    have hN3:n3 s.1 (idOf more s.2.2.length) (idOf more (nv c len (na len (na len s.2.1)) 2)) (1+nv c len (na len s.2.1) 3)={ s.1 with t1:=s.1.t1 ++ [(idOf more s.2.2.length,idOf more (nv c len (na len (na len s.2.1)) 2),1+nv c len (na len s.2.1) 3)] }:=by unfold n3; rw [if_pos KM.out.1]
    have hp1:=HP.out.1
    simp only [Jo,List.length_cons,List.length_nil,Nat.zero_add] at hp1
    refine ⟨mach1 c len more s.2.2.length (s.1,na len s.2.1,s.2.2),_,?_,?_,rfl,?_,(show _∧_∧_∧_∧_∧_ from ⟨hp1,?_,F4.out.2.names F4.out.1 HP.out.2.2.1,fun x hx=>?_,?_,?_⟩)⟩
    ·show (s.2.2 ++ [_]).length≤4
     simp; omega
    ·show 4 - (s.2.2 ++ [_]).length≤_
     simp
    ·show _=Value.int .i64 ((s.2.2 ++ [1+nv c len (na len s.2.1) 3]).length:Nat)
     rw [Jo]
     go_num
    ·show RK more _ 2 2 (s.2.2 ++ [_]).length 0
     rw [Jo]
     exact KM.out.2
    ·have hx':x∈s.2.2 ++ [1+nv c len (na len s.2.1) 3]:=hx
     rcases List.mem_append.1 hx' with hx | hx
     ·exact HL.out.2.2.2.1 x hx
     ·rw [List.mem_singleton.1 hx]; omega
    ·show (n3 s.1 (idOf more s.2.2.length) (idOf more (nv c len (na len (na len s.2.1)) 2)) (1+nv c len (na len s.2.1) 3)).t1.map (fun x:Th=>x.2.2)=s.2.2 ++ [1+nv c len (na len s.2.1) 3]
     rw [hN3]
     show (s.1.t1 ++ [(idOf more s.2.2.length,idOf more (nv c len (na len (na len s.2.1)) 2),1+nv c len (na len s.2.1) 3)]).map (fun x:Th=>x.2.2)=_
     rw [List.map_append,HL.out.2.2.2.2.1]
     rfl
    ·show machN c len more (4 - (s.2.2 ++ [_]).length) _=_
     rw [Jo]
     exact eM.symm.trans HL.out.2.2.2.2.2
  ·go_upto_region 21 with (first
    | (go_at_call 39; refine A1.out.mono ?_; rintro e Y1 ⟨rfl,M1,C1⟩)
    | fail)
   have hnm:1≤s.2.2.length:=by omega
   have eM:machN c len more (4 - s.2.2.length) s=(s.1,na len s.2.1,s.2.2):=by
    cases 4 - s.2.2.length with
    | zero=>rfl
    | succ f =>
     show (if _ then _ else _)=_
     rw [if_neg (by omega)]
   have A3:=hid' (mk_next M1 6 (by omega) (by omega))
   have hv6:=nv_bounds c len (na len s.2.1) (n:=6) (by omega)
   have J1:=hid' (C1 _ _ _ _ (by decide) HL.out.2.2.1)
   clear M1 C1 A1
   go_upto_region 22 with (first
    | (go_at_call 39; refine A3.out.mono ?_; rintro e Y2 ⟨rfl,M2,C2⟩; have hY2:=M2.cells; have o3:Y2.cell? ⟨mb,3,none⟩=some (.int .i64 0):=(by simp [World.cell?,hY2]); have o4:Y2.frozen? ⟨mb,3,none⟩=false:=(by simp [World.frozen?,hY2]); have o5:mb<Y2.heap.size:=(Ja.1 hY2).1; have H6:=hid' (Jc (M2.told (1+nv c len (na len s.2.1) 6)) (Jc (M2.apart (C2 _ _ _ _ (by decide) J1.out)).1 (C2 _ _ _ _ (by decide) J1.out))); clear M2 C2 hY2)
    | fail)
   obtain ⟨nt,hnt⟩:∃ nt:Nat,1+nv c len (na len s.2.1) 6=(nt:Int):=⟨(1+nv c len (na len s.2.1) 6).toNat,by omega⟩
   have hnt1:1≤nt∧nt≤6:=by omega
   obtain ⟨W6,hW6⟩:∃ W6,Y2.setCell ⟨mb,3,none⟩ (.int .i64 (1+nv c len (na len s.2.1) 6))=W6:=⟨_,rfl⟩
   have N6:W6.heap[nb]?=some (.cells #[.int .i64 more] 53):=by
    have hne:¬ mb=nb:=fun e=>H6.out.2.1 e.symm
    rw [← hW6]
    simp [World.setCell,Array.getElem?_modify,hne,H6.out.2.2]
   have M6:=H6.out.1
   rw [hW6,hnt] at M6
   rw [hW6]
   have nbx:nb≠xb∧nb<base:=by
    have h1:=H0.out.2.2.2.1.cells
    have h2:=(Ja.1 h1).1
    have h3:=H0.out.2.2.2.2.1
    omega
   have nb0:w0.heap[nb]?=some (.cells #[.int .i64 more] 53):=by
    have h1:=H0.out.2.2.2.2.2.1
    rw [← h1,← hnb]
    exact heap_alloc_new w _
   have H7:=hid' (Jc M6 (Jc N6 (Jc hnt (Jc nbx nb0))))
   clear hW6 M6 N6 hnt nbx nb0 o3 o4 o5 H6 hv6 A3
   go_wp2_with fail
   go_loopg [7,15] 6 (fun gk okv kv wr=>∃ (k:Nat) (s3:RSt×Nat),k≤nt∧nt - k≤gk∧okv=.bool true∧kv=.int .i64 k∧Hid (MK base w0 wr mb pb W1.heap.size (W1.heap.size+1) (W1.heap.size+1+1) (W1.heap.size+1+1+1) xb more vs s.2.2 nt s3.1 p len cap c s3.2∧RK more s3.1 2 2 s.2.2.length k∧wr.heap[nb]?=some (.cells #[.int .i64 more] 53)∧taskN c len more s.2.2.length k (s.1,na len (na len s.2.1))=s3))
   case atStart=>exact ⟨0,(s.1,na len (na len s.2.1)),by omega,by omega,rfl,rfl,(show _∧_∧_∧_ from ⟨H7.out.1,HL.out.2.1,H7.out.2.1,rfl⟩)⟩
   case' round=>skip
   obtain ⟨k,s3,hkt,hgk3,rfl,rfl,HT⟩:=hrel
   rename World=>Z2
   obtain ⟨_,_,_,z3⟩:=HT.out.1.cs
   have z4:=HT.out.1.lt
   by_cases hk:k<nt
   ·have hkI:(k:Int)<(nt:Int):=by omega
    have G0:=hid' (show Z2.drew.heap[nb]?=some (.cells #[.int .i64 more] 53) from HT.out.2.2.1)
    have u0:Z2.cell? ⟨nb,0,none⟩=some (.int .i64 more):=(S1.of (W:=Z2) G0.out).1
    have u1:nb<Z2.heap.size:=(S1.of (W:=Z2) G0.out).2
    have D1:=hid' (mk_id HT.out.1.drew (k:Int) (by omega) (by omega))
    have hv2:=nv_bounds c len s3.2 (n:=2) (by omega)
    have hv20:=nv_bounds c len (na len s3.2) (n:=200) (by omega)
    have KT:=hid' (show c5 s3.1 (idOf more k) (idOf more (nv c len s3.2 2)) (nv c len (na len s3.2) 200)=0∧RK more (n5 s3.1 (idOf more k) (idOf more (nv c len s3.2 2)) (nv c len (na len s3.2) 200)) 2 2 s.2.2.length (k+1) from by
     have:=HT.out.2.1.task (by omega) (by omega) (j:=(nv c len s3.2 2).toNat) (by omega) (v:=nv c len (na len s3.2) 200) hv20.1 (by omega)
     rwa [Int.toNat_of_nonneg hv2.1] at this)
    go_upto_region 25 with fail
    have hS0:S1 nb more Z2.drew:=⟨u0,u1⟩
    refine wp_region_held_drew (S:=S1 nb more) (by kernel_rfl) hS0 (fun _=>?_)
    refine tkH (v:=?_) 0 111 hS0 ?_ ?_; rotate_left 1
    ·(rintro w' ⟨e0,e1⟩; go_simp; try with_reducible rfl)
    simp only [Act.put,Jh,Ji,Jj]
    refine tkH (v:=?_) 1 112 hS0 ?_ ?_; rotate_left 1
    ·(rintro w' ⟨e0,e1⟩; go_simp; try with_reducible rfl)
    simp only [Act.put,Jh,Ji,Jj]
    refine tkH (v:=?_) 2 113 hS0 ?_ ?_; rotate_left 1
    ·(rintro w' ⟨e0,e1⟩; go_simp; try with_reducible rfl)
    simp only [Act.put,Jh,Ji,Jj]
    refine tkH (v:=?_) 4 115 hS0 ?_ ?_; rotate_left 1
    ·(rintro w' ⟨e0,e1⟩; go_simp; try with_reducible rfl)
    simp only [Act.put,Jh,Ji,Jj]
    refine tkH (v:=?_) 5 116 hS0 ?_ ?_; rotate_left 1
    ·(rintro w' ⟨e0,e1⟩; go_simp; try with_reducible rfl)
    simp only [Act.put,Jh,Ji,Jj]
    refine tkH (v:=?_) 8 119 hS0 ?_ ?_; rotate_left 1
    ·(rintro w' ⟨e0,e1⟩; go_simp; try with_reducible rfl)
    simp only [Act.put,Jh,Ji,Jj]
    refine wpAnyH_ready (rs:=[3]) (by kernel_rfl) (by simp) ?_
    refine AllReadyH.cons rfl (fun K hK=>?_) AllReadyH.nil
    go_simp
    refine D1.out.mono ?_
    rintro e T1 ⟨rfl,M1,C1⟩
    have G1:=C1 _ _ _ _ (by decide) G0.out
    have hS1:S1 nb more T1:=S1.of G1
    refine hK.out _ _ hS1 (fun _=>?_)
    clear hK K
    have D2:=hid' (mk_next M1 2 (by omega) (by omega))
    have F1:=hid' (Jc G1 C1)
    clear M1 G1 C1 D1
    refine wpAnyH_ready (rs:=[6]) (by kernel_rfl) (by simp) ?_
    refine AllReadyH.cons rfl (fun K hK=>?_) AllReadyH.nil
    go_simp
    refine D2.out.mono ?_
    rintro e T2 ⟨rfl,M2,C2⟩
    have G2:=C2 _ _ _ _ (by decide) F1.out.1
    have hS2:S1 nb more T2:=S1.of G2
    refine hK.out _ _ hS2 (fun _=>?_)
    clear hK K
    have D3:=hid' (mk_id M2 (nv c len s3.2 2) hv2.1 (by omega))
    have F2:=hid' (Jc G2 C2)
    clear M2 G2 C2 D2
    refine wpAnyH_ready (rs:=[7]) (by kernel_rfl) (by simp) ?_
    refine AllReadyH.cons rfl (fun K hK=>?_) AllReadyH.nil
    go_simp
    refine D3.out.mono ?_
    rintro e T3 ⟨rfl,M3,C3⟩
    have G3:=C3 _ _ _ _ (by decide) F2.out.1
    have hS3:S1 nb more T3:=S1.of G3
    refine hK.out _ _ hS3 (fun _=>?_)
    clear hK K
    have D4:=hid' (mk_next M3 200 (by omega) (by omega))
    have F3:=hid' (Jc G3 C3)
    clear M3 G3 C3 D3
    refine wpAnyH_ready (rs:=[9]) (by kernel_rfl) (by simp) ?_
    refine AllReadyH.cons rfl (fun K hK=>?_) AllReadyH.nil
    go_simp
    refine D4.out.mono ?_
    rintro e T4 ⟨rfl,M4,C4⟩
    have G4:=C4 _ _ _ _ (by decide) F3.out.1
    have hS4:S1 nb more T4:=S1.of G4
    refine hK.out _ _ hS4 (fun _=>?_)
    clear hK K
    have D5:=mk_task M4 (idOf more k) (idOf more (nv c len s3.2 2)) (nv c len (na len s3.2) 200)
    rw [KT.out.1] at D5
    have D5:=hid' D5
    have F4:=hid' (Jc G4 C4)
    clear M4 G4 C4 D4
    refine wpAnyH_ready (rs:=[10]) (by kernel_rfl) (by simp) ?_
    refine AllReadyH.cons rfl (fun K hK=>?_) AllReadyH.nil
    go_simp
    refine D5.out.mono ?_
    rintro e T5 ⟨rfl,M5,C5⟩
    have G5:=C5 _ _ _ _ (by decide) F4.out.1
    have hS5:S1 nb more T5:=S1.of G5
    refine hK.out _ _ hS5 (fun _=>?_)
    clear hK K
    have F5:=hid' (Jc G5 M5)
    clear M5 G5 C5 D5 hS0 hS1 hS2 hS3 hS4
    refine tkH (v:=?_) 11 16 hS5 ?_ ?_; rotate_left 1
    ·(rintro w' ⟨e0,e1⟩; go_simp; try with_reducible rfl)
    simp only [Act.put,Jh,Ji,Jj]
    refine wpAnyH_done (by kernel_rfl) ?_ _
    have WA:=hid' (wish_any F5.out.2 (k:Int) (by omega) (by omega) hnm (by omega))
    go_wp2_with (first
     | (go_at_call 40; refine WA.out.mono ?_; rintro e T6 ⟨rfl,M6⟩; have F6:=hid' M6; clear M6)
     | fail)
    go_roundg (nt - (k+1))
    case measure=>omega
    case rel =>
     refine ⟨k+1,task1 c len more s.2.2.length k s3,by omega,Jb _,rfl,by go_num,(show _∧_∧_∧_ from ⟨F6.out,KT.out.2.wishT c len s.2.2.length k _,(F6.out.below.block nb H7.out.2.2.2.1.2 H7.out.2.2.2.1.1).trans H7.out.2.2.2.2,?_⟩)⟩
     rw [← HT.out.2.2.2]
     rfl
   ·obtain rfl:k=nt:=by omega
    have hkI:¬ (k:Int)<(k:Int):=by omega
    have hsl:=HL.out.2.2.2.2.2
    rw [eM] at hsl
    have IS:=hid' (show MadeIs c len more a s.2.2 k s3.1 s3.2 from ⟨⟨s1,(s.1,na len s.2.1,s.2.2),k,HK.out.1,hsl.symm,rfl,H7.out.2.2.1.symm,rfl,HT.out.2.2.2⟩,(by simpa using HT.out.2.1),(by omega),HL.out.2.2.2.1,(by rw [← HT.out.2.2.2,taskN_t1]; exact HL.out.2.2.2.2.1)⟩)
    go_wp2_with fail
    go_ret
    exact ⟨mb,rfl,pb,_,_,_,_,vs,s.2.2,k,s3.1,s3.2,HT.out.1,IS.out⟩
theorem made_any (hd:DiceAt w xb p len cap c a)(hbw:base≤w.heap.size)(hb0:BelowX base xb w0 w)(hm:0≤more∧more<100)(harg:∀ q,len≠0→p=some q→q.block<base) :
  Calls Try.prog 24 #[.pointer (some ⟨xb,0,none⟩),.agg #[.int .i64 more]] w fun e w'=>∃ mb pb b0 b1 b2 b3 vs slots tasks R a',e=.returned (.pointer (some ⟨mb,0,none⟩))∧MK base w0 w' mb pb b0 b1 b2 b3 xb more vs slots tasks R p len cap c a'∧MadeIs c len more a slots tasks R a'∧MK (w.heap.size+1) (w.alloc (.cells #[.int .i64 more] 53)) w' mb pb b0 b1 b2 b3 xb more vs slots tasks R p len cap c a':=by
 refine (made_in hd rfl rfl hm (fun q z e=>Jm (harg q z e) (by omega))).mono ?_
 rintro e w' ⟨mb,pb,b0,b1,b2,b3,vs,slots,tasks,R,a',rfl,hM,hI⟩
 exact ⟨mb,pb,b0,b1,b2,b3,vs,slots,tasks,R,a',rfl,hM.widen (by omega) (hb0.trans (BelowX.of xb (((Jd _ _).alloc hbw _)))) harg,hI,hM⟩
end
end
section
open Go.RowKit
section
variable {base:Nat}{w0 w w':World}{mb pb b0 b1 b2 b3 xb:Nat}{more:Int}{vs:Value}{slots:List Int}{tasks:Int}{R R':RSt}{p:Option Addr}{len cap a a':Nat}{c:Nat→Int}
theorem DiceAt.keep (h:DiceAt w xb p len cap c a)(hx:w'.heap[xb]?=w.heap[xb]?)(hq:∀ q,len≠0→p=some q→w'.heap[q.block]?=w.heap[q.block]?):DiceAt w' xb p len cap c a:=by
 refine ⟨h.le,hx.trans h.cells,?_,h.few⟩
 rcases h.codes with q | ⟨sb,off,e,hs,hi⟩
 ·exact Jr q
 ·refine Js ⟨sb,off,e,hs,fun i hl=>⟨?_,(hi i hl).2⟩⟩
  have:=hq _ (by omega) e
  rw [← (hi i hl).1]
  simp only [World.cell?]
  rw [show w'.heap[sb]?=w.heap[sb]? from this]
theorem NRow.keep {v:Value}{xs:List Int}(h:NRow base w v xs)(hb:∀ b,base≤b→b<w.heap.size→(∃ cs,w.heap[b]?=some (.cells cs 3))→w'.heap[b]?=w.heap[b]?):NRow base w' v xs:=by
 refine ⟨h.1,?_⟩
 rcases h.2 with q | ⟨g,cap,cur,hv,q0,hg,r⟩
 ·exact Jr q
 ·exact Js ⟨g,cap,cur,hv,q0,(hb g q0 (Ja.1 hg).1 ⟨_,hg⟩).trans hg,r⟩
theorem MK.solved {l0 l1 l2 l3 m0 m1 m2 m3}(h:MK base w0 w mb pb b0 b1 b2 b3 xb more vs slots tasks R p len cap c a)(hp:PlanAt w pb b0 b1 b2 b3 l0 l1 l2 l3)(ho:Only [pb,b0,b1,b2,b3] w w')(hp':PlanAt w' pb b0 b1 b2 b3 m0 m1 m2 m3)(hs:Sim m0 m1 m2 m3 R'):MK base w0 w' mb pb b0 b1 b2 b3 xb more vs slots tasks R' p len cap c a:=by
 have hmv:∀ (b:Nat) (cs:Array Value) (t:TypeId) (f:Nat×Nat),t≠76→w.heap[b]?=some (.cells cs t f)→w'.heap[b]?=some (.cells cs t f):=fun b cs t f ht q=>(ho.block b (Ja.1 q).1 (fun hm=>by
  rcases List.mem_cons.1 hm with rfl | hm
  ·obtain ⟨_,_,_,_,_,q'⟩:=hp.cells
   rw [q] at q'
   cases q'
   exact ht rfl
  ·exact hp.notmap q hm)).trans q
 have hold:∀ b,b<base→b∉[pb,b0,b1,b2,b3]:=fun b hb hm=>by
  have:=h.old b (Jk _ hm)
  omega
 refine ⟨hmv _ _ _ _ (by decide) h.cells,h.row.keep (fun b _ _ ⟨cs,q⟩=>(hmv _ _ _ _ (by decide) q).trans q.symm),⟨m0,m1,m2,m3,hp',hs⟩,h.dice.keep ((hmv _ _ _ _ (by decide) h.dice.cells).trans h.dice.cells.symm) (fun q z e=>?_),h.old,?_,h.more0,h.arg⟩
 ·have h1:=h.arg q z e
  exact ho.block _ (Jm h1 h.base_le) (hold _ h1)
 ·exact h.below.trans ⟨ho.os,ho.tape,ho.output,ho.size,fun b hb _=>ho.block b (Jm hb h.base_le) (hold b hb)⟩
theorem MK.kept {L:List Nat}(h:MK base w0 w mb pb b0 b1 b2 b3 xb more vs slots tasks R p len cap c a)(ho:Only L w w')(hL:∀ b∈L,b<base∧b≠xb∧∀ q,len≠0→p=some q→q.block≠b):MK base w' w' mb pb b0 b1 b2 b3 xb more vs slots tasks R p len cap c a:=by
 have hmv:∀ b,base≤b→b<w.heap.size→w'.heap[b]?=w.heap[b]?:=fun b hb hl=>ho.block b hl (fun hm=>by have:=(hL b hm).1; omega)
 obtain ⟨l0,l1,l2,l3,hp,hs⟩:=h.plan
 have hlt:=h.lt
 refine ⟨(hmv mb (h.old mb (by simp)) hlt).trans h.cells,h.row.keep (fun b hb hl _=>hmv b hb hl),⟨l0,l1,l2,l3,hp.move (fun b hb=>hmv b (h.old b (Jk _ hb)) (hp.lts b hb)),hs⟩,h.dice.keep (ho.block _ (Ja.1 h.dice.cells).1 (fun hm=>(hL _ hm).2.1 rfl)) (fun q z e=>?_),h.old,BelowX.refl _ _ _,h.more0,h.arg⟩
 exact ho.block _ (Jm (h.arg q z e) h.base_le) (fun hm=>(hL _ hm).2.2 q z e rfl)
theorem mk_solve (h:MK base w0 w mb pb b0 b1 b2 b3 xb more vs slots tasks R p len cap c a) :
  Calls Try.prog 26 #[.pointer (some ⟨pb,0,none⟩)] w fun e w'=>∃ P s,e=.returned (.int .i64 s)∧s=pcost (cR R) P R.t3.length∧LeastOf R s∧PlaceOk R.t1.length (sR R) P R.t3.length∧MK base w0 w' mb pb b0 b1 b2 b3 xb more vs slots tasks (Rn R P R.t3.length) p len cap c a∧Only [pb,b0,b1,b2,b3] w w':=by
 obtain ⟨l0,l1,l2,l3,hp,hs⟩:=h.plan
 refine (solve_any hs hp).mono ?_
 rintro e w' ⟨P,q,m1,m2,us,va,vf,g,fl,C,rfl,hS⟩
 exact ⟨P,_,rfl,rfl,LeastOf.of hS.found,hS.found.place,h.solved hp hS.only hS.plan hS.sim,hS.only⟩
theorem MK.fits (h:MK base w0 w mb pb b0 b1 b2 b3 xb more vs slots tasks R p len cap c a):Fit R∧RunFit R∧∀ n∈R.on,n=-1∨∃ y∈R.t1,y.1=n:=by
 obtain ⟨l0,l1,l2,l3,hp,hs⟩:=h.plan
 exact ⟨hs.fit,hs.fits.net.run,hs.runs.onf⟩
end
end
end Go.Proofs.Ytjdindfjfpdikaa
