import Derived.Test.YtjdindfjfpdikabB07
import Derived.Test.YtjdindfjfpdikabPre
set_option maxRecDepth 100000
set_option maxHeartbeats 8000000
namespace Go.Proofs.Ytjdindfjfpdikab
section
structure Opn where
 f:Nat
 t:Nat
 k:Int
 a:Nat
 b:Int
def WalkB:Nat→List Opn→Nat→Prop
 | v,[],u=>v=u
 | v,o :: l,u=>o.t=v∧WalkB o.f l u
def ksum:List Opn→Int
 | []=>0
 | o :: l=>o.k+ksum l
def Len (L:Nat→Option Opn):Nat→Nat→Prop
 | 0,v=>L v=none
 | n+1,v=>∃ o,L v=some o∧Len L n o.f
theorem Len.unique {L:Nat→Option Opn}:∀ {n m v:Nat},Len L n v→Len L m v→n=m
 | 0,0,_,_,_=>rfl
 | 0,m+1,v,h,h'=>by
  obtain ⟨o,e,_⟩:=h'
  unfold Len at h
  rw [h] at e
  cases e
 | n+1,0,v,h,h'=>by
  obtain ⟨o,e,_⟩:=h
  unfold Len at h'
  rw [h'] at e
  cases e
 | n+1,m+1,v,h,h'=>by
  obtain ⟨o,e,h1⟩:=h
  obtain ⟨o',e',h2⟩:=h'
  rw [e] at e'
  cases e'
  rw [Len.unique h1 h2]
structure CInv (N:Nat)(opn:Opn→Prop)(C:Nat→Int)(L:Nat→Option Opn):Prop where
 kept:∀ v o,L v=some o→(o.t=v∧o.f<N∧v<N)∧opn o∧-10000≤o.k∧C o.f+o.k≤C v
 root:∀ v,L v=none→C v=0
 fin:∀ v,∃ n,Len L n v
theorem CInv.zero (N:Nat)(opn:Opn→Prop):CInv N opn (fun _=>0) (fun _=>none):=⟨(fun v o e=>by cases e),(fun _ _=>rfl),fun _=>⟨0,rfl⟩⟩
structure Trail (L:Nat→Option Opn)(node v:Nat)(l:List Opn)(u:Nat):Prop where
 walk:WalkB v l u
 kept:∀ o∈l,L o.t=some o
 off:∀ o∈l,o.t≠node
section
variable {N:Nat}{opn:Opn→Prop}{C:Nat→Int}{L:Nat→Option Opn}
theorem trail_of (hT:∀ v o,L v=some o→o.t=v)(node:Nat):∀ {n v:Nat},Len L n v→∃ l u,Trail L node v l u∧(u=node∨(u≠node∧L u=none))
 | 0,v,h=>by
  refine ⟨[],v,⟨rfl,(fun o ho=>by cases ho),(fun o ho=>by cases ho)⟩,?_⟩
  by_cases e:v=node
  ·exact Jr e
  ·exact Js ⟨e,h⟩
 | n+1,v,h=>by
  by_cases e:v=node
  ·exact ⟨[],v,⟨rfl,(fun o ho=>by cases ho),(fun o ho=>by cases ho)⟩,Jr e⟩
  obtain ⟨o,ho,h1⟩:=h
  obtain ⟨l,u,T,hu⟩:=trail_of hT node h1
  have et:=hT v o ho
  refine ⟨o :: l,u,⟨⟨et,T.walk⟩,fun x hx=>?_,fun x hx=>?_⟩,hu⟩
  ·rcases List.mem_cons.1 hx with rfl | hx
   ·rw [et]; exact ho
   ·exact T.kept x hx
  ·rcases List.mem_cons.1 hx with rfl | hx
   ·rw [et]; exact e
   ·exact T.off x hx
theorem Trail.low {node:Nat}:∀ {l:List Opn}{v u n:Nat},Trail L node v l u→Len L n v→(l.map Opn.t).Nodup∧∀ x∈l,∃ m,m≤n∧Len L m x.t
 | [],_,_,_,_,_=>⟨List.nodup_nil,(fun x hx=>by cases hx)⟩
 | o :: l,v,u,n,T,h=>by
  obtain ⟨et,hw⟩:=T.walk
  have ho:=T.kept o Jp
  rw [et] at ho
  cases n with
  | zero=>unfold Len at h; rw [h] at ho; cases ho
  | succ n =>
   obtain ⟨o',e',h1⟩:=id h
   rw [ho] at e'
   cases e'
   obtain ⟨hn,hl⟩:=Trail.low (l:=l) ⟨hw,fun x hx=>T.kept x (Jk _ hx),fun x hx=>T.off x (Jk _ hx)⟩ h1
   refine ⟨?_,fun x hx=>?_⟩
   ·rw [List.map_cons,List.nodup_cons]
    refine ⟨fun hm=>?_,hn⟩
    obtain ⟨x,hx,e⟩:=List.mem_map.1 hm
    obtain ⟨m,hm',hL⟩:=hl x hx
    rw [e,et] at hL
    have:=hL.unique h
    omega
   ·rcases List.mem_cons.1 hx with rfl | hx
    ·rw [et]; exact ⟨n+1,Jb _,h⟩
    ·obtain ⟨m,hm',hL⟩:=hl x hx
     exact ⟨m,by omega,hL⟩
theorem CInv.walk (h:CInv N opn C L):∀ {l:List Opn}{v u:Nat},WalkB v l u→(∀ o∈l,L o.t=some o)→C u+ksum l≤C v
 | [],v,u,hw,_=>by
  obtain rfl:v=u:=hw
  simp [ksum]
 | o :: l,v,u,hw,hk=>by
  obtain ⟨et,hw⟩:=hw
  have ih:=h.walk hw (fun x hx=>hk x (Jk _ hx))
  have ho:=(h.kept o.t o (hk o Jp)).2.2.2
  rw [et] at ho
  simp only [ksum]
  omega
theorem CInv.deep (h:CInv N opn C L):∀ {n v:Nat},Len L n v→-10000*(n:Int)≤C v
 | 0,v,hl=>by rw [h.root v hl]; simp
 | n+1,v,hl=>by
  obtain ⟨o,e,h1⟩:=hl
  have h2:=h.deep h1
  have h3:=(h.kept v o e).2.2
  have:((n+1:Nat):Int)=n+1:=by simp
  rw [this]
  omega
theorem nodes_of (hT:∀ v o,L v=some o→o.f<N):∀ {n v:Nat},Len L n v→v<N→∃ l:List Nat,l.length=n+1∧l.Nodup∧∀ x∈l,x<N∧∃ m,m≤n∧Len L m x
 | 0,v,h,hv=>⟨[v],rfl,by simp,fun x hx=>by rw [List.mem_singleton.1 hx]; exact ⟨hv,0,Jb _,h⟩⟩
 | n+1,v,h,hv=>by
  obtain ⟨o,e,h1⟩:=id h
  obtain ⟨l,hl,hn,ha⟩:=nodes_of hT h1 (hT v o e)
  refine ⟨v :: l,by simp [hl],List.nodup_cons.2 ⟨fun hm=>?_,hn⟩,fun x hx=>?_⟩
  ·obtain ⟨_,m,hm',hL⟩:=ha v hm
   have:=hL.unique h
   omega
  ·rcases List.mem_cons.1 hx with rfl | hx
   ·exact ⟨hv,n+1,Jb _,h⟩
   ·obtain ⟨h2,m,hm',hL⟩:=ha x hx
    exact ⟨h2,m,by omega,hL⟩
theorem few_of_nodup:∀ (n:Nat)(l:List Nat),l.Nodup→(∀ x∈l,x<n)→l.length≤n
 | 0,l,_,h=>by
  cases l with
  | nil=>simp
  | cons x r=>exact absurd (h x Jp) (by omega)
 | n+1,l,hn,h=>by
  have h1:=few_of_nodup n (l.erase n) (hn.erase n) (fun x hx=>by
   have h2:=h x (List.mem_of_mem_erase hx)
   have h3:x≠n:=((hn.mem_erase_iff).1 hx).1
   omega)
  have h3:l.length≤(l.erase n).length+1:=by
   rw [List.length_erase]
   split <;> omega
  omega
theorem CInv.bound (h:CInv N opn C L)(hN:N≤60){v:Nat}(hv:v<N):-600000≤C v:=by
 obtain ⟨n,hn⟩:=h.fin v
 obtain ⟨l,hl,hd,ha⟩:=nodes_of (fun v o e=>(h.kept v o e).1.2.1) hn hv
 have h1:=few_of_nodup N l hd (fun x hx=>(ha x hx).1)
 have h2:=h.deep hn
 omega
def updI (C:Nat→Int)(v:Nat)(x:Int):Nat→Int:=fun i=>if i=v then x else C i
def updO (L:Nat→Option Opn)(v:Nat)(o:Opn):Nat→Option Opn:=fun i=>if i=v then some o else L i
theorem len_upd {node:Nat}{o:Opn}:∀ {n v:Nat},Len L n v→(∃ m,Len (updO L node o) m node)→∃ m,Len (updO L node o) m v
 | 0,v,h,hn=>by
  by_cases e:v=node
  ·subst e; exact hn
  ·exact ⟨0,by simp only [Len,updO,if_neg e]; exact h⟩
 | n+1,v,h,hn=>by
  by_cases e:v=node
  ·subst e; exact hn
  ·obtain ⟨o',e',h1⟩:=h
   obtain ⟨m,hm⟩:=len_upd h1 hn
   exact ⟨m+1,o',by simp only [updO,if_neg e]; exact e',hm⟩
theorem trail_len {node:Nat}{o:Opn}:∀ {l:List Opn}{v u:Nat},Trail L node v l u→u≠node→L u=none→Len (updO L node o) l.length v
 | [],v,u,T,hu,h0=>by
  obtain rfl:v=u:=T.walk
  show updO L node o v=none
  simp only [updO,if_neg hu]
  exact h0
 | x :: l,v,u,T,hu,h0=>by
  obtain ⟨et,hw⟩:=T.walk
  have h1:=trail_len (o:=o) (l:=l) ⟨hw,fun y hy=>T.kept y (Jk _ hy),fun y hy=>T.off y (Jk _ hy)⟩ hu h0
  refine ⟨x,?_,h1⟩
  have hne:=T.off x Jp
  rw [et] at hne
  show (if v=node then some o else L v)=some x
  rw [if_neg hne,← et]
  exact T.kept x Jp
theorem CInv.next (h:CInv N opn C L)(o:Opn)(ho:opn o)(hf:o.f<N)(ht:o.t<N)(hk:-10000≤o.k)(hc:C o.f+o.k<C o.t) :
  ∃ l u,Trail L o.t o.f l u∧((u=o.t∧ksum (o :: l)<0∧((o :: l).map Opn.t).Nodup)∨(u≠o.t∧L u=none∧CInv N opn (updI C o.t (C o.f+o.k)) (updO L o.t o))):=by
 obtain ⟨n,hn⟩:=h.fin o.f
 obtain ⟨l,u,T,hu⟩:=trail_of (fun v x e=>(h.kept v x e).1.1) o.t hn
 refine ⟨l,u,T,?_⟩
 rcases hu with rfl | ⟨hu,h0⟩
 ·refine Jr ⟨rfl,?_,?_⟩
  ·have:=h.walk T.walk T.kept
   simp only [ksum]
   omega
  ·rw [List.map_cons,List.nodup_cons]
   refine ⟨fun hm=>?_,(T.low hn).1⟩
   obtain ⟨x,hx,e⟩:=List.mem_map.1 hm
   exact T.off x hx e
 ·refine Js ⟨hu,h0,⟨fun v x e=>?_,fun v e=>?_,fun v=>?_⟩⟩
  ·by_cases ev:v=o.t
   ·subst ev
    simp only [updO,if_true] at e
    cases e
    refine ⟨⟨rfl,hf,ht⟩,ho,hk,?_⟩
    by_cases ef:o.f=o.t
    ·simp only [updI,ef,if_true]
     rw [ef] at hc
     omega
    ·simp only [updI,if_neg ef,if_true]
     omega
   ·simp only [updO,if_neg ev] at e
    obtain ⟨h1,h2,h3,h4⟩:=h.kept v x e
    refine ⟨h1,h2,h3,?_⟩
    simp only [updI,if_neg ev]
    by_cases ef:x.f=o.t
    ·rw [if_pos ef]
     rw [ef] at h4
     omega
    ·rw [if_neg ef]
     exact h4
  ·by_cases ev:v=o.t
   ·subst ev
    simp only [updO,if_true] at e
    cases e
   ·simp only [updO,if_neg ev] at e
    simp only [updI,if_neg ev]
    exact h.root v e
  ·obtain ⟨m,hm⟩:=h.fin v
   refine len_upd hm ⟨l.length+1,o,by simp [updO],trail_len T hu h0⟩
end
end
section
def cnt (on:Nat→Nat)(x:Nat):Nat→Nat
 | 0=>0
 | i+1=>cnt on x i+(if on i=x then 1 else 0)
def pcost (c:Nat→Nat→Int)(on:Nat→Nat)(i:Nat):Int:=sumN (fun j=>c j (on j)) i
structure PlaceOk (M:Nat)(s:Nat→Nat)(on:Nat→Nat)(i:Nat):Prop where
 le:∀ j,j<i→on j≤M
 room:∀ k,k<M→cnt on k i≤s k
structure Cert (M:Nat)(s:Nat→Nat)(c:Nat→Nat→Int)(on:Nat→Nat)(i:Nat)(p:Nat→Int):Prop where
 pos:∀ k,0≤p k
 none:p M=0
 free:∀ k,k<M→cnt on k i<s k→p k=0
 least:∀ j,j<i→∀ k,k≤M→c j (on j)+p (on j)≤c j k+p k
theorem sum_places {M:Nat}{on:Nat→Nat}(p:Nat→Int):∀ {i:Nat},(∀ j,j<i→on j≤M)→sumN (fun j=>p (on j)) i=sumN (fun k=>p k*(cnt on k i:Int)) (M+1)
 | 0,_=>by
  simp only [cnt]
  rw [sumN_congr (g:=fun k=>p k*((0:Nat):Int)) (h:=fun _=>0) (fun i _=>by simp),sumN_zero]
  rfl
 | i+1,h=>by
  have ih:=sum_places p (i:=i) (fun j hj=>h j (by omega))
  have h1:=h i (by omega)
  have h2:=sumN_one p 1 (on i) (M+1) (by omega)
  show sumN (fun j=>p (on j)) i+p (on i)=_
  rw [ih,sumN_congr (g:=fun k=>p k*(cnt on k (i+1):Int)) (h:=fun k=>p k*(cnt on k i:Int)+p k*(if ((on i:Nat):Int)=(k:Int) then 1 else 0)) (fun k _=>by
   simp only [cnt]
   by_cases e:on i=k
   ·rw [if_pos e,if_pos (by omega)]
    rw [← Int.mul_add]
    congr 1
   ·rw [if_neg e,if_neg (by omega)]
    simp),sumN_add,h2]
  omega
theorem cert_zero (M:Nat)(s:Nat→Nat)(c:Nat→Nat→Int)(on:Nat→Nat):Cert M s c on 0 (fun _=>0):=⟨fun _=>Int.le_refl _,rfl,fun _ _ _=>rfl,fun j hj=>by omega⟩
def updN (f:Nat→Nat)(v x:Nat):Nat→Nat:=fun i=>if i=v then x else f i
theorem cnt_congr {on on':Nat→Nat}{x:Nat}:∀ {i:Nat},(∀ j,j<i→on j=on' j)→cnt on x i=cnt on' x i
 | 0,_=>rfl
 | i+1,h=>by
  simp only [cnt]
  rw [cnt_congr (fun j hj=>h j (by omega)),h i (by omega)]
theorem cnt_upd {on:Nat→Nat}{x j k:Nat}:∀ {i:Nat},j<i→cnt (updN on j k) x i+(if on j=x then 1 else 0)=cnt on x i+(if k=x then 1 else 0)
 | 0,h=>by omega
 | i+1,h=>by
  simp only [cnt]
  by_cases e:j=i
  ·subst e
   rw [cnt_congr (on:=updN on j k) (on':=on) (fun m hm=>by simp [updN,show m≠j by omega])]
   simp only [updN,if_true]
   omega
  ·have ih:=cnt_upd (on:=on) (x:=x) (k:=k) (j:=j) (i:=i) (by omega)
   have:updN on j k i=on i:=by simp [updN,show ¬ i=j from fun q=>e q.symm]
   rw [this]
   omega
end
section
def IsOpn (la:Nat)(A:Nat→Ar)(F:Nat→Int)(o:Opn):Prop :=
 o.a<la∧((F o.a<(A o.a).c∧o.b=1∧(o.f:Int)=(A o.a).f∧(o.t:Int)=(A o.a).t∧o.k=(A o.a).k)∨(0<F o.a∧o.b=-1∧(o.f:Int)=(A o.a).t∧(o.t:Int)=(A o.a).f∧o.k=-(A o.a).k))
def bump (F:Nat→Int)(a:Nat)(b:Int):Nat→Int:=fun i=>if i=a then F i+b else F i
def turned (F:Nat→Int)(l:List Opn):Nat→Int:=l.foldl (fun F o=>bump F o.a o.b) F
theorem inn_bump (A:Nat→Ar)(F:Nat→Int)(v a:Nat)(b:Int):∀ la,inn A (bump F a b) v la=inn A F v la+(if a<la∧(A a).t=(v:Int) then b else 0)
 | 0=>by simp [inn]
 | n+1=>by
  simp only [inn]
  rw [inn_bump A F v a b n]
  by_cases e:n=a
  ·subst e
   rw [if_neg (by omega)]
   by_cases ht:(A n).t=(v:Int)
   ·rw [if_pos ht,if_pos ht,if_pos ⟨by omega,ht⟩]
    simp only [bump,if_true]
    omega
   ·rw [if_neg ht,if_neg ht,if_neg (by simp [ht])]
  ·have e1:bump F a b n=F n:=by simp [bump,e]
   have e2:(a<n+1∧(A a).t=(v:Int))↔(a<n∧(A a).t=(v:Int)):=⟨fun q=>⟨by omega,q.2⟩,fun q=>⟨by omega,q.2⟩⟩
   simp only [e1,e2]
   omega
theorem out_bump (A:Nat→Ar)(F:Nat→Int)(v a:Nat)(b:Int):∀ la,out A (bump F a b) v la=out A F v la+(if a<la∧(A a).f=(v:Int) then b else 0)
 | 0=>by simp [out]
 | n+1=>by
  simp only [out]
  rw [out_bump A F v a b n]
  by_cases e:n=a
  ·subst e
   rw [if_neg (by omega)]
   by_cases ht:(A n).f=(v:Int)
   ·rw [if_pos ht,if_pos ht,if_pos ⟨by omega,ht⟩]
    simp only [bump,if_true]
    omega
   ·rw [if_neg ht,if_neg ht,if_neg (by simp [ht])]
  ·have e1:bump F a b n=F n:=by simp [bump,e]
   have e2:(a<n+1∧(A a).f=(v:Int))↔(a<n∧(A a).f=(v:Int)):=⟨fun q=>⟨by omega,q.2⟩,fun q=>⟨by omega,q.2⟩⟩
   simp only [e1,e2]
   omega
theorem cost_bump (A:Nat→Ar)(F:Nat→Int)(a:Nat)(b:Int):∀ la,cost A (bump F a b) la=cost A F la+(if a<la then b*(A a).k else 0)
 | 0=>by simp [cost,sumN]
 | n+1=>by
  have ih:=cost_bump A F a b n
  simp only [cost,sumN] at ih ⊢
  rw [ih]
  by_cases e:n=a
  ·subst e
   rw [if_neg (by omega),if_pos (by omega)]
   simp only [bump,if_true]
   rw [Int.add_mul]
   omega
  ·have e1:bump F a b n=F n:=by simp [bump,e]
   rw [e1]
   by_cases hc:a<n
   ·rw [if_pos hc,if_pos (by omega)]
    omega
   ·rw [if_neg hc,if_neg (by omega)]
    omega
def IsArc (la:Nat)(A:Nat→Ar)(o:Opn):Prop :=
 o.a<la∧((o.b=1∧(o.f:Int)=(A o.a).f∧(o.t:Int)=(A o.a).t∧o.k=(A o.a).k)∨(o.b=-1∧(o.f:Int)=(A o.a).t∧(o.t:Int)=(A o.a).f∧o.k=-(A o.a).k))
theorem IsOpn.arc {la:Nat}{A:Nat→Ar}{F:Nat→Int}{o:Opn}(h:IsOpn la A F o):IsArc la A o:=⟨h.1,h.2.imp (fun q=>q.2) (fun q=>q.2)⟩
def one (p:Prop) [Decidable p]:Int:=if p then 1 else 0
theorem ex_bump {la:Nat}{A:Nat→Ar}{F:Nat→Int}{o:Opn}(h:IsArc la A o)(v:Nat):inn A (bump F o.a o.b) v la - out A (bump F o.a o.b) v la=inn A F v la - out A F v la+one (o.t=v) - one (o.f=v):=by
 rw [inn_bump,out_bump]
 obtain ⟨ha,h | h⟩:=h
 ·obtain ⟨hb,hf,ht,_⟩:=h
  rw [← hf,← ht,hb]
  simp only [ha,true_and,one,Int.natCast_inj]
  omega
 ·obtain ⟨hb,hf,ht,_⟩:=h
  rw [← hf,← ht,hb]
  simp only [ha,true_and,one,Int.natCast_inj]
  by_cases h1:o.f=v <;> by_cases h2:o.t=v <;> simp only [h1,h2,if_true,if_false] <;> omega
theorem ex_turned {la:Nat}{A:Nat→Ar}(v:Nat):∀ {l:List Opn}{F:Nat→Int}{x u:Nat},(∀ o∈l,IsArc la A o)→WalkB x l u→inn A (turned F l) v la - out A (turned F l) v la=inn A F v la - out A F v la+one (x=v) - one (u=v)
 | [],F,x,u,_,hw=>by
  obtain rfl:x=u:=hw
  simp only [turned,List.foldl_nil]
  omega
 | o :: l,F,x,u,ha,hw=>by
  obtain ⟨et,hw⟩:=hw
  have ih:=ex_turned (A:=A) (la:=la) v (F:=bump F o.a o.b) (fun y hy=>ha y (Jk _ hy)) hw
  have h1:=ex_bump (F:=F) (ha o Jp) v
  simp only [turned,List.foldl_cons] at ih ⊢
  rw [ih,h1,et]
  omega
theorem cost_turned {la:Nat}{A:Nat→Ar}:∀ {l:List Opn}{F:Nat→Int},(∀ o∈l,IsArc la A o)→cost A (turned F l) la=cost A F la+ksum l
 | [],F,_=>by simp [turned,ksum]
 | o :: l,F,ha=>by
  have ih:=cost_turned (A:=A) (la:=la) (l:=l) (F:=bump F o.a o.b) (fun y hy=>ha y (Jk _ hy))
  simp only [turned,List.foldl_cons] at ih ⊢
  rw [ih,cost_bump]
  obtain ⟨h1,h2⟩:=ha o Jp
  rw [if_pos h1]
  simp only [ksum]
  rcases h2 with ⟨hb,_,_,hk⟩ | ⟨hb,_,_,hk⟩
  ·rw [hb,hk]; omega
  ·rw [hb,hk]; omega
def times (i:Nat)(b:Int):List Opn→Nat
 | []=>0
 | o :: l=>times i b l+(if o.a=i∧o.b=b then 1 else 0)
theorem turned_at {la:Nat}{A:Nat→Ar}(i:Nat):∀ {l:List Opn}{F:Nat→Int},(∀ o∈l,IsArc la A o)→turned F l i=F i+(times i 1 l:Int) - (times i (-1) l:Int)
 | [],F,_=>by simp [turned,times]
 | o :: l,F,ha=>by
  have ih:=turned_at (A:=A) (la:=la) i (l:=l) (F:=bump F o.a o.b) (fun y hy=>ha y (Jk _ hy))
  simp only [turned,List.foldl_cons] at ih ⊢
  rw [ih]
  simp only [times]
  obtain ⟨_,h2⟩:=ha o Jp
  have hb:o.b=1∨o.b=-1:=h2.imp (fun q=>q.1) (fun q=>q.1)
  by_cases e:o.a=i
  ·subst e
   simp only [bump,if_true]
   rcases hb with hb | hb <;> simp [hb] <;> omega
  ·have e':¬ i=o.a:=fun q=>e q.symm
   simp only [bump,if_neg e',e,false_and,if_false]
   omega
theorem times_pos {i:Nat}{b:Int}:∀ {l:List Opn},0<times i b l→∃ o∈l,o.a=i∧o.b=b
 | [],h=>by simp [times] at h
 | o :: l,h=>by
  simp only [times] at h
  by_cases e:o.a=i∧o.b=b
  ·exact ⟨o,Jp,e⟩
  ·rw [if_neg e] at h
   obtain ⟨x,hx,q⟩:=times_pos (l:=l) (by omega)
   exact ⟨x,Jk _ hx,q⟩
theorem times_le {la:Nat}{A:Nat→Ar}{i:Nat}{b:Int}:∀ {l:List Opn},(∀ o∈l,IsArc la A o)→(l.map Opn.t).Nodup→times i b l≤1
 | [],_,_=>by simp [times]
 | o :: l,ha,hn=>by
  rw [List.map_cons,List.nodup_cons] at hn
  have ih:=times_le (A:=A) (la:=la) (i:=i) (b:=b) (l:=l) (fun y hy=>ha y (Jk _ hy)) hn.2
  simp only [times]
  by_cases e:o.a=i∧o.b=b
  ·rw [if_pos e]
   by_cases h0:0<times i b l
   ·exfalso
    obtain ⟨x,hx,h1,h2⟩:=times_pos h0
    refine hn.1 (List.mem_map.2 ⟨x,hx,?_⟩)
    obtain ⟨_,hx'⟩:=ha x (Jk _ hx)
    obtain ⟨_,ho'⟩:=ha o Jp
    have hab:x.a=o.a:=by rw [h1,e.1]
    have hbb:x.b=o.b:=by rw [h2,e.2]
    rw [hab] at hx'
    have:(x.t:Int)=(o.t:Int):=by
     rcases hx' with ⟨q1,q2,q3,_⟩ | ⟨q1,q2,q3,_⟩ <;> rcases ho' with ⟨r1,r2,r3,_⟩ | ⟨r1,r2,r3,_⟩
     ·rw [q3,r3]
     ·omega
     ·omega
     ·rw [q3,r3]
    omega
   ·omega
  ·rw [if_neg e]; omega
theorem flow_turned {N:Nat}{S:Nat→Int}{la:Nat}{A:Nat→Ar}{F:Nat→Int}{l:List Opn}{v:Nat}(hF:Caps la A F)(hB:Bal N S la A F)(ho:∀ o∈l,IsOpn la A F o)(hw:WalkB v l v)(hn:(l.map Opn.t).Nodup) :
  Caps la A (turned F l)∧Bal N S la A (turned F l)∧cost A (turned F l) la=cost A F la+ksum l:=by
 have ha:∀ o∈l,IsArc la A o:=fun o h=>(ho o h).arc
 refine ⟨fun i hi=>?_,fun x hx=>?_,cost_turned ha⟩
 ·rw [turned_at i ha]
  have h1:=times_le (i:=i) (b:=1) ha hn
  have h2:=times_le (i:=i) (b:=-1) ha hn
  have hf:=hF i hi
  have p1:0<times i 1 l→F i<(A i).c:=fun q=>by
   obtain ⟨o,hm,rfl,hb⟩:=times_pos q
   rcases (ho o hm).2 with r | r
   ·exact r.1
   ·omega
  have p2:0<times i (-1) l→0<F i:=fun q=>by
   obtain ⟨o,hm,rfl,hb⟩:=times_pos q
   rcases (ho o hm).2 with r | r
   ·omega
   ·exact r.1
  by_cases q1:0<times i 1 l
  ·have:=p1 q1
   by_cases q2:0<times i (-1) l
   ·have:=p2 q2; omega
   ·omega
  ·by_cases q2:0<times i (-1) l
   ·have:=p2 q2; omega
   ·omega
 ·have h1:=ex_turned (la:=la) x (F:=F) ha hw
  have h2:=hB x hx
  omega
theorem pair_of {N la:Nat}{A:Nat→Ar}{F C:Nat→Int}(hA:∀ i,i<la→ArcOk N (A i))(h:∀ o,IsOpn la A F o→C o.t≤C o.f+o.k):∀ i,i<la→PairOk C (A i) (F i):=fun i hi=>by
 obtain ⟨hf,ht,_⟩:=hA i hi
 refine ⟨fun ⟨h1,h2⟩=>?_,fun ⟨h1,h2⟩=>?_⟩
 ·have:=h ⟨(A i).f.toNat,(A i).t.toNat,(A i).k,i,1⟩ ⟨hi,Jr ⟨h2,rfl,by simp only; omega,by simp only; omega,rfl⟩⟩
  unfold dd at h1
  simp only at this
  omega
 ·have:=h ⟨(A i).t.toNat,(A i).f.toNat,-(A i).k,i,-1⟩ ⟨hi,Js ⟨h2,rfl,by simp only; omega,by simp only; omega,rfl⟩⟩
  unfold dd at h1
  simp only at this
  omega
end
section
section
variable {A:Nat→Ar}{F:Nat→Int}
theorem inn_nonneg {v:Nat}:∀ {la:Nat},(∀ i,i<la→0≤F i)→0≤inn A F v la
 | 0,_=>Int.le_refl _
 | n+1,h=>by
  have h1:=inn_nonneg (v:=v) (la:=n) (fun i hi=>h i (by omega))
  have h2:=h n (by omega)
  simp only [inn]
  split <;> omega
theorem out_nonneg {v:Nat}:∀ {la:Nat},(∀ i,i<la→0≤F i)→0≤out A F v la
 | 0,_=>Int.le_refl _
 | n+1,h=>by
  have h1:=out_nonneg (v:=v) (la:=n) (fun i hi=>h i (by omega))
  have h2:=h n (by omega)
  simp only [out]
  split <;> omega
theorem inn_one {v i:Nat}:∀ {la:Nat},(∀ j,j<la→0≤F j)→i<la→(A i).t=(v:Int)→F i≤inn A F v la
 | 0,_,hi,_=>by omega
 | n+1,h,hi,e=>by
  have h2:=h n (by omega)
  simp only [inn]
  by_cases q:i=n
  ·subst q
   have h1:=inn_nonneg (A:=A) (v:=v) (la:=i) (fun j hj=>h j (by omega))
   rw [if_pos e]
   omega
  ·have h1:=inn_one (la:=n) (fun j hj=>h j (by omega)) (by omega) e
   split <;> omega
theorem inn_two {v i k:Nat}:∀ {la:Nat},(∀ j,j<la→0≤F j)→i<k→k<la→(A i).t=(v:Int)→(A k).t=(v:Int)→F i+F k≤inn A F v la
 | 0,_,_,hk,_,_=>by omega
 | n+1,h,hik,hk,ei,ek=>by
  have h2:=h n (by omega)
  simp only [inn]
  by_cases q:k=n
  ·subst q
   have h1:=inn_one (A:=A) (la:=k) (fun j hj=>h j (by omega)) hik ei
   rw [if_pos ek]
   omega
  ·have h1:=inn_two (la:=n) (fun j hj=>h j (by omega)) hik (by omega) ei ek
   split <;> omega
theorem out_one {v i:Nat}:∀ {la:Nat},(∀ j,j<la→0≤F j)→i<la→(A i).f=(v:Int)→F i≤out A F v la
 | 0,_,hi,_=>by omega
 | n+1,h,hi,e=>by
  have h2:=h n (by omega)
  simp only [out]
  by_cases q:i=n
  ·subst q
   have h1:=out_nonneg (A:=A) (v:=v) (la:=i) (fun j hj=>h j (by omega))
   rw [if_pos e]
   omega
  ·have h1:=out_one (la:=n) (fun j hj=>h j (by omega)) (by omega) e
   split <;> omega
theorem out_two {v i k:Nat}:∀ {la:Nat},(∀ j,j<la→0≤F j)→i<k→k<la→(A i).f=(v:Int)→(A k).f=(v:Int)→F i+F k≤out A F v la
 | 0,_,_,hk,_,_=>by omega
 | n+1,h,hik,hk,ei,ek=>by
  have h2:=h n (by omega)
  simp only [out]
  by_cases q:k=n
  ·subst q
   have h1:=out_one (A:=A) (la:=k) (fun j hj=>h j (by omega)) hik ei
   rw [if_pos ek]
   omega
  ·have h1:=out_two (la:=n) (fun j hj=>h j (by omega)) hik (by omega) ei ek
   split <;> omega
theorem out_pos {v:Nat}:∀ {la:Nat},0<out A F v la→∃ i,i<la∧(A i).f=(v:Int)∧0<F i
 | 0,h=>by simp [out] at h
 | n+1,h=>by
  simp only [out] at h
  by_cases q:(A n).f=(v:Int)∧0<F n
  ·exact ⟨n,by omega,q.1,q.2⟩
  ·have:0<out A F v n:=by
    by_cases e:(A n).f=(v:Int)
    ·rw [if_pos e] at h
     have:¬ 0<F n:=fun r=>q ⟨e,r⟩
     omega
    ·rw [if_neg e] at h; omega
   obtain ⟨i,hi,h1,h2⟩:=out_pos this
   exact ⟨i,by omega,h1,h2⟩
theorem out_only {v i:Nat}:∀ {la:Nat},i<la→(A i).f=(v:Int)→(∀ j,j<la→(A j).f=(v:Int)→j=i)→out A F v la=F i
 | 0,hi,_,_=>by omega
 | n+1,hi,e,h=>by
  simp only [out]
  by_cases q:i=n
  ·subst q
   have h0:∀ m,m≤i→out A F v m=0:=fun m=>by
    induction m with
    | zero=>intro _; rfl
    | succ m ih =>
     intro hm
     simp only [out]
     rw [ih (by omega),if_neg (fun r=>by have:=h m (by omega) r; omega)]
     rfl
   rw [h0 i (Jb _),if_pos e]
   omega
  ·have h1:=out_only (la:=n) (by omega) e (fun j hj=>h j (by omega))
   rw [h1,if_neg (fun r=>q (h n (by omega) r).symm)]
   omega
theorem sum_outs (N0 T:Nat):∀ la,sumN (fun t=>out A F (N0+t) la) T=sumN (fun i=>if (N0:Int)≤(A i).f∧(A i).f<(N0:Int)+(T:Int) then F i else 0) la
 | 0=>by
  rw [sumN_congr (g:=fun t=>out A F (N0+t) 0) (h:=fun _=>0) (fun i _=>rfl),sumN_zero]
  rfl
 | n+1=>by
  have ih:=sum_outs N0 T n
  simp only [out,sumN]
  rw [sumN_add,ih]
  congr 1
  by_cases q:(N0:Int)≤(A n).f∧(A n).f<(N0:Int)+(T:Int)
  ·rw [if_pos q]
   obtain ⟨t0,ht0⟩:∃ t0:Nat,(A n).f=(N0:Int)+(t0:Int):=⟨((A n).f - N0).toNat,by omega⟩
   have h1:=sumN_one (fun _=>1) (F n) t0 T (by omega)
   rw [sumN_congr (h:=fun v=>1*(if (t0:Int)=(v:Int) then F n else 0)) (fun v _=>by
    rw [Int.one_mul,ht0]
    by_cases e:(t0:Int)=(v:Int)
    ·rw [if_pos e,if_pos (by omega)]
    ·rw [if_neg e,if_neg (by omega)])]
   rw [h1]
   omega
  ·rw [if_neg q,sumN_congr (h:=fun _=>0) (fun v hv=>by rw [if_neg (by omega)]),sumN_zero]
theorem inn_le_outs {v N0 T:Nat}:∀ {la:Nat},(∀ i,i<la→0≤F i)→(∀ i,i<la→(A i).t=(v:Int)→(N0:Int)≤(A i).f∧(A i).f<(N0:Int)+(T:Int))→inn A F v la≤sumN (fun t=>out A F (N0+t) la) T:=fun {la} h h1=>by
 rw [sum_outs]
 induction la with
 | zero=>exact Int.le_refl _
 | succ n ih =>
  have ih':=ih (fun i hi=>h i (by omega)) (fun i hi=>h1 i (by omega))
  have h2:=h n (by omega)
  simp only [inn,sumN]
  by_cases q:(A n).t=(v:Int)
  ·rw [if_pos q,if_pos (h1 n (by omega) q)]
   omega
  ·rw [if_neg q]
   split <;> omega
end
end
section
inductive Dest where
 | mach (m:Nat)
 | rack (r:Nat)
 | clus
 | job (j:Nat)
structure Prc where
 sink:Int
 clus:Int
 rack:Nat→Int
 mach:Nat→Int
 job:Nat→Int
 task:Nat→Int
def Prc.at (C:Prc):Dest→Int
 | .mach m=>C.mach m
 | .rack r=>C.rack r
 | .clus=>C.clus
 | .job j=>C.job j
def Dest.to (rk:Nat→Nat)(m:Nat):Dest→Prop
 | .mach m'=>m'=m
 | .rack r=>r=rk m
 | .clus=>True
 | .job _=>False
structure Read (M T:Nat)(s rk:Nat→Nat)(c:Nat→Nat→Int)(C:Prc)(ways:Nat→Dest→Int→Prop)(used:Nat→Dest)(k:Nat→Int)(P:Nat→Nat):Prop where
 le:∀ t,t<T→P t≤M
 way:∀ t,t<T→ways t (used t) (k t)
 open':∀ t,t<T→∀ d x,ways t d x→(d=used t∧x=k t)∨C.at d≤C.task t+x
 tight:∀ t,t<T→C.task t+k t≤C.at (used t)
 onM:∀ t,t<T→P t<M→(used t).to rk (P t)
 onN:∀ t,t<T→P t=M→∃ j,used t=.job j∧C.job j≤C.sink
 free:∀ m,m<M→cnt P m T<s m→C.sink≤C.mach m∧C.mach m≤C.rack (rk m)
 straight:∀ t,t<T→P t<M→used t=.mach (P t)→C.mach (P t)≤C.rack (rk (P t))∧C.mach (P t)≤C.sink
 byRack:∀ t,t<T→P t<M→used t=.rack (rk (P t))→C.rack (rk (P t))≤C.mach (P t)∧C.mach (P t)≤C.sink
 byClus:∀ t,t<T→P t<M→used t=.clus→C.clus≤C.rack (rk (P t))∧C.rack (rk (P t))≤C.mach (P t)∧C.mach (P t)≤C.sink
 wide:∀ m,m<M→C.rack (rk m)≤C.clus
 jobs:∀ t,t<T→P t<M→∀ j x,ways t (.job j) x→C.sink≤C.job j
 least:∀ t,t<T→∀ m,m<M→∀ d x,ways t d x→d.to rk m→c t m≤x
 some':∀ t,t<T→∀ m,m<M→∃ d,ways t d (c t m)∧d.to rk m
 none':∀ t,t<T→∀ j x,ways t (.job j) x→x=c t M
 hasJob:∀ t,t<T→∃ j,ways t (.job j) (c t M)
def prM (M:Nat)(rk:Nat→Nat)(C:Prc)(m:Nat):Int:=if m<M then max 0 (C.sink - min (C.mach m) (C.rack (rk m))) else 0
section
variable {M T:Nat}{s rk:Nat→Nat}{c:Nat→Nat→Int}{C:Prc}{ways:Nat→Dest→Int→Prop}{used:Nat→Dest}{k:Nat→Int}{P:Nat→Nat}
theorem Read.pays (h:Read M T s rk c C ways used k P){t:Nat}(ht:t<T):∃ u:Int,C.task t≤u∧u+k t+prM M rk C (P t)≤C.sink∧(P t<M→u+k t=C.at (used t))∧(P t=M→u+k t=C.sink):=by
 have h1:=h.tight t ht
 by_cases hP:P t<M
 ·refine ⟨C.at (used t) - k t,by omega,?_,fun _=>by omega,fun e=>by omega⟩
  have hto:=h.onM t ht hP
  have e:prM M rk C (P t)=max 0 (C.sink - min (C.mach (P t)) (C.rack (rk (P t)))):=by unfold prM; rw [if_pos hP]
  rw [e]
  cases hu:used t with
  | mach m =>
   rw [hu] at hto
   obtain rfl:m=P t:=hto
   obtain ⟨h2,h3⟩:=h.straight t ht hP hu
   simp only [Prc.at]
   omega
  | rack r =>
   rw [hu] at hto
   obtain rfl:r=rk (P t):=hto
   obtain ⟨h2,h3⟩:=h.byRack t ht hP hu
   simp only [Prc.at]
   omega
  | clus =>
   obtain ⟨h2,h3,h4⟩:=h.byClus t ht hP hu
   simp only [Prc.at]
   omega
  | job j =>
   rw [hu] at hto
   exact hto.elim
 ·have hPM:P t=M:=by have:=h.le t ht; omega
  obtain ⟨j,hu,hj⟩:=h.onN t ht hPM
  rw [hu] at h1
  simp only [Prc.at] at h1
  refine ⟨C.sink - k t,by omega,?_,fun q=>by omega,fun _=>by omega⟩
  have e:prM M rk C (P t)=0:=by unfold prM; rw [if_neg hP]
  rw [e]
  omega
theorem Read.else' (h:Read M T s rk c C ways used k P){t:Nat}(ht:t<T){u:Int}(hu0:C.task t≤u)(hu1:P t<M→u+k t=C.at (used t))(hu2:P t=M→u+k t=C.sink):∀ x,x≤M→C.sink≤u+c t x+prM M rk C x:=fun x hx=>by
 by_cases hxM:x<M
 ·obtain ⟨d,hd,hto⟩:=h.some' t ht x hxM
  have hw:=h.wide x hxM
  have e:prM M rk C x=max 0 (C.sink - min (C.mach x) (C.rack (rk x))):=by unfold prM; rw [if_pos hxM]
  have hat:min (C.mach x) (C.rack (rk x))≤C.at d:=by
   cases d with
   | mach m=>obtain rfl:m=x:=hto; simp only [Prc.at]; omega
   | rack r=>obtain rfl:r=rk x:=hto; simp only [Prc.at]; omega
   | clus=>simp only [Prc.at]; omega
   | job j=>exact hto.elim
  rw [e]
  rcases h.open' t ht d (c t x) hd with ⟨q1,q2⟩ | q
  ·by_cases hP:P t<M
   ·have:=hu1 hP
    rw [← q1,← q2] at this
    omega
   ·have hPM:P t=M:=by have:=h.le t ht; omega
    obtain ⟨j,hj,_⟩:=h.onN t ht hPM
    rw [q1,hj] at hto
    exact hto.elim
  ·omega
 ·have hxe:x=M:=by omega
  subst hxe
  have e:prM x rk C x=0:=by unfold prM; rw [if_neg hxM]
  rw [e]
  obtain ⟨j,hj⟩:=h.hasJob t ht
  by_cases hP:P t<x
  ·have h1:=h.jobs t ht hP j _ hj
   rcases h.open' t ht _ _ hj with ⟨q1,q2⟩ | q
   ·have:=hu1 hP
    rw [← q1,← q2] at this
    simp only [Prc.at] at this
    omega
   ·simp only [Prc.at] at q
    omega
  ·have hPM:P t=x:=by have:=h.le t ht; omega
   obtain ⟨j',hj',_⟩:=h.onN t ht hPM
   have hk:=h.way t ht
   rw [hj'] at hk
   have:=h.none' t ht j' _ hk
   have:=hu2 hPM
   omega
theorem Read.exact (h:Read M T s rk c C ways used k P){t:Nat}(ht:t<T):k t=c t (P t):=by
 by_cases hP:P t<M
 ·have hle:=h.least t ht (P t) hP _ _ (h.way t ht) (h.onM t ht hP)
  obtain ⟨u,hu0,hu,hu1,hu2⟩:=h.pays ht
  have:=h.else' ht hu0 hu1 hu2 (P t) (by omega)
  omega
 ·have hPM:P t=M:=by have:=h.le t ht; omega
  obtain ⟨j,hj,_⟩:=h.onN t ht hPM
  have hk:=h.way t ht
  rw [hj] at hk
  rw [hPM]
  exact h.none' t ht j _ hk
theorem Read.cert (h:Read M T s rk c C ways used k P):Cert M s c P T (prM M rk C):=by
 refine ⟨fun m=>?_,?_,fun m hm q=>?_,fun t ht x hx=>?_⟩
 ·unfold prM
  split <;> omega
 ·unfold prM
  rw [if_neg (by omega)]
 ·obtain ⟨h1,h2⟩:=h.free m hm q
  unfold prM
  rw [if_pos hm]
  omega
 ·obtain ⟨u,hu0,hu,hu1,hu2⟩:=h.pays ht
  have h1:=h.else' ht hu0 hu1 hu2 x hx
  have h2:=h.exact ht
  omega
end
end
end Go.Proofs.Ytjdindfjfpdikab
