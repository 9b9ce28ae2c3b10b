import Derived.Test.YtjdindfjfpdikabB09
import Derived.Test.YtjdindfjfpdikabB11
import Derived.Test.YtjdindfjfpdikabB12
import Derived.Test.YtjdindfjfpdikabPre
set_option maxRecDepth 100000
set_option maxHeartbeats 8000000
namespace Go.Proofs.Ytjdindfjfpdikab
section
section
variable {R:RSt}
theorem mem_ids {kd j:Nat}(hj:j<100)(hp:Pres R kd j):(j:Int)∈idsR R kd 100:=by
 unfold idsR
 exact List.mem_map.2 ⟨j,List.mem_filter.2 ⟨List.mem_range.2 hj,by unfold hasT; simpa [Pres] using hp⟩,rfl⟩
inductive ArcIs (R:RSt):Ar→Prop where
 | rack (id:Nat) (h:id<100) (hp:Pres R 0 id):ArcIs R ⟨0,nodeR R 0 id,1000,0⟩
 | into (id k:Nat) (h:id<100) (hp:Pres R 1 id) (hk:atOf (id:Int) R.t1=k):ArcIs R ⟨nodeR R 0 (R.t1.getD k (0,0,0)).2.1.toNat,nodeR R 1 id,(R.t1.getD k (0,0,0)).2.2,0⟩
 | sink (id k:Nat) (h:id<100) (hp:Pres R 1 id) (hk:atOf (id:Int) R.t1=k):ArcIs R ⟨nodeR R 1 id,1,(R.t1.getD k (0,0,0)).2.2,0⟩
 | job (id:Nat) (h:id<100) (hp:Pres R 2 id):ArcIs R ⟨nodeR R 2 id,1,16,0⟩
 | leaf (id i:Nat) (h:id<100) (hp:Pres R 3 id) (hi:atOf (id:Int) R.t3=i) (a:Ar) (ha:a∈leafR R i id):ArcIs R a
theorem arcIs_of {a:Ar}(h:a∈netR R):ArcIs R a:=by
 unfold netR at h
 rcases List.mem_append.1 h with h | h
 ·rcases List.mem_append.1 h with h | h
  ·rcases List.mem_append.1 h with h | h
   ·unfold rackA at h
    obtain ⟨x,hx,rfl⟩:=List.mem_map.1 h
    obtain ⟨j,hj,rfl,hp⟩:=(ids_pairwise (R:=R) 0 100).2 x hx
    exact ArcIs.rack j hj hp
   ·unfold machL at h
    obtain ⟨x,hx,h⟩:=List.mem_flatMap.1 h
    obtain ⟨j,hj,rfl,hp⟩:=(ids_pairwise (R:=R) 1 100).2 x hx
    obtain ⟨k,hk,e1,_⟩:=atOf_some (id:=(j:Int)) (xs:=R.t1) hp
    unfold machA at h
    rw [e1,Jn,Jn] at h
    rcases List.mem_cons.1 h with rfl | h
    ·exact ArcIs.into j k hj hp e1
    ·rw [List.mem_singleton.1 h]
     exact ArcIs.sink j k hj hp e1
  ·unfold jobA at h
   obtain ⟨x,hx,rfl⟩:=List.mem_map.1 h
   obtain ⟨j,hj,rfl,hp⟩:=(ids_pairwise (R:=R) 2 100).2 x hx
   exact ArcIs.job j hj hp
 ·unfold taskL at h
  obtain ⟨x,hx,h⟩:=List.mem_flatMap.1 h
  obtain ⟨j,hj,rfl,hp⟩:=(ids_pairwise (R:=R) 3 100).2 x hx
  obtain ⟨k,hk,e1,_⟩:=atOf_some (id:=(j:Int)) (xs:=R.t3) hp
  rw [e1,Jn,Jn] at h
  exact ArcIs.leaf j k hj hp e1 a h
theorem mem_rack {id:Nat}(h:id<100)(hp:Pres R 0 id):(⟨0,nodeR R 0 id,1000,0⟩:Ar)∈netR R:=by
 unfold netR
 refine Ju _ (Ju _ (Ju _ ?_))
 unfold rackA
 exact List.mem_map.2 ⟨(id:Int),mem_ids h hp,by rw [Jn]⟩
theorem mem_into {id k:Nat}(h:id<100)(hp:Pres R 1 id)(hk:atOf (id:Int) R.t1=k):(⟨nodeR R 0 (R.t1.getD k (0,0,0)).2.1.toNat,nodeR R 1 id,(R.t1.getD k (0,0,0)).2.2,0⟩:Ar)∈netR R∧(⟨nodeR R 1 id,1,(R.t1.getD k (0,0,0)).2.2,0⟩:Ar)∈netR R:=by
 have key:∀ a∈machA R (id:Int),a∈netR R:=fun a ha=>by
  unfold netR
  refine Ju _ (Ju _ (Jt _ ?_))
  unfold machL
  exact List.mem_flatMap.2 ⟨(id:Int),mem_ids h hp,ha⟩
 have e:machA R (id:Int)=[⟨nodeR R 0 (R.t1.getD k (0,0,0)).2.1.toNat,nodeR R 1 id,(R.t1.getD k (0,0,0)).2.2,0⟩,⟨nodeR R 1 id,1,(R.t1.getD k (0,0,0)).2.2,0⟩]:=by
  unfold machA
  rw [hk,Jn,Jn]
 rw [e] at key
 exact ⟨key _ Jp,key _ (Jk _ Jp)⟩
theorem mem_job {id:Nat}(h:id<100)(hp:Pres R 2 id):(⟨nodeR R 2 id,1,16,0⟩:Ar)∈netR R:=by
 unfold netR
 refine Ju _ (Jt _ ?_)
 unfold jobA
 exact List.mem_map.2 ⟨(id:Int),mem_ids h hp,by rw [Jn]⟩
theorem mem_leaf {id i:Nat}(h:id<100)(hp:Pres R 3 id)(hi:atOf (id:Int) R.t3=i){a:Ar}(ha:a∈leafR R i id):a∈netR R:=by
 unfold netR
 refine Jt _ ?_
 unfold taskL
 exact List.mem_flatMap.2 ⟨(id:Int),mem_ids h hp,by rw [hi,Jn,Jn]; exact ha⟩
end
end
section
section
variable {R:RSt}
def arcN (R:RSt)(i:Nat):Ar:=(netR R).getD i ⟨0,0,0,0⟩
theorem arcN_mem {i:Nat}(h:i<(netR R).length):arcN R i∈netR R:=by
 unfold arcN
 rw [getD_at h]
 exact Jl h
theorem mem_arcN {a:Ar}(h:a∈netR R):∃ i,i<(netR R).length∧arcN R i=a:=by
 obtain ⟨i,hi,e⟩:=List.mem_iff_getElem.1 h
 exact ⟨i,hi,by unfold arcN; rw [getD_at hi,e]⟩
theorem open_says {F C:Nat→Int}{la:Nat}{A:Nat→Ar}(hp:∀ i,i<la→PairOk C (A i) (F i)){i:Nat}(hi:i<la)(h:F i<(A i).c):C (A i).t.toNat≤C (A i).f.toNat+(A i).k:=by
 have:=(hp i hi).1
 unfold dd at this
 have q:¬ ((A i).k+C (A i).f.toNat - C (A i).t.toNat<0):=fun r=>this ⟨r,h⟩
 omega
theorem flow_says {F C:Nat→Int}{la:Nat}{A:Nat→Ar}(hp:∀ i,i<la→PairOk C (A i) (F i)){i:Nat}(hi:i<la)(h:0<F i):C (A i).f.toNat+(A i).k≤C (A i).t.toNat:=by
 have:=(hp i hi).2
 unfold dd at this
 have q:¬ (0<(A i).k+C (A i).f.toNat - C (A i).t.toNat):=fun r=>this ⟨r,h⟩
 omega
structure NodeFit (R:RSt):Prop where
 rack:∀ k,(hk:k<R.t1.length)→∃ r:Nat,R.t1[k].2.1=(r:Int)∧r<100∧Pres R 0 r
 job:∀ i,(hi:i<R.t3.length)→∃ j:Nat,R.t3[i].2.1=(j:Int)∧j<100∧Pres R 2 j
theorem leave_once (hn:NodeFit R)(hf:NetFit R){id:Nat}(h:id<100)(hp:Pres R 1 id):(netR R).Pairwise (fun a b=>¬ (a.f=nodeR R 1 id∧b.f=nodeR R 1 id)):=by
 have hv:=nodeR_in hp h
 have no:∀ a,ArcIs R a→(∀ m k,a≠⟨nodeR R 1 m,1,(R.t1.getD k (0,0,0)).2.2,0⟩)→a.f≠nodeR R 1 id:=fun a ha hne e=>by
  cases ha with
  | rack id' h' hp'=>have:(0:Int)=nodeR R 1 id:=e; omega
  | into id' k h' hp' hk =>
   obtain ⟨y,hy,e1,_⟩:=atOf_some (id:=(id':Int)) (xs:=R.t1) hp'
   have:y=k:=by omega
   subst this
   obtain ⟨r,hr,hr1,hr2⟩:=hn.rack y hy
   have e':nodeR R 0 r=nodeR R 1 id:=by
    have e0:nodeR R 0 (R.t1.getD y (0,0,0)).2.1.toNat=nodeR R 1 id:=e
    rw [getD_at hy,hr,Jn] at e0
    exact e0
   have:=(nodeR_inj hr2 hr1 hp h e').1
   omega
  | sink id' k h' hp' hk=>exact hne id' k rfl
  | job id' h' hp'=>have:=(nodeR_inj hp' h' hp h e).1; omega
  | leaf id' i h' hp' hi a ha =>
   obtain ⟨y,hy,e1,e2⟩:=atOf_some (id:=(id':Int)) (xs:=R.t3) hp'
   have:y=i:=by omega
   subst this
   rw [(leaf_way hf hy e2 ha).1] at e
   have:=(nodeR_inj hp' h' hp h e).1
   omega
 have one:∀ (l:List Ar),(∀ a∈l,a.f≠nodeR R 1 id)→l.Pairwise (fun a b=>¬ (a.f=nodeR R 1 id∧b.f=nodeR R 1 id)):=fun l hl=>by
  rw [List.pairwise_iff_getElem]
  intro i j hi hj _ q
  exact hl _ (Jl hi) q.1
 have hr:∀ a∈rackA R (idsR R 0 100),a.f≠nodeR R 1 id:=fun a ha e=>by
  unfold rackA at ha
  obtain ⟨x,_,rfl⟩:=List.mem_map.1 ha
  have:(0:Int)=nodeR R 1 id:=e
  omega
 have hj:∀ a∈jobA R (idsR R 2 100),a.f≠nodeR R 1 id:=fun a ha e=>by
  unfold jobA at ha
  obtain ⟨x,hx,rfl⟩:=List.mem_map.1 ha
  obtain ⟨j,hj,rfl,hp'⟩:=(ids_pairwise (R:=R) 2 100).2 x hx
  have e':nodeR R 2 j=nodeR R 1 id:=by have e0:nodeR R 2 (j:Int).toNat=nodeR R 1 id:=e; rwa [Jn] at e0
  have:=(nodeR_inj hp' hj hp h e').1
  omega
 have ht:∀ a∈taskL R (idsR R 3 100),a.f≠nodeR R 1 id:=fun a ha=>by
  have hm:a∈netR R:=by unfold netR; exact Jt _ ha
  unfold taskL at ha
  obtain ⟨x,hx,ha⟩:=List.mem_flatMap.1 ha
  obtain ⟨j,hj,rfl,hp'⟩:=(ids_pairwise (R:=R) 3 100).2 x hx
  obtain ⟨y,hy,e1,e2⟩:=atOf_some (id:=(j:Int)) (xs:=R.t3) hp'
  rw [e1,Jn,Jn] at ha
  intro e
  rw [(leaf_way hf hy e2 ha).1] at e
  have:=(nodeR_inj hp' hj hp h e).1
  omega
 have hm:∀ (l:List Int),l.Pairwise (fun a b=>a<b)→(∀ x∈l,x∈idsR R 1 100)→(machL R l).Pairwise (fun a b=>¬ (a.f=nodeR R 1 id∧b.f=nodeR R 1 id))∧∀ a∈machL R l,a.f=nodeR R 1 id→(id:Int)∈l:=fun l=>by
  induction l with
  | nil=>intro _ _; exact ⟨List.Pairwise.nil,(fun a ha=>by cases ha)⟩
  | cons x l ih =>
   intro hpw hmem
   obtain ⟨h1,h2⟩:=List.pairwise_cons.1 hpw
   obtain ⟨ih1,ih2⟩:=ih h2 (fun y hy=>hmem y (Jk _ hy))
   obtain ⟨j,hj,rfl,hp'⟩:=(ids_pairwise (R:=R) 1 100).2 x (hmem x Jp)
   obtain ⟨y,hy,e1,e2⟩:=atOf_some (id:=(j:Int)) (xs:=R.t1) hp'
   obtain ⟨r,hr,hr1,hr2⟩:=hn.rack y hy
   have eA:machA R (j:Int)=[⟨nodeR R 0 r,nodeR R 1 j,(R.t1.getD y (0,0,0)).2.2,0⟩,⟨nodeR R 1 j,1,(R.t1.getD y (0,0,0)).2.2,0⟩]:=by
    unfold machA
    rw [e1,Jn,Jn,getD_at hy,hr,Jn]
   have hfr:nodeR R 0 r≠nodeR R 1 id:=fun e=>by have:=(nodeR_inj hr2 hr1 hp h e).1; omega
   have hsame:nodeR R 1 j=nodeR R 1 id→j=id:=fun e=>(nodeR_inj hp' hj hp h e).2
   have eL:machL R ((j:Int) :: l)=machA R (j:Int) ++ machL R l:=by unfold machL; rw [List.flatMap_cons]
   rw [eL,eA]
   refine ⟨?_,fun a ha e=>?_⟩
   ·rw [List.pairwise_append]
    refine ⟨?_,ih1,fun a ha b hb q=>?_⟩
    ·rw [List.pairwise_cons]
     refine ⟨fun b _ q=>hfr q.1,List.pairwise_singleton _ _⟩
    ·rcases List.mem_cons.1 ha with rfl | ha
     ·exact hfr q.1
     ·rw [List.mem_singleton.1 ha] at q
      have hji:=hsame q.1
      have:=ih2 b hb q.2
      have:=h1 _ this
      omega
   ·rcases List.mem_append.1 ha with ha | ha
    ·rcases List.mem_cons.1 ha with rfl | ha
     ·exact absurd e hfr
     ·rw [List.mem_singleton.1 ha] at e
      rw [hsame e]
      exact Jp
    ·exact Jk _ (ih2 a ha e)
 unfold netR
 rw [List.pairwise_append,List.pairwise_append,List.pairwise_append]
 refine ⟨⟨⟨one _ hr,(hm _ (ids_pairwise (R:=R) 1 100).1 (fun _ q=>q)).1,fun a ha b _ q=>hr a ha q.1⟩,one _ hj,fun a _ b hb q=>hj b hb q.2⟩,one _ ht,fun a _ b hb q=>ht b hb q.2⟩
end
end
section
section
variable {R:RSt}
def supN (R:RSt):Nat→Int:=updI (supF R) 1 (-(R.t3.length:Int))
theorem nodeR_top (R:RSt):nodeR R 3 0=2+(lensR R 3:Int):=by
 unfold nodeR
 simp [idsR]
theorem sup_low {v:Nat}(h2:2≤v)(h:(v:Int)<2+(lensR R 3:Int)):supN R v=0:=by
 unfold supN updI supF
 rw [if_neg (by omega),if_neg (by rw [nodeR_top]; omega)]
theorem sup_zero (hT:0≤lensR R 3):supN R 0=0:=by
 unfold supN updI supF
 rw [if_neg (by omega),if_neg (by rw [nodeR_top]; omega)]
theorem sup_task {v:Nat}(h:2+(lensR R 3:Int)≤(v:Int)):supN R v=1:=by
 unfold supN updI supF
 rw [if_neg (by omega),if_pos (by rw [nodeR_top]; omega)]
structure NetFlow (R:RSt)(N:Nat)(F:Nat→Int):Prop where
 caps:Caps (netR R).length (arcN R) F
 bal:Bal N (supN R) (netR R).length (arcN R) F
 nodes:∀ k id,k≤3→id<100→Pres R k id→nodeR R k id<(N:Int)
theorem NetFlow.nn {N:Nat}{F:Nat→Int}(h:NetFlow R N F):∀ i,i<(netR R).length→0≤F i:=fun i hi=>(h.caps i hi).1
theorem NetFlow.mach {N:Nat}{F:Nat→Int}(h:NetFlow R N F)(hn:NodeFit R)(hf:NetFit R){id k:Nat}(hid:id<100)(hp:Pres R 1 id)(hk:atOf (id:Int) R.t1=k) :
  ∃ i0 i1,(i0<(netR R).length∧arcN R i0=⟨nodeR R 1 id,1,(R.t1.getD k (0,0,0)).2.2,0⟩)∧(i1<(netR R).length∧arcN R i1=⟨nodeR R 0 (R.t1.getD k (0,0,0)).2.1.toNat,nodeR R 1 id,(R.t1.getD k (0,0,0)).2.2,0⟩) ∧
   inn (arcN R) F (nodeR R 1 id).toNat (netR R).length=F i0∧F i0≤(R.t1.getD k (0,0,0)).2.2∧F i1≤F i0:=by
 obtain ⟨m1,m2⟩:=mem_into hid hp hk
 obtain ⟨i0,hi0,e0⟩:=mem_arcN m2
 obtain ⟨i1,hi1,e1⟩:=mem_arcN m1
 have hv:=nodeR_in hp hid
 have hvN:=h.nodes 1 id (by omega) hid hp
 have hvc:((nodeR R 1 id).toNat:Int)=nodeR R 1 id:=by omega
 have hl:=lensR_mono (R:=R) (show 1+1≤3 by omega)
 have hS:supN R (nodeR R 1 id).toNat=0:=sup_low (by omega) (by omega)
 have hb:=h.bal (nodeR R 1 id).toNat (by omega)
 have hpw:=List.pairwise_iff_getElem.1 (leave_once hn hf hid hp)
 have huniq:∀ j,j<(netR R).length→(arcN R j).f=((nodeR R 1 id).toNat:Int)→j=i0:=fun j hj e=>by
  rw [hvc] at e
  have e0':(arcN R i0).f=nodeR R 1 id:=by rw [e0]
  unfold arcN at e e0'
  rw [getD_at hj] at e
  rw [getD_at hi0] at e0'
  rcases Nat.lt_trichotomy j i0 with q | q | q
  ·exact absurd ⟨e,e0'⟩ (hpw j i0 hj hi0 q)
  ·exact q
  ·exact absurd ⟨e0',e⟩ (hpw i0 j hi0 hj q)
 have hout:=out_only (F:=F) (A:=arcN R) (v:=(nodeR R 1 id).toNat) hi0 (by rw [e0,hvc]) huniq
 have hin:inn (arcN R) F (nodeR R 1 id).toNat (netR R).length=F i0:=by rw [hS,hout] at hb; omega
 have hc:=(h.caps i0 hi0).2
 rw [e0] at hc
 have h1:=inn_one (A:=arcN R) (F:=F) (v:=(nodeR R 1 id).toNat) (i:=i1) h.nn hi1 (by rw [e1,hvc])
 exact ⟨i0,i1,⟨hi0,e0⟩,⟨hi1,e1⟩,hin,hc,by omega⟩
end
end
section
section
variable {R:RSt}
structure IdFit (R:RSt):Prop where
 at0:∀ r,(hr:r<R.t0.length)→∃ id:Nat,R.t0[r].1=(id:Int)∧id<100∧Pres R 0 id
 at1:∀ k,(hk:k<R.t1.length)→∃ id:Nat,R.t1[k].1=(id:Int)∧id<100∧Pres R 1 id
 at2:∀ j,(hj:j<R.t2.length)→∃ id:Nat,R.t2[j].1=(id:Int)∧id<100∧Pres R 2 id
theorem dest_in (hI:IdFit R){i:Nat}{d:Dest}{x:Int}(h:wayR R i d x):0≤nodeOf R d∧nodeOf R d<2+(lensR R 3:Int):=by
 cases d with
 | mach k =>
  obtain ⟨hk,_⟩:=h
  obtain ⟨id,e,h1,h2⟩:=hI.at1 k hk
  have h3:=nodeR_in h2 h1
  have h4:=lensR_mono (R:=R) (show 1+1≤3 by omega)
  show 0≤nodeR R 1 _∧nodeR R 1 _<_
  rw [getD_at hk,e,Jn]
  omega
 | rack r =>
  obtain ⟨hr,_⟩:=h
  obtain ⟨id,e,h1,h2⟩:=hI.at0 r hr
  have h3:=nodeR_in h2 h1
  have h4:=lensR_mono (R:=R) (show 0+1≤3 by omega)
  show 0≤nodeR R 0 _∧nodeR R 0 _<_
  rw [getD_at hr,e,Jn]
  omega
 | clus=>show (0:Int)≤0∧(0:Int)<_; omega
 | job j =>
  obtain ⟨hj,_⟩:=h
  obtain ⟨id,e,h1,h2⟩:=hI.at2 j hj
  have h3:=nodeR_in h2 h1
  have h4:=lensR_mono (R:=R) (show 2+1≤3 by omega)
  show 0≤nodeR R 2 _∧nodeR R 2 _<_
  rw [getD_at hj,e,Jn]
  omega
theorem to_low (hf:NetFit R)(hI:IdFit R){a:Ar}(h:ArcIs R a):0≤a.t∧a.t<2+(lensR R 3:Int):=by
 cases h with
 | rack id h hp =>
  have h3:=nodeR_in hp h
  have h4:=lensR_mono (R:=R) (show 0+1≤3 by omega)
  show 0≤nodeR R 0 id∧nodeR R 0 id<_
  omega
 | into id k h hp hk =>
  have h3:=nodeR_in hp h
  have h4:=lensR_mono (R:=R) (show 1+1≤3 by omega)
  show 0≤nodeR R 1 id∧nodeR R 1 id<_
  omega
 | sink id k h hp hk=>show (0:Int)≤1∧(1:Int)<_; omega
 | job id h hp=>show (0:Int)≤1∧(1:Int)<_; omega
 | leaf id i h hp hi a ha =>
  obtain ⟨y,hy,e1,e2⟩:=atOf_some (id:=(id:Int)) (xs:=R.t3) hp
  have:y=i:=by omega
  subst this
  obtain ⟨_,_,d,hd,e⟩:=leaf_way hf hy e2 ha
  rw [e]
  exact dest_in hI hd
theorem inn_none {A:Nat→Ar}{F:Nat→Int}{v:Nat}:∀ {la:Nat},(∀ i,i<la→(A i).t≠(v:Int))→inn A F v la=0
 | 0,_=>rfl
 | n+1,h=>by
  simp only [inn]
  rw [inn_none (fun i hi=>h i (by omega)),if_neg (h n (by omega))]
  rfl
theorem NetFlow.task {N:Nat}{F:Nat→Int}(h:NetFlow R N F)(hf:NetFit R)(hI:IdFit R){v:Nat}(hv:2+(lensR R 3:Int)≤(v:Int))(hN:v<N):out (arcN R) F v (netR R).length=1:=by
 have hb:=h.bal v hN
 rw [sup_task hv,inn_none (fun i hi e=>by have:=to_low hf hI (arcIs_of (arcN_mem hi)); omega)] at hb
 omega
theorem clus_from (hf:NetFit R){a:Ar}(h:ArcIs R a)(e:a.t=0):2+(lensR R 3:Int)≤a.f∧a.f<2+(lensR R 3:Int)+((idsR R 3 100).length:Int):=by
 cases h with
 | rack id h hp =>
  have h3:=nodeR_in hp h
  have:nodeR R 0 id=0:=e
  omega
 | into id k h hp hk =>
  have h3:=nodeR_in hp h
  have:nodeR R 1 id=0:=e
  omega
 | sink id k h hp hk=>have:(1:Int)=0:=e; omega
 | job id h hp=>have:(1:Int)=0:=e; omega
 | leaf id i h hp hi a ha =>
  obtain ⟨y,hy,e1,e2⟩:=atOf_some (id:=(id:Int)) (xs:=R.t3) hp
  have:y=i:=by omega
  subst this
  rw [(leaf_way hf hy e2 ha).1]
  have:=ids_lt hp h
  unfold nodeR
  omega
theorem NetFlow.clus {N:Nat}{F:Nat→Int}(h:NetFlow R N F)(hf:NetFit R)(hI:IdFit R)(hN:(N:Int)=2+(lensR R 3:Int)+((idsR R 3 100).length:Int)):out (arcN R) F 0 (netR R).length≤16:=by
 have hb:=h.bal 0 (by omega)
 rw [sup_zero (Jq _)] at hb
 have h1:=inn_le_outs (A:=arcN R) (F:=F) (v:=0) (N0:=2+lensR R 3) (T:=(idsR R 3 100).length) h.nn (fun i hi e=>by
  have:=clus_from hf (arcIs_of (arcN_mem hi)) (by simpa using e)
  have e9:((2+lensR R 3:Nat):Int)=2+(lensR R 3:Int):=by omega
  rw [e9]
  exact this)
 have h2:sumN (fun t=>out (arcN R) F (2+lensR R 3+t) (netR R).length) (idsR R 3 100).length=sumN (fun _=>1) (idsR R 3 100).length:=sumN_congr (fun t ht=>h.task hf hI (by omega) (by omega))
 have h3:∀ n,sumN (fun _=>1) n=(n:Int):=fun n=>by
  induction n with
  | zero=>rfl
  | succ n ih=>simp only [sumN,ih]; omega
 have h4:=ids_le (R:=R) 3 100
 have h5:(tkR R 3).length≤16:=hf.run.len3
 rw [h2,h3] at h1
 omega
end
end
section
section
variable {R:RSt}
theorem inn_zero {A:Nat→Ar}{g:Nat→Int}{v:Nat}:∀ {la:Nat},(∀ i,i<la→(A i).t=(v:Int)→g i=0)→inn A g v la=0
 | 0,_=>rfl
 | n+1,h=>by
  simp only [inn]
  rw [inn_zero (fun i hi=>h i (by omega))]
  by_cases e:(A n).t=(v:Int)
  ·rw [if_pos e,h n (by omega) e]; rfl
  ·rw [if_neg e]; rfl
end
end
section
structure Fits (R:RSt):Prop where
 net:NetFit R
 node:NodeFit R
 rack:RackFit R
 at0:∀ k,(hk:k<R.t0.length)→atOf R.t0[k].1 R.t0=k
 at2:∀ k,(hk:k<R.t2.length)→atOf R.t2[k].1 R.t2=k
 at3:∀ k,(hk:k<R.t3.length)→atOf R.t3[k].1 R.t3=k
 id0:∀ x∈R.t0,0≤x.1∧x.1≤99
 id3:∀ x∈R.t3,0≤x.1∧x.1≤99
inductive Nd where
 | sink
 | dest (d:Dest)
 | task (y:Nat)
def tn (R:RSt)(y:Nat):Int:=nodeR R 3 (R.t3.getD y (0,0,0)).1.toNat
def nd (R:RSt):Nd→Int
 | .sink=>1
 | .dest d=>nodeOf R d
 | .task y=>tn R y
def VD (R:RSt):Dest→Prop
 | .mach k=>k<R.t1.length
 | .rack r=>r<R.t0.length
 | .clus=>True
 | .job j=>j<R.t2.length
def VN (R:RSt):Nd→Prop
 | .sink=>True
 | .dest d=>VD R d
 | .task y=>y<R.t3.length
section
variable {R:RSt}
theorem id_of {xs:List Th}{k:Nat}(hk:k<xs.length)(h:∀ x∈xs,0≤x.1∧x.1≤99)(ha:atOf xs[k].1 xs=k):∃ id:Nat,(xs.getD k (0,0,0)).1=(id:Int)∧id<100∧atOf (id:Int) xs=k:=by
 have h1:=h _ (Jl hk)
 refine ⟨xs[k].1.toNat,by rw [getD_at hk]; omega,by omega,?_⟩
 have:((xs[k].1.toNat:Nat):Int)=xs[k].1:=by omega
 rw [this,ha]
theorem Fits.ids (h:Fits R):IdFit R:=by
 refine ⟨fun r hr=>?_,fun k hk=>?_,fun j hj=>?_⟩
 ·obtain ⟨id,e,h1,h2⟩:=id_of hr h.id0 (h.at0 r hr)
  rw [getD_at hr] at e
  exact ⟨id,e,h1,by show 0≤atOf (id:Int) R.t0; omega⟩
 ·obtain ⟨id,e,h1,h2⟩:=id_of hk h.net.run.id1 (h.net.run.at1 k hk)
  rw [getD_at hk] at e
  exact ⟨id,e,h1,by show 0≤atOf (id:Int) R.t1; omega⟩
 ·obtain ⟨id,e,h1,h2⟩:=id_of hj h.net.id2 (h.at2 j hj)
  rw [getD_at hj] at e
  exact ⟨id,e,h1,by show 0≤atOf (id:Int) R.t2; omega⟩
theorem Fits.code (h:Fits R){n:Nd}(hv:VN R n):(n=.sink∨n=.dest .clus)∨∃ k id:Nat,id<100∧Pres R k id∧nd R n=nodeR R k id∧((k=0∧∃ r:Nat,n=.dest (.rack r)∧atOf (id:Int) R.t0=r)∨(k=1∧∃ r:Nat,n=.dest (.mach r)∧atOf (id:Int) R.t1=r)∨(k=2∧∃ r:Nat,n=.dest (.job r)∧atOf (id:Int) R.t2=r)∨(k=3∧∃ r:Nat,n=.task r∧atOf (id:Int) R.t3=r)):=by
 cases n with
 | sink=>exact Jr (Jr rfl)
 | task y =>
  have hy:y<R.t3.length:=hv
  obtain ⟨id,e,h1,h2⟩:=id_of hy h.id3 (h.at3 y hy)
  refine Js ⟨3,id,h1,by show 0≤atOf (id:Int) R.t3; omega,?_,Js (Js (Js ⟨rfl,y,rfl,h2⟩))⟩
  show tn R y=_
  unfold tn
  rw [e,Jn]
 | dest d =>
  cases d with
  | clus=>exact Jr (Js rfl)
  | rack r =>
   have hr:r<R.t0.length:=hv
   obtain ⟨id,e,h1,h2⟩:=id_of hr h.id0 (h.at0 r hr)
   refine Js ⟨0,id,h1,by show 0≤atOf (id:Int) R.t0; omega,?_,Jr ⟨rfl,r,rfl,h2⟩⟩
   show nodeR R 0 _=_
   rw [e,Jn]
  | mach k =>
   have hr:k<R.t1.length:=hv
   obtain ⟨id,e,h1,h2⟩:=id_of hr h.net.run.id1 (h.net.run.at1 k hr)
   refine Js ⟨1,id,h1,by show 0≤atOf (id:Int) R.t1; omega,?_,Js (Jr ⟨rfl,k,rfl,h2⟩)⟩
   show nodeR R 1 _=_
   rw [e,Jn]
  | job j =>
   have hr:j<R.t2.length:=hv
   obtain ⟨id,e,h1,h2⟩:=id_of hr h.net.id2 (h.at2 j hr)
   refine Js ⟨2,id,h1,by show 0≤atOf (id:Int) R.t2; omega,?_,Js (Js (Jr ⟨rfl,j,rfl,h2⟩))⟩
   show nodeR R 2 _=_
   rw [e,Jn]
theorem Fits.two (h:Fits R){n:Nd}(hv:VN R n):0≤nd R n∧(nd R n=0→n=.dest .clus)∧(nd R n=1→n=.sink):=by
 rcases h.code hv with (rfl | rfl) | ⟨k,id,h1,h2,e,_⟩
 ·exact ⟨by show (0:Int)≤1; omega,fun q=>by have:(1:Int)=0:=q; omega,fun _=>rfl⟩
 ·exact ⟨by show (0:Int)≤0; omega,fun _=>rfl,fun q=>by have:(0:Int)=1:=q; omega⟩
 ·have:=nodeR_in h2 h1
  rw [e]
  exact ⟨by omega,fun q=>by omega,fun q=>by omega⟩
theorem Fits.inj (h:Fits R){n n':Nd}(hv:VN R n)(hv':VN R n')(e:nd R n=nd R n'):n=n':=by
 rcases h.code hv with (rfl | rfl) | ⟨k,id,h1,h2,e1,g1⟩
 ·exact ((h.two hv').2.2 e.symm).symm
 ·exact ((h.two hv').2.1 e.symm).symm
 rcases h.code hv' with (rfl | rfl) | ⟨k',id',h1',h2',e1',g1'⟩
 ·exact (h.two hv).2.2 e
 ·exact (h.two hv).2.1 e
 obtain ⟨q1,q2⟩:=nodeR_inj h2 h1 h2' h1' (by rw [← e1,← e1',e])
 subst q1 q2
 rcases g1 with ⟨a,r,rfl,b⟩ | ⟨a,r,rfl,b⟩ | ⟨a,r,rfl,b⟩ | ⟨a,r,rfl,b⟩ <;> rcases g1' with ⟨a',r',rfl,b'⟩ | ⟨a',r',rfl,b'⟩ | ⟨a',r',rfl,b'⟩ | ⟨a',r',rfl,b'⟩ <;> first | (exfalso; omega) | (have:r=r':=by omega); (subst this; rfl)
def slR (R:RSt)(k:Nat):Int:=(R.t1.getD k (0,0,0)).2.2
inductive ArcP (R:RSt):Ar→Prop where
 | rack (r:Nat) (h:r<R.t0.length):ArcP R ⟨nd R (.dest .clus),nd R (.dest (.rack r)),1000,0⟩
 | into (k:Nat) (h:k<R.t1.length):ArcP R ⟨nd R (.dest (.rack (rkR R k))),nd R (.dest (.mach k)),slR R k,0⟩
 | sink (k:Nat) (h:k<R.t1.length):ArcP R ⟨nd R (.dest (.mach k)),nd R .sink,slR R k,0⟩
 | job (j:Nat) (h:j<R.t2.length):ArcP R ⟨nd R (.dest (.job j)),nd R .sink,16,0⟩
 | leaf (y:Nat) (h:y<R.t3.length) (d:Dest) (x:Int) (hw:wayR R y d x):ArcP R ⟨nd R (.task y),nd R (.dest d),1,x⟩
theorem way_there {y:Nat}{d:Dest}{x:Int}(h:wayR R y d x):VD R d:=by
 cases d with
 | clus=>trivial
 | rack r=>exact h.1
 | mach k=>exact h.1
 | job j=>exact h.1
theorem node_rack (h:Fits R){k:Nat}(hk:k<R.t1.length):nodeR R 0 (R.t1.getD k (0,0,0)).2.1.toNat=nd R (.dest (.rack (rkR R k)))∧rkR R k<R.t0.length:=by
 obtain ⟨h1,h2⟩:=h.rack.at hk
 refine ⟨?_,h1⟩
 show _=nodeR R 0 _
 rw [h2]
theorem arcP_of (h:Fits R){a:Ar}(ha:ArcIs R a):ArcP R a:=by
 cases ha with
 | rack id h1 hp =>
  obtain ⟨r,hr,e1,e2⟩:=atOf_some (id:=(id:Int)) (xs:=R.t0) hp
  have:=ArcP.rack (R:=R) r hr
  have e:nd R (.dest (.rack r))=nodeR R 0 id:=by
   show nodeR R 0 _=_
   rw [getD_at hr,e2,Jn]
  rw [e] at this
  exact this
 | into id k h1 hp hk =>
  obtain ⟨r,hr,e1,e2⟩:=atOf_some (id:=(id:Int)) (xs:=R.t1) hp
  have:r=k:=by omega
  subst this
  have:=ArcP.into (R:=R) r hr
  have e:nd R (.dest (.mach r))=nodeR R 1 id:=by
   show nodeR R 1 _=_
   rw [getD_at hr,e2,Jn]
  rw [e,← (node_rack h hr).1] at this
  exact this
 | sink id k h1 hp hk =>
  obtain ⟨r,hr,e1,e2⟩:=atOf_some (id:=(id:Int)) (xs:=R.t1) hp
  have:r=k:=by omega
  subst this
  have:=ArcP.sink (R:=R) r hr
  have e:nd R (.dest (.mach r))=nodeR R 1 id:=by
   show nodeR R 1 _=_
   rw [getD_at hr,e2,Jn]
  rw [e] at this
  exact this
 | job id h1 hp =>
  obtain ⟨r,hr,e1,e2⟩:=atOf_some (id:=(id:Int)) (xs:=R.t2) hp
  have:=ArcP.job (R:=R) r hr
  have e:nd R (.dest (.job r))=nodeR R 2 id:=by
   show nodeR R 2 _=_
   rw [getD_at hr,e2,Jn]
  rw [e] at this
  exact this
 | leaf id i h1 hp hi a ha =>
  obtain ⟨r,hr,e1,e2⟩:=atOf_some (id:=(id:Int)) (xs:=R.t3) hp
  have:r=i:=by omega
  subst this
  obtain ⟨q1,q2,d,q3,q4⟩:=leaf_way h.net hr e2 ha
  have:=ArcP.leaf (R:=R) r hr d a.k q3
  have e:nd R (.task r)=nodeR R 3 id:=by
   show nodeR R 3 _=_
   rw [getD_at hr,e2,Jn]
  rw [e,← q1,show nd R (.dest d)=a.t from q4.symm,← q2] at this
  exact this
theorem arcP_at (h:Fits R){a:Ar}(ha:ArcP R a):∃ i,i<(netR R).length∧arcN R i=a:=by
 refine mem_arcN ?_
 cases ha with
 | rack r hr =>
  obtain ⟨id,e,h1,h2⟩:=id_of hr h.id0 (h.at0 r hr)
  have:=mem_rack (R:=R) h1 (by show 0≤atOf (id:Int) R.t0; omega)
  rw [show nd R (.dest (.rack r))=nodeR R 0 id by show nodeR R 0 _=_; rw [e,Jn]]
  exact this
 | into k hk =>
  obtain ⟨id,e,h1,h2⟩:=id_of hk h.net.run.id1 (h.net.run.at1 k hk)
  have:=(mem_into (R:=R) h1 (by show 0≤atOf (id:Int) R.t1; omega) h2).1
  rw [(node_rack h hk).1] at this
  rw [show nd R (.dest (.mach k))=nodeR R 1 id by show nodeR R 1 _=_; rw [e,Jn]]
  exact this
 | sink k hk =>
  obtain ⟨id,e,h1,h2⟩:=id_of hk h.net.run.id1 (h.net.run.at1 k hk)
  have:=(mem_into (R:=R) h1 (by show 0≤atOf (id:Int) R.t1; omega) h2).2
  rw [show nd R (.dest (.mach k))=nodeR R 1 id by show nodeR R 1 _=_; rw [e,Jn]]
  exact this
 | job j hj =>
  obtain ⟨id,e,h1,h2⟩:=id_of hj h.net.id2 (h.at2 j hj)
  have:=mem_job (R:=R) h1 (by show 0≤atOf (id:Int) R.t2; omega)
  rw [show nd R (.dest (.job j))=nodeR R 2 id by show nodeR R 2 _=_; rw [e,Jn]]
  exact this
 | leaf y hy d x hw =>
  obtain ⟨id,e,h1,h2⟩:=id_of hy h.id3 (h.at3 y hy)
  have e':R.t3[y].1=(id:Int):=by rw [getD_at hy] at e; exact e
  obtain ⟨a,ha,q1,q2⟩:=way_leaf h.net hy e' hw h.id0 h.at0
  obtain ⟨g1,g2,_⟩:=leaf_way h.net hy e' ha
  have:=mem_leaf (R:=R) h1 (by show 0≤atOf (id:Int) R.t3; omega) h2 ha
  rw [show nd R (.task y)=nodeR R 3 id by show nodeR R 3 _=_; rw [e,Jn],← g1,show nd R (.dest d)=a.t from q2.symm,← q1,← g2]
  exact this
end
end
section
section
variable {R:RSt}
def inR (R:RSt)(g:Nat→Int)(n:Nd):Int:=inn (arcN R) g (nd R n).toNat (netR R).length
def ouR (R:RSt)(g:Nat→Int)(n:Nd):Int:=out (arcN R) g (nd R n).toNat (netR R).length
structure Left (R:RSt)(F g:Nat→Int)(P:Nat→Nat)(o:Nat→Int)(v:Nd):Prop where
 nn:∀ i,i<(netR R).length→0≤g i∧g i≤F i
 clus:inR R g (.dest .clus)+one (nd R v=nd R (.dest .clus))=ouR R g (.dest .clus)
 rack:∀ r,r<R.t0.length→inR R g (.dest (.rack r))+one (nd R v=nd R (.dest (.rack r)))=ouR R g (.dest (.rack r))
 mach:∀ k,k<R.t1.length→inR R g (.dest (.mach k))+cnt P k R.t3.length+one (nd R v=nd R (.dest (.mach k)))=inR R F (.dest (.mach k))
 task:∀ y,y<R.t3.length→ouR R g (.task y)=o y
theorem inR_bump (h:Fits R){n u:Nd}(hn:VN R n){g:Nat→Int}{i:Nat}(hi:i<(netR R).length)(ht:(arcN R i).t=nd R u):inR R (bump g i (-1)) n=inR R g n - one (nd R u=nd R n):=by
 unfold inR
 rw [inn_bump]
 have:=(h.two hn).1
 unfold one
 by_cases e:nd R u=nd R n
 ·rw [if_pos e,if_pos ⟨hi,by rw [ht,e]; omega⟩]; omega
 ·rw [if_neg e,if_neg (fun q=>e (by rw [← ht]; omega))]; omega
theorem ouR_bump (h:Fits R){n v:Nd}(hn:VN R n){g:Nat→Int}{i:Nat}(hi:i<(netR R).length)(hf:(arcN R i).f=nd R v):ouR R (bump g i (-1)) n=ouR R g n - one (nd R v=nd R n):=by
 unfold ouR
 rw [out_bump]
 have:=(h.two hn).1
 unfold one
 by_cases e:nd R v=nd R n
 ·rw [if_pos e,if_pos ⟨hi,by rw [hf,e]; omega⟩]; omega
 ·rw [if_neg e,if_neg (fun q=>e (by rw [← hf]; omega))]; omega
theorem one_neg {p:Prop} [Decidable p] (h:¬ p):one p=0:=if_neg h
theorem one_pos {p:Prop} [Decidable p] (h:p):one p=1:=if_pos h
theorem one_two (p:Prop) [Decidable p]:one p=0∨one p=1:=by
 by_cases h:p
 ·exact Js (one_pos h)
 ·exact Jr (one_neg h)
section
variable {F g:Nat→Int}{P:Nat→Nat}{o:Nat→Int}{v:Nd}
theorem Left.go (L:Left R F g P o v)(h:Fits R)(hvm:∀ k,k<R.t1.length→nd R v≠nd R (.dest (.mach k))){i:Nat}(hi:i<(netR R).length)(hf:(arcN R i).f=nd R v)(hp:0<g i){u:Nd}(ht:(arcN R i).t=nd R u) :
  Left R F (bump g i (-1)) P (fun y=>o y - one (nd R v=nd R (.task y))) u:=by
 refine ⟨fun j hj=>?_,?_,fun r hr=>?_,fun k hk=>?_,fun y hy=>?_⟩
 ·have:=L.nn j hj
  unfold bump
  by_cases e:j=i
  ·subst e; rw [if_pos rfl]; omega
  ·rw [if_neg e]; exact this
 ·have h1:=L.clus
  rw [inR_bump h (n:=.dest .clus) trivial hi ht,ouR_bump h (n:=.dest .clus) trivial hi hf]
  omega
 ·have h1:=L.rack r hr
  rw [inR_bump h (n:=.dest (.rack r)) hr hi ht,ouR_bump h (n:=.dest (.rack r)) hr hi hf]
  omega
 ·have h1:=L.mach k hk
  rw [one_neg (hvm k hk)] at h1
  rw [inR_bump h (n:=.dest (.mach k)) hk hi ht]
  omega
 ·have h1:=L.task y hy
  rw [ouR_bump h (n:=.task y) hy hi hf]
  show _=o y - _
  omega
theorem Left.start (L:Left R F g P o .sink)(h:Fits R){y:Nat}(hy:y<R.t3.length):Left R F g P o (.task y):=by
 have e:∀ d,VD R d→¬ (nd R (.task y)=nd R (.dest d)):=fun d hd q=>by have:=h.inj (n:=.task y) (n':=.dest d) hy hd q; cases this
 have e':∀ d,VD R d→¬ (nd R .sink=nd R (.dest d)):=fun d hd q=>by have:=h.inj (n:=.sink) (n':=.dest d) trivial hd q; cases this
 refine ⟨L.nn,?_,fun r hr=>?_,fun k hk=>?_,L.task⟩
 ·have:=L.clus
  rw [one_neg (e' .clus trivial)] at this
  rw [one_neg (e .clus trivial)]
  exact this
 ·have:=L.rack r hr
  rw [one_neg (e' (.rack r) hr)] at this
  rw [one_neg (e (.rack r) hr)]
  exact this
 ·have:=L.mach k hk
  rw [one_neg (e' (.mach k) hk)] at this
  rw [one_neg (e (.mach k) hk)]
  exact this
theorem Left.stop {d:Dest}(L:Left R F g P o (.dest d))(h:Fits R)(hd:VD R d){y x:Nat}(hy:y<R.t3.length)(hP:R.t1.length<P y)(hx:(d=.mach x)∨(∃ j,d=.job j)∧x=R.t1.length):Left R F g (updN P y x) o .sink:=by
 have e:∀ d',VD R d'→d≠d'→¬ (nd R (.dest d)=nd R (.dest d')):=fun d' hd' q' q=>by
  have:=h.inj (n:=.dest d) (n':=.dest d') hd hd' q
  cases this
  exact q' rfl
 have e':∀ d,VD R d→¬ (nd R .sink=nd R (.dest d)):=fun d hd q=>by have:=h.inj (n:=.sink) (n':=.dest d) trivial hd q; cases this
 refine ⟨L.nn,?_,fun r hr=>?_,fun k hk=>?_,L.task⟩
 ·have:=L.clus
  rw [one_neg (e .clus trivial (by rcases hx with rfl | ⟨⟨j,rfl⟩,_⟩ <;> intro q <;> cases q))] at this
  rw [one_neg (e' .clus trivial)]
  exact this
 ·have:=L.rack r hr
  rw [one_neg (e (.rack r) hr (by rcases hx with rfl | ⟨⟨j,rfl⟩,_⟩ <;> intro q <;> cases q))] at this
  rw [one_neg (e' (.rack r) hr)]
  exact this
 ·have h1:=L.mach k hk
  have h2:=cnt_upd (on:=P) (x:=k) (j:=y) (k:=x) hy
  rw [if_neg (show ¬ P y=k by omega)] at h2
  rw [one_neg (e' (.mach k) hk)]
  rcases hx with rfl | ⟨⟨j,rfl⟩,rfl⟩
  ·by_cases q:x=k
   ·subst q
    rw [one_pos rfl] at h1
    rw [if_pos rfl] at h2
    omega
   ·rw [one_neg (e (.mach k) hk (fun r=>by cases r; exact q rfl))] at h1
    rw [if_neg q] at h2
    omega
  ·rw [one_neg (e (.mach k) hk (fun r=>by cases r))] at h1
   rw [if_neg (by omega)] at h2
   omega
end
theorem from_task (h:Fits R){i y:Nat}(hi:i<(netR R).length)(hy:y<R.t3.length)(hf:(arcN R i).f=nd R (.task y)):∃ d x,wayR R y d x∧VD R d∧arcN R i=⟨nd R (.task y),nd R (.dest d),1,x⟩:=by
 have hA:=arcP_of h (arcIs_of (arcN_mem hi))
 generalize arcN R i=a at hA hf ⊢
 cases hA with
 | rack r hr=>have:=h.inj (n:=.dest .clus) (n':=.task y) trivial hy hf; cases this
 | into k hk=>have:=h.inj (n:=.dest (.rack _)) (n':=.task y) (node_rack h hk).2 hy hf; cases this
 | sink k hk=>have:=h.inj (n:=.dest (.mach k)) (n':=.task y) hk hy hf; cases this
 | job j hj=>have:=h.inj (n:=.dest (.job j)) (n':=.task y) hj hy hf; cases this
 | leaf y' hy' d x hw =>
  have:=h.inj (n:=.task y') (n':=.task y) hy' hy hf
  cases this
  exact ⟨d,x,hw,way_there hw,rfl⟩
theorem from_clus (h:Fits R){i:Nat}(hi:i<(netR R).length)(hf:(arcN R i).f=nd R (.dest .clus)):∃ r,r<R.t0.length∧arcN R i=⟨nd R (.dest .clus),nd R (.dest (.rack r)),1000,0⟩:=by
 have hA:=arcP_of h (arcIs_of (arcN_mem hi))
 generalize arcN R i=a at hA hf ⊢
 cases hA with
 | rack r hr=>exact ⟨r,hr,rfl⟩
 | into k hk=>have:=h.inj (n:=.dest (.rack _)) (n':=.dest .clus) (node_rack h hk).2 trivial hf; cases this
 | sink k hk=>have:=h.inj (n:=.dest (.mach k)) (n':=.dest .clus) hk trivial hf; cases this
 | job j hj=>have:=h.inj (n:=.dest (.job j)) (n':=.dest .clus) hj trivial hf; cases this
 | leaf y' hy' d x hw=>have:=h.inj (n:=.task y') (n':=.dest .clus) hy' trivial hf; cases this
theorem from_rack (h:Fits R){i r:Nat}(hi:i<(netR R).length)(hr:r<R.t0.length)(hf:(arcN R i).f=nd R (.dest (.rack r))):∃ k,k<R.t1.length∧rkR R k=r∧arcN R i=⟨nd R (.dest (.rack r)),nd R (.dest (.mach k)),slR R k,0⟩:=by
 have hA:=arcP_of h (arcIs_of (arcN_mem hi))
 generalize arcN R i=a at hA hf ⊢
 cases hA with
 | rack r' hr'=>have:=h.inj (n:=.dest .clus) (n':=.dest (.rack r)) trivial hr hf; cases this
 | into k hk =>
  have:=h.inj (n:=.dest (.rack _)) (n':=.dest (.rack r)) (node_rack h hk).2 hr hf
  cases this
  exact ⟨k,hk,rfl,rfl⟩
 | sink k hk=>have:=h.inj (n:=.dest (.mach k)) (n':=.dest (.rack r)) hk hr hf; cases this
 | job j hj=>have:=h.inj (n:=.dest (.job j)) (n':=.dest (.rack r)) hj hr hf; cases this
 | leaf y' hy' d x hw=>have:=h.inj (n:=.task y') (n':=.dest (.rack r)) hy' hr hf; cases this
theorem Left.outs {F g:Nat→Int}{P:Nat→Nat}{o:Nat→Int}{v:Nd}(L:Left R F g P o v)(hv:(∃ y,y<R.t3.length∧v=.task y∧o y=1)∨v=.dest .clus∨∃ r,r<R.t0.length∧v=.dest (.rack r))(h:Fits R):∃ i,i<(netR R).length∧(arcN R i).f=nd R v∧1≤g i:=by
 have hvn:VN R v:=by
  rcases hv with ⟨y,hy,rfl,_⟩ | rfl | ⟨r,hr,rfl⟩
  ·exact hy
  ·trivial
  ·exact hr
 have hpos:0<ouR R g v:=by
  have hnn:∀ n,0≤inR R g n:=fun n=>inn_nonneg (fun i hi=>(L.nn i hi).1)
  rcases hv with ⟨y,hy,rfl,ho⟩ | rfl | ⟨r,hr,rfl⟩
  ·rw [L.task y hy,ho]; omega
  ·have:=L.clus; rw [one_pos rfl] at this; have:=hnn (.dest .clus); omega
  ·have:=L.rack r hr; rw [one_pos rfl] at this; have:=hnn (.dest (.rack r)); omega
 obtain ⟨i,hi,e,hp⟩:=out_pos hpos
 have:=(h.two hvn).1
 exact ⟨i,hi,by omega,by omega⟩
end
end
end Go.Proofs.Ytjdindfjfpdikab
