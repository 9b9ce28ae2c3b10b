import Derived.Test.YtjdindfjfpdikabB02
import Derived.Test.YtjdindfjfpdikabB07
import Derived.Test.YtjdindfjfpdikabB18
import Derived.Test.YtjdindfjfpdikabB20
import Derived.Test.YtjdindfjfpdikabB21
import Derived.Test.YtjdindfjfpdikabB26
import Derived.Test.YtjdindfjfpdikabPre
set_option maxRecDepth 100000
set_option maxHeartbeats 8000000
namespace Go.Proofs.Ytjdindfjfpdikab
section
section
variable {R:RSt}
theorem leafK_len' (fr t mo:Int)(kd:Nat):∀ l:List Int,(leafK R fr t mo kd l).length≤l.length
 | []=>by simp [leafK]
 | a :: l=>by
  have h1:=leafK_len' fr t mo kd l
  have h2:=leafW_len R fr t mo kd a
  unfold leafK at h1 ⊢
  rw [List.flatMap_cons,Jo,List.length_cons]
  omega
theorem leafR_len' (hf:Fits R)(h0:R.t0.length≤4)(i id:Nat):(leafR R i id).length≤15:=by
 have h1:(leafRun R i (nodeR R 3 id) (R.on.getD i (-1))).length≤1:=by
  unfold leafRun
  split <;> simp
 have h2:(leafUp R (nodeR R 3 id) id (moreR (R.on.getD i (-1))) 2).length≤12:=by
  show (([] ++ leafK R (nodeR R 3 id) id (moreR (R.on.getD i (-1))) (1 - 0) (idsR R (1 - 0) 100)) ++ leafK R (nodeR R 3 id) id (moreR (R.on.getD i (-1))) (1 - 1) (idsR R (1 - 1) 100)).length≤12
  rw [Jo,Jo]
  have a1:=leafK_len' (R:=R) (nodeR R 3 id) id (moreR (R.on.getD i (-1))) (1 - 0) (idsR R (1 - 0) 100)
  have a2:=leafK_len' (R:=R) (nodeR R 3 id) id (moreR (R.on.getD i (-1))) (1 - 1) (idsR R (1 - 1) 100)
  have b1:=ids_le (R:=R) (1 - 0) 100
  have b2:=ids_le (R:=R) (1 - 1) 100
  have c1:(tkR R (1 - 0)).length≤8:=hf.net.run.len1
  have c2:(tkR R (1 - 1)).length≤4:=h0
  simp only [List.length_nil]
  omega
 unfold leafR
 rw [Jo,Jo,Jo]
 simp only [List.length_singleton]
 omega
theorem taskL_len' (hf:Fits R)(h0:R.t0.length≤4):∀ l:List Int,(taskL R l).length≤15*l.length
 | []=>by simp [taskL]
 | a :: l=>by
  have h1:=taskL_len' hf h0 l
  have h2:=leafR_len' hf h0 (atOf a R.t3).toNat a.toNat
  unfold taskL at h1 ⊢
  rw [List.flatMap_cons,Jo,List.length_cons]
  omega
theorem net_len (hf:Fits R)(h0:R.t0.length≤4):(netR R).length≤600:=by
 unfold netR
 rw [Jo,Jo,Jo,machL_len]
 unfold rackA jobA
 rw [Jv,Jv]
 have h4:=taskL_len' hf h0 (idsR R 3 100)
 have a0:=ids_le (R:=R) 0 100
 have a1:=ids_le (R:=R) 1 100
 have a2:=ids_le (R:=R) 2 100
 have a3:=ids_le (R:=R) 3 100
 have c0:(tkR R 0).length≤4:=h0
 have c1:(tkR R 1).length≤8:=hf.net.run.len1
 have c2:(tkR R 2).length≤4:=hf.net.run.len2
 have c3:(tkR R 3).length≤16:=hf.net.run.len3
 omega
theorem wish_bound (hf:Fits R){t k id c:Int}(h:wishR R t k id=some c):0≤c∧c≤1000:=by
 unfold wishR at h
 cases e:R.ws.find? (isWi t k id) with
 | none=>rw [e] at h; cases h
 | some x =>
  rw [e] at h
  cases h
  have hm:=List.mem_of_find?_eq_some e
  exact ⟨hf.net.run.ws x hm,hf.net.ws x hm⟩
theorem more_bound (o:Int):0≤moreR o∧moreR o≤50:=by
 unfold moreR
 split <;> omega
theorem way_bound (hf:Fits R){y:Nat}(hy:y<R.t3.length){d:Dest}{x:Int}(h:wayR R y d x):0≤x∧x≤1150:=by
 have hm:=more_bound (R.on.getD y (-1))
 cases d with
 | mach k =>
  obtain ⟨_,⟨_,rfl⟩ | ⟨c,hc,rfl⟩⟩:=h
  ·exact cR_bound hf.net.run hy
  ·have:=wish_bound hf hc; omega
 | rack r =>
  obtain ⟨_,c,hc,rfl⟩:=h
  have:=wish_bound hf hc; omega
 | clus =>
  have e:x=(R.t3.getD y (0,0,0)).2.2+moreR (R.on.getD y (-1)):=h
  have:=hf.net.run.n3 _ (Jl hy)
  rw [getD_at hy] at e
  omega
 | job j =>
  obtain ⟨_,_,rfl⟩:=h
  exact cR_bound hf.net.run hy
theorem sl_bound (hf:Fits R){k:Nat}(hk:k<R.t1.length):1≤slR R k∧slR R k≤4:=by
 unfold slR
 rw [getD_at hk]
 exact hf.net.run.sl _ (Jl hk)
theorem arc_ok {N:Nat}(hf:Fits R)(hN:NetN R N){i:Nat}(hi:i<(netR R).length):ArcOk N (arcN R i):=by
 have hA:=arcP_of hf (arcIs_of (arcN_mem hi))
 have nb:∀ {n:Nd},VN R n→0≤nd R n∧nd R n<(N:Int):=fun hv=>⟨(hf.two hv).1,hf.low hN hv⟩
 generalize arcN R i=a at hA
 cases hA with
 | rack r hr=>exact ⟨nb (n:=.dest .clus) trivial,nb (n:=.dest (.rack r)) hr,by simp only; omega,by simp only; omega⟩
 | into k hk =>
  have:=sl_bound hf hk
  exact ⟨nb (n:=.dest (.rack _)) (node_rack hf hk).2,nb (n:=.dest (.mach k)) hk,⟨by show (0:Int)≤slR R k; omega,by show slR R k≤1000; omega⟩,by simp only; omega⟩
 | sink k hk =>
  have:=sl_bound hf hk
  exact ⟨nb (n:=.dest (.mach k)) hk,nb (n:=.sink) trivial,⟨by show (0:Int)≤slR R k; omega,by show slR R k≤1000; omega⟩,by simp only; omega⟩
 | job j hj=>exact ⟨nb (n:=.dest (.job j)) hj,nb (n:=.sink) trivial,by simp only; omega,by simp only; omega⟩
 | leaf y hy d x hw =>
  have:=way_bound hf hy hw
  exact ⟨nb (n:=.task y) hy,nb (n:=.dest d) (way_there hw),by simp only; omega,⟨by show -10000≤x; omega,by show x≤10000; omega⟩⟩
theorem netN_nodes (R:RSt):NetN R (nodesR R):=⟨by rw [← (nodesR_eq R).1]; rfl⟩
theorem nodes_le {hf:Fits R}(h0:R.t0.length≤4):nodesR R≤34:=by
 have h1:=ids_le (R:=R) 3 100
 have h2:=hf.net.run.len1
 have h3:=hf.net.run.len2
 have h4:(tkR R 3).length≤16:=hf.net.run.len3
 have e:lensR R 3=0+R.t0.length+R.t1.length+R.t2.length:=rfl
 unfold nodesR nodeR
 rw [e]
 omega
theorem supN_bound (hf:Fits R)(v:Nat):-1000≤supN R v∧supN R v≤1000:=by
 have:=hf.net.run.len3
 unfold supN updI supF
 split
 ·omega
 ·split <;> omega
theorem net_ok (hf:Fits R)(h0:R.t0.length≤4):NetOk (nodesR R) (nodesR R) (supN R) (netR R).length (arcN R):=by
 have:=nodes_le (hf:=hf) h0
 exact ⟨⟨by omega,by omega⟩,rfl,net_len hf h0,fun i _=>supN_bound hf i,fun i hi=>arc_ok hf (netN_nodes R) hi⟩
end
end
section
section
variable {R:RSt}
def tg (R:RSt):Nd→Int×Int
 | .sink=>(5,0)
 | .dest .clus=>(4,0)
 | .dest (.rack r)=>(0,(R.t0.getD r (0,0,0)).1)
 | .dest (.mach k)=>(1,(R.t1.getD k (0,0,0)).1)
 | .dest (.job j)=>(2,(R.t2.getD j (0,0,0)).1)
 | .task y=>(3,(R.t3.getD y (0,0,0)).1)
theorem tg_code (h:Fits R){n:Nd}(hv:VN R n):(n=.sink∨n=.dest .clus)∨∃ k id:Nat,k≤3∧id<100∧Pres R k id∧nd R n=nodeR R k id∧tg R n=((k:Int),(id:Int)):=by
 cases n with
 | sink=>exact Jr (Jr rfl)
 | task y =>
  have hy:y<R.t3.length:=hv
  obtain ⟨id,e,h1,h2⟩:=id_of hy h.id3 (h.at3 y hy)
  refine Js ⟨3,id,by omega,h1,by show 0≤atOf (id:Int) R.t3; omega,?_,?_⟩
  ·show tn R y=_
   unfold tn
   rw [e,Jn]
  ·show ((3:Int),_)=_
   rw [e]
   rfl
 | dest d =>
  cases d with
  | clus=>exact Jr (Js rfl)
  | rack r =>
   have hr:r<R.t0.length:=hv
   obtain ⟨id,e,h1,h2⟩:=id_of hr h.id0 (h.at0 r hr)
   refine Js ⟨0,id,by omega,h1,by show 0≤atOf (id:Int) R.t0; omega,?_,?_⟩
   ·show nodeR R 0 _=_
    rw [e,Jn]
   ·show ((0:Int),_)=_
    rw [e]
    rfl
  | mach k =>
   have hr:k<R.t1.length:=hv
   obtain ⟨id,e,h1,h2⟩:=id_of hr h.net.run.id1 (h.net.run.at1 k hr)
   refine Js ⟨1,id,by omega,h1,by show 0≤atOf (id:Int) R.t1; omega,?_,?_⟩
   ·show nodeR R 1 _=_
    rw [e,Jn]
   ·show ((1:Int),_)=_
    rw [e]
    rfl
  | job j =>
   have hr:j<R.t2.length:=hv
   obtain ⟨id,e,h1,h2⟩:=id_of hr h.net.id2 (h.at2 j hr)
   refine Js ⟨2,id,by omega,h1,by show 0≤atOf (id:Int) R.t2; omega,?_,?_⟩
   ·show nodeR R 2 _=_
    rw [e,Jn]
   ·show ((2:Int),_)=_
    rw [e]
    rfl
theorem ts_clus (R:RSt):0<(tsR R).length∧(tsR R).getD 0 (0,0)=(4,0):=by
 obtain ⟨l,e⟩:=preR_pre (R:=R) (show 0≤4 by omega)
 obtain ⟨h1,h2⟩:=at_of_append (l:=tsR R) (a:=[]) (x:=(4,0)) (b:=(5,0) :: l) (by unfold tsR; rw [e]; rfl)
 have h1':0<(tsR R).length:=h1
 exact ⟨h1',by rw [getD_at h1']; exact h2⟩
theorem tg_node (hft:Fit R)(h:Fits R){n:Nd}(hv:VN R n):nodeT (nmR R) (tg R n)=nd R n:=by
 rcases tg_code h hv with (rfl | rfl) | ⟨k,id,hk,hi,hp,e1,e2⟩
 ·exact node_sink R
 ·exact node_clus R
 ·rw [e2,e1]
  exact node_R hft hk hi hp
theorem tg_ts (hft:Fit R)(h:Fits R){n:Nd}(hv:VN R n):(nd R n).toNat<(tsR R).length∧(tsR R).getD (nd R n).toNat (0,0)=tg R n:=by
 rcases tg_code h hv with (rfl | rfl) | ⟨k,id,hk,hi,hp,e1,e2⟩
 ·exact ts_sink R
 ·exact ts_clus R
 ·rw [e1,e2]
  exact ts_at hft hk hi hp
theorem Left.ocongr {F g:Nat→Int}{P:Nat→Nat}{o o':Nat→Int}{v:Nd}(L:Left R F g P o v)(h:∀ y,y<R.t3.length→o y=o' y):Left R F g P o' v :=
 ⟨L.nn,L.clus,L.rack,L.mach,fun y hy=>(L.task y hy).trans (h y hy)⟩
structure Used (R:RSt)(c:Ch):Prop where
 al:c.al=netR R
 fl:c.fl.length=(netR R).length
 nm:c.nm=nmR R
 ts:c.ts=tsR R
theorem Used.step {c:Ch}(h:Used R c)(b:Int)(j:Nat):Used R (stepped c b j):=⟨h.al,by show (c.fl.set _ _).length=_; rw [List.length_set]; exact h.fl,h.nm,h.ts⟩
section
variable {c:Ch}{F:Nat→Int}{P:Nat→Nat}{o:Nat→Int}{v:Nd}
theorem one_step (hf:Fits R)(hft:Fit R)(hu:Used R c)(hF:∀ i,i<(netR R).length→F i≤1000)(L:Left R F (fun i=>c.fl.getD i 0) P o v)(hv:(∃ y,y<R.t3.length∧v=.task y∧o y=1)∨v=.dest .clus∨∃ r,r<R.t0.length∧v=.dest (.rack r)) :
  ∃ j,j<(netR R).length∧(arcN R j).f=nd R v∧1≤F j∧∀ u,VN R u→(arcN R j).t=nd R u→StepOk c (tg R v) 1 (-1) j (nd R u).toNat∧c.ts.getD (nd R u).toNat (0,0)=tg R u∧Left R F (fun i=>(stepped c (-1) j).fl.getD i 0) P (fun y=>o y - one (nd R v=nd R (.task y))) u ∧
   cost (arcN R) (fun i=>(stepped c (-1) j).fl.getD i 0) (netR R).length=cost (arcN R) (fun i=>c.fl.getD i 0) (netR R).length - (arcN R j).k:=by
 have hvn:VN R v:=by
  rcases hv with ⟨y,hy,rfl,_⟩ | rfl | ⟨r,hr,rfl⟩
  ·exact hy
  ·trivial
  ·exact hr
 have hvm:∀ k,k<R.t1.length→nd R v≠nd R (.dest (.mach k)):=fun k hk q=>by
  have:=hf.inj (n:=v) (n':=.dest (.mach k)) hvn hk q
  rcases hv with ⟨y,hy,rfl,_⟩ | rfl | ⟨r,hr,rfl⟩ <;> cases this
 obtain ⟨i,hi,e,hp⟩:=L.outs hv hf
 obtain ⟨j,hj,⟨h1,h2⟩,hno⟩:=first_ex (p:=fun i=>(arcN R i).f=nd R v∧1≤c.fl.getD i 0) (n:=(netR R).length) ⟨i,hi,e,hp⟩
 have hnn:0≤c.fl.getD j 0∧c.fl.getD j 0≤F j:=L.nn j hj
 have hFj:=hF j hj
 have hjf:j<c.fl.length:=by rw [hu.fl]; exact hj
 have e0:(fun i=>(stepped c (-1) j).fl.getD i 0)=bump (fun i=>c.fl.getD i 0) j (-1):=set_bump c.fl hjf (-1)
 refine ⟨j,hj,h1,by omega,fun u hu' ht=>⟨?_,?_,?_,?_⟩⟩
 ·refine ⟨by rw [hu.al,hu.fl],?_,hjf,?_,h2,fun i hij q=>?_,?_,?_,by omega,by omega⟩
  ·rw [hu.fl]
   have:=net_len_le hf (idsR R 3 100).length
   have h3:=net_split R (idsR R 3 100).length
   rw [List.drop_length] at h3
   have h4:netR R=roomsR R ++ taskL R ((idsR R 3 100).take (idsR R 3 100).length):=by rw [h3]; simp [taskL]
   rw [h4]
   omega
  ·rw [hu.al,hu.nm,tg_node hft hf hvn]
   exact h1
  ·have hin:i<(netR R).length:=by omega
   refine hno i hij ⟨?_,q.2⟩
   have q1:=q.1
   rw [hu.al,hu.nm,tg_node hft hf hvn] at q1
   exact q1
  ·rw [hu.al]
   have:(arcN R j).t=((nd R u).toNat:Int):=by rw [ht]; have:=(hf.two hu').1; omega
   exact this
  ·rw [hu.ts]
   exact (tg_ts hft hf hu').1
 ·rw [hu.ts]
  exact (tg_ts hft hf hu').2
 ·rw [e0]
  exact L.go hf hvm hj h1 (by show 0<c.fl.getD j 0; omega) ht
 ·rw [e0,cost_bump,if_pos hj]
  omega
structure Placed (R:RSt)(F:Nat→Int)(P:Nat→Nat)(o:Nat→Int)(c:Ch)(y:Nat)(a:Int×Int)(c':Ch)(m:Nat)(d:Dest)(x:Int)(p:Nat):Prop where
 path:Path (fun k=>decide (k=1∨k=2)) 1 (-1) (tg R (.task y)) c a c' m
 used:Used R c'
 left:Left R F (fun i=>c'.fl.getD i 0) (updN P y p) (updI o y 0) .sink
 came:Came R F y d x p
 at':(p<R.t1.length∧a=(1,(R.t1.getD p (0,0,0)).1))∨(p=R.t1.length∧a.1=2)
 cost:cost (arcN R) (fun i=>c'.fl.getD i 0) (netR R).length=cost (arcN R) (fun i=>c.fl.getD i 0) (netR R).length - x
theorem place_task (hf:Fits R)(hft:Fit R)(hu:Used R c)(hF:∀ i,i<(netR R).length→F i≤1000)(L:Left R F (fun i=>c.fl.getD i 0) P o .sink){y:Nat}(hy:y<R.t3.length)(ho:o y=1)(hP:R.t1.length<P y) :
  ∃ a c' m d x p,Placed R F P o c y a c' m d x p:=by
 have L0:=L.start hf hy
 obtain ⟨j1,hj1,f1,F1,S1⟩:=one_step hf hft hu hF L0 (Jr ⟨y,hy,rfl,ho⟩)
 obtain ⟨d,x,hw,hd,ea⟩:=from_task hf hj1 hy f1
 obtain ⟨st1,et1,L1,k1⟩:=S1 (.dest d) hd (by rw [ea])
 have ek:(arcN R j1).k=x:=by rw [ea]
 rw [ek] at k1
 have hu1:=hu.step (-1) j1
 have oc:∀ z,z<R.t3.length→o z - one (nd R (.task y)=nd R (.task z))=updI o y 0 z:=fun z hz=>by
  unfold updI
  by_cases q:z=y
  ·subst q
   rw [if_pos rfl,one_pos rfl,ho]
   omega
  ·rw [if_neg q,one_neg (fun r=>by
    have:=hf.inj (n:=.task y) (n':=.task z) hy hz r
    cases this
    exact q rfl)]
   omega
 have L1:=L1.ocongr oc
 have notT:∀ {d':Dest},VD R d'→∀ z,z<R.t3.length→updI o y 0 z - one (nd R (.dest d')=nd R (.task z))=updI o y 0 z:=fun hd' z hz=>by
  rw [one_neg (fun r=>by
   have:=hf.inj (n:=.dest _) (n':=.task z) hd' hz r
   cases this)]
  omega
 have fromRack:∀ {c1:Ch} {r:Nat},r<R.t0.length→Used R c1→Left R F (fun i=>c1.fl.getD i 0) P (updI o y 0) (.dest (.rack r))→∃ (k j:Nat),k<R.t1.length∧rkR R k=r∧j<(netR R).length∧arcN R j=⟨nd R (.dest (.rack r)),nd R (.dest (.mach k)),slR R k,0⟩∧1≤F j∧StepOk c1 (tg R (.dest (.rack r))) 1 (-1) j (nd R (.dest (.mach k))).toNat∧c1.ts.getD (nd R (.dest (.mach k))).toNat (0,0)=tg R (.dest (.mach k))∧Left R F (fun i=>(stepped c1 (-1) j).fl.getD i 0) (updN P y k) (updI o y 0) .sink∧cost (arcN R) (fun i=>(stepped c1 (-1) j).fl.getD i 0) (netR R).length=cost (arcN R) (fun i=>c1.fl.getD i 0) (netR R).length:=by
  intro c1 r hr hu1 L2
  obtain ⟨j2,hj2,f2,F2,S2⟩:=one_step hf hft hu1 hF L2 (Js (Js ⟨r,hr,rfl⟩))
  obtain ⟨k,hk,hrk,ea2⟩:=from_rack hf hj2 hr f2
  obtain ⟨st2,et2,L3,k2⟩:=S2 (.dest (.mach k)) hk (by rw [ea2])
  have ek2:(arcN R j2).k=0:=by rw [ea2]
  rw [ek2] at k2
  have L3:=L3.ocongr (notT (d':=.rack r) hr)
  exact ⟨k,j2,hk,hrk,hj2,ea2,F2,st2,et2,L3.stop hf hk hy hP (Jr rfl),by rw [k2]; omega⟩
 cases d with
 | mach k =>
  refine ⟨_,_,1,.mach k,x,k,Path.more rfl st1 (by rw [et1]; exact Path.done rfl),hu1,L1.stop hf hd hy hP (Jr rfl),⟨hw,⟨j1,hj1,ea,F1⟩,Nat.le_of_lt hd,fun _=>Jr rfl,fun q=>?_⟩,Jr ⟨hd,rfl⟩,k1⟩
  have:k<R.t1.length:=hd
  omega
 | job j =>
  refine ⟨_,_,1,.job j,x,R.t1.length,Path.more rfl st1 (by rw [et1]; exact Path.done rfl),hu1,L1.stop hf hd hy hP (Js ⟨⟨j,rfl⟩,rfl⟩),⟨hw,⟨j1,hj1,ea,F1⟩,Jb _,fun q=>by omega,fun _=>⟨j,rfl⟩⟩,Js ⟨rfl,rfl⟩,k1⟩
 | rack r =>
  obtain ⟨k,j2,hk,hrk,hj2,ea2,F2,st2,et2,L3,k3⟩:=fromRack hd hu1 L1
  refine ⟨_,_,2,.rack r,x,k,Path.more rfl st1 (by rw [et1]; exact Path.more rfl st2 (by
   have e3:(stepped c (-1) j1).ts.getD (nd R (.dest (.mach k))).toNat (0,0)=tg R (.dest (.mach k)):=et2
   rw [e3]
   exact Path.done rfl)),hu1.step _ _,L3,⟨hw,⟨j1,hj1,ea,F1⟩,Nat.le_of_lt hk,fun _=>Js ⟨Jr (by rw [hrk]),j2,hj2,by rw [hrk]; exact ea2,F2⟩,fun q=>by omega⟩,Jr ⟨hk,rfl⟩,by rw [k3]; exact k1⟩
 | clus =>
  obtain ⟨j2,hj2,f2,F2,S2⟩:=one_step hf hft hu1 hF L1 (Js (Jr rfl))
  obtain ⟨r,hr,ea2⟩:=from_clus hf hj2 f2
  obtain ⟨st2,et2,L2,k2⟩:=S2 (.dest (.rack r)) hr (by rw [ea2])
  have ek2:(arcN R j2).k=0:=by rw [ea2]
  rw [ek2] at k2
  have L2:=L2.ocongr (notT (d':=.clus) trivial)
  obtain ⟨k,j3,hk,hrk,hj3,ea3,F3,st3,et3,L3,k3⟩:=fromRack hr (hu1.step _ _) L2
  refine ⟨_,_,3,.clus,x,k,Path.more rfl st1 (by rw [et1]; exact Path.more rfl st2 (by
   have e3:(stepped c (-1) j1).ts.getD (nd R (.dest (.rack r))).toNat (0,0)=tg R (.dest (.rack r)):=et2
   rw [e3]
   exact Path.more rfl st3 (by
    have e4:(stepped (stepped c (-1) j1) (-1) j2).ts.getD (nd R (.dest (.mach k))).toNat (0,0)=tg R (.dest (.mach k)):=et3
    rw [e4]
    exact Path.done rfl))),(hu1.step _ _).step _ _,L3,⟨hw,⟨j1,hj1,ea,F1⟩,Nat.le_of_lt hk,fun _=>Js ⟨Js ⟨rfl,j2,hj2,by rw [hrk]; exact ea2,F2⟩,j3,hj3,by rw [hrk]; exact ea3,F3⟩,fun q=>by omega⟩,Jr ⟨hk,rfl⟩,by rw [k3,k2,k1]; omega⟩
theorem Left.free {g:Nat→Int}(L:Left R F g P o .sink)(hf:Fits R)(ho:∀ y,y<R.t3.length→o y=0):Go.Proofs.Ytjdindfjfpdikab.cost (arcN R) g (netR R).length=0:=by
 have gnn:∀ i,i<(netR R).length→0≤g i:=fun i hi=>(L.nn i hi).1
 unfold Go.Proofs.Ytjdindfjfpdikab.cost
 rw [sumN_congr (h:=fun _=>0) (fun i hi=>?_),sumN_zero]
 have hA:=arcP_of hf (arcIs_of (arcN_mem hi))
 generalize hq:arcN R i=a at hA
 cases hA with
 | rack r hr=>show g i*0=0; simp
 | into k hk=>show g i*0=0; simp
 | sink k hk=>show g i*0=0; simp
 | job j hj=>show g i*0=0; simp
 | leaf y hy d x hw =>
  have h1:=out_one (A:=arcN R) (F:=g) (v:=(nd R (.task y)).toNat) (i:=i) gnn hi (by have:=(hf.two (n:=.task y) hy).1; rw [hq]; show nd R (.task y)=_; omega)
  have h2:=L.task y hy
  rw [ho y hy] at h2
  unfold ouR at h2
  have h3:=gnn i hi
  have:g i=0:=by omega
  rw [this]
  simp
theorem Left.init {N:Nat}(h:NetFlow R N F)(hf:Fits R)(hN:NetN R N):Left R F F (fun _=>R.t1.length+1) (fun _=>1) .sink:=by
 have e':∀ d,VD R d→¬ (nd R .sink=nd R (.dest d)):=fun d hd q=>by have:=hf.inj (n:=.sink) (n':=.dest d) trivial hd q; cases this
 have hz:∀ k n,k≤R.t1.length→cnt (fun _=>R.t1.length+1) k n=0:=fun k n hk=>by
  induction n with
  | zero=>rfl
  | succ n ih=>simp only [cnt,ih]; rw [if_neg (by omega)]
 refine ⟨fun i hi=>⟨h.nn i hi,Int.le_refl _⟩,?_,fun r hr=>?_,fun k hk=>?_,fun y hy=>h.one hf hN hy⟩
 ·rw [one_neg (e' .clus trivial)]
  have:=h.mid hf hN (n:=.dest .clus) trivial (fun y q=>by cases q) (fun q=>by cases q)
  omega
 ·rw [one_neg (e' (.rack r) hr)]
  have:=h.mid hf hN (n:=.dest (.rack r)) hr (fun y q=>by cases q) (fun q=>by cases q)
  omega
 ·rw [one_neg (e' (.mach k) hk),hz k _ (by omega)]
  omega
end
end
end
section
section
variable {R:RSt}{l0:Things}{l1:Runs}{l2:Waits}{l3:Prefs}{o:Nat→Int}{P:Nat→Nat}{m1:Runs}{m2:Waits}
def runP (R:RSt)(P:Nat→Nat)(y:Nat):Option (Int×Int):=if P y<R.t1.length then some (1,(R.t1.getD (P y) (0,0,0)).1) else none
def kid (R:RSt)(y:Nat):Int×Int:=(3,(R.t3.getD y (0,0,0)).1)
theorem kid_at {y:Nat}(hy:y<R.t3.length):kid R y=(3,R.t3[y].1):=by unfold kid; rw [getD_at hy]
theorem kid_inj (hf:Fit R){y z:Nat}(hy:y<R.t3.length)(hz:z<R.t3.length)(e:kid R y=kid R z):y=z:=by
 rw [kid_at hy,kid_at hz] at e
 have e1:R.t3[y].1=R.t3[z].1:=congrArg (fun x=>x.2) e
 have h1:=atOf_mem hf.nd3 hy
 have h2:=atOf_mem hf.nd3 hz
 rw [e1,h2] at h1
 omega
structure SolvI (R:RSt)(l1:Runs)(l2:Waits)(o:Nat→Int)(P:Nat→Nat)(m1:Runs)(m2:Waits):Prop where
 kn1:KN m1
 kn2:KN m2
 run:∀ y,y<R.t3.length→get (kid R y) m1=if o y=1 then runP R P y else get (kid R y) l1
 wt:∀ y,y<R.t3.length→get (kid R y) m2=if o y=1∧P y<R.t1.length then none else get (kid R y) l2
 oth1:∀ a,(∀ y,y<R.t3.length→a≠kid R y)→get a m1=get a l1
 oth2:∀ a,(∀ y,y<R.t3.length→a≠kid R y)→get a m2=get a l2
theorem SolvI.start (hs:Sim l0 l1 l2 l3 R)(ho:∀ y,y<R.t3.length→o y=0)(P:Nat→Nat):SolvI R l1 l2 o P l1 l2 :=
 ⟨hs.runs.kn1,hs.kn2,fun y hy=>by rw [if_neg (by rw [ho y hy]; decide)],fun y hy=>by rw [if_neg (fun q=>by rw [ho y hy] at q; exact absurd q.1 (by decide))],fun _ _=>rfl,fun _ _=>rfl⟩
theorem runP_other {P:Nat→Nat}{y z p:Nat}(h:z≠y):runP R (updN P y p) z=runP R P z:=by
 unfold runP updN
 rw [if_neg h]
theorem runP_here {P:Nat→Nat}{y p:Nat}:runP R (updN P y p) y=if p<R.t1.length then some (1,(R.t1.getD p (0,0,0)).1) else none:=by
 unfold runP updN
 rw [if_pos rfl]
theorem SolvI.on (h:SolvI R l1 l2 o P m1 m2)(hf:Fit R){y p:Nat}(hy:y<R.t3.length)(hp:p<R.t1.length) :
  SolvI R l1 l2 (updI o y 1) (updN P y p) (put (kid R y) (1,(R.t1.getD p (0,0,0)).1) m1) (del (kid R y) m2):=by
 refine ⟨h.kn1.put _ _,h.kn2.del _,fun z hz=>?_,fun z hz=>?_,fun a ha=>?_,fun a ha=>?_⟩
 ·rw [get_put]
  by_cases e:z=y
  ·subst e
   rw [if_pos rfl,runP_here,if_pos hp]
   unfold updI
   rw [if_pos rfl,if_pos rfl]
  ·rw [if_neg (fun q=>e (kid_inj hf hz hy q)),h.run z hz,runP_other e]
   unfold updI
   rw [if_neg e]
 ·rw [get_del]
  by_cases e:z=y
  ·subst e
   rw [if_pos rfl]
   unfold updI updN
   rw [if_pos rfl,if_pos rfl,if_pos ⟨rfl,hp⟩]
  ·rw [if_neg (fun q=>e (kid_inj hf hz hy q)),h.wt z hz]
   unfold updI updN
   rw [if_neg e,if_neg e]
 ·rw [get_put,if_neg (ha y hy)]
  exact h.oth1 a ha
 ·rw [get_del,if_neg (ha y hy)]
  exact h.oth2 a ha
theorem SolvI.off (h:SolvI R l1 l2 o P m1 m2)(hf:Fit R){y:Nat}(hy:y<R.t3.length)(h0:o y=0) :
  SolvI R l1 l2 (updI o y 1) (updN P y R.t1.length) (del (kid R y) m1) m2:=by
 refine ⟨h.kn1.del _,h.kn2,fun z hz=>?_,fun z hz=>?_,fun a ha=>?_,h.oth2⟩
 ·rw [get_del]
  by_cases e:z=y
  ·subst e
   have e1:updI o z 1 z=1:=by unfold updI; rw [if_pos rfl]
   rw [if_pos rfl,if_pos e1,runP_here,if_neg (Nat.lt_irrefl _)]
  ·rw [if_neg (fun q=>e (kid_inj hf hz hy q)),h.run z hz,runP_other e]
   unfold updI
   rw [if_neg e]
 ·rw [h.wt z hz]
  by_cases e:z=y
  ·subst e
   unfold updI updN
   rw [if_pos rfl,if_pos rfl,if_neg (fun q=>by omega),if_neg (fun q=>by omega)]
  ·unfold updI updN
   rw [if_neg e,if_neg e]
 ·rw [get_del,if_neg (ha y hy)]
  exact h.oth1 a ha
theorem count_cnt {f:Nat→Int}{a:Int}{P:Nat→Nat}{m:Nat}:∀ {n:Nat},(∀ j,j<n→(f j=a↔P j=m))→(intL n f).count a=cnt P m n
 | 0,_=>rfl
 | n+1,h=>by
  rw [← intL_push,List.count_append,count_cnt (fun j hj=>h j (by omega)),List.count_singleton]
  have:=h n (by omega)
  simp only [cnt]
  by_cases e:f n=a
  ·rw [if_pos (by simpa using e),if_pos (this.1 e)]
  ·rw [if_neg (by simpa using e),if_neg (fun q=>e (this.2 q))]
theorem onId_iff (hf:Fit R){P:Nat→Nat}{m j:Nat}(hm:m<R.t1.length):onId R P j=R.t1[m].1↔P j=m:=by
 unfold onId
 by_cases e:P j<R.t1.length
 ·rw [if_pos e,getD_at e]
  constructor
  ·intro q
   have h1:=atOf_mem hf.nd1 e
   have h2:=atOf_mem hf.nd1 hm
   rw [q,h2] at h1
   omega
  ·intro q
   subst q
   rfl
 ·rw [if_neg e]
  have:=(hf.id1 _ (Jl hm)).1
  constructor
  ·intro q; omega
  ·intro q; omega
theorem onId_run (h:SolvI R l1 l2 o P m1 m2){y:Nat}(hy:y<R.t3.length)(ho:o y=1):onL m1 R.t3[y].1=onId R P y:=by
 have h1:=h.run y hy
 rw [if_pos ho,kid_at hy] at h1
 unfold onL onId
 rw [h1]
 unfold runP
 by_cases e:P y<R.t1.length
 ·rw [if_pos e,if_pos e]
 ·rw [if_neg e,if_neg e]
theorem SolvI.sim (hs:Sim l0 l1 l2 l3 R)(h:SolvI R l1 l2 o P m1 m2)(ho:∀ y,y<R.t3.length→o y=1)(hP:PlaceOk R.t1.length (sR R) P R.t3.length):Sim l0 m1 m2 l3 (Rn R P R.t3.length):=by
 have hf:=hs.fit
 have hkey:∀ a,(∃ y,y<R.t3.length∧a=kid R y)∨∀ y,y<R.t3.length→a≠kid R y:=fun a=>by
  by_cases q:∃ y,y<R.t3.length∧a=kid R y
  ·exact Jr q
  ·exact Js (fun y hy e=>q ⟨y,hy,e⟩)
 have hmem:∀ {a:Int×Int},(∃ x∈R.t3,a=(3,x.1))→∃ y,y<R.t3.length∧a=kid R y:=fun {a} ⟨x,hx,e⟩=>by
  obtain ⟨y,hy,rfl⟩:=List.mem_iff_getElem.1 hx
  exact ⟨y,hy,by rw [kid_at hy]; exact e⟩
 have honF:∀ y,y<R.t3.length→onF R P R.t3.length y=onId R P y:=fun y hy=>by unfold onF; rw [if_pos hy]
 have hon:(Rn R P R.t3.length).on=R.t3.map (fun x=>onL m1 x.1):=by
  apply List.ext_getElem
  ·show (intL _ _).length=_
   rw [intL_length,Jv]
  ·intro i h1 h2
   have hi:i<R.t3.length:=by simpa using h2
   rw [List.getElem_map,onId_run h hi (ho i hi)]
   exact (intL_get (n:=R.t3.length) (f:=onF R P R.t3.length) h1).trans (honF i hi)
 have hwtF:∀ i,(hi:i<R.t3.length)→wtF R P R.t3.length i=(get (3,R.t3[i].1) m2).getD 0:=fun i hi=>by
  have hio:i<R.on.length:=by rw [hf.lo]; exact hi
  have hiw:i<R.wt.length:=by rw [hf.wl]; exact hi
  have h1:=h.wt i hi
  rw [kid_at hi] at h1
  have ew:R.wt[i]=(get (3,R.t3[i].1) l2).getD 0:=by
   have:=congrArg (fun l=>l[i]?) hs.wt
   simpa [hiw,hi] using this
  rw [h1]
  unfold wtF
  rw [getD_at hio,getD_at hiw]
  by_cases e:P i<R.t1.length
  ·rw [if_pos ⟨hi,Jr (by unfold onId; rw [if_pos e,getD_at e]; exact (hf.id1 _ (Jl e)).1)⟩,if_pos ⟨ho i hi,e⟩]
   rfl
  ·have e0:¬ (o i=1∧P i<R.t1.length):=fun q=>e q.2
   have e2:onId R P i=-1:=by unfold onId; rw [if_neg e]
   by_cases e3:0≤R.on[i]
   ·rw [if_pos ⟨hi,Js e3⟩,if_neg e0]
    have e4:=hs.mv hi hio
    cases e5:get (3,R.t3[i].1) l1 with
    | none =>
     have:onL l1 R.t3[i].1=-1:=by unfold onL; rw [e5]
     omega
    | some m=>exact (hs.rz _ _ e5).symm
   ·rw [if_neg (fun q=>by rcases q.2 with q | q <;> omega),if_neg e0,ew]
 have hwt:(Rn R P R.t3.length).wt=R.t3.map (fun x=>(get (3,x.1) m2).getD 0):=by
  apply List.ext_getElem
  ·show (intL _ _).length=_
   rw [intL_length,Jv]
  ·intro i h1 h2
   have hi:i<R.t3.length:=by simpa using h2
   rw [List.getElem_map,← hwtF i hi]
   exact intL_get (n:=R.t3.length) (f:=wtF R P R.t3.length) h1
 have hwd:Waited m2:=fun a n hg=>by
  rcases hkey a with ⟨y,hy,rfl⟩ | q
  ·rw [h.wt y hy] at hg
   split at hg
   ·cases hg
   ·exact hs.wd _ _ hg
  ·rw [h.oth2 a q] at hg
   exact hs.wd _ _ hg
 refine ⟨⟨hf.len0,hf.len1,hf.len2,hf.len3,hf.id0,hf.id1,hf.id3,hf.job,hf.n2,hf.n3,hf.ws,intL_length _ _,intL_length _ _,fun n hn=>?_,hf.kn,hf.kw,⟨hf.more.id2,hf.more.sl,hf.more.rk,fun y hy=>?_⟩⟩,hs.p0,hs.p3,h.kn2,hwt,fun a ha=>?_,hwd,⟨h.kn1,hon,fun a m q=>?_⟩,fun a m q=>?_⟩
 ·rw [hwt] at hn
  obtain ⟨x,hx,rfl⟩:=List.mem_map.1 hn
  cases e:get (3,x.1) m2 with
  | none=>simp
  | some n=>exact hwd _ _ e
 ·obtain ⟨m,hm,rfl⟩:=List.mem_iff_getElem.1 hy
  have hm':m<R.t1.length:=hm
  show ((intL R.t3.length (onF R P R.t3.length)).count R.t1[m].1:Int)≤R.t1[m].2.2
  rw [count_cnt (P:=P) (m:=m) (fun j hj=>by rw [honF j hj]; exact onId_iff hf hm')]
  have h1:=hP.room m hm'
  have h2:=hf.more.sl _ (Jl hm')
  unfold sR at h1
  rw [getD_at hm'] at h1
  omega
 ·rcases hkey a with ⟨y,hy,rfl⟩ | q
  ·exact ⟨_,Jl hy,kid_at hy⟩
  ·rw [h.oth2 a q] at ha
   exact hs.in2 a ha
 ·rcases hkey a with ⟨y,hy,rfl⟩ | r
  ·rw [h.run y hy,if_pos (ho y hy)] at q
   unfold runP at q
   by_cases e:P y<R.t1.length
   ·rw [if_pos e] at q
    cases q
    exact ⟨⟨_,Jl hy,kid_at hy⟩,_,Jl e,by rw [getD_at e]⟩
   ·rw [if_neg e] at q
    cases q
  ·rw [h.oth1 a r] at q
   obtain ⟨h1,_⟩:=hs.runs.in1 a m q
   obtain ⟨y,hy,e⟩:=hmem h1
   exact absurd e (r y hy)
 ·rcases hkey a with ⟨y,hy,rfl⟩ | r
  ·rw [h.run y hy,if_pos (ho y hy)] at q
   unfold runP at q
   by_cases e:P y<R.t1.length
   ·rw [h.wt y hy,if_pos ⟨ho y hy,e⟩]
    rfl
   ·rw [if_neg e] at q
    cases q
  ·rw [h.oth2 a r]
   rw [h.oth1 a r] at q
   exact hs.rz a m q
structure PlI (R:RSt)(F:Nat→Int)(l1:Runs)(l2:Waits)(o:Nat→Int)(P:Nat→Nat)(used:Nat→Dest)(kk:Nat→Int)(c:Ch)(m1:Runs)(m2:Waits)(s:Int):Prop where
 us:Used R c
 left:Left R F (fun i=>c.fl.getD i 0) P (fun y=>1 - o y) .sink
 came:∀ y,y<R.t3.length→o y=1→Came R F y (used y) (kk y) (P y)
 fresh:∀ y,y<R.t3.length→o y=0→P y=R.t1.length+1
 solv:SolvI R l1 l2 o P m1 m2
 sum:s=sumN (fun y=>if o y=1 then cR R y (P y) else 0) R.t3.length
 cst:cost (arcN R) (fun i=>c.fl.getD i 0) (netR R).length+sumN (fun y=>if o y=1 then kk y else 0) R.t3.length=cost (arcN R) F (netR R).length
theorem PlI.start {N:Nat}(hs:Sim l0 l1 l2 l3 R){fl:List Int}{c:Ch}(hc:Used R c)(e:c.fl=fl)(h:NetFlow R N (fun i=>fl.getD i 0))(hN:NetN R N)(ho:∀ y,y<R.t3.length→o y=0):PlI R (fun i=>fl.getD i 0) l1 l2 o (fun _=>R.t1.length+1) (fun _=>.clus) (fun _=>0) c l1 l2 0:=by
 have hz:∀ g:Nat→Int,sumN (fun y=>if o y=1 then g y else 0) R.t3.length=0:=fun g=>by
  rw [sumN_congr (h:=fun _=>0) (fun y hy=>by rw [if_neg (by rw [ho y hy]; decide)]),sumN_zero]
 refine ⟨hc,?_,fun y hy q=>by rw [ho y hy] at q; exact absurd q (by decide),fun _ _ _=>rfl,SolvI.start hs ho _,(hz _).symm,by rw [hz,e]; omega⟩
 rw [e]
 exact (Left.init h hs.fits hN).ocongr (fun y hy=>by show (1:Int)=1 - o y; rw [ho y hy]; rfl)
theorem sum_more {o g g':Nat→Int}{y T:Nat}(hy:y<T)(h0:o y=0)(hg:∀ z,z≠y→g' z=g z):sumN (fun z=>if updI o y 1 z=1 then g' z else 0) T=sumN (fun z=>if o z=1 then g z else 0) T+g' y:=by
 have e:sumN (fun z=>if updI o y 1 z=1 then g' z else 0) T=sumN (updI (fun z=>if o z=1 then g z else 0) y (g' y)) T:=sumN_congr (fun z _=>by
  unfold updI
  by_cases q:z=y
  ·subst q; simp
  ·rw [if_neg q,if_neg q,hg z q])
 rw [e,sumN_upd hy]
 have:(if o y=1 then g y else 0)=0:=by rw [if_neg (by rw [h0]; decide)]
 simp only [this]
 omega
section
variable {F:Nat→Int}{used:Nat→Dest}{kk:Nat→Int}{c:Ch}{s:Int}
def updD (f:Nat→Dest)(y:Nat)(d:Dest):Nat→Dest:=fun z=>if z=y then d else f z
theorem PlI.next (h:PlI R F l1 l2 o P used kk c m1 m2 s){y:Nat}(hy:y<R.t3.length)(h0:o y=0){a:Int×Int}{c':Ch}{m:Nat}{d:Dest}{x:Int}{p:Nat}(q:Placed R F P (fun y=>1 - o y) c y a c' m d x p){m1':Runs}{m2':Waits}(hS:SolvI R l1 l2 (updI o y 1) (updN P y p) m1' m2') :
  PlI R F l1 l2 (updI o y 1) (updN P y p) (updD used y d) (updI kk y x) c' m1' m2' (s+cR R y p):=by
 have uo:∀ {z},z≠y→updI o y 1 z=o z:=fun e=>by unfold updI; rw [if_neg e]
 refine ⟨q.used,q.left.ocongr (fun z _=>?_),fun z hz e1=>?_,fun z hz e1=>?_,hS,?_,?_⟩
 ·unfold updI
  by_cases e:z=y
  ·rw [if_pos e,if_pos e]; rfl
  ·rw [if_neg e,if_neg e]
 ·by_cases e:z=y
  ·subst e
   unfold updD updI updN
   rw [if_pos rfl,if_pos rfl,if_pos rfl]
   exact q.came
  ·rw [uo e] at e1
   have:=h.came z hz e1
   unfold updD updI updN
   rw [if_neg e,if_neg e,if_neg e]
   exact this
 ·by_cases e:z=y
  ·subst e
   unfold updI at e1
   rw [if_pos rfl] at e1
   exact absurd e1 (by decide)
  ·rw [uo e] at e1
   unfold updN
   rw [if_neg e]
   exact h.fresh z hz e1
 ·rw [sum_more hy h0 (g:=fun z=>cR R z (P z)) (g':=fun z=>cR R z (updN P y p z)) (fun z e=>by unfold updN; rw [if_neg e]),← h.sum]
  unfold updN
  rw [if_pos rfl]
 ·rw [sum_more hy h0 (g:=kk) (g':=updI kk y x) (fun z e=>by unfold updI; rw [if_neg e]),q.cost]
  have:=h.cst
  have e:updI kk y x y=x:=by unfold updI; rw [if_pos rfl]
  rw [e]
  omega
structure Found (R:RSt)(F:Nat→Int)(P:Nat→Nat)(q:Nat→Int)(s:Int):Prop where
 place:PlaceOk R.t1.length (sR R) P R.t3.length
 cert:Cert R.t1.length (sR R) (cR R) P R.t3.length q
 sum:s=pcost (cR R) P R.t3.length
 cost:cost (arcN R) F (netR R).length=pcost (cR R) P R.t3.length
theorem PlI.done {N:Nat}{C:Nat→Int}(hs:Sim l0 l1 l2 l3 R)(h:PlI R F l1 l2 o P used kk c m1 m2 s)(hF:NetFlow R N F)(hN:NetN R N)(hp:∀ i,i<(netR R).length→PairOk C (arcN R i) (F i))(ho:∀ y,y<R.t3.length→o y=1):∃ q,Found R F P q s:=by
 have hf:=hs.fits
 have hc:∀ y,y<R.t3.length→Came R F y (used y) (kk y) (P y):=fun y hy=>h.came y hy (ho y hy)
 have ho':∀ y,y<R.t3.length→(fun y=>1 - o y) y=0:=fun y hy=>by show 1 - o y=0; rw [ho y hy]; rfl
 have hR:=read_of hF hf hN hp h.left ho' hc
 have hsum:∀ g:Nat→Int,sumN (fun y=>if o y=1 then g y else 0) R.t3.length=sumN g R.t3.length:=fun g=>sumN_congr (fun y hy=>by rw [if_pos (ho y hy)])
 refine ⟨_,place_of hF hf h.left ho' (fun y hy=>(hc y hy).le),hR.cert,?_,?_⟩
 ·rw [h.sum,hsum]
  rfl
 ·rw [← h.cst,h.left.free hf ho',hsum]
  unfold pcost
  rw [sumN_congr (h:=fun j=>cR R j (P j)) (fun y hy=>hR.exact hy)]
  omega
end
end
end
section
open Go.RowKit
section
variable {w:World}{pb b0 b1 b2 b3:Nat}{l0:Things}{l1:Runs}{l2:Waits}{l3:Prefs}
theorem PlanAt.del1 (h:PlanAt w pb b0 b1 b2 b3 l0 l1 l2 l3)(hn:KN l1)(a:Int×Int) :
  (∀ ty,(Builtin.delete_ #[71,79] ty #[.map (some b1),tv a]).run Try.prog w=.ok (.tuple #[]) (dropped Try.prog 71 79 b1 (tv a) w))∧PlanAt (dropped Try.prog 71 79 b1 (tv a) w) pb b0 b1 b2 b3 l0 (del a l1) l2 l3∧w.grownBy (dropped Try.prog 71 79 b1 (tv a) w) (some b1):=by
 obtain ⟨_,h2,h3⟩:=run_del kt79 Try.underlying71 h.m1 hn a 0
 obtain ⟨n1,n2,n3,n4,n5,n6⟩:=h.ne
 refine ⟨fun ty=>(run_del kt79 Try.underlying71 h.m1 hn a ty).1,⟨?_,h.m0.grown h3 (by simpa using n1),h2,h.m2.grown h3 (by simpa using n4.symm),h.m3.grown h3 (by simpa using n5.symm),h.ne⟩,h3⟩
 exact h.cells.move (h3.block pb h.lt (by simpa using h.pne.2.1))
theorem PlanAt.put1 (h:PlanAt w pb b0 b1 b2 b3 l0 l1 l2 l3)(a m:Int×Int) :
  (Instr.mapUpdate 71 (.map (some b1)) (tv a) (tv m)).run Try.prog w=.ok () (upd Try.prog 71 b1 (tv a) (tv m) w)∧PlanAt (upd Try.prog 71 b1 (tv a) (tv m) w) pb b0 b1 b2 b3 l0 (put a m l1) l2 l3∧w.grownBy (upd Try.prog 71 b1 (tv a) (tv m) w) (some b1):=by
 obtain ⟨h1,h2,h3⟩:=run_put kt79 Try.underlying71 h.m1 a m
 obtain ⟨n1,n2,n3,n4,n5,n6⟩:=h.ne
 refine ⟨h1,⟨?_,h.m0.grown h3 (by simpa using n1),h2,h.m2.grown h3 (by simpa using n4.symm),h.m3.grown h3 (by simpa using n5.symm),h.ne⟩,h3⟩
 exact h.cells.move (h3.block pb h.lt (by simpa using h.pne.2.1))
theorem settle_none (h:PlanAt w pb b0 b1 b2 b3 l0 l1 l2 l3)(hn:KN l1)(t k1 k2 j s a i1 i2 s' base:Int)(hk:k1≠1)(ht:get (3,t) l0=some ((2,j),s,a))(hj:get (2,j) l0=some ((i1,i2),s',base))(hB0:0≤base)(hB1:base≤1000)(hw:Waited l2) :
  Calls Try.prog 27 #[.pointer (some ⟨pb,0,none⟩),.agg #[.int .i64 3,.int .i64 t],.agg #[.int .i64 k1,.int .i64 k2]] w fun e w'=>e=.returned (.int .i64 (base+(get (3,t) l2).getD 0+moves l1 (3,t)))∧PlanAt w' pb b0 b1 b2 b3 l0 (del (3,t) l1) l2 l3∧Only [b1,b2] w w':=by
 obtain ⟨W1,hW1⟩:∃ W1,(w.alloc (.cells #[.int .i64 3,.int .i64 t] 79)).alloc (.cells #[.int .i64 k1,.int .i64 k2] 79)=W1:=⟨_,rfl⟩
 have bb1:Below w.heap.size w W1:=by rw [← hW1]; exact ((Jd _ _).alloc (Jb _) _).alloc (by simp) _
 obtain ⟨X1,X2,z1,z2⟩:=chBoxes (w:=w) (o1:=.cells #[.int .i64 3,.int .i64 t] 79) (o2:=.cells #[.int .i64 k1,.int .i64 k2] 79) (w2:=W1) (by rw [hW1]; exact Jd _ _)
 have A1:=hid (costOnNone_any (h.below bb1) 3 t 2 j s a i1 i2 s' base ht hj hB0 hB1 hw)
 obtain ⟨cst,hcst⟩:∃ cst,base+(get (3,t) l2).getD 0+moves l1 (3,t)=cst:=⟨_,rfl⟩
 rw [hcst] at A1
 have hkb:(k1 != 1)=true:=by simpa using hk
 have x0:=cellC X2 0
 simp only [Jg,Je] at x0
 have y0:=cellC X1 0
 have y1:=cellC X1 1
 simp only [Jg,Jf,Je] at y0 y1
 have H0:=hid (Jc hW1 (Jc bb1 (Jc X1 (Jc h (Jc hcst hn)))))
 clear hW1 bb1 X1 X2 h hcst ht hj hw hk hn
 go_enter Try.func27,Try.ntmps27
 go_upto_region 1 with fail
 rw [H0.out.1]
 go_upto_region 3 with (first
  | (go_at_call 46; refine A1.out.mono ?_; rintro e W2 ⟨rfl,bb2⟩)
  | fail)
 have P2:=(H0.out.2.2.2.1.below H0.out.2.1).below bb2
 have X2:=(bb2.block _ z1).trans H0.out.2.2.1
 have m0:=cellC X2 0
 have m1:=cellC X2 1
 simp only [Jg,Jf,Je] at m0 m1
 have mz:w.heap.size<W2.heap.size:=(Ja.1 X2).1
 have c1:=P2.c1
 have hpw:=P2.lt
 obtain ⟨d1,d2,d3⟩:=P2.drew.del1 H0.out.2.2.2.2.2 (3,t)
 have D1:=hid d1
 have H1:=hid (Jc d2 (Jc d3 bb2))
 clear d1 d2 d3 bb2 P2 X2 A1 x0 y0 y1
 go_cut [19] (fun _ wx=>wx=dropped Try.prog 71 79 b1 (tv (3,t)) W2.drew)
 case first =>
  go_region_law (refine step_del rfl _ _ 71 79 rfl b1 _ rfl rfl _ D1.out ?_)
  all_goals go_wp2_with fail
  all_goals go_meet
  all_goals exact rfl
 case rest =>
  subst hcut
  go_wp2_with fail
  go_ret
  refine ⟨by rw [H0.out.2.2.2.2.1]; rfl,H1.out.1,?_⟩
  exact (Only.of_below (next2 H0.out.2.1 H1.out.2.2)).drew.trans (Only.of_grown H1.out.2.1 (by simp))
theorem settle_on (h:PlanAt w pb b0 b1 b2 b3 l0 l1 l2 l3)(hn2:KN l2)(t m j s a r s' c':Int)(ht:get (3,t) l0=some ((2,j),s,a))(hm:get (1,m) l0=some ((0,r),s',c'))(ha0:0≤a)(ha1:a≤1000)(hC:Costs l3) :
  Calls Try.prog 27 #[.pointer (some ⟨pb,0,none⟩),.agg #[.int .i64 3,.int .i64 t],.agg #[.int .i64 1,.int .i64 m]] w fun e w'=>e=.returned (.int .i64 (lesser (lesser a (get ((3,t),(1,m)) l3)) (get ((3,t),(0,r)) l3)+movesTo l1 (3,t) (1,m)))∧PlanAt w' pb b0 b1 b2 b3 l0 (put (3,t) (1,m) l1) (del (3,t) l2) l3∧Only [b1,b2] w w':=by
 obtain ⟨W1,hW1⟩:∃ W1,(w.alloc (.cells #[.int .i64 3,.int .i64 t] 79)).alloc (.cells #[.int .i64 1,.int .i64 m] 79)=W1:=⟨_,rfl⟩
 have bb1:Below w.heap.size w W1:=by rw [← hW1]; exact ((Jd _ _).alloc (Jb _) _).alloc (by simp) _
 obtain ⟨X1,X2,z1,z2⟩:=chBoxes (w:=w) (o1:=.cells #[.int .i64 3,.int .i64 t] 79) (o2:=.cells #[.int .i64 1,.int .i64 m] 79) (w2:=W1) (by rw [hW1]; exact Jd _ _)
 have A1:=hid (costOn_any (h.below bb1) 3 t 1 m 2 j s a 0 r s' c' ht hm ha0 ha1 hC)
 obtain ⟨cst,hcst⟩:∃ cst,lesser (lesser a (get ((3,t),(1,m)) l3)) (get ((3,t),(0,r)) l3)+movesTo l1 (3,t) (1,m)=cst:=⟨_,rfl⟩
 rw [hcst] at A1
 have x0:=cellC X2 0
 have x1:=cellC X2 1
 have y0:=cellC X1 0
 have y1:=cellC X1 1
 simp only [Jg,Jf,Je] at x0 x1 y0 y1
 have HB:=hid (show b1<w.heap.size∧b2<w.heap.size from ⟨h.m1.lt,h.m2.lt⟩)
 have H0:=hid (Jc hW1 (Jc bb1 (Jc X1 (Jc X2 (Jc h (Jc hcst hn2))))))
 clear hW1 bb1 X1 X2 h hcst ht hm hC ha0 ha1 hn2
 go_enter Try.func27,Try.ntmps27
 go_upto_region 1 with fail
 rw [H0.out.1]
 go_upto_region 6 with (first
  | (go_at_call 47; refine A1.out.mono ?_; rintro e W2 ⟨rfl,bb2⟩)
  | fail)
 have P2:=(H0.out.2.2.2.2.1.below H0.out.2.1).below bb2
 have Y2:=(bb2.block _ z1).trans H0.out.2.2.1
 have Y3:=(bb2.block _ z2).trans H0.out.2.2.2.1
 have m0:=cellC Y2 0
 have m1:=cellC Y2 1
 have n0:=cellC Y3 0
 have n1:=cellC Y3 1
 simp only [Jg,Jf,Je] at m0 m1 n0 n1
 have mz:w.heap.size<W2.heap.size:=(Ja.1 Y2).1
 have nz:w.heap.size+1<W2.heap.size:=(Ja.1 Y3).1
 have c1:=P2.c1
 have hpw:=P2.lt
 obtain ⟨d1,d2,d3⟩:=P2.drew.put1 (3,t) (1,m)
 have hu:(Instr.mapUpdate 71 (.map (some b1)) (.agg #[.int .i64 3,.int .i64 t]) (.agg #[.int .i64 1,.int .i64 m])).run Try.prog W2.drew=.ok () (upd Try.prog 71 b1 (tv (3,t)) (tv (1,m)) W2.drew):=d1
 have k1:(upd Try.prog 71 b1 (tv (3,t)) (tv (1,m)) W2.drew).cell? ⟨w.heap.size,0,none⟩=some (.int .i64 3):=d3.cell (by exact m0) (by have:=HB.out; simp; omega)
 have k2:(upd Try.prog 71 b1 (tv (3,t)) (tv (1,m)) W2.drew).cell? ⟨w.heap.size,1,none⟩=some (.int .i64 t):=d3.cell (by exact m1) (by have:=HB.out; simp; omega)
 have kz:w.heap.size<(upd Try.prog 71 b1 (tv (3,t)) (tv (1,m)) W2.drew).heap.size:=Jm mz d3.size
 have hO:=(Only.of_below (S:=[b1,b2]) (next2 H0.out.2.1 bb2)).drew.trans (Only.of_grown d3 (by simp))
 have H1:=hid (Jc d2 (Jc k1 (Jc k2 (Jc kz hO))))
 clear d1 d2 d3 bb2 P2 Y2 Y3 A1 x0 x1 y0 y1 k1 k2 kz hO
 go_cut [30] (fun _ wx=>wx=upd Try.prog 71 b1 (tv (3,t)) (tv (1,m)) W2.drew)
 case first =>
  go_region
  all_goals go_wp2_with fail
  all_goals go_meet
  all_goals exact rfl
 case rest =>
  subst hcut
  clear hu m0 m1 n0 n1 c1 hpw
  have H2:=H1
  clear H1
  generalize upd Try.prog 71 b1 (tv (3,t)) (tv (1,m)) W2.drew=W3 at H2 ⊢
  have m0:=H2.out.2.1
  have m1:=H2.out.2.2.1
  have mz3:=H2.out.2.2.2.1
  have c2:=H2.out.1.c2
  have hpw:=H2.out.1.lt
  obtain ⟨d1,d2,d3,d4⟩:=H2.out.1.drew.del2 H0.out.2.2.2.2.2.2 (3,t)
  have D1:=hid d1
  have H3:=hid (Jc d2 d4)
  clear d1 d2 d3 d4
  go_upto_region 7 with fail
  go_cut [35] (fun _ wx=>wx=dropped Try.prog 64 79 b2 (tv (3,t)) W3.drew)
  case first =>
   go_region_law (refine step_del rfl _ _ 64 79 rfl b2 _ rfl rfl _ D1.out ?_)
   all_goals go_wp2_with fail
   all_goals go_meet
   all_goals exact rfl
  case rest =>
   subst hcut
   go_wp2_with fail
   go_ret
   exact ⟨by rw [H0.out.2.2.2.2.2.1]; rfl,H3.out.1,H2.out.2.2.2.2.drew.trans (Only.of_grown H3.out.2 (by simp))⟩
end
end
section
open Go.RowKit
section
variable {R:RSt}{l0:Things}{l1:Runs}{l2:Waits}{l3:Prefs}{o:Nat→Int}{P:Nat→Nat}{m1:Runs}{m2:Waits}{Z Z':World}{pb b0 b1 b2 b3:Nat}
theorem SolvI.wd (hs:Sim l0 l1 l2 l3 R)(h:SolvI R l1 l2 o P m1 m2):Waited m2:=fun a n hg=>by
 by_cases q:∃ y,y<R.t3.length∧a=kid R y
 ·obtain ⟨y,hy,rfl⟩:=q
  rw [h.wt y hy] at hg
  split at hg
  ·cases hg
  ·exact hs.wd _ _ hg
 ·rw [h.oth2 a (fun y hy e=>q ⟨y,hy,e⟩)] at hg
  exact hs.wd _ _ hg
theorem settle_any (hs:Sim l0 l1 l2 l3 R)(hS:SolvI R l1 l2 o P m1 m2){y p:Nat}(hy:y<R.t3.length)(h0:o y=0){a:Int×Int}(ha:(p<R.t1.length∧a=(1,(R.t1.getD p (0,0,0)).1))∨(p=R.t1.length∧a.1=2))(h:PlanAt Z pb b0 b1 b2 b3 l0 m1 m2 l3) :
  Calls Try.prog 27 #[.pointer (some ⟨pb,0,none⟩),.agg #[.int .i64 3,.int .i64 R.t3[y].1],.agg #[.int .i64 a.1,.int .i64 a.2]] Z fun e Z'=>e=.returned (.int .i64 (cR R y p))∧∃ m1' m2',PlanAt Z' pb b0 b1 b2 b3 l0 m1' m2' l3∧SolvI R l1 l2 (updI o y 1) (updN P y p) m1' m2'∧Only [b1,b2] Z Z':=by
 have hf:=hs.fit
 have hn3:=hf.n3 _ (Jl hy)
 have hr:=hS.run y hy
 have hw:=hS.wt y hy
 rw [if_neg (by rw [h0]; decide),kid_at hy] at hr
 rw [if_neg (fun q=>by rw [h0] at q; exact absurd q.1 (by decide)),kid_at hy] at hw
 rcases ha with ⟨hp,rfl⟩ | ⟨rfl,ha⟩
 ·have hc:=cost_R hs hy hp
  have hmv:movesTo m1 (3,R.t3[y].1) (1,R.t1[p].1)=movesTo l1 (3,R.t3[y].1) (1,R.t1[p].1):=by unfold movesTo; rw [hr]
  rw [getD_at hp]
  refine (settle_on h hS.kn2 R.t3[y].1 R.t1[p].1 R.t3[y].2.1 0 R.t3[y].2.2 R.t1[p].2.1 R.t1[p].2.2 0 (hs.yes3 hy) (hs.yes1 hp) hn3.1 hn3.2 hs.costs).mono ?_
  rintro e Z' ⟨rfl,hp',ho⟩
  refine ⟨by rw [hmv,hc],_,_,hp',?_,ho⟩
  have:=hS.on hf hy hp
  rw [kid_at hy,getD_at hp] at this
  exact this
 ·obtain ⟨yj,hyj,eyj⟩:=hf.job _ (Jl hy)
  obtain ⟨j,hj,rfl⟩:=List.mem_iff_getElem.1 hyj
  have hn2:=hf.n2 _ (Jl hj)
  have hjb:=hs.yes2 hj
  have ej:=atOf_mem hf.nd2 hj
  rw [eyj] at hjb ej
  have hc:=none_R hs hy hj ej
  have hmv:moves m1 (3,R.t3[y].1)=moves l1 (3,R.t3[y].1):=by unfold moves; rw [hr]
  refine (settle_none h hS.kn1 R.t3[y].1 a.1 a.2 R.t3[y].2.1 0 R.t3[y].2.2 4 0 0 R.t2[j].2.2 (by rw [ha]; decide) (hs.yes3 hy) hjb hn2.1 hn2.2 (hS.wd hs)).mono ?_
  rintro e Z' ⟨rfl,hp',ho⟩
  refine ⟨by rw [hmv,hw,hc],_,_,hp',?_,ho⟩
  have:=hS.off hf hy h0
  rw [kid_at hy] at this
  exact this
end
structure SI (w:World)(pb b0 b1 b2 b3:Nat)(l0:Things)(l3:Prefs)(cb mb:Nat)(W5:World)(S:List Nat)(c:Ch)(m1:Runs)(m2:Waits)(Z:World):Prop where
 chart:Chart w.heap.size Z cb mb c
 plan:PlanAt Z pb b0 b1 b2 b3 l0 m1 m2 l3
 same:∀ b∈S,Z.heap[b]?=W5.heap[b]?
 off:∀ b∈S,b∉c.foot cb mb∧b∉[b1,b2]
 lt:∀ b∈S,b<Z.heap.size
 only:Only [pb,b0,b1,b2,b3] w Z
 low:∀ b∈[pb,b0,b1,b2,b3],b<w.heap.size
section
variable {w Z Z' W5:World}{pb b0 b1 b2 b3 cb mb:Nat}{l0:Things}{l3:Prefs}{S:List Nat}{c c':Ch}{m1 m1':Runs}{m2 m2':Waits}
theorem SI.keep (h:SI w pb b0 b1 b2 b3 l0 l3 cb mb W5 S c m1 m2 Z)(hb:Below Z.heap.size Z Z'):SI w pb b0 b1 b2 b3 l0 l3 cb mb W5 S c m1 m2 Z' :=
 ⟨h.chart.keep hb,h.plan.below hb,fun b hm=>(hb.block b (h.lt b hm)).trans (h.same b hm),h.off,fun b hm=>Jm (h.lt b hm) hb.size,h.only.trans (Only.of_below hb),h.low⟩
theorem SI.place (h:SI w pb b0 b1 b2 b3 l0 l3 cb mb W5 S c m1 m2 Z)(hp:CPost w.heap.size cb mb c c' Z Z'):SI w pb b0 b1 b2 b3 l0 l3 cb mb W5 S c' m1 m2 Z':=by
 refine ⟨hp.1,hp.plan h.chart h.plan h.low,fun b hm=>(hp.2.1.block b (h.lt b hm) (h.off b hm).1).trans (h.same b hm),fun b hm=>⟨fun q=>?_,(h.off b hm).2⟩,fun b hm=>Jm (h.lt b hm) hp.2.1.size,h.only.chain hp.2.1 (fun b hm=>Js (h.chart.foots b hm).1),h.low⟩
 rcases hp.2.2 b q with r | r
 ·exact (h.off b hm).1 r
 ·have:=h.lt b hm
  omega
theorem SI.settle (h:SI w pb b0 b1 b2 b3 l0 l3 cb mb W5 S c m1 m2 Z)(hp:PlanAt Z' pb b0 b1 b2 b3 l0 m1' m2' l3)(ho:Only [b1,b2] Z Z'):SI w pb b0 b1 b2 b3 l0 l3 cb mb W5 S c m1' m2' Z':=by
 refine ⟨h.chart.move (fun b hm=>ho.block b (h.chart.foots b hm).2 (fun q=>?_)),hp,fun b hm=>(ho.block b (h.lt b hm) (h.off b hm).2).trans (h.same b hm),h.off,fun b hm=>Jm (h.lt b hm) ho.size,h.only.trans (ho.mono (fun b hb=>?_)),h.low⟩
 ·have h1:=(h.chart.foots b hm).1
  have h2:=h.low b (by simp at q ⊢; rcases q with q | q <;> simp [q])
  omega
 ·simp at hb ⊢
  rcases hb with hb | hb <;> simp [hb]
theorem SI.more {T:List Nat}(h:SI w pb b0 b1 b2 b3 l0 l3 cb mb W5 S c m1 m2 Z)(hb:Below Z.heap.size Z Z')(hT:∀ b∈T,(b∈S)∨(Z.heap.size≤b∧b<Z'.heap.size)):SI w pb b0 b1 b2 b3 l0 l3 cb mb Z' T c m1 m2 Z':=by
 have h':=h.keep hb
 refine ⟨h'.chart,h'.plan,fun _ _=>rfl,fun b hm=>?_,fun b hm=>?_,h'.only,h.low⟩
 ·rcases hT b hm with q | q
  ·exact h.off b q
  ·have hz:=h.only.size
   refine ⟨fun r=>by have:=(h.chart.foots b r).2; omega,fun r=>?_⟩
   have:=h.low b (by simp at r ⊢; rcases r with r | r <;> simp [r])
   omega
 ·rcases hT b hm with q | q
  ·exact h'.lt b q
  ·exact q.2
theorem SI.row {b9:Nat}{v:Value}{xs:List (Int×Int)}(h:SI w pb b0 b1 b2 b3 l0 l3 cb mb W5 S c m1 m2 Z)(hr:TRow b9 W5 v xs)(hv:∀ b,v.ownBlock=some b→b∈S):TRow b9 Z v xs:=owns_move hr (fun b e=>h.same b (hv b e))
end
theorem Only.cell {S:List Nat}{w w':World}(h:Only S w w'){p:Addr}(hb:p.block<w.heap.size)(hn:p.block∉S):w'.cell? p=w.cell? p:=by simp [World.cell?,h.block _ hb hn]
theorem Path.keeps {stop:Int→Bool}{least by':Int}{a a':Int×Int}{c c':Ch}{m:Nat}(h:Path stop least by' a c a' c' m):c'.vs=c.vs∧c'.va=c.va∧c'.sup=c.sup:=by
 induction h with
 | done _=>exact ⟨rfl,rfl,rfl⟩
 | more _ _ _ ih=>exact ih
def PCellsL (w:World)(pb b0 b1 b2 b3:Nat)(s0 s1 s2 s3 s4:Value):Prop:=w.heap[pb]?=some (.cells #[.map (some b0),.map (some b1),.map (some b2),.map (some b3),s0,s1,s2,s3,s4] 74)
structure LastAt (B:Nat)(w:World)(R:RSt)(vs va vf:Value)(g:Nat)(fl:List Int)(C:Nat→Int):Prop where
 sup:NRow B w vs (intL (nodesR R) (supN R))
 arcs:ARow B w va (netR R)
 flow:NRow B w vf fl
 prices:Nums w g (nodesR R) C
 base:B≤g
 len:fl.length=(netR R).length
 net:NetFlow R (nodesR R) (fun i=>fl.getD i 0)
 pair:∀ i,i<(netR R).length→PairOk C (arcN R i) (fl.getD i 0)
 bnd:∀ v,v<nodesR R→-600000≤C v∧C v≤0
theorem ARow.arcs {b0:Nat}{w:World}{p:Option Addr}{n cp:Nat}{xs:List Ar}(h:ARow b0 w (.slice p n cp) xs)(hn:n=xs.length):Arcs w p n (fun i=>xs.getD i ⟨0,0,0,0⟩):=by
 rcases h.2 with ⟨e1,e2⟩ | ⟨g,cap,cur,e,_,hg,_,_,_,ht⟩
 ·exact Jr (by omega)
 ·cases e
  refine Js ⟨g,0,rfl,(Ja.1 hg).1,fun k hk=>?_⟩
  have hk':k<xs.length:=by omega
  have key:∀ c,c<4→w.cell? ⟨g,k*4+c,none⟩=(cellsAr xs[k])[c]?:=fun c hc=>by
   rw [cellC hg]
   have h1:=flatMap_at (enc:=cellsAr) (size:=4) (fun _=>rfl) xs k c hk' hc
   rw [← ht,List.getElem?_take_of_lt (by omega)] at h1
   simpa using h1
  simp only [Nat.zero_add]
  rw [getD_at hk']
  exact ⟨key 0 (by omega),key 1 (by omega),key 2 (by omega),key 3 (by omega)⟩
theorem ARow.old {b0:Nat}{w:World}{p:Option Addr}{n c:Nat}{xs:List Ar}(h:ARow b0 w (.slice p n c) xs):∀ a,p=some a→a.block<w.heap.size:=fun a e=>by
 rcases h.2 with ⟨e1,_⟩ | ⟨g,cap,cur,e1,_,hg,_⟩
 ·cases e1; cases e
 ·cases e1; cases e
  exact (Ja.1 hg).1
section
variable {R:RSt}{c:Ch}
theorem net_take (R:RSt):roomsR R ++ taskL R ((idsR R 3 100).take (idsR R 3 100).length)=netR R:=by
 have h3:=net_split R (idsR R 3 100).length
 rw [List.drop_length] at h3
 rw [h3]
 simp [taskL]
theorem Drawn.used (h:Drawn R (idsR R 3 100).length c):Used R c:=by
 have e:c.al=netR R:=by rw [h.al,net_take]
 exact ⟨e,by rw [h.fl,e],h.nm,h.ts⟩
theorem nodesR_len (hf:Fit R):nodesR R=(tsR R).length:=by
 have h1:=preR_length hf (show 4≤4 by omega)
 have h2:(tsR R).length=2+lensR R 4:=h1
 have h3:=ids_all hf (show 3≤3 by omega)
 have e:lensR R 4=lensR R 3+(tkR R 3).length:=rfl
 have:=(nodesR_eq R).1
 unfold nodeR at this
 omega
theorem Drawn.supE (h:Drawn R (idsR R 3 100).length c)(hf:Fit R):c.sup=intL (nodesR R) (supN R):=by
 have hn:=nodesR_len hf
 have h3:=ids_all hf (show 3≤3 by omega)
 have e3:(tkR R 3).length=R.t3.length:=rfl
 have l3:=th_len R 3
 have l2:=th_len R 2
 have l1:=th_len R 1
 have l0:=th_len R 0
 have i0:=ids_all hf (show 0≤3 by omega)
 have i1:=ids_all hf (show 1≤3 by omega)
 have i2:=ids_all hf (show 2≤3 by omega)
 have e:lensR R 3=0+(tkR R 0).length+(tkR R 1).length+(tkR R 2).length:=rfl
 have hN:=(nodesR_eq R).1
 unfold nodeR at hN
 rw [h.sup]
 apply List.ext_getElem
 ·rw [intL_length]
  simp only [Jo,List.length_cons,List.length_nil,List.length_replicate]
  omega
 ·intro i h1 h2
  rw [intL_get]
  have hi:i<nodesR R:=by rw [intL_length] at h2; exact h2
  unfold supN updI supF
  rw [nodeR_top]
  by_cases q1:i=1
  ·subst q1
   rw [if_pos rfl,List.getElem_append_left (by simp),List.getElem_append_left (by simp)]
   simp [h3,e3]
  ·rw [if_neg q1]
   by_cases q0:i=0
   ·subst q0
    rw [if_neg (by omega),List.getElem_append_left (by simp),List.getElem_append_left (by simp)]
    simp
   ·by_cases q2:i<2+lensR R 3
    ·rw [if_neg (by omega),List.getElem_append_left (by simp; omega),List.getElem_append_right (by simp; omega)]
     simp
    ·rw [if_pos (by omega),List.getElem_append_right (by simp; omega)]
     simp
end
end
end Go.Proofs.Ytjdindfjfpdikab
