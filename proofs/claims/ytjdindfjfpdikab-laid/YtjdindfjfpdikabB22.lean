import Derived.Test.YtjdindfjfpdikabB05
import Derived.Test.YtjdindfjfpdikabB18
import Derived.Test.YtjdindfjfpdikabB21
import Derived.Test.YtjdindfjfpdikabPre
set_option maxRecDepth 100000
set_option maxHeartbeats 8000000
namespace Go.Proofs.Ytjdindfjfpdikab
section
def thR (R:RSt)(k:Nat):List (Int×Int):=(idsR R k 100).map (fun id=>((k:Int),id))
theorem sorted_ext:∀ {xs ys:List (Int×Int)},xs.Pairwise (fun a b=>a.2<b.2)→ys.Pairwise (fun a b=>a.2<b.2)→(∀ a,a∈xs↔a∈ys)→xs=ys
 | [],[],_,_,_=>rfl
 | [],y :: _,_,_,h=>absurd ((h y).2 Jp) (by simp)
 | x :: _,[],_,_,h=>absurd ((h x).1 Jp) (by simp)
 | x :: xs,y :: ys,hx,hy,h=>by
  rw [List.pairwise_cons] at hx hy
  have e:x=y:=by
   rcases List.mem_cons.1 ((h x).1 Jp) with e | e
   ·exact e
   ·rcases List.mem_cons.1 ((h y).2 Jp) with q | q
    ·exact q.symm
    ·have h1:=hy.1 x e
     have h2:=hx.1 y q
     omega
  subst e
  rw [sorted_ext hx.2 hy.2 (fun a=>?_)]
  have h0:=h a
  constructor
  ·intro ha
   rcases List.mem_cons.1 (h0.1 (Jk _ ha)) with q | q
   ·subst q
    have:=hx.1 _ ha
    omega
   ·exact q
  ·intro ha
   rcases List.mem_cons.1 (h0.2 (Jk _ ha)) with q | q
   ·subst q
    have:=hy.1 _ ha
    omega
   ·exact q
section
variable {l0:Things}{l1:Runs}{l2:Waits}{l3:Prefs}{R:RSt}
theorem Sim.isK (h:Sim l0 l1 l2 l3 R){k:Nat}(hk:k≤3)(id:Int):(get ((k:Int),id) l0).isSome=decide (0≤atOf id (tkR R k)):=by
 match k,hk with
 | 0,_=>exact h.is0 id
 | 1,_=>exact h.is1 id
 | 2,_=>exact h.is2 id
 | 3,_=>exact h.is3 id
theorem Fit.idK (h:Fit R){k:Nat}(hk:k≤3):∀ x∈tkR R k,0≤x.1∧x.1≤99:=by
 match k,hk with
 | 0,_=>exact h.id0
 | 1,_=>exact h.id1
 | 2,_=>exact h.more.id2
 | 3,_=>exact h.id3
theorem Fit.ndK (h:Fit R){k:Nat}(hk:k≤3):((tkR R k).map (·.1)).Nodup:=by
 match k,hk with
 | 0,_=>exact h.nd0
 | 1,_=>exact h.nd1
 | 2,_=>exact h.nd2
 | 3,_=>exact h.nd3
theorem mem_sel {k:Int}{a:Int×Int}:a∈sel k l0↔a.1=k∧(get a l0).isSome=true:=by
 unfold sel
 rw [List.mem_map]
 constructor
 ·rintro ⟨x,hx,rfl⟩
  obtain ⟨h1,h2⟩:=List.mem_filter.1 hx
  refine ⟨by simpa using h2,?_⟩
  cases e:get x.1 l0 with
  | some v=>rfl
  | none=>exact absurd (List.mem_map_of_mem h1) ((get_none_iff _ _).1 e)
 ·rintro ⟨h1,h2⟩
  cases e:get a l0 with
  | none=>rw [e] at h2; cases h2
  | some v=>exact ⟨(a,v),List.mem_filter.2 ⟨get_mem e,by simpa using h1⟩,rfl⟩
theorem mem_thR {k:Nat}{a:Int×Int}:a∈thR R k↔∃ j:Nat,j<100∧a=((k:Int),(j:Int))∧Pres R k j:=by
 unfold thR
 rw [List.mem_map]
 constructor
 ·rintro ⟨x,hx,rfl⟩
  obtain ⟨j,hj,rfl,hp⟩:=(ids_pairwise (R:=R) k 100).2 x hx
  exact ⟨j,hj,rfl,hp⟩
 ·rintro ⟨j,hj,rfl,hp⟩
  exact ⟨j,mem_ids hj hp,rfl⟩
theorem thR_sorted (R:RSt)(k:Nat):(thR R k).Pairwise (fun a b=>a.2<b.2):=by
 unfold thR
 rw [List.pairwise_map]
 exact (ids_pairwise (R:=R) k 100).1
theorem all_R (h:Sim l0 l1 l2 l3 R){k:Nat}(hk:k≤3){xs:List (Int×Int)}(hp:xs.Perm (sel (k:Int) l0))(hr:Rise xs):xs=thR R k:=by
 have hnd:(sel (k:Int) l0).Nodup:=by
  unfold sel
  exact List.Nodup.sublist (List.filter_sublist.map _) h.kn0
 have hnx:xs.Nodup:=hp.nodup_iff.2 hnd
 have hm:∀ a,a∈xs↔a∈thR R k:=fun a=>by
  rw [hp.mem_iff,mem_sel,mem_thR]
  constructor
  ·rintro ⟨h1,h2⟩
   obtain ⟨a1,a2⟩:=a
   simp only at h1
   subst h1
   rw [h.isK hk] at h2
   have h2:0≤atOf a2 (tkR R k):=by simpa using h2
   obtain ⟨j,hj,_,e⟩:=atOf_some h2
   have hr:=h.fit.idK hk _ (Jl hj)
   rw [e] at hr
   refine ⟨a2.toNat,by omega,?_,?_⟩
   ·rw [show ((a2.toNat:Nat):Int)=a2 by omega]
   ·show 0≤atOf ((a2.toNat:Nat):Int) (tkR R k)
    rw [show ((a2.toNat:Nat):Int)=a2 by omega]
    exact h2
  ·rintro ⟨j,hj,rfl,hp⟩
   refine ⟨rfl,?_⟩
   rw [h.isK hk]
   have hp:0≤atOf (j:Int) (tkR R k):=hp
   simpa using hp
 refine sorted_ext ?_ (thR_sorted R k) hm
 rw [List.pairwise_iff_getElem]
 intro i j hi hj hij
 have h1:=List.pairwise_iff_getElem.1 hr i j hi hj hij
 have h2:=List.pairwise_iff_getElem.1 hnx i j hi hj hij
 have h3:=((hp.mem_iff.1 (Jl hi)))
 have h4:=((hp.mem_iff.1 (Jl hj)))
 rw [mem_sel] at h3 h4
 have:xs[i].2≠xs[j].2:=fun e=>h2 (Prod.ext (h3.1.trans h4.1.symm) e)
 omega
theorem ids_all (hf:Fit R){k:Nat}(hk:k≤3):(idsR R k 100).length=(tkR R k).length:=by
 refine Nat.le_antisymm (ids_le k 100) ?_
 have hinj:=hf.ndK hk
 have hsub:∀ x∈(tkR R k).map (·.1),x∈idsR R k 100:=fun x hx=>by
  obtain ⟨y,hy,rfl⟩:=List.mem_map.1 hx
  obtain ⟨i,hi,rfl⟩:=List.mem_iff_getElem.1 hy
  have hr:=hf.idK hk _ (Jl hi)
  have:=mem_ids (R:=R) (kd:=k) (j:=(tkR R k)[i].1.toNat) (by omega) (by
   show 0≤atOf _ (tkR R k)
   rw [show (((tkR R k)[i].1.toNat:Nat):Int)=(tkR R k)[i].1 by omega,atOf_mem hinj hi]
   omega)
  rw [show (((tkR R k)[i].1.toNat:Nat):Int)=(tkR R k)[i].1 by omega] at this
  exact this
 have:=List.Nodup.length_le_of_subset hinj hsub
 simpa using this
theorem thR_length (hf:Fit R){k:Nat}(hk:k≤3):(thR R k).length=(tkR R k).length:=by
 unfold thR
 rw [Jv,ids_all hf hk]
end
end
section
theorem addNm_append (ys:List (Int×Int)):∀ (xs:List (Int×Int))(nm:List ((Int×Int)×Int))(n:Nat),addNm (addNm nm n xs) (n+xs.length) ys=addNm nm n (xs ++ ys)
 | [],nm,n=>rfl
 | x :: r,nm,n=>by
  show addNm (addNm (put x (n:Int) nm) (n+1) r) (n+(r.length+1)) ys=addNm (put x (n:Int) nm) (n+1) (r ++ ys)
  rw [← addNm_append ys r _ (n+1),show n+1+r.length=n+(r.length+1) by omega]
theorem addNm_other {x:Int×Int}:∀ {xs:List (Int×Int)}{nm:List ((Int×Int)×Int)}{n:Nat},x∉xs→get x (addNm nm n xs)=get x nm
 | [],nm,n,_=>rfl
 | y :: r,nm,n,h=>by
  show get x (addNm (put y (n:Int) nm) (n+1) r)=_
  rw [addNm_other (fun q=>h (Jk _ q)),get_put,if_neg (fun q=>h (by rw [q]; exact Jp))]
theorem addNm_get:∀ {xs:List (Int×Int)}{nm:List ((Int×Int)×Int)}{n k:Nat},xs.Nodup→(hk:k<xs.length)→get xs[k] (addNm nm n xs)=some ((n+k:Nat):Int)
 | [],_,_,_,_,hk=>by simp at hk
 | x :: r,nm,n,0,hn,_=>by
  show get x (addNm (put x (n:Int) nm) (n+1) r)=_
  rw [addNm_other (List.nodup_cons.1 hn).1,get_put,if_pos rfl]
  rfl
 | x :: r,nm,n,k+1,hn,hk=>by
  have hk':k<r.length:=by simpa using hk
  show get r[k] (addNm (put x (n:Int) nm) (n+1) r)=_
  rw [addNm_get (List.nodup_cons.1 hn).2 hk',show n+1+k=n+(k+1) by omega]
section
variable {R:RSt}
def preR (R:RSt):Nat→List (Int×Int)
 | 0=>[(4,0),(5,0)]
 | k+1=>preR R k ++ thR R k
def tsR (R:RSt):List (Int×Int):=preR R 4
def nmR (R:RSt):List ((Int×Int)×Int):=addNm [] 0 (tsR R)
theorem preR_length (hf:Fit R):∀ {k:Nat},k≤4→(preR R k).length=2+lensR R k
 | 0,_=>rfl
 | k+1,h=>by
  show (preR R k ++ thR R k).length=2+(lensR R k+(tkR R k).length)
  rw [Jo,preR_length hf (by omega),thR_length hf (by omega)]
  omega
theorem mem_preR:∀ {k:Nat}{a:Int×Int},a∈preR R k→a=(4,0)∨a=(5,0)∨∃ j:Nat,j<k∧a.1=(j:Int)
 | 0,a,h=>by
  rcases List.mem_cons.1 h with h | h
  ·exact Jr h
  ·exact Js (Jr (List.mem_singleton.1 h))
 | k+1,a,h=>by
  rcases List.mem_append.1 h with h | h
  ·rcases mem_preR h with h | h | ⟨j,hj,e⟩
   ·exact Jr h
   ·exact Js (Jr h)
   ·exact Js (Js ⟨j,by omega,e⟩)
  ·obtain ⟨j,_,rfl,_⟩:=mem_thR.1 h
   exact Js (Js ⟨k,by omega,rfl⟩)
theorem preR_nodup:∀ {k:Nat},k≤4→(preR R k).Nodup
 | 0,_=>by show [((4:Int),(0:Int)),(5,0)].Nodup; decide
 | k+1,h=>by
  show (preR R k ++ thR R k).Nodup
  rw [List.nodup_append]
  refine ⟨preR_nodup (by omega),(thR_sorted R k).imp (fun {a b} q e=>by rw [e] at q; omega),fun a ha b hb e=>?_⟩
  subst e
  obtain ⟨j,_,rfl,_⟩:=mem_thR.1 hb
  rcases mem_preR ha with q | q | ⟨j',hj',q⟩
  ·have:(k:Int)=4:=congrArg Prod.fst q; omega
  ·have:(k:Int)=5:=congrArg Prod.fst q; omega
  ·have:(k:Int)=(j':Int):=q; omega
theorem preR_pre:∀ {k m:Nat},k≤m→∃ l,preR R m=preR R k ++ l
 | k,0,h=>⟨[],by (have:k=0:=(by omega)); subst this; simp⟩
 | k,m+1,h=>by
  by_cases e:k=m+1
  ·subst e; exact ⟨[],by simp⟩
  ·obtain ⟨l,q⟩:=preR_pre (show k≤m by omega)
   exact ⟨l ++ thR R m,by show preR R m ++ thR R m=_; rw [q,List.append_assoc]⟩
theorem ids_split {k id:Nat}(hp:Pres R k id):∀ {n:Nat},id<n→∃ l,idsR R k n=idsR R k id ++ ((id:Int) :: l)
 | 0,h=>by omega
 | n+1,h=>by
  by_cases e:id=n
  ·subst e
   exact ⟨[],by rw [ids_succ_yes hp]⟩
  ·obtain ⟨l,q⟩:=ids_split hp (show id<n by omega)
   by_cases hq:0≤atOf (n:Int) (tkR R k)
   ·exact ⟨l ++ [(n:Int)],by rw [ids_succ_yes hq,q,List.append_assoc]; rfl⟩
   ·exact ⟨l,by rw [ids_succ_no hq,q]⟩
theorem at_of_append {α:Type}{l a b:List α}{x:α}(e:l=a ++ x :: b):∃ h:a.length<l.length,l[a.length]=x:=by
 subst e
 exact ⟨by simp,by simp⟩
theorem nodeT_at {xs:List (Int×Int)}(hn:xs.Nodup){k:Nat}(hk:k<xs.length):nodeT (addNm [] 0 xs) xs[k]=(k:Int):=by
 unfold nodeT
 rw [addNm_get hn hk,Nat.zero_add]
 rfl
theorem node_R (hf:Fit R){k id:Nat}(hk:k≤3)(hi:id<100)(hp:Pres R k id):nodeT (nmR R) ((k:Int),(id:Int))=nodeR R k id:=by
 obtain ⟨l,e⟩:=ids_split hp hi
 obtain ⟨l',e'⟩:=preR_pre (R:=R) (show k+1≤4 by omega)
 have e2:tsR R=(preR R k ++ (idsR R k id).map (fun i=>((k:Int),i))) ++ ((k:Int),(id:Int)) :: (l.map (fun i=>((k:Int),i)) ++ l'):=by
  unfold tsR
  rw [e']
  show (preR R k ++ thR R k) ++ l'=_
  unfold thR
  rw [e]
  simp
 obtain ⟨h1,h2⟩:=at_of_append e2
 have h3:=nodeT_at (preR_nodup (R:=R) (Jb 4)) h1
 have h4:((preR R k ++ (idsR R k id).map (fun i=>((k:Int),i))).length:Int)=nodeR R k id:=by
  rw [Jo,Jv,preR_length hf (by omega)]
  unfold nodeR
  omega
 unfold nmR
 rw [← h2,← h4]
 exact h3
theorem node_clus (R:RSt):nodeT (nmR R) (4,0)=0:=by
 obtain ⟨l,e⟩:=preR_pre (R:=R) (show 0≤4 by omega)
 obtain ⟨h1,h2⟩:=at_of_append (l:=tsR R) (a:=[]) (x:=(4,0)) (b:=(5,0) :: l) (by unfold tsR; rw [e]; rfl)
 have h3:=nodeT_at (preR_nodup (R:=R) (Jb 4)) h1
 unfold nmR
 rw [← h2]
 exact h3
theorem node_sink (R:RSt):nodeT (nmR R) (5,0)=1:=by
 obtain ⟨l,e⟩:=preR_pre (R:=R) (show 0≤4 by omega)
 obtain ⟨h1,h2⟩:=at_of_append (l:=tsR R) (a:=[(4,0)]) (x:=(5,0)) (b:=l) (by unfold tsR; rw [e]; rfl)
 have h3:=nodeT_at (preR_nodup (R:=R) (Jb 4)) h1
 unfold nmR
 rw [← h2]
 exact h3
end
end
section
section
variable {l0:Things}{l1:Runs}{l2:Waits}{l3:Prefs}{R:RSt}
theorem Fit.uniq (hf:Fit R):Uniq R:=fun x hx y hy h1 h2 h3=>by
 have:=hf.kw
 have e:(encW x).1=(encW y).1:=by simp [encW,h1,h2,h3]
 have m1:(encW x)∈R.ws.map encW:=List.mem_map_of_mem hx
 have m2:(encW y)∈R.ws.map encW:=List.mem_map_of_mem hy
 have g1:=mem_get this (a:=(encW x).1) (v:=(encW x).2) m1
 have g2:=mem_get this (a:=(encW y).1) (v:=(encW y).2) m2
 rw [e,g2] at g1
 have e4:y.2.2.2=x.2.2.2:=Option.some.inj g1
 exact Prod.ext h1 (Prod.ext h2 (Prod.ext h3 e4.symm))
theorem wish_R (hs:Sim l0 l1 l2 l3 R)(t k id:Int):get ((3,t),(k,id)) l3=wishR R t k id:=by
 rw [get_perm hs.kn3 hs.p3]
 cases e:wishR R t k id with
 | some c =>
  obtain ⟨x,hx,h1,h2,h3,h4⟩:=wishR_mem e
  refine mem_get hs.fit.kw ?_
  rw [← h1,← h2,← h3,← h4]
  exact List.mem_map_of_mem (f:=encW) hx
 | none =>
  rw [get_none_iff]
  intro q
  obtain ⟨y,hy,ey⟩:=List.mem_map.1 q
  obtain ⟨x,hx,rfl⟩:=List.mem_map.1 hy
  simp only [encW,Prod.mk.injEq,true_and] at ey
  have:=wishR_of hs.fit.uniq hx
  rw [ey.1,ey.2.1,ey.2.2,e] at this
  cases this
theorem cost_R (hs:Sim l0 l1 l2 l3 R){i k:Nat}(hi:i<R.t3.length)(hk:k<R.t1.length):lesser (lesser R.t3[i].2.2 (get ((3,R.t3[i].1),(1,R.t1[k].1)) l3)) (get ((3,R.t3[i].1),(0,R.t1[k].2.1)) l3)+movesTo l1 (3,R.t3[i].1) (1,R.t1[k].1)=cR R i k:=by
 have hio:i<R.on.length:=by rw [hs.fit.lo]; exact hi
 rw [cR_on hk,getD_at hi,getD_at hk,getD_at hio,hs.mv hi hio,hs.mvM,get_perm hs.kn3 hs.p3,get_perm hs.kn3 hs.p3,← minW_get _ _ _ _ _ hs.fit.kw]
theorem none_R (hs:Sim l0 l1 l2 l3 R){i j:Nat}(hi:i<R.t3.length)(hj:j<R.t2.length)(ej:atOf R.t3[i].2.1 R.t2=j):R.t2[j].2.2+(get (3,R.t3[i].1) l2).getD 0+moves l1 (3,R.t3[i].1)=cR R i R.t1.length:=by
 have hio:i<R.on.length:=by rw [hs.fit.lo]; exact hi
 have hiw:i<R.wt.length:=by rw [hs.fit.wl]; exact hi
 have ew:R.wt[i]=(get (3,R.t3[i].1) l2).getD 0:=by
  have:=congrArg (fun l=>l[i]?) hs.wt
  simpa [hiw,hi] using this
 unfold cR
 rw [if_neg (by omega),getD_at hi,ej,Jn,getD_at hj,getD_at hiw,getD_at hio,hs.mv hi hio,hs.mvN,← ew]
theorem more_R (hs:Sim l0 l1 l2 l3 R){i:Nat}(hi:i<R.t3.length):moreR (R.on.getD i (-1))=if (get (3,R.t3[i].1) l1).isSome then 50 else 0:=by
 have hio:i<R.on.length:=by rw [hs.fit.lo]; exact hi
 rw [getD_at hio,hs.mv hi hio]
 unfold moreR onL
 cases e:get (3,R.t3[i].1) l1 with
 | none=>simp
 | some m =>
  obtain ⟨_,y,hy,rfl⟩:=hs.runs.in1 _ _ e
  have:=(hs.fit.id1 y hy).1
  simp [this]
end
end
section
section
variable {l0:Things}{l1:Runs}{l2:Waits}{l3:Prefs}{R:RSt}
theorem Sim.fits (h:Sim l0 l1 l2 l3 R):Fits R:=by
 have hf:=h.fit
 have hrun:RunFit R:=by
  refine ⟨hf.len1,hf.len2,hf.len3,hf.id1,fun k hk=>atOf_mem hf.nd1 hk,hf.more.sl,fun i hi=>?_,hf.n2,hf.n3,fun x hx=>(hf.ws x hx).2.2.2.1,by have:=hf.wsl; omega,hf.lo,hf.wl,hf.wt⟩
  obtain ⟨y,hy,e⟩:=hf.job _ (Jl hi)
  obtain ⟨j,hj,rfl⟩:=List.mem_iff_getElem.1 hy
  exact ⟨j,hj,by rw [← e]; exact atOf_mem hf.nd2 hj⟩
 have hnet:NetFit R:=by
  refine ⟨hrun,⟨?_,?_,?_,?_⟩,hf.more.id2,fun i hi=>?_,fun x hx=>(hf.ws x hx).2.2.2.2⟩
  ·have:=hf.len0; omega
  ·have:=hf.len1; omega
  ·have:=hf.len2; omega
  ·have:=hf.len3; omega
  ·rcases h.runs.onf _ (Jl hi) with e | ⟨y,hy,e⟩
   ·exact Jr e
   ·obtain ⟨k,hk,rfl⟩:=List.mem_iff_getElem.1 hy
    exact Js ⟨k,hk,e.symm⟩
 have pres:∀ {xs:List Th} (_:(xs.map (·.1)).Nodup) (_:∀ x∈xs,0≤x.1∧x.1≤99) {y:Th} (_:y∈xs),∃ r:Nat,y.1=(r:Int)∧r<100∧0≤atOf (r:Int) xs:=fun {xs} hn hi {y} hy=>by
  have h1:=hi y hy
  obtain ⟨k,hk,rfl⟩:=List.mem_iff_getElem.1 hy
  refine ⟨xs[k].1.toNat,by omega,by omega,?_⟩
  rw [show ((xs[k].1.toNat:Nat):Int)=xs[k].1 by omega,atOf_mem hn hk]
  omega
 refine ⟨hnet,⟨fun k hk=>?_,fun i hi=>?_⟩,⟨hf.uniq,fun k hk=>?_⟩,fun k hk=>atOf_mem hf.nd0 hk,fun k hk=>atOf_mem hf.nd2 hk,fun k hk=>atOf_mem hf.nd3 hk,hf.id0,hf.id3⟩
 ·obtain ⟨y,hy,e⟩:=hf.more.rk _ (Jl hk)
  obtain ⟨r,h1,h2,h3⟩:=pres hf.nd0 hf.id0 hy
  exact ⟨r,by rw [← e]; exact h1,h2,h3⟩
 ·obtain ⟨y,hy,e⟩:=hf.job _ (Jl hi)
  obtain ⟨r,h1,h2,h3⟩:=pres hf.nd2 hf.more.id2 hy
  exact ⟨r,by rw [← e]; exact h1,h2,h3⟩
 ·obtain ⟨y,hy,e⟩:=hf.more.rk _ (Jl hk)
  obtain ⟨j,hj,rfl⟩:=List.mem_iff_getElem.1 hy
  exact ⟨j,hj,by rw [← e]; exact atOf_mem hf.nd0 hj⟩
end
end
end Go.Proofs.Ytjdindfjfpdikab
