import Derived.Test.YtjdindfjfpdikabB09
import Derived.Test.YtjdindfjfpdikabB10
import Derived.Test.YtjdindfjfpdikabPre
set_option maxRecDepth 100000
set_option maxHeartbeats 8000000
namespace Go.Proofs.Ytjdindfjfpdikab
section
open Go.RowKit
theorem minW_spec {t m r:Int}:∀ (ws:List Wi)(c:Int),minW t m r c ws≤c∧(∀ x∈ws,mineW t m r x=true→minW t m r c ws≤x.2.2.2)∧(minW t m r c ws=c∨∃ x∈ws,mineW t m r x=true∧minW t m r c ws=x.2.2.2)
 | [],c=>⟨Int.le_refl _,(fun x hx=>by cases hx),Jr rfl⟩
 | y :: ws,c=>by
  have e:minW t m r c (y :: ws)=minW t m r (lessW t m r c y) ws:=rfl
  obtain ⟨h1,h2,h3⟩:=minW_spec (t:=t) (m:=m) (r:=r) ws (lessW t m r c y)
  have hl:lessW t m r c y≤c∧(mineW t m r y=true→lessW t m r c y≤y.2.2.2)∧(lessW t m r c y=c∨(mineW t m r y=true∧lessW t m r c y=y.2.2.2)):=by
   unfold lessW
   by_cases q:mineW t m r y=true∧y.2.2.2<c
   ·rw [if_pos q]; exact ⟨by omega,fun _=>Int.le_refl _,Js ⟨q.1,rfl⟩⟩
   ·rw [if_neg q]; exact ⟨Int.le_refl _,fun q1=>by have:¬ y.2.2.2<c:=fun q2=>q ⟨q1,q2⟩; omega,Jr rfl⟩
  rw [e]
  refine ⟨by omega,fun x hx hm=>?_,?_⟩
  ·rcases List.mem_cons.1 hx with rfl | hx
   ·have:=hl.2.1 hm; omega
   ·exact h2 x hx hm
  ·rcases h3 with q | ⟨x,hx,hm,q⟩
   ·rcases hl.2.2 with q2 | ⟨q2,q3⟩
    ·left; rw [q,q2]
    ·right; exact ⟨y,Jp,q2,by rw [q,q3]⟩
   ·right; exact ⟨x,Jk _ hx,hm,q⟩
theorem isWi_iff {t k id:Int}{x:Wi}:isWi t k id x=true↔x.1=t∧x.2.1=k∧x.2.2.1=id:=by simp [isWi]
theorem mineW_iff {t m r:Int}{x:Wi}:mineW t m r x=true↔x.1=t∧((x.2.1=1∧x.2.2.1=m)∨(x.2.1=0∧x.2.2.1=r)):=by simp [mineW]
theorem wishR_mem {R:RSt}{t k id c:Int}(h:wishR R t k id=some c):∃ x∈R.ws,x.1=t∧x.2.1=k∧x.2.2.1=id∧x.2.2.2=c:=by
 unfold wishR at h
 cases hq:R.ws.find? (isWi t k id) with
 | none=>rw [hq] at h; cases h
 | some x =>
  rw [hq] at h
  cases h
  have hp:=List.find?_some hq
  obtain ⟨h1,h2,h3⟩:=isWi_iff.1 hp
  exact ⟨x,List.mem_of_find?_eq_some hq,h1,h2,h3,rfl⟩
def Uniq (R:RSt):Prop:=∀ x∈R.ws,∀ y∈R.ws,x.1=y.1→x.2.1=y.2.1→x.2.2.1=y.2.2.1→x=y
theorem wishR_of {R:RSt}(hu:Uniq R){x:Wi}(hx:x∈R.ws):wishR R x.1 x.2.1 x.2.2.1=some x.2.2.2:=by
 unfold wishR
 cases hq:R.ws.find? (isWi x.1 x.2.1 x.2.2.1) with
 | none =>
  have:=List.find?_eq_none.1 hq x hx
  exact absurd (isWi_iff.2 ⟨rfl,rfl,rfl⟩) this
 | some y =>
  obtain ⟨h1,h2,h3⟩:=isWi_iff.1 (List.find?_some hq)
  rw [hu y (List.mem_of_find?_eq_some hq) x hx h1 h2 h3]
  rfl
def wayR (R:RSt)(i:Nat):Dest→Int→Prop
 | .mach k,x=>k<R.t1.length∧((R.on.getD i (-1)=(R.t1.getD k (0,0,0)).1∧x=cR R i k)∨∃ c,wishR R (R.t3.getD i (0,0,0)).1 1 (R.t1.getD k (0,0,0)).1=some c∧x=c+moreR (R.on.getD i (-1)))
 | .rack r,x=>r<R.t0.length∧∃ c,wishR R (R.t3.getD i (0,0,0)).1 0 (R.t0.getD r (0,0,0)).1=some c∧x=c+moreR (R.on.getD i (-1))
 | .clus,x=>x=(R.t3.getD i (0,0,0)).2.2+moreR (R.on.getD i (-1))
 | .job j,x=>j<R.t2.length∧(R.t2.getD j (0,0,0)).1=(R.t3.getD i (0,0,0)).2.1∧x=cR R i R.t1.length
def rkR (R:RSt)(k:Nat):Nat:=(atOf (R.t1.getD k (0,0,0)).2.1 R.t0).toNat
structure RackFit (R:RSt):Prop where
 uniq:Uniq R
 rack:∀ k,(hk:k<R.t1.length)→∃ r:Nat,r<R.t0.length∧atOf R.t1[k].2.1 R.t0=r
theorem RackFit.at {R:RSt}(h:RackFit R){k:Nat}(hk:k<R.t1.length):rkR R k<R.t0.length∧(R.t0.getD (rkR R k) (0,0,0)).1=(R.t1.getD k (0,0,0)).2.1:=by
 obtain ⟨r,hr,e⟩:=h.rack k hk
 have e1:rkR R k=r:=by unfold rkR; rw [getD_at hk,e,Jn]
 obtain ⟨k',hk',e2,e3⟩:=atOf_some (id:=R.t1[k].2.1) (xs:=R.t0) (by omega)
 have:k'=r:=by omega
 subst this
 rw [e1,getD_at hr,getD_at hk]
 exact ⟨hr,e3⟩
theorem mvR_le (o m:Int):mvR o m≤moreR o:=by
 unfold mvR moreR
 by_cases q:0≤o∧o≠m
 ·rw [if_pos q,if_pos q.1]; exact Int.le_refl _
 ·rw [if_neg q]; split <;> omega
theorem mvR_eq {o m:Int}(h:o≠m):mvR o m=moreR o:=by
 unfold mvR moreR
 by_cases q:0≤o
 ·rw [if_pos ⟨q,h⟩,if_pos q]
 ·rw [if_neg (fun r=>q r.1),if_neg q]
section
variable {R:RSt}
theorem cR_on {i k:Nat}(hk:k<R.t1.length):cR R i k=minW (R.t3.getD i (0,0,0)).1 (R.t1.getD k (0,0,0)).1 (R.t1.getD k (0,0,0)).2.1 (R.t3.getD i (0,0,0)).2.2 R.ws+mvR (R.on.getD i (-1)) (R.t1.getD k (0,0,0)).1:=by
 unfold cR
 rw [if_pos hk]
theorem way_least (hf:RackFit R){i k:Nat}(hk:k<R.t1.length):∀ d x,wayR R i d x→d.to (rkR R) k→cR R i k≤x:=fun d x hw hto=>by
 have hm:=mvR_le (R.on.getD i (-1)) (R.t1.getD k (0,0,0)).1
 obtain ⟨h1,h2,_⟩:=minW_spec (t:=(R.t3.getD i (0,0,0)).1) (m:=(R.t1.getD k (0,0,0)).1) (r:=(R.t1.getD k (0,0,0)).2.1) R.ws (R.t3.getD i (0,0,0)).2.2
 have e:=cR_on (R:=R) (i:=i) hk
 cases d with
 | mach m =>
  obtain rfl:m=k:=hto
  rcases hw.2 with ⟨_,q⟩ | ⟨c,hc,q⟩
  ·omega
  ·obtain ⟨y,hy,y1,y2,y3,y4⟩:=wishR_mem hc
   have:=h2 y hy (mineW_iff.2 ⟨y1,Jr ⟨y2,y3⟩⟩)
   omega
 | rack r =>
  obtain rfl:r=rkR R k:=hto
  obtain ⟨_,c,hc,q⟩:=hw
  rw [(hf.at hk).2] at hc
  obtain ⟨y,hy,y1,y2,y3,y4⟩:=wishR_mem hc
  have:=h2 y hy (mineW_iff.2 ⟨y1,Js ⟨y2,y3⟩⟩)
  omega
 | clus =>
  have q:x=_:=hw
  omega
 | job j=>exact hto.elim
theorem way_some (hf:RackFit R){i k:Nat}(hk:k<R.t1.length):∃ d,wayR R i d (cR R i k)∧d.to (rkR R) k:=by
 by_cases ho:R.on.getD i (-1)=(R.t1.getD k (0,0,0)).1
 ·exact ⟨.mach k,⟨hk,Jr ⟨ho,rfl⟩⟩,rfl⟩
 ·have e:=cR_on (R:=R) (i:=i) hk
  rw [mvR_eq ho] at e
  obtain ⟨_,_,h3⟩:=minW_spec (t:=(R.t3.getD i (0,0,0)).1) (m:=(R.t1.getD k (0,0,0)).1) (r:=(R.t1.getD k (0,0,0)).2.1) R.ws (R.t3.getD i (0,0,0)).2.2
  rcases h3 with q | ⟨y,hy,hm,q⟩
  ·refine ⟨.clus,?_,trivial⟩
   show cR R i k=_
   rw [e,q]
  ·obtain ⟨y1,⟨y2,y3⟩ | ⟨y2,y3⟩⟩:=mineW_iff.1 hm
   ·have hw:=wishR_of hf.uniq hy
    rw [y1,y2,y3] at hw
    exact ⟨.mach k,⟨hk,Js ⟨_,hw,by rw [e,q]⟩⟩,rfl⟩
   ·have hw:=wishR_of hf.uniq hy
    rw [y1,y2,y3] at hw
    have hr:=hf.at hk
    refine ⟨.rack (rkR R k),⟨hr.1,_,?_,by rw [e,q]⟩,rfl⟩
    rw [hr.2]
    exact hw
end
end
section
def Pres (R:RSt)(k id:Nat):Prop:=0≤atOf (id:Int) (tkR R k)
section
variable {R:RSt}
theorem ids_mono {k n:Nat}:∀ {m:Nat},n≤m→(idsR R k n).length≤(idsR R k m).length
 | 0,h=>by
  obtain rfl:n=0:=by omega
  exact Jb _
 | m+1,h=>by
  by_cases e:n=m+1
  ·subst e; exact Jb _
  ·have h1:=ids_mono (k:=k) (m:=m) (n:=n) (by omega)
   by_cases q:0≤atOf (m:Int) (tkR R k)
   ·rw [ids_succ_yes q,Jo]; omega
   ·rw [ids_succ_no q]; exact h1
theorem ids_lt {k id m:Nat}(hp:Pres R k id)(h:id<m):(idsR R k id).length<(idsR R k m).length:=by
 have h1:=ids_mono (R:=R) (k:=k) (n:=id+1) (m:=m) (by omega)
 rw [ids_succ_yes hp,Jo] at h1
 simp only [List.length_singleton] at h1
 omega
theorem ids_pairwise (k:Nat):∀ n,(idsR R k n).Pairwise (fun a b=>a<b)∧∀ x∈idsR R k n,∃ j:Nat,j<n∧x=(j:Int)∧Pres R k j
 | 0=>by simp [idsR]
 | n+1=>by
  obtain ⟨h1,h2⟩:=ids_pairwise k n
  by_cases q:0≤atOf (n:Int) (tkR R k)
  ·rw [ids_succ_yes q]
   refine ⟨?_,fun x hx=>?_⟩
   ·rw [List.pairwise_append]
    refine ⟨h1,List.pairwise_singleton _ _,fun a ha b hb=>?_⟩
    obtain ⟨j,hj,e,_⟩:=h2 a ha
    rw [List.mem_singleton.1 hb,e]
    omega
   ·rcases List.mem_append.1 hx with hx | hx
    ·obtain ⟨j,hj,e,hp⟩:=h2 x hx
     exact ⟨j,by omega,e,hp⟩
    ·exact ⟨n,by omega,List.mem_singleton.1 hx,q⟩
  ·rw [ids_succ_no q]
   exact ⟨h1,fun x hx=>by obtain ⟨j,hj,e,hp⟩:=h2 x hx; exact ⟨j,by omega,e,hp⟩⟩
theorem ids_le (k n:Nat):(idsR R k n).length≤(tkR R k).length:=by
 obtain ⟨h1,h2⟩:=ids_pairwise (R:=R) k n
 have h3:((idsR R k n).map (fun x=>(atOf x (tkR R k)).toNat)).Nodup:=by
  unfold List.Nodup
  rw [List.pairwise_map]
  refine h1.imp_of_mem (fun {a b} ha hb hab e=>?_)
  obtain ⟨ja,_,ea,pa⟩:=h2 a ha
  obtain ⟨jb,_,eb,pb⟩:=h2 b hb
  rw [ea,eb] at e
  obtain ⟨x,hx,x1,x2⟩:=atOf_some (id:=(ja:Int)) (xs:=tkR R k) pa
  obtain ⟨y,hy,y1,y2⟩:=atOf_some (id:=(jb:Int)) (xs:=tkR R k) pb
  rw [x1,y1] at e
  have:x=y:=by simpa using e
  subst this
  rw [x2] at y2
  omega
 have h4:=few_of_nodup (tkR R k).length _ h3 (fun z hz=>by
  obtain ⟨x,hx,rfl⟩:=List.mem_map.1 hz
  obtain ⟨j,_,e,p⟩:=h2 x hx
  rw [e]
  obtain ⟨y,hy,y1,_⟩:=atOf_some (id:=(j:Int)) (xs:=tkR R k) p
  rw [y1,Jn]
  exact hy)
 rwa [Jv] at h4
theorem lensR_mono {k:Nat}:∀ {m:Nat},k≤m→lensR R k≤lensR R m
 | 0,h=>by
  obtain rfl:k=0:=by omega
  exact Jb _
 | m+1,h=>by
  by_cases e:k=m+1
  ·subst e; exact Jb _
  ·have h1:=lensR_mono (k:=k) (m:=m) (by omega)
   simp only [lensR]
   omega
theorem nodeR_in {k id:Nat}(hp:Pres R k id)(h:id<100):2+(lensR R k:Int)≤nodeR R k id∧nodeR R k id<2+(lensR R (k+1):Int):=by
 have h1:=ids_lt hp h
 have h2:=ids_le (R:=R) k 100
 simp only [lensR]
 unfold nodeR
 omega
theorem nodeR_inj {k id k' id':Nat}(hp:Pres R k id)(h:id<100)(hp':Pres R k' id')(h':id'<100)(e:nodeR R k id=nodeR R k' id'):k=k'∧id=id':=by
 have h1:=nodeR_in hp h
 have h2:=nodeR_in hp' h'
 have hk:k=k':=by
  rcases Nat.lt_trichotomy k k' with q | q | q
  ·have:=lensR_mono (R:=R) (show k+1≤k' by omega); omega
  ·exact q
  ·have:=lensR_mono (R:=R) (show k'+1≤k by omega); omega
 subst hk
 refine ⟨rfl,?_⟩
 rcases Nat.lt_trichotomy id id' with q | q | q
 ·have:=ids_lt hp q; unfold nodeR at e; omega
 ·exact q
 ·have:=ids_lt hp' q; unfold nodeR at e; omega
end
end
section
def nodeOf (R:RSt):Dest→Int
 | .mach k=>nodeR R 1 (R.t1.getD k (0,0,0)).1.toNat
 | .rack r=>nodeR R 0 (R.t0.getD r (0,0,0)).1.toNat
 | .clus=>0
 | .job j=>nodeR R 2 (R.t2.getD j (0,0,0)).1.toNat
section
variable {R:RSt}
theorem leaf_way (hf:NetFit R){i id:Nat}(hi:i<R.t3.length)(hid:R.t3[i].1=(id:Int)){a:Ar}(ha:a∈leafR R i id):a.f=nodeR R 3 id∧a.c=1∧∃ d,wayR R i d a.k∧a.t=nodeOf R d:=by
 have hio:i<R.on.length:=by rw [hf.run.lo]; exact hi
 have etask:(R.t3.getD i (0,0,0)).1=(id:Int):=by rw [getD_at hi,hid]
 unfold leafR at ha
 rcases List.mem_append.1 ha with ha | ha
 ·rcases List.mem_append.1 ha with ha | ha
  ·rcases List.mem_append.1 ha with ha | ha
   ·unfold leafRun at ha
    by_cases ho:0≤R.on.getD i (-1)
    ·rw [if_pos ho] at ha
     rw [List.mem_singleton.1 ha]
     rw [getD_at hio] at ho ⊢
     rcases hf.on i hio with e | ⟨k,hk,e⟩
     ·omega
     ·have hat:=hf.run.at1 k hk
      refine ⟨rfl,rfl,.mach k,⟨hk,Jr ⟨by rw [getD_at hio,getD_at hk,e],?_⟩⟩,?_⟩
      ·show cR R i (atOf R.on[i] R.t1).toNat=_
       rw [e,hat,Jn]
      ·show nodeR R 1 R.on[i].toNat=nodeR R 1 _
       rw [getD_at hk,e]
    ·rw [if_neg ho] at ha
     cases ha
   ·rw [List.mem_singleton.1 ha]
    obtain ⟨j,hj,ej⟩:=hf.run.job i hi
    obtain ⟨k',hk',e1,e2⟩:=atOf_some (id:=R.t3[i].2.1) (xs:=R.t2) (by omega)
    have:k'=j:=by omega
    subst this
    refine ⟨rfl,rfl,.job k',⟨hj,by rw [getD_at hj,getD_at hi,e2],rfl⟩,?_⟩
    show nodeR R 2 _=nodeR R 2 _
    rw [getD_at hi,getD_at hj,e2]
  ·have key:∀ kd:Nat,(kd=0∨kd=1)→a∈leafK R (nodeR R 3 id) id (moreR (R.on.getD i (-1))) kd (idsR R kd 100)→a.f=nodeR R 3 id∧a.c=1∧∃ d,wayR R i d a.k∧a.t=nodeOf R d:=fun kd hkd hm=>by
    unfold leafK at hm
    obtain ⟨x,hx,hm⟩:=List.mem_flatMap.1 hm
    obtain ⟨j,hj,e,hp⟩:=(ids_pairwise (R:=R) kd 100).2 x hx
    subst e
    unfold leafW at hm
    cases hw:wishR R id kd j with
    | none=>rw [hw] at hm; cases hm
    | some c =>
     rw [hw] at hm
     rw [List.mem_singleton.1 hm]
     obtain ⟨y,hy,y1,y2⟩:=atOf_some (id:=(j:Int)) (xs:=tkR R kd) hp
     rcases hkd with rfl | rfl
     ·have hy':y<R.t0.length:=hy
      have y2':R.t0[y].1=(j:Int):=y2
      refine ⟨rfl,rfl,.rack y,⟨hy',c,?_,rfl⟩,?_⟩
      ·rw [etask,getD_at hy',y2']; exact hw
      ·show nodeR R 0 _=nodeR R 0 _
       rw [getD_at hy',y2']
     ·have hy':y<R.t1.length:=hy
      have y2':R.t1[y].1=(j:Int):=y2
      refine ⟨rfl,rfl,.mach y,⟨hy',Js ⟨c,?_,rfl⟩⟩,?_⟩
      ·rw [etask,getD_at hy',y2']; exact hw
      ·show nodeR R 1 _=nodeR R 1 _
       rw [getD_at hy',y2']
   have e2:leafUp R (nodeR R 3 id) id (moreR (R.on.getD i (-1))) 2=leafK R (nodeR R 3 id) id (moreR (R.on.getD i (-1))) 1 (idsR R 1 100) ++ leafK R (nodeR R 3 id) id (moreR (R.on.getD i (-1))) 0 (idsR R 0 100):=rfl
   rw [e2] at ha
   rcases List.mem_append.1 ha with ha | ha
   ·exact key 1 (Js rfl) ha
   ·exact key 0 (Jr rfl) ha
 ·rw [List.mem_singleton.1 ha]
  exact ⟨rfl,rfl,.clus,rfl,rfl⟩
theorem way_leaf (hf:NetFit R){i id:Nat}(hi:i<R.t3.length)(hid:R.t3[i].1=(id:Int)){d:Dest}{x:Int}(h:wayR R i d x)(hI0:∀ y∈R.t0,0≤y.1∧y.1≤99)(hA0:∀ r,(hr:r<R.t0.length)→atOf R.t0[r].1 R.t0=r):∃ a∈leafR R i id,a.k=x∧a.t=nodeOf R d:=by
 have hio:i<R.on.length:=by rw [hf.run.lo]; exact hi
 have etask:(R.t3.getD i (0,0,0)).1=(id:Int):=by rw [getD_at hi,hid]
 have e2:leafUp R (nodeR R 3 id) id (moreR (R.on.getD i (-1))) 2=leafK R (nodeR R 3 id) id (moreR (R.on.getD i (-1))) 1 (idsR R 1 100) ++ leafK R (nodeR R 3 id) id (moreR (R.on.getD i (-1))) 0 (idsR R 0 100):=rfl
 have memIds:∀ (kd j:Nat),j<100→Pres R kd j→(j:Int)∈idsR R kd 100:=fun kd j hj hp=>by
  unfold idsR
  exact List.mem_map.2 ⟨j,List.mem_filter.2 ⟨List.mem_range.2 hj,by unfold hasT; simpa [Pres] using hp⟩,rfl⟩
 cases d with
 | mach k =>
  obtain ⟨hk,q | ⟨c,hc,q⟩⟩:=h
  ·have hb:=hf.run.id1 _ (Jl hk)
   have ho:R.on.getD i (-1)=R.t1[k].1:=by rw [q.1,getD_at hk]
   refine ⟨⟨nodeR R 3 id,nodeR R 1 (R.on.getD i (-1)).toNat,1,cR R i (atOf (R.on.getD i (-1)) R.t1).toNat⟩,?_,?_,?_⟩
   ·unfold leafR leafRun
    rw [if_pos (by omega)]
    exact Ju _ (Ju _ (Ju _ (List.mem_singleton.2 rfl)))
   ·show cR R i _=x
    rw [q.2,ho,hf.run.at1 k hk,Jn]
   ·show nodeR R 1 _=nodeR R 1 _
    rw [ho,getD_at hk]
  ·have hb:=hf.run.id1 _ (Jl hk)
   obtain ⟨j,hj⟩:∃ j:Nat,R.t1[k].1=(j:Int):=⟨R.t1[k].1.toNat,by omega⟩
   have hp:Pres R 1 j:=by show 0≤atOf (j:Int) R.t1; rw [← hj,hf.run.at1 k hk]; omega
   rw [etask,getD_at hk,hj] at hc
   refine ⟨⟨nodeR R 3 id,nodeR R 1 j,1,c+moreR (R.on.getD i (-1))⟩,?_,q.symm,?_⟩
   ·unfold leafR
    rw [e2]
    refine Ju _ (Jt _ (Ju _ ?_))
    unfold leafK
    refine List.mem_flatMap.2 ⟨(j:Int),memIds 1 j (by omega) hp,?_⟩
    unfold leafW
    have hc':wishR R (id:Int) ((1:Nat):Int) (j:Int)=some c:=hc
    rw [hc']
    exact List.mem_singleton.2 rfl
   ·show nodeR R 1 j=nodeR R 1 _
    rw [getD_at hk,hj,Jn]
 | rack r =>
  obtain ⟨hr,c,hc,q⟩:=h
  have hb:=hI0 _ (Jl hr)
  obtain ⟨j,hj⟩:∃ j:Nat,R.t0[r].1=(j:Int):=⟨R.t0[r].1.toNat,by omega⟩
  have hp:Pres R 0 j:=by show 0≤atOf (j:Int) R.t0; rw [← hj,hA0 r hr]; omega
  rw [etask,getD_at hr,hj] at hc
  refine ⟨⟨nodeR R 3 id,nodeR R 0 j,1,c+moreR (R.on.getD i (-1))⟩,?_,q.symm,?_⟩
  ·unfold leafR
   rw [e2]
   refine Ju _ (Jt _ (Jt _ ?_))
   unfold leafK
   refine List.mem_flatMap.2 ⟨(j:Int),memIds 0 j (by omega) hp,?_⟩
   unfold leafW
   have hc':wishR R (id:Int) ((0:Nat):Int) (j:Int)=some c:=hc
   rw [hc']
   exact List.mem_singleton.2 rfl
  ·show nodeR R 0 j=nodeR R 0 _
   rw [getD_at hr,hj,Jn]
 | clus =>
  have q:x=_:=h
  refine ⟨leafAny R i (nodeR R 3 id) (moreR (R.on.getD i (-1))),Jt _ (List.mem_singleton.2 rfl),q.symm,rfl⟩
 | job j =>
  obtain ⟨hj,h1,q⟩:=h
  refine ⟨leafJob R i (nodeR R 3 id),Ju _ (Ju _ (Jt _ (List.mem_singleton.2 rfl))),q.symm,?_⟩
  show nodeR R 2 _=nodeR R 2 _
  rw [h1]
end
end
end Go.Proofs.Ytjdindfjfpdikab
