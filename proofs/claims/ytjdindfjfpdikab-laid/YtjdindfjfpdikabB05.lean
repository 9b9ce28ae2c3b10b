import Derived.Test.YtjdindfjfpdikabB02
import Derived.Test.YtjdindfjfpdikabB04
import Derived.Test.YtjdindfjfpdikabPre
set_option maxRecDepth 100000
set_option maxHeartbeats 8000000
namespace Go.Proofs.Ytjdindfjfpdikab
section
theorem KN.perm {K V:Type}{l m:List (K×V)}(h:KN l)(p:l.Perm m):KN m:=(p.map _).nodup_iff.1 h
section
variable {K V:Type} [DecidableEq K]
theorem get_mem {a:K}{v:V}:∀ {l:List (K×V)},get a l=some v→(a,v)∈l
 | [],h=>by simp [get] at h
 | x :: r,h=>by
  unfold get at h
  by_cases hx:a=x.1
  ·rw [if_pos hx] at h
   cases h
   rw [hx]
   exact Jp
  ·rw [if_neg hx] at h
   exact Jk _ (get_mem h)
theorem mem_get {a:K}{v:V}:∀ {l:List (K×V)},KN l→(a,v)∈l→get a l=some v
 | [],_,h=>by simp at h
 | x :: r,hn,h=>by
  unfold KN at hn
  simp only [List.map_cons,List.nodup_cons] at hn
  unfold get
  rcases List.mem_cons.1 h with rfl | h
  ·simp
  ·have hx:a≠x.1:=fun e=>hn.1 (e ▸ List.mem_map.2 ⟨(a,v),h,rfl⟩)
   rw [if_neg hx]
   exact mem_get hn.2 h
theorem get_iff {a:K}{v:V}{l:List (K×V)}(h:KN l):get a l=some v↔(a,v)∈l:=⟨get_mem,mem_get h⟩
theorem get_perm {l m:List (K×V)}(h:KN l)(p:l.Perm m)(a:K):get a l=get a m:=by
 cases e:get a l with
 | some v=>exact ((get_iff (h.perm p)).2 (p.mem_iff.1 (get_mem e))).symm
 | none =>
  rw [get_none_iff] at e
  exact ((get_none_iff a m).2 (fun hm=>e ((p.map _).mem_iff.2 hm))).symm
theorem del_perm {l m:List (K×V)}(p:l.Perm m)(a:K):(del a l).Perm (del a m):=p.filter _
theorem put_perm_cons {l:List (K×V)}(h:KN l)(a:K)(v:V):(put a v l).Perm ((a,v) :: del a l):=by
 induction l with
 | nil=>simp [put,del]
 | cons x r ih =>
  have hn:=h
  unfold KN at hn
  simp only [List.map_cons,List.nodup_cons] at hn
  unfold put
  by_cases hx:a=x.1
  ·rw [if_pos hx]
   have e:del a (x :: r)=r:=by
    have e1:del a (x :: r)=del a r:=by simp [del,hx]
    rw [e1]
    exact List.filter_eq_self.2 (fun y hy=>by
     have:y.1≠a:=fun e=>hn.1 (by rw [← hx,← e]; exact List.mem_map.2 ⟨y,hy,rfl⟩)
     simpa using this)
   rw [e]
  ·rw [if_neg hx]
   have e:del a (x :: r)=x :: del a r:=by simp [del,Ne.symm hx]
   rw [e]
   exact ((ih hn.2).cons x).trans (List.Perm.swap _ _ _)
theorem put_perm {l m:List (K×V)}(h:KN l)(p:l.Perm m)(a:K)(v:V):(put a v l).Perm (put a v m) :=
 (put_perm_cons h a v).trans (((del_perm p a).cons _).trans (put_perm_cons (h.perm p) a v).symm)
theorem put_fresh {l:List (K×V)}(a:K)(v:V)(h:get a l=none):put a v l=l ++ [(a,v)]:=by
 induction l with
 | nil=>rfl
 | cons x r ih =>
  unfold get at h
  by_cases hx:a=x.1
  ·rw [if_pos hx] at h; cases h
  ·rw [if_neg hx] at h
   unfold put
   rw [if_neg hx,ih h]
   rfl
end
theorem short_of_nodup:∀ (n:Nat)(l:List Nat),l.Nodup→(∀ x∈l,x<n)→l.length≤n
 | 0,l,_,h=>by
  cases l with
  | nil=>simp
  | cons x r=>exact absurd (h x Jp) (by omega)
 | n+1,l,hn,h=>by
  have h1:=short_of_nodup n (l.erase n) (hn.erase n) (fun x hx=>by
   have h2:=h x (List.mem_of_mem_erase hx)
   have h3:x≠n:=((hn.mem_erase_iff).1 hx).1
   omega)
  have h2:=List.length_erase_le (a:=n) (l:=l)
  have h3:l.length≤(l.erase n).length+1:=by
   rw [List.length_erase]
   split <;> omega
  omega
theorem atOf_mem {xs:List Th}(hn:(xs.map (·.1)).Nodup){k:Nat}(hk:k<xs.length):atOf xs[k].1 xs=k:=by
 refine atOf_found hk (fun j hj hjk e=>?_) rfl
 have:=(List.pairwise_iff_getElem.1 hn) j k (by simpa using hj) (by simpa using hk) hjk
 simp [e] at this
theorem atOf_neg {id:Int}{xs:List Th}:atOf id xs<0↔∀ x∈xs,x.1≠id:=by
 constructor
 ·intro h x hx e
  obtain ⟨j,hj,rfl⟩:=List.mem_iff_getElem.1 hx
  by_cases hq:0≤atOf id xs
  ·omega
  ·clear hq
   have key:∀ (xs:List Th) (i:Nat),(∃ x∈xs,x.1=id)→0≤posT id xs i:=by
    intro xs
    induction xs with
    | nil=>intro i h; simp at h
    | cons y r ih =>
     intro i h
     unfold posT
     by_cases hy:y.1=id
     ·rw [if_pos hy]; omega
     ·rw [if_neg hy]
      refine ih _ ?_
      obtain ⟨x,hx,e⟩:=h
      rcases List.mem_cons.1 hx with rfl | hx
      ·exact absurd e hy
      ·exact ⟨x,hx,e⟩
   have:=key xs 0 ⟨_,hx,e⟩
   unfold atOf at h
   omega
 ·intro h
  rw [atOf_none (fun j hj=>h _ (Jl hj))]
  decide
end
section
def e0 (x:Th):(Int×Int)×((Int×Int)×Int×Int):=((0,x.1),((4,0),0,0))
def e1 (x:Th):(Int×Int)×((Int×Int)×Int×Int):=((1,x.1),((0,x.2.1),x.2.2,0))
def e2 (x:Th):(Int×Int)×((Int×Int)×Int×Int):=((2,x.1),((4,0),0,x.2.2))
def e3 (x:Th):(Int×Int)×((Int×Int)×Int×Int):=((3,x.1),((2,x.2.1),0,x.2.2))
def encP (R:RSt):Things:=R.t0.map e0 ++ (R.t1.map e1 ++ (R.t2.map e2 ++ R.t3.map e3))
def encW (x:Wi):((Int×Int)×(Int×Int))×Int:=(((3,x.1),(x.2.1,x.2.2.1)),x.2.2.2)
structure FitR (R:RSt):Prop where
 id2:∀ x∈R.t2,0≤x.1∧x.1≤99
 sl:∀ x∈R.t1,1≤x.2.2∧x.2.2≤4
 rk:∀ x∈R.t1,∃ y∈R.t0,y.1=x.2.1
 cap:∀ y∈R.t1,(R.on.count y.1:Int)≤y.2.2
structure Fit (R:RSt):Prop where
 len0:R.t0.length≤4
 len1:R.t1.length≤8
 len2:R.t2.length≤4
 len3:R.t3.length≤16
 id0:∀ x∈R.t0,0≤x.1∧x.1≤99
 id1:∀ x∈R.t1,0≤x.1∧x.1≤99
 id3:∀ x∈R.t3,0≤x.1∧x.1≤99
 job:∀ x∈R.t3,∃ y∈R.t2,y.1=x.2.1
 n2:∀ x∈R.t2,0≤x.2.2∧x.2.2≤1000
 n3:∀ x∈R.t3,0≤x.2.2∧x.2.2≤1000
 ws:∀ x∈R.ws,(0≤x.1∧x.1≤99)∧(x.2.1=0∨x.2.1=1)∧(0≤x.2.2.1∧x.2.2.1≤99)∧(0≤x.2.2.2∧x.2.2.2≤1000)
 lo:R.on.length=R.t3.length
 wl:R.wt.length=R.t3.length
 wt:∀ n∈R.wt,0≤n∧n≤100
 kn:KN (encP R)
 kw:KN (R.ws.map encW)
 more:FitR R
def onL (l1:Runs)(t:Int):Int:=match get (3,t) l1 with
 | some m=>m.2
 | none=>-1
structure RunSim (l1:Runs)(R:RSt):Prop where
 kn1:KN l1
 on:R.on=R.t3.map (fun x=>onL l1 x.1)
 in1:∀ a m,get a l1=some m→(∃ x∈R.t3,a=(3,x.1))∧∃ y∈R.t1,m=(1,y.1)
def RunZ (l1:Runs)(l2:Waits):Prop:=∀ a m,get a l1=some m→(get a l2).getD 0=0
structure Sim (l0:Things)(l1:Runs)(l2:Waits)(l3:Prefs)(R:RSt):Prop where
 fit:Fit R
 p0:l0.Perm (encP R)
 p3:l3.Perm (R.ws.map encW)
 kn2:KN l2
 wt:R.wt=R.t3.map (fun x=>(get (3,x.1) l2).getD 0)
 in2:∀ a,get a l2≠none→∃ x∈R.t3,a=(3,x.1)
 wd:Waited l2
 runs:RunSim l1 R
 rz:RunZ l1 l2
theorem RunSim.onf {l1:Runs}{R:RSt}(h:RunSim l1 R):∀ n∈R.on,n=-1∨∃ y∈R.t1,y.1=n:=fun n hn=>by
 rw [h.on] at hn
 obtain ⟨x,hx,rfl⟩:=List.mem_map.1 hn
 unfold onL
 cases e:get (3,x.1) l1 with
 | none=>exact Jr rfl
 | some m =>
  obtain ⟨_,y,hy,rfl⟩:=h.in1 _ _ e
  exact Js ⟨y,hy,rfl⟩
theorem RunSim.same {l1:Runs}{R R':RSt}(h:RunSim l1 R)(e3:R'.t3=R.t3)(eo:R'.on=R.on)(e1:∀ y∈R.t1,y∈R'.t1):RunSim l1 R' :=
 ⟨h.kn1,by rw [eo,e3]; exact h.on,fun a m q=>by
  obtain ⟨h1,y,hy,h2⟩:=h.in1 a m q
  rw [e3]
  exact ⟨h1,y,e1 y hy,h2⟩⟩
theorem mem_encP {R:RSt}{k:(Int×Int)}{v:(Int×Int)×Int×Int}:(k,v)∈encP R↔(∃ x∈R.t0,e0 x=(k,v))∨(∃ x∈R.t1,e1 x=(k,v))∨(∃ x∈R.t2,e2 x=(k,v))∨(∃ x∈R.t3,e3 x=(k,v)):=by
 simp [encP,List.mem_append,List.mem_map]
section
variable {R:RSt}
theorem Fit.nd0 (h:Fit R):(R.t0.map (·.1)).Nodup:=by
 have:=h.kn
 unfold KN encP at this
 simp only [List.map_append,List.map_map,List.nodup_append] at this
 have h1:=this.1
 rw [List.Nodup,List.pairwise_map] at h1 ⊢
 exact h1.imp (fun {a b} hab e=>hab (by simp [e0,e]))
theorem Fit.nd1 (h:Fit R):(R.t1.map (·.1)).Nodup:=by
 have:=h.kn
 unfold KN encP at this
 simp only [List.map_append,List.map_map,List.nodup_append] at this
 have h1:=this.2.1.1
 rw [List.Nodup,List.pairwise_map] at h1 ⊢
 exact h1.imp (fun {a b} hab e=>hab (by simp [e1,e]))
theorem Fit.nd2 (h:Fit R):(R.t2.map (·.1)).Nodup:=by
 have:=h.kn
 unfold KN encP at this
 simp only [List.map_append,List.map_map,List.nodup_append] at this
 have h1:=this.2.1.2.1.1
 rw [List.Nodup,List.pairwise_map] at h1 ⊢
 exact h1.imp (fun {a b} hab e=>hab (by simp [e2,e]))
theorem Fit.nd3 (h:Fit R):(R.t3.map (·.1)).Nodup:=by
 have:=h.kn
 unfold KN encP at this
 simp only [List.map_append,List.map_map,List.nodup_append] at this
 have h1:=this.2.1.2.1.2.1
 rw [List.Nodup,List.pairwise_map] at h1 ⊢
 exact h1.imp (fun {a b} hab e=>hab (by simp [e3,e]))
theorem Fit.wsl (h:Fit R):R.ws.length≤20000:=by
 have h1:=h.kw
 unfold KN at h1
 rw [List.map_map,List.Nodup,List.pairwise_map] at h1
 have h2:=h.ws
 have h3:(R.ws.map (fun x=>(x.1*200+x.2.1*100+x.2.2.1).toNat)).Nodup:=by
  rw [List.Nodup,List.pairwise_map]
  refine h1.imp_of_mem (fun {a b} ha hb hab e=>hab ?_)
  obtain ⟨a1,a2,a3,_⟩:=h2 a ha
  obtain ⟨b1,b2,b3,_⟩:=h2 b hb
  have q1:a.1=b.1:=by omega
  have q2:a.2.1=b.2.1:=by omega
  have q3:a.2.2.1=b.2.2.1:=by omega
  simp [encW,q1,q2,q3]
 have h4:=short_of_nodup 20000 _ h3 (fun x hx=>by
  obtain ⟨y,hy,rfl⟩:=List.mem_map.1 hx
  obtain ⟨a1,a2,a3,_⟩:=h2 y hy
  omega)
 simpa using h4
end
section
variable {l0:Things}{l1:Runs}{l2:Waits}{l3:Prefs}{R:RSt}
theorem Sim.kn0 (h:Sim l0 l1 l2 l3 R):KN l0:=h.fit.kn.perm h.p0.symm
theorem Sim.kn3 (h:Sim l0 l1 l2 l3 R):KN l3:=h.fit.kw.perm h.p3.symm
theorem Sim.len (h:Sim l0 l1 l2 l3 R):l0.length≤1000:=by
 have h1:=h.p0.length_eq
 have a0:=h.fit.len0
 have a1:=h.fit.len1
 have a2:=h.fit.len2
 have a3:=h.fit.len3
 simp [encP] at h1
 omega
theorem Sim.yes0 (h:Sim l0 l1 l2 l3 R){i:Nat}(hi:i<R.t0.length):get (0,R.t0[i].1) l0=some ((4,0),0,0):=mem_get h.kn0 (h.p0.mem_iff.2 (mem_encP.2 (Jr ⟨_,Jl hi,rfl⟩)))
theorem Sim.yes1 (h:Sim l0 l1 l2 l3 R){i:Nat}(hi:i<R.t1.length):get (1,R.t1[i].1) l0=some ((0,R.t1[i].2.1),R.t1[i].2.2,0):=mem_get h.kn0 (h.p0.mem_iff.2 (mem_encP.2 (Js (Jr ⟨_,Jl hi,rfl⟩))))
theorem Sim.yes2 (h:Sim l0 l1 l2 l3 R){i:Nat}(hi:i<R.t2.length):get (2,R.t2[i].1) l0=some ((4,0),0,R.t2[i].2.2):=mem_get h.kn0 (h.p0.mem_iff.2 (mem_encP.2 (Js (Js (Jr ⟨_,Jl hi,rfl⟩)))))
theorem Sim.yes3 (h:Sim l0 l1 l2 l3 R){i:Nat}(hi:i<R.t3.length):get (3,R.t3[i].1) l0=some ((2,R.t3[i].2.1),0,R.t3[i].2.2):=mem_get h.kn0 (h.p0.mem_iff.2 (mem_encP.2 (Js (Js (Js ⟨_,Jl hi,rfl⟩)))))
theorem Sim.no0 (h:Sim l0 l1 l2 l3 R){id:Int}(hn:atOf id R.t0<0):get (0,id) l0=none:=by
 rw [get_none_iff]
 intro hm
 obtain ⟨⟨k,v⟩,hx,e⟩:=List.mem_map.1 hm
 simp only at e
 subst e
 rcases mem_encP.1 (h.p0.mem_iff.1 hx) with ⟨x,hx2,e⟩ | ⟨x,hx2,e⟩ | ⟨x,hx2,e⟩ | ⟨x,hx2,e⟩
 ·simp only [e0,Prod.mk.injEq] at e
  exact atOf_neg.1 hn x hx2 e.1.2
 ·simp only [e1,Prod.mk.injEq] at e
  exact absurd e.1.1 (by decide)
 ·simp only [e2,Prod.mk.injEq] at e
  exact absurd e.1.1 (by decide)
 ·simp only [e3,Prod.mk.injEq] at e
  exact absurd e.1.1 (by decide)
theorem Sim.is0 (h:Sim l0 l1 l2 l3 R)(id:Int):(get (0,id) l0).isSome=decide (0≤atOf id R.t0):=by
 by_cases hq:0≤atOf id R.t0
 ·obtain ⟨i,hi,_,rfl⟩:=atOf_some hq
  rw [h.yes0 hi]
  simp [hq]
 ·rw [h.no0 (by omega)]
  simp [hq]
theorem Sim.sel0 (h:Sim l0 l1 l2 l3 R):(sel 0 l0).length=R.t0.length:=by
 unfold sel
 rw [Jv,(h.p0.filter _).length_eq]
 unfold encP
 simp only [List.filter_append,List.filter_map,Jo,Jv]
 have f0:R.t0.filter ((fun x:(Int×Int)×((Int×Int)×Int×Int)=>x.1.1 == 0) ∘ e0)=R.t0:=List.filter_eq_self.2 (fun x _=>by simp [e0])
 have f1:R.t1.filter ((fun x:(Int×Int)×((Int×Int)×Int×Int)=>x.1.1 == 0) ∘ e1)=[]:=List.filter_eq_nil_iff.2 (fun x _=>by simp [e1])
 have f2:R.t2.filter ((fun x:(Int×Int)×((Int×Int)×Int×Int)=>x.1.1 == 0) ∘ e2)=[]:=List.filter_eq_nil_iff.2 (fun x _=>by simp [e2])
 have f3:R.t3.filter ((fun x:(Int×Int)×((Int×Int)×Int×Int)=>x.1.1 == 0) ∘ e3)=[]:=List.filter_eq_nil_iff.2 (fun x _=>by simp [e3])
 rw [f0,f1,f2,f3]
 simp
theorem Sim.no1 (h:Sim l0 l1 l2 l3 R){id:Int}(hn:atOf id R.t1<0):get (1,id) l0=none:=by
 rw [get_none_iff]
 intro hm
 obtain ⟨⟨k,v⟩,hx,e⟩:=List.mem_map.1 hm
 simp only at e
 subst e
 rcases mem_encP.1 (h.p0.mem_iff.1 hx) with ⟨x,hx2,e⟩ | ⟨x,hx2,e⟩ | ⟨x,hx2,e⟩ | ⟨x,hx2,e⟩
 ·simp only [e0,Prod.mk.injEq] at e
  exact absurd e.1.1 (by decide)
 ·simp only [e1,Prod.mk.injEq] at e
  exact atOf_neg.1 hn x hx2 e.1.2
 ·simp only [e2,Prod.mk.injEq] at e
  exact absurd e.1.1 (by decide)
 ·simp only [e3,Prod.mk.injEq] at e
  exact absurd e.1.1 (by decide)
theorem Sim.is1 (h:Sim l0 l1 l2 l3 R)(id:Int):(get (1,id) l0).isSome=decide (0≤atOf id R.t1):=by
 by_cases hq:0≤atOf id R.t1
 ·obtain ⟨i,hi,_,rfl⟩:=atOf_some hq
  rw [h.yes1 hi]
  simp [hq]
 ·rw [h.no1 (by omega)]
  simp [hq]
theorem Sim.sel1 (h:Sim l0 l1 l2 l3 R):(sel 1 l0).length=R.t1.length:=by
 unfold sel
 rw [Jv,(h.p0.filter _).length_eq]
 unfold encP
 simp only [List.filter_append,List.filter_map,Jo,Jv]
 have f1:R.t1.filter ((fun x:(Int×Int)×((Int×Int)×Int×Int)=>x.1.1 == 1) ∘ e1)=R.t1:=List.filter_eq_self.2 (fun x _=>by simp [e1])
 have f0:R.t0.filter ((fun x:(Int×Int)×((Int×Int)×Int×Int)=>x.1.1 == 1) ∘ e0)=[]:=List.filter_eq_nil_iff.2 (fun x _=>by simp [e0])
 have f2:R.t2.filter ((fun x:(Int×Int)×((Int×Int)×Int×Int)=>x.1.1 == 1) ∘ e2)=[]:=List.filter_eq_nil_iff.2 (fun x _=>by simp [e2])
 have f3:R.t3.filter ((fun x:(Int×Int)×((Int×Int)×Int×Int)=>x.1.1 == 1) ∘ e3)=[]:=List.filter_eq_nil_iff.2 (fun x _=>by simp [e3])
 rw [f0,f1,f2,f3]
 simp
theorem Sim.no2 (h:Sim l0 l1 l2 l3 R){id:Int}(hn:atOf id R.t2<0):get (2,id) l0=none:=by
 rw [get_none_iff]
 intro hm
 obtain ⟨⟨k,v⟩,hx,e⟩:=List.mem_map.1 hm
 simp only at e
 subst e
 rcases mem_encP.1 (h.p0.mem_iff.1 hx) with ⟨x,hx2,e⟩ | ⟨x,hx2,e⟩ | ⟨x,hx2,e⟩ | ⟨x,hx2,e⟩
 ·simp only [e0,Prod.mk.injEq] at e
  exact absurd e.1.1 (by decide)
 ·simp only [e1,Prod.mk.injEq] at e
  exact absurd e.1.1 (by decide)
 ·simp only [e2,Prod.mk.injEq] at e
  exact atOf_neg.1 hn x hx2 e.1.2
 ·simp only [e3,Prod.mk.injEq] at e
  exact absurd e.1.1 (by decide)
theorem Sim.is2 (h:Sim l0 l1 l2 l3 R)(id:Int):(get (2,id) l0).isSome=decide (0≤atOf id R.t2):=by
 by_cases hq:0≤atOf id R.t2
 ·obtain ⟨i,hi,_,rfl⟩:=atOf_some hq
  rw [h.yes2 hi]
  simp [hq]
 ·rw [h.no2 (by omega)]
  simp [hq]
theorem Sim.sel2 (h:Sim l0 l1 l2 l3 R):(sel 2 l0).length=R.t2.length:=by
 unfold sel
 rw [Jv,(h.p0.filter _).length_eq]
 unfold encP
 simp only [List.filter_append,List.filter_map,Jo,Jv]
 have f2:R.t2.filter ((fun x:(Int×Int)×((Int×Int)×Int×Int)=>x.1.1 == 2) ∘ e2)=R.t2:=List.filter_eq_self.2 (fun x _=>by simp [e2])
 have f0:R.t0.filter ((fun x:(Int×Int)×((Int×Int)×Int×Int)=>x.1.1 == 2) ∘ e0)=[]:=List.filter_eq_nil_iff.2 (fun x _=>by simp [e0])
 have f1:R.t1.filter ((fun x:(Int×Int)×((Int×Int)×Int×Int)=>x.1.1 == 2) ∘ e1)=[]:=List.filter_eq_nil_iff.2 (fun x _=>by simp [e1])
 have f3:R.t3.filter ((fun x:(Int×Int)×((Int×Int)×Int×Int)=>x.1.1 == 2) ∘ e3)=[]:=List.filter_eq_nil_iff.2 (fun x _=>by simp [e3])
 rw [f0,f1,f2,f3]
 simp
theorem Sim.no3 (h:Sim l0 l1 l2 l3 R){id:Int}(hn:atOf id R.t3<0):get (3,id) l0=none:=by
 rw [get_none_iff]
 intro hm
 obtain ⟨⟨k,v⟩,hx,e⟩:=List.mem_map.1 hm
 simp only at e
 subst e
 rcases mem_encP.1 (h.p0.mem_iff.1 hx) with ⟨x,hx2,e⟩ | ⟨x,hx2,e⟩ | ⟨x,hx2,e⟩ | ⟨x,hx2,e⟩
 ·simp only [e0,Prod.mk.injEq] at e
  exact absurd e.1.1 (by decide)
 ·simp only [e1,Prod.mk.injEq] at e
  exact absurd e.1.1 (by decide)
 ·simp only [e2,Prod.mk.injEq] at e
  exact absurd e.1.1 (by decide)
 ·simp only [e3,Prod.mk.injEq] at e
  exact atOf_neg.1 hn x hx2 e.1.2
theorem Sim.is3 (h:Sim l0 l1 l2 l3 R)(id:Int):(get (3,id) l0).isSome=decide (0≤atOf id R.t3):=by
 by_cases hq:0≤atOf id R.t3
 ·obtain ⟨i,hi,_,rfl⟩:=atOf_some hq
  rw [h.yes3 hi]
  simp [hq]
 ·rw [h.no3 (by omega)]
  simp [hq]
theorem Sim.sel3 (h:Sim l0 l1 l2 l3 R):(sel 3 l0).length=R.t3.length:=by
 unfold sel
 rw [Jv,(h.p0.filter _).length_eq]
 unfold encP
 simp only [List.filter_append,List.filter_map,Jo,Jv]
 have f3:R.t3.filter ((fun x:(Int×Int)×((Int×Int)×Int×Int)=>x.1.1 == 3) ∘ e3)=R.t3:=List.filter_eq_self.2 (fun x _=>by simp [e3])
 have f0:R.t0.filter ((fun x:(Int×Int)×((Int×Int)×Int×Int)=>x.1.1 == 3) ∘ e0)=[]:=List.filter_eq_nil_iff.2 (fun x _=>by simp [e0])
 have f1:R.t1.filter ((fun x:(Int×Int)×((Int×Int)×Int×Int)=>x.1.1 == 3) ∘ e1)=[]:=List.filter_eq_nil_iff.2 (fun x _=>by simp [e1])
 have f2:R.t2.filter ((fun x:(Int×Int)×((Int×Int)×Int×Int)=>x.1.1 == 3) ∘ e2)=[]:=List.filter_eq_nil_iff.2 (fun x _=>by simp [e2])
 rw [f0,f1,f2,f3]
 simp
end
end
section
theorem makeOf_zero {there len most needs n least limit:Int}{ranged:Bool}{id:Int}(h:makeOf there len most needs n least limit ranged id=0) :
  (0≤id∧id≤99)∧there<0∧len<most∧0≤needs∧(ranged=true→least≤n∧n≤limit):=by
 unfold makeOf at h
 split at h
 ·cases h
 split at h
 ·cases h
 split at h
 ·cases h
 split at h
 ·cases h
 split at h
 ·cases h
 rename_i a1 a2 a3 a4 a5
 refine ⟨by omega,by omega,by omega,by omega,fun hr=>?_⟩
 have:¬ (n<least∨limit<n):=fun hh=>a5 ⟨hr,hh⟩
 omega
def c2 (R:RSt)(a:Int):Int:=makeOf (atOf a R.t0) R.t0.length 4 0 0 0 1000 false a
def n2 (R:RSt)(a:Int):RSt:=if c2 R a=0 then { R with t0:=R.t0 ++ [(a,0,0)] } else R
def c3 (R:RSt)(a b c:Int):Int:=makeOf (atOf a R.t1) R.t1.length 8 (atOf b R.t0) c 1 4 true a
def n3 (R:RSt)(a b c:Int):RSt:=if c3 R a b c=0 then { R with t1:=R.t1 ++ [(a,b,c)] } else R
def c4 (R:RSt)(a b:Int):Int:=makeOf (atOf a R.t2) R.t2.length 4 0 b 0 1000 true a
def n4 (R:RSt)(a b:Int):RSt:=if c4 R a b=0 then { R with t2:=R.t2 ++ [(a,0,b)] } else R
def c5 (R:RSt)(a b c:Int):Int:=makeOf (atOf a R.t3) R.t3.length 16 (atOf b R.t2) c 0 1000 true a
def n5 (R:RSt)(a b c:Int):RSt:=if c5 R a b c=0 then { R with t3:=R.t3 ++ [(a,b,c)],on:=R.on ++ [-1],wt:=R.wt ++ [0] } else R
section
variable {l0:Things}{l1:Runs}{l2:Waits}{l3:Prefs}{R:RSt}
theorem mem_snoc {α:Type}{l:List α}{x y:α}:x∈l ++ [y]↔x∈l∨x=y:=by simp
theorem sim_rack (h:Sim l0 l1 l2 l3 R)(a:Int):roomOf l0 0 a 4=c2 R a∧Sim (rackTo l0 a) l1 l2 l3 (n2 R a):=by
 have hc:roomOf l0 0 a 4=c2 R a:=by
  unfold roomOf c2 makeOf
  rw [h.is0 a,h.sel0]
  simp
 refine ⟨hc,?_⟩
 unfold rackTo n2
 rw [hc]
 by_cases hz:c2 R a=0
 ·rw [if_pos hz,if_pos hz]
  obtain ⟨hid,hat,hlen,_,_⟩:=makeOf_zero hz
  have hg:=h.no0 hat
  have hp:(put (0,a) ((4,0),0,0) l0).Perm (encP { R with t0:=R.t0 ++ [(a,0,0)] }):=by
   rw [put_fresh _ _ hg]
   unfold encP
   rw [List.map_append,List.append_assoc]
   refine (List.perm_append_comm (l₁:=l0)).trans ((h.p0.cons _).trans ?_)
   exact (List.perm_middle (l₁:=R.t0.map e0)).symm
  have hf:=h.fit
  refine ⟨⟨by simp; omega,hf.len1,hf.len2,hf.len3,fun x hx=>?_,hf.id1,hf.id3,hf.job,hf.n2,hf.n3,hf.ws,hf.lo,hf.wl,hf.wt,(h.kn0.put _ _).perm hp,hf.kw,⟨hf.more.id2,hf.more.sl,fun x hx=>by obtain ⟨y,hy,e⟩:=hf.more.rk x hx; exact ⟨y,mem_snoc.2 (Jr hy),e⟩,hf.more.cap⟩⟩,hp,h.p3,h.kn2,h.wt,h.in2,h.wd,h.runs.same rfl rfl (fun _ q=>q),h.rz⟩
  rcases mem_snoc.1 hx with hx | rfl
  ·exact hf.id0 x hx
  ·exact hid
 ·rw [if_neg hz,if_neg hz]
  exact h
theorem sim_mach (h:Sim l0 l1 l2 l3 R)(a b c:Int):machOf l0 a b c=c3 R a b c∧Sim (machTo l0 a b c) l1 l2 l3 (n3 R a b c):=by
 have hc:machOf l0 a b c=c3 R a b c:=by
  unfold machOf roomOf c3 makeOf
  rw [h.is1 a,h.sel1,h.is0 b]
  simp only [decide_eq_true_eq,true_and]
  by_cases g1:a<0∨99<a
  ·simp [g1]
  by_cases g2:0≤atOf a R.t1
  ·simp [g1,g2]
  by_cases g3:(8:Int)≤R.t1.length
  ·simp [g1,g2,g3]
  by_cases g4:0≤atOf b R.t0
  ·have g4':¬ atOf b R.t0<0:=by omega
   simp [g1,g2,g3,g4,g4']
  ·have g4':atOf b R.t0<0:=by omega
   simp [g1,g2,g3,g4,g4']
 refine ⟨hc,?_⟩
 unfold machTo n3
 rw [hc]
 by_cases hz:c3 R a b c=0
 ·rw [if_pos hz,if_pos hz]
  obtain ⟨hid,hat,hlen,hnd,hrg⟩:=makeOf_zero hz
  have hg:=h.no1 hat
  have hp:(put (1,a) ((0,b),c,0) l0).Perm (encP { R with t1:=R.t1 ++ [(a,b,c)] }):=by
   rw [put_fresh _ _ hg]
   unfold encP
   rw [List.map_append,List.append_assoc]
   refine (List.perm_append_comm (l₁:=l0)).trans ((h.p0.cons _).trans ?_)
   unfold encP
   have q:=(List.perm_middle (l₁:=R.t0.map e0 ++ R.t1.map e1) (a:=e1 (a,b,c)) (l₂:=R.t2.map e2 ++ R.t3.map e3)).symm
   simpa [List.append_assoc,e1] using q
  have hf:=h.fit
  refine ⟨⟨hf.len0,by simp; omega,hf.len2,hf.len3,hf.id0,fun x hx=>?_,hf.id3,hf.job,hf.n2,hf.n3,hf.ws,hf.lo,hf.wl,hf.wt,(h.kn0.put _ _).perm hp,hf.kw,⟨hf.more.id2,fun x hx=>by
    rcases mem_snoc.1 hx with hx | rfl
    ·exact hf.more.sl x hx
    ·exact hrg rfl,fun x hx=>by
    rcases mem_snoc.1 hx with hx | rfl
    ·exact hf.more.rk x hx
    ·obtain ⟨i,hi,_,e⟩:=atOf_some hnd
     exact ⟨_,Jl hi,e⟩,fun x hx=>by
    rcases mem_snoc.1 hx with hx | rfl
    ·exact hf.more.cap x hx
    ·have:R.on.count a=0:=List.count_eq_zero.2 (fun q=>by
      rcases h.runs.onf a q with e | ⟨y,hy,e⟩
      ·omega
      ·exact atOf_neg.1 hat y hy e)
     have h1:=hrg rfl
     show (R.on.count a:Int)≤c
     omega⟩⟩,hp,h.p3,h.kn2,h.wt,h.in2,h.wd,h.runs.same rfl rfl (fun _ q=>mem_snoc.2 (Jr q)),h.rz⟩
  rcases mem_snoc.1 hx with hx | rfl
  ·exact hf.id1 x hx
  ·exact hid
 ·rw [if_neg hz,if_neg hz]
  exact h
theorem sim_job (h:Sim l0 l1 l2 l3 R)(a b:Int):jobOf l0 a b=c4 R a b∧Sim (jobTo l0 a b) l1 l2 l3 (n4 R a b):=by
 have hc:jobOf l0 a b=c4 R a b:=by
  unfold jobOf roomOf c4 makeOf costB
  rw [h.is2 a,h.sel2]
  simp only [decide_eq_true_eq,true_and]
  by_cases g1:a<0∨99<a
  ·simp [g1]
  by_cases g2:0≤atOf a R.t2
  ·simp [g1,g2]
  by_cases g3:(4:Int)≤R.t2.length
  ·simp [g1,g2,g3]
  by_cases g4:0≤b∧b≤1000
  ·have g4':¬ (b<0∨1000<b):=by omega
   simp [g1,g2,g3,g4,g4']
  ·have g4':b<0∨1000<b:=by omega
   simp [g1,g2,g3,g4,g4']
 refine ⟨hc,?_⟩
 unfold jobTo n4
 rw [hc]
 by_cases hz:c4 R a b=0
 ·rw [if_pos hz,if_pos hz]
  obtain ⟨hid,hat,hlen,_,hr⟩:=makeOf_zero hz
  have hg:=h.no2 hat
  have hp:(put (2,a) ((4,0),0,b) l0).Perm (encP { R with t2:=R.t2 ++ [(a,0,b)] }):=by
   rw [put_fresh _ _ hg]
   unfold encP
   rw [List.map_append,List.append_assoc]
   refine (List.perm_append_comm (l₁:=l0)).trans ((h.p0.cons _).trans ?_)
   unfold encP
   have q:=(List.perm_middle (l₁:=R.t0.map e0 ++ (R.t1.map e1 ++ R.t2.map e2)) (a:=e2 (a,0,b)) (l₂:=R.t3.map e3)).symm
   simpa [List.append_assoc,e2] using q
  have hf:=h.fit
  refine ⟨⟨hf.len0,hf.len1,by simp; omega,hf.len3,hf.id0,hf.id1,hf.id3,fun x hx=>?_,fun x hx=>?_,hf.n3,hf.ws,hf.lo,hf.wl,hf.wt,(h.kn0.put _ _).perm hp,hf.kw,⟨fun x hx=>by
    rcases mem_snoc.1 hx with hx | rfl
    ·exact hf.more.id2 x hx
    ·exact hid,hf.more.sl,hf.more.rk,hf.more.cap⟩⟩,hp,h.p3,h.kn2,h.wt,h.in2,h.wd,h.runs.same rfl rfl (fun _ q=>q),h.rz⟩
  ·obtain ⟨y,hy,e⟩:=hf.job x hx
   exact ⟨y,mem_snoc.2 (Jr hy),e⟩
  ·rcases mem_snoc.1 hx with hx | rfl
   ·exact hf.n2 x hx
   ·exact hr rfl
 ·rw [if_neg hz,if_neg hz]
  exact h
theorem sim_task (h:Sim l0 l1 l2 l3 R)(a b c:Int):taskOf l0 a b c=c5 R a b c∧Sim (taskTo l0 a b c) l1 l2 l3 (n5 R a b c):=by
 have hc:taskOf l0 a b c=c5 R a b c:=by
  unfold taskOf roomOf c5 makeOf costB
  rw [h.is3 a,h.sel3,h.is2 b]
  simp only [decide_eq_true_eq,true_and]
  by_cases g1:a<0∨99<a
  ·simp [g1]
  by_cases g2:0≤atOf a R.t3
  ·simp [g1,g2]
  by_cases g3:(16:Int)≤R.t3.length
  ·simp [g1,g2,g3]
  by_cases g5:0≤c∧c≤1000
  ·have g5':¬ (c<0∨1000<c):=by omega
   by_cases g4:0≤atOf b R.t2
   ·have g4':¬ atOf b R.t2<0:=by omega
    simp [g1,g2,g3,g4,g4',g5,g5']
   ·have g4':atOf b R.t2<0:=by omega
    simp [g1,g2,g3,g4,g4']
  ·have g5':c<0∨1000<c:=by omega
   by_cases g4:0≤atOf b R.t2
   ·have g4':¬ atOf b R.t2<0:=by omega
    simp [g1,g2,g3,g4,g4',g5,g5']
   ·have g4':atOf b R.t2<0:=by omega
    simp [g1,g2,g3,g4,g4']
 refine ⟨hc,?_⟩
 unfold taskTo n5
 rw [hc]
 by_cases hz:c5 R a b c=0
 ·rw [if_pos hz,if_pos hz]
  obtain ⟨hid,hat,hlen,hnd,hr⟩:=makeOf_zero hz
  have hg:=h.no3 hat
  have hp:(put (3,a) ((2,b),0,c) l0).Perm (encP { R with t3:=R.t3 ++ [(a,b,c)],on:=R.on ++ [-1],wt:=R.wt ++ [0] }):=by
   rw [put_fresh _ _ hg]
   unfold encP
   rw [List.map_append]
   refine (List.perm_append_comm (l₁:=l0)).trans ((h.p0.cons _).trans ?_)
   unfold encP
   have q:=(List.perm_middle (l₁:=R.t0.map e0 ++ (R.t1.map e1 ++ (R.t2.map e2 ++ R.t3.map e3))) (a:=e3 (a,b,c)) (l₂:=[])).symm
   simpa [List.append_assoc,e3] using q
  have hf:=h.fit
  have hn2:get (3,a) l2=none:=by
   cases e:get (3,a) l2 with
   | none=>rfl
   | some n =>
    obtain ⟨x,hx,ex⟩:=h.in2 (3,a) (by rw [e]; simp)
    simp only [Prod.mk.injEq,true_and] at ex
    exact absurd ex.symm (atOf_neg.1 hat x hx)
  refine ⟨⟨hf.len0,hf.len1,hf.len2,by simp; omega,hf.id0,hf.id1,fun x hx=>?_,fun x hx=>?_,hf.n2,fun x hx=>?_,hf.ws,by simp [hf.lo],by simp [hf.wl],fun n hn=>?_,(h.kn0.put _ _).perm hp,hf.kw,⟨hf.more.id2,hf.more.sl,hf.more.rk,fun y hy=>by
    have h1:=hf.more.cap y hy
    have h2:=(hf.id1 y hy).1
    show ((R.on ++ [-1]).count y.1:Int)≤y.2.2
    rw [List.count_append,List.count_singleton]
    rw [if_neg (by simp; omega)]
    simpa using h1⟩⟩,hp,h.p3,h.kn2,?_,fun k hk=>?_,h.wd,⟨h.runs.kn1,?_,fun k m hk=>?_⟩,h.rz⟩
  ·rcases mem_snoc.1 hx with hx | rfl
   ·exact hf.id3 x hx
   ·exact hid
  ·rcases mem_snoc.1 hx with hx | rfl
   ·exact hf.job x hx
   ·obtain ⟨i,hi,_,e⟩:=atOf_some hnd
    exact ⟨_,Jl hi,e⟩
  ·rcases mem_snoc.1 hx with hx | rfl
   ·exact hf.n3 x hx
   ·exact hr rfl
  ·rcases mem_snoc.1 hn with hn | rfl
   ·exact hf.wt n hn
   ·decide
  ·simp [h.wt,hn2]
  ·obtain ⟨x,hx,e⟩:=h.in2 k hk
   exact ⟨x,mem_snoc.2 (Jr hx),e⟩
  ·have hn1:get (3,a) l1=none:=by
    cases e:get (3,a) l1 with
    | none=>rfl
    | some n =>
     obtain ⟨⟨x,hx,ex⟩,_⟩:=h.runs.in1 (3,a) n e
     simp only [Prod.mk.injEq,true_and] at ex
     exact absurd ex.symm (atOf_neg.1 hat x hx)
   show R.on ++ [-1]=(R.t3 ++ [(a,b,c)]).map _
   rw [List.map_append,← h.runs.on]
   simp [onL,hn1]
  ·obtain ⟨⟨x,hx,e⟩,q⟩:=h.runs.in1 k m hk
   exact ⟨⟨x,mem_snoc.2 (Jr hx),e⟩,q⟩
 ·rw [if_neg hz,if_neg hz]
  exact h
end
end
section
def c6 (R:RSt)(t k i c:Int):Int:=if atOf t R.t3<0 then 4 else if k≠0∧k≠1 then 7 else if atOf i (if k=0 then R.t0 else R.t1)<0 then 4 else if c<0∨1000<c then 5 else 0
def n6 (R:RSt)(t k i c:Int):RSt:=if c6 R t k i c=0 then { R with ws:=putW t k i c R.ws } else R
theorem putW_enc (t k i c:Int):∀ ws:List Wi,(putW t k i c ws).map encW=put ((3,t),(k,i)) c (ws.map encW)
 | []=>rfl
 | x :: r=>by
  have ih:=putW_enc t k i c r
  unfold putW
  rw [List.map_cons]
  unfold put
  by_cases hx:isW t k i x=true
  ·have hy:=hx
   simp [isW] at hy
   rw [if_pos hx,if_pos (by simp [encW,hy])]
   simp [encW,hy]
  ·have hy:=hx
   simp [isW] at hy
   rw [if_neg hx,if_neg (by simp [encW]; exact fun a b d=>hy a.symm b.symm d.symm),List.map_cons,ih]
theorem putW_mem {t k i c:Int}:∀ {ws:List Wi}{x:Wi},x∈putW t k i c ws→x∈ws∨x=(t,k,i,c)
 | [],x,h=>by simp [putW] at h; exact Js h
 | y :: r,x,h=>by
  unfold putW at h
  by_cases hy:isW t k i y=true
  ·rw [if_pos hy] at h
   simp [isW] at hy
   rcases List.mem_cons.1 h with rfl | h
   ·right; simp [hy]
   ·exact Jr (Jk _ h)
  ·rw [if_neg hy] at h
   rcases List.mem_cons.1 h with rfl | h
   ·exact Jr Jp
   ·exact (putW_mem h).imp_left (Jk _)
section
variable {l0:Things}{l1:Runs}{l2:Waits}{l3:Prefs}{R:RSt}
theorem c6_zero {t k i c:Int}(hz:c6 R t k i c=0):0≤atOf t R.t3∧(k=0∨k=1)∧0≤atOf i (if k=0 then R.t0 else R.t1)∧(0≤c∧c≤1000):=by
 unfold c6 at hz
 by_cases g1:atOf t R.t3<0
 ·rw [if_pos g1] at hz; cases hz
 rw [if_neg g1] at hz
 by_cases g2:k≠0∧k≠1
 ·rw [if_pos g2] at hz; cases hz
 rw [if_neg g2] at hz
 generalize (if k=0 then R.t0 else R.t1)=xs at hz ⊢
 by_cases g3:atOf i xs<0
 ·rw [if_pos g3] at hz; cases hz
 rw [if_neg g3] at hz
 by_cases g4:c<0∨1000<c
 ·rw [if_pos g4] at hz; cases hz
 exact ⟨by omega,by omega,by omega,by omega⟩
theorem sim_pref (h:Sim l0 l1 l2 l3 R)(t k i c:Int):prefOf l0 t k i c=c6 R t k i c∧Sim l0 l1 l2 (prefTo l0 l3 t k i c) (n6 R t k i c):=by
 have hc:prefOf l0 t k i c=c6 R t k i c:=by
  unfold prefOf c6 costB
  rw [h.is3 t]
  by_cases g1:0≤atOf t R.t3
  ·have g1':¬ atOf t R.t3<0:=by omega
   by_cases k0:k=0
   ·subst k0
    rw [h.is0 i]
    by_cases g2:0≤atOf i R.t0
    ·have g2':¬ atOf i R.t0<0:=by omega
     by_cases g3:0≤c∧c≤1000
     ·have g3':¬ (c<0∨1000<c):=by omega
      simp [g1,g1',g2,g2',g3,g3']
     ·have g3':c<0∨1000<c:=by omega
      simp [g1,g1',g2,g2',g3,g3']
    ·have g2':atOf i R.t0<0:=by omega
     simp [g1,g1',g2,g2']
   ·by_cases k1:k=1
    ·subst k1
     rw [h.is1 i]
     by_cases g2:0≤atOf i R.t1
     ·have g2':¬ atOf i R.t1<0:=by omega
      by_cases g3:0≤c∧c≤1000
      ·have g3':¬ (c<0∨1000<c):=by omega
       simp [g1,g1',g2,g2',g3,g3']
      ·have g3':c<0∨1000<c:=by omega
       simp [g1,g1',g2,g2',g3,g3']
     ·have g2':atOf i R.t1<0:=by omega
      simp [g1,g1',g2,g2']
    ·simp [g1,g1',k0,k1]
  ·have g1':atOf t R.t3<0:=by omega
   simp [g1,g1']
 refine ⟨hc,?_⟩
 unfold prefTo n6
 rw [hc]
 by_cases hz:c6 R t k i c=0
 ·rw [if_pos hz,if_pos hz]
  obtain ⟨g1,hk,g3,g4⟩:=c6_zero hz
  have hp:(put ((3,t),(k,i)) c l3).Perm ((putW t k i c R.ws).map encW):=by
   rw [putW_enc]
   exact put_perm h.kn3 h.p3 _ _
  have hf:=h.fit
  refine ⟨⟨hf.len0,hf.len1,hf.len2,hf.len3,hf.id0,hf.id1,hf.id3,hf.job,hf.n2,hf.n3,fun x hx=>?_,hf.lo,hf.wl,hf.wt,hf.kn,(h.kn3.put _ _).perm hp,⟨hf.more.id2,hf.more.sl,hf.more.rk,hf.more.cap⟩⟩,h.p0,hp,h.kn2,h.wt,h.in2,h.wd,h.runs.same rfl rfl (fun _ q=>q),h.rz⟩
  rcases putW_mem hx with hx | rfl
  ·exact hf.ws x hx
  ·obtain ⟨j,hj,_,e⟩:=atOf_some g1
   obtain ⟨m,hm,_,e'⟩:=atOf_some g3
   have ht:=hf.id3 _ (Jl hj)
   rw [e] at ht
   have hi:0≤i∧i≤99:=by
    have hmem:=Jl hm
    rw [← e']
    rcases hk with rfl | rfl
    ·exact hf.id0 _ hmem
    ·exact hf.id1 _ hmem
   exact ⟨ht,hk,hi,g4⟩
 ·rw [if_neg hz,if_neg hz]
  exact h
end
end
section
open Go.RowKit
theorem get_cons {K V:Type} [DecidableEq K] (a:K)(x:K×V)(r:List (K×V)):get a (x :: r)=if a=x.1 then some x.2 else get a r:=rfl
theorem minW_get (t m r:Int):∀ (ws:List Wi)(c:Int),KN (ws.map encW)→minW t m r c ws=lesser (lesser c (get ((3,t),(1,m)) (ws.map encW))) (get ((3,t),(0,r)) (ws.map encW))
 | [],c,_=>rfl
 | x :: ws,c,hn=>by
  have hn':(encW x).1∉(ws.map encW).map (·.1)∧KN (ws.map encW):=List.nodup_cons.1 hn
  have ih:=fun c'=>minW_get t m r ws c' hn'.2
  have e1:minW t m r c (x :: ws)=minW t m r (lessW t m r c x) ws:=rfl
  have hno:=(get_none_iff (encW x).1 (ws.map encW)).2 hn'.1
  rw [e1,ih,List.map_cons]
  obtain ⟨y1,y2,y3,y4⟩:=x
  rw [get_cons,get_cons]
  by_cases h1:(y1,y2,y3)=(t,(1:Int),m)
  ·simp only [Prod.mk.injEq] at h1
   obtain ⟨rfl,rfl,rfl⟩:=h1
   simp only [encW] at hno
   rw [hno]
   have e:lessW y1 y3 r c (y1,1,y3,y4)=min c y4:=by simp [lessW,mineW]; omega
   rw [e]
   simp [encW,lesser]
  ·by_cases h0:(y1,y2,y3)=(t,(0:Int),r)
   ·simp only [Prod.mk.injEq] at h0
    obtain ⟨rfl,rfl,rfl⟩:=h0
    simp only [encW] at hno
    rw [hno]
    cases get ((3,y1),(1,m)) (ws.map encW) with
    | none=>simp [encW,lessW,mineW,lesser]; omega
    | some v=>simp [encW,lessW,mineW,lesser]; omega
   ·have hm:mineW t m r (y1,y2,y3,y4)=false:=by
     simp only [Prod.mk.injEq] at h1 h0
     simp only [mineW,Bool.and_eq_false_iff,Bool.or_eq_false_iff,decide_eq_false_iff_not]
     by_cases q:y1=t
     ·right
      refine ⟨?_,?_⟩
      ·by_cases q2:y2=1
       ·right; exact fun q3=>h1 ⟨q,q2,q3⟩
       ·left; exact q2
      ·by_cases q2:y2=0
       ·right; exact fun q3=>h0 ⟨q,q2,q3⟩
       ·left; exact q2
     ·left; exact q
    have f1:¬ (((3,t),(1,m)):(Int×Int)×(Int×Int))=(encW (y1,y2,y3,y4)).1:=fun e=>h1 (by simp only [encW,Prod.mk.injEq,true_and] at e; simp [e])
    have f0:¬ (((3,t),(0,r)):(Int×Int)×(Int×Int))=(encW (y1,y2,y3,y4)).1:=fun e=>h0 (by simp only [encW,Prod.mk.injEq,true_and] at e; simp [e])
    rw [if_neg f1,if_neg f0]
    simp [lessW,hm]
section
variable {l0:Things}{l1:Runs}{l2:Waits}{l3:Prefs}{R:RSt}
theorem Sim.costs (h:Sim l0 l1 l2 l3 R):Costs l3:=by
 intro k n hg
 have:=h.p3.mem_iff.1 (get_mem hg)
 obtain ⟨x,hx,e⟩:=List.mem_map.1 this
 have h1:=(h.fit.ws x hx).2.2.2
 simp only [encW,Prod.mk.injEq] at e
 rw [e.2] at h1
 exact h1
theorem Sim.mv (h:Sim l0 l1 l2 l3 R){i:Nat}(hi:i<R.t3.length)(hio:i<R.on.length):R.on[i]=onL l1 R.t3[i].1:=by
 have:=congrArg (fun l=>l[i]?) h.runs.on
 simpa [hio,hi] using this
theorem Sim.mvN (h:Sim l0 l1 l2 l3 R)(t:Int):mvR (onL l1 t) (-1)=moves l1 (3,t):=by
 unfold mvR onL moves
 cases e:get (3,t) l1 with
 | none=>simp
 | some m =>
  obtain ⟨_,y,hy,rfl⟩:=h.runs.in1 _ _ e
  have:=(h.fit.id1 y hy).1
  show (if 0≤y.1∧y.1≠-1 then 50 else 0)=_
  rw [if_pos ⟨this,by omega⟩]
  rfl
theorem Sim.mvM (h:Sim l0 l1 l2 l3 R)(t m:Int):mvR (onL l1 t) m=movesTo l1 (3,t) (1,m):=by
 unfold mvR onL movesTo
 cases e:get (3,t) l1 with
 | none=>simp
 | some n =>
  obtain ⟨_,y,hy,rfl⟩:=h.runs.in1 _ _ e
  have:=(h.fit.id1 y hy).1
  show (if 0≤y.1∧y.1≠m then 50 else 0)=(if ((1,y.1):Int×Int)=(1,m) then 0 else 50)
  by_cases q:y.1=m
  ·rw [if_neg (fun r=>r.2 q),if_pos (by rw [q])]
  ·rw [if_pos ⟨this,q⟩,if_neg (fun r=>q (by cases r; rfl))]
end
end
end Go.Proofs.Ytjdindfjfpdikab
