import Derived.BigRegion
import Derived.Deep.LoopGhost
import Derived.BigQuiet
import Derived.Deep.DeepCutAuto
import Derived.Deep.QuietTactic
import Derived.Test.YtjdindfjfpdikabB15
import Derived.Test.YtjdindfjfpdikabB22
import Derived.Test.YtjdindfjfpdikabPre
set_option maxRecDepth 100000
set_option maxHeartbeats 8000000
namespace Go.Proofs.Ytjdindfjfpdikab
section
section
variable {R:RSt}
def cmR (R:RSt)(o:Nat→Int)(m:Nat):Int:=sumN (fun y=>if R.on.getD y (-1)=(R.t1.getD m (0,0,0)).1 then o y else 0) R.t3.length
def totR (R:RSt)(o:Nat→Int):Int:=sumN o R.t3.length
structure BegI (R:RSt)(F o:Nat→Int):Prop where
 caps:∀ i,i<(netR R).length→0≤F i∧F i≤(arcN R i).c
 dest:∀ d,VD R d→inR R F (.dest d)=ouR R F (.dest d)
 task:∀ y,y<R.t3.length→ouR R F (.task y)=o y
 sink:inR R F .sink=totR R o
 mach:∀ m,m<R.t1.length→ouR R F (.dest (.mach m))≤cmR R o m
 job:∀ j,j<R.t2.length→ouR R F (.dest (.job j))≤totR R o
 one:∀ y,0≤o y∧o y≤1
theorem tot_upd {o:Nat→Int}{y:Nat}(hy:y<R.t3.length)(h0:o y=0):totR R (updI o y 1)=totR R o+1:=by
 unfold totR
 rw [sumN_upd hy,h0]
 omega
theorem cm_upd {o:Nat→Int}{y m:Nat}(hy:y<R.t3.length)(h0:o y=0):cmR R (updI o y 1) m=cmR R o m+(if R.on.getD y (-1)=(R.t1.getD m (0,0,0)).1 then 1 else 0):=by
 unfold cmR
 have e:sumN (fun z=>if R.on.getD z (-1)=(R.t1.getD m (0,0,0)).1 then updI o y 1 z else 0) R.t3.length=sumN (updI (fun z=>if R.on.getD z (-1)=(R.t1.getD m (0,0,0)).1 then o z else 0) y (if R.on.getD y (-1)=(R.t1.getD m (0,0,0)).1 then 1 else 0)) R.t3.length:=sumN_congr (fun z _=>by
  unfold updI
  by_cases q:z=y
  ·subst q; simp
  ·rw [if_neg q,if_neg q])
 rw [e,sumN_upd hy,h0]
 simp
theorem inR_up (h:Fits R){n u:Nd}(hn:VN R n){g:Nat→Int}{i:Nat}(hi:i<(netR R).length)(ht:(arcN R i).t=nd R u):inR R (bump g i 1) n=inR R g n+Go.Proofs.Ytjdindfjfpdikab.one (nd R u=nd R n):=by
 unfold inR
 rw [inn_bump]
 have:=(h.two hn).1
 unfold Go.Proofs.Ytjdindfjfpdikab.one
 by_cases e:nd R u=nd R n
 ·rw [if_pos e,if_pos ⟨hi,by rw [ht,e]; omega⟩]
 ·rw [if_neg e,if_neg (fun q=>e (by rw [← ht]; omega))]
theorem ouR_up (h:Fits R){n v:Nd}(hn:VN R n){g:Nat→Int}{i:Nat}(hi:i<(netR R).length)(hf:(arcN R i).f=nd R v):ouR R (bump g i 1) n=ouR R g n+Go.Proofs.Ytjdindfjfpdikab.one (nd R v=nd R n):=by
 unfold ouR
 rw [out_bump]
 have:=(h.two hn).1
 unfold Go.Proofs.Ytjdindfjfpdikab.one
 by_cases e:nd R v=nd R n
 ·rw [if_pos e,if_pos ⟨hi,by rw [hf,e]; omega⟩]
 ·rw [if_neg e,if_neg (fun q=>e (by rw [← hf]; omega))]
theorem BegI.zero (R:RSt)(hc:∀ i,i<(netR R).length→0≤(arcN R i).c):BegI R (fun _=>0) (fun _=>0):=by
 have hi:∀ v la,inn (arcN R) (fun _=>0) v la=0:=fun v la=>inn_zero (fun _ _ _=>rfl)
 have ho:∀ v la,out (arcN R) (fun _=>0) v la=0:=fun v la=>by
  induction la with
  | zero=>rfl
  | succ n ih=>simp only [out,ih]; split <;> rfl
 have ht:totR R (fun _=>0)=0:=sumN_zero _
 have hcm:∀ m,cmR R (fun _=>0) m=0:=fun m=>by
  unfold cmR
  rw [sumN_congr (h:=fun _=>0) (fun z _=>by split <;> rfl),sumN_zero]
 refine ⟨fun i hi'=>⟨Int.le_refl _,hc i hi'⟩,fun d _=>by unfold inR ouR; rw [hi,ho],fun y _=>by unfold ouR; exact ho _ _,by unfold inR; rw [hi,ht],fun m _=>by unfold ouR; rw [ho,hcm]; exact Int.le_refl _,fun j _=>by unfold ouR; rw [ho,ht]; exact Int.le_refl _,fun y=>by decide⟩
theorem BegI.more {F o:Nat→Int}(h:BegI R F o)(hf:Fits R)(hcap:∀ m,m<R.t1.length→∀ o',(∀ y,0≤o' y∧o' y≤1)→cmR R o' m≤slR R m){y:Nat}(hy:y<R.t3.length)(h0:o y=0){d:Dest}(hd:VD R d){i1 i2:Nat}(hi1:i1<(netR R).length)(hi2:i2<(netR R).length)
  (f1:(arcN R i1).f=nd R (.task y)) (t1:(arcN R i1).t=nd R (.dest d)) (c1:(arcN R i1).c=1) (z1:F i1=0) (f2:(arcN R i2).f=nd R (.dest d)) (t2:(arcN R i2).t=nd R .sink)
  (hk:(∃ m,d=.mach m∧R.on.getD y (-1)=(R.t1.getD m (0,0,0)).1∧(arcN R i2).c=slR R m)∨(∃ j,d=.job j∧(arcN R i2).c=16)):BegI R (bump (bump F i1 1) i2 1) (updI o y 1):=by
 have hne:i1≠i2:=fun e=>by
  subst e
  have:=hf.inj (n:=.task y) (n':=.dest d) hy hd (f1.symm.trans f2)
  cases this
 have hin:∀ {n:Nd},VN R n→inR R (bump (bump F i1 1) i2 1) n=inR R F n+Go.Proofs.Ytjdindfjfpdikab.one (nd R (.dest d)=nd R n)+Go.Proofs.Ytjdindfjfpdikab.one (nd R .sink=nd R n):=fun hn=>by rw [inR_up hf hn hi2 t2,inR_up hf hn hi1 t1]
 have hou:∀ {n:Nd},VN R n→ouR R (bump (bump F i1 1) i2 1) n=ouR R F n+Go.Proofs.Ytjdindfjfpdikab.one (nd R (.task y)=nd R n)+Go.Proofs.Ytjdindfjfpdikab.one (nd R (.dest d)=nd R n):=fun hn=>by rw [ouR_up hf hn hi2 f2,ouR_up hf hn hi1 f1]
 have tne:∀ {d':Dest},VD R d'→¬ (nd R (.task y)=nd R (.dest d')):=fun hd' q=>by have:=hf.inj (n:=.task y) (n':=.dest _) hy hd' q; cases this
 have sne:∀ {d':Dest},VD R d'→¬ (nd R .sink=nd R (.dest d')):=fun hd' q=>by have:=hf.inj (n:=.sink) (n':=.dest _) trivial hd' q; cases this
 have ho1:∀ z,0≤updI o y 1 z∧updI o y 1 z≤1:=fun z=>by
  unfold updI
  split
  ·omega
  ·exact h.one z
 have hnn:∀ i,i<(netR R).length→0≤F i:=fun i hi=>(h.caps i hi).1
 have htot:totR R (updI o y 1)≤16:=by
  unfold totR
  have h1:sumN (updI o y 1) R.t3.length≤sumN (fun _=>1) R.t3.length:=sumN_le (fun i _=>(ho1 i).2)
  have h3:∀ n,sumN (fun _=>1) n=(n:Int):=fun n=>by
   induction n with
   | zero=>rfl
   | succ n ih=>simp only [sumN,ih]; omega
  rw [h3] at h1
  have:=hf.net.run.len3
  omega
 have hl2:F i2≤ouR R F (.dest d):=by
  have:=(hf.two (n:=.dest d) hd).1
  exact out_one (A:=arcN R) (F:=F) (v:=(nd R (.dest d)).toNat) (i:=i2) hnn hi2 (by rw [f2]; omega)
 refine ⟨fun i hi=>?_,fun d' hd'=>?_,fun z hz=>?_,?_,fun m hm=>?_,fun j hj=>?_,ho1⟩
 ·unfold bump
  have hc:=h.caps i hi
  by_cases e2:i=i2
  ·subst e2
   rw [if_pos rfl,if_neg (fun q=>hne q.symm)]
   refine ⟨by omega,?_⟩
   rcases hk with ⟨m,rfl,hon,ec⟩ | ⟨j,rfl,ec⟩
   ·have h1:=h.mach m hd
    have h2:=hcap m hd _ ho1
    rw [cm_upd hy h0,if_pos hon] at h2
    omega
   ·have h1:=h.job j hd
    rw [tot_upd hy h0] at htot
    omega
  ·rw [if_neg e2]
   by_cases e1:i=i1
   ·subst e1
    rw [if_pos rfl,z1,c1]
    omega
   ·rw [if_neg e1]
    exact hc
 ·have h1:=h.dest d' hd'
  rw [hin (n:=.dest d') hd',hou (n:=.dest d') hd',one_neg (tne hd'),one_neg (sne hd')]
  omega
 ·have h1:=h.task z hz
  have dne:¬ (nd R (.dest d)=nd R (.task z)):=fun q=>by have:=hf.inj (n:=.dest d) (n':=.task z) hd hz q; cases this
  rw [hou (n:=.task z) hz,one_neg dne,h1]
  unfold updI
  by_cases e:z=y
  ·subst e
   rw [one_pos rfl,if_pos rfl,h0]
   omega
  ·have:¬ (nd R (.task y)=nd R (.task z)):=fun q=>by have:=hf.inj (n:=.task y) (n':=.task z) hy hz q; cases this; exact e rfl
   rw [one_neg this,if_neg e]
   omega
 ·have dne:¬ (nd R (.dest d)=nd R .sink):=fun q=>by have:=hf.inj (n:=.dest d) (n':=.sink) hd trivial q; cases this
  rw [hin (n:=.sink) trivial,one_neg dne,one_pos rfl,tot_upd hy h0,h.sink]
  omega
 ·have h1:=h.mach m hm
  rw [hou (n:=.dest (.mach m)) hm,one_neg (tne (d':=.mach m) hm),cm_upd hy h0]
  by_cases e:nd R (.dest d)=nd R (.dest (.mach m))
  ·have:=hf.inj (n:=.dest d) (n':=.dest (.mach m)) hd hm e
   cases this
   rcases hk with ⟨m',e',hon,_⟩ | ⟨j,e',_⟩
   ·cases e'
    rw [one_pos rfl,if_pos hon]
    omega
   ·cases e'
  ·rw [one_neg e]
   split <;> omega
 ·have h1:=h.job j hj
  rw [hou (n:=.dest (.job j)) hj,one_neg (tne (d':=.job j) hj),tot_upd hy h0]
  rcases one_two (nd R (.dest d)=nd R (.dest (.job j))) with q | q <;> rw [q] <;> omega
end
end
section
section
variable {R:RSt}
theorem sum_count (l:List Int)(a d:Int):∀ n,n≤l.length→sumN (fun y=>if l.getD y d=a then 1 else 0) n=((l.take n).count a:Int)
 | 0,_=>by simp [sumN]
 | n+1,h=>by
  show sumN _ n+(if l.getD n d=a then 1 else 0)=_
  rw [sum_count l a d n (by omega),List.take_succ_eq_append_getElem (by omega),List.count_append,List.count_singleton,getD_at (by omega)]
  by_cases e:l[n]=a
  ·rw [if_pos e,if_pos (by simpa using e)]
   omega
  ·rw [if_neg e,if_neg (by simpa using e)]
   omega
theorem cm_le (hf:Fit R){m:Nat}(hm:m<R.t1.length){o:Nat→Int}(ho:∀ y,0≤o y∧o y≤1):cmR R o m≤slR R m:=by
 have h1:cmR R o m≤sumN (fun y=>if R.on.getD y (-1)=(R.t1.getD m (0,0,0)).1 then 1 else 0) R.t3.length:=sumN_le (fun y _=>by
  have:=ho y
  split <;> omega)
 rw [← hf.lo,sum_count R.on _ _ _ (Jb _),List.take_length] at h1
 have h2:=hf.more.cap _ (Jl hm)
 unfold slR
 rw [getD_at hm] at h1 ⊢
 omega
theorem caps_nn (hf:Fits R):∀ i,i<(netR R).length→0≤(arcN R i).c:=fun i hi=>by
 have hA:=arcP_of hf (arcIs_of (arcN_mem hi))
 generalize arcN R i=a at hA
 have hsl:∀ k,k<R.t1.length→0≤slR R k:=fun k hk=>by
  have:=(hf.net.run.sl _ (Jl hk)).1
  unfold slR
  rw [getD_at hk]
  omega
 cases hA with
 | rack r hr=>show (0:Int)≤1000; omega
 | into k hk=>exact hsl k hk
 | sink k hk=>exact hsl k hk
 | job j hj=>show (0:Int)≤16; omega
 | leaf y hy d x hw=>show (0:Int)≤1; omega
theorem id_at {xs:List Th}{r j:Nat}(hr:r<xs.length)(e:xs[r].1=(j:Int)):(xs.getD r (0,0,0)).1.toNat=j:=by
 rw [getD_at hr,e,Jn]
theorem nd_surj (hs:Fit R){v:Nat}(hv:(v:Int)<2+(lensR R 3:Int)+((idsR R 3 100).length:Int)):∃ n,VN R n∧nd R n=(v:Int):=by
 by_cases h0:v=0
 ·exact ⟨.dest .clus,trivial,by subst h0; rfl⟩
 by_cases h1:v=1
 ·exact ⟨.sink,trivial,by subst h1; rfl⟩
 obtain ⟨p,hp⟩:∃ p:Nat,v=2+p:=⟨v - 2,by omega⟩
 have kind:∃ k q:Nat,k≤3∧p=lensR R k+q∧q<(tkR R k).length:=by
  have a3:=ids_all hs (show 3≤3 by omega)
  have e1:lensR R 1=0+(tkR R 0).length:=rfl
  have e2:lensR R 2=0+(tkR R 0).length+(tkR R 1).length:=rfl
  have e3:lensR R 3=0+(tkR R 0).length+(tkR R 1).length+(tkR R 2).length:=rfl
  by_cases q0:p<(tkR R 0).length
  ·exact ⟨0,p,by omega,by show p=0+p; omega,q0⟩
  by_cases q1:p<lensR R 2
  ·exact ⟨1,p - lensR R 1,by omega,by omega,by omega⟩
  by_cases q2:p<lensR R 3
  ·exact ⟨2,p - lensR R 2,by omega,by omega,by omega⟩
  ·exact ⟨3,p - lensR R 3,by omega,by omega,by omega⟩
 obtain ⟨k,q,hk,hpq,hq⟩:=kind
 have hq':q<(idsR R k 100).length:=by rw [ids_all hs hk]; exact hq
 obtain ⟨j,hj,ej,hpr⟩:=(ids_pairwise (R:=R) k 100).2 _ (Jl hq')
 have hlen:(idsR R k j).length=q:=by
  obtain ⟨l,e⟩:=ids_split hpr hj
  have hpw:=(ids_pairwise (R:=R) k 100).1
  obtain ⟨h3,h4⟩:=at_of_append e
  rcases Nat.lt_trichotomy (idsR R k j).length q with r | r | r
  ·have:=List.pairwise_iff_getElem.1 hpw _ _ h3 hq' r
   rw [h4,ej] at this
   omega
  ·exact r
  ·have:=List.pairwise_iff_getElem.1 hpw _ _ hq' h3 r
   rw [h4,ej] at this
   omega
 have hnode:nodeR R k j=(v:Int):=by
  unfold nodeR
  rw [hlen]
  omega
 obtain ⟨r,hr,er,eid⟩:=atOf_some (id:=(j:Int)) (xs:=tkR R k) hpr
 match k,hk,r,hr,er,eid,hnode with
 | 0,_,r,hr,er,eid,hnode=>exact ⟨.dest (.rack r),hr,by rw [← hnode]; exact congrArg (nodeR R 0) (id_at (xs:=R.t0) hr eid)⟩
 | 1,_,r,hr,er,eid,hnode=>exact ⟨.dest (.mach r),hr,by rw [← hnode]; exact congrArg (nodeR R 1) (id_at (xs:=R.t1) hr eid)⟩
 | 2,_,r,hr,er,eid,hnode=>exact ⟨.dest (.job r),hr,by rw [← hnode]; exact congrArg (nodeR R 2) (id_at (xs:=R.t2) hr eid)⟩
 | 3,_,r,hr,er,eid,hnode=>exact ⟨.task r,hr,by rw [← hnode]; exact congrArg (nodeR R 3) (id_at (xs:=R.t3) hr eid)⟩
theorem BegI.flow {F o:Nat→Int}(h:BegI R F o)(hs:Fit R)(hf:Fits R)(ho:∀ y,y<R.t3.length→o y=1){N:Nat}(hN:NetN R N):NetFlow R N F:=by
 refine ⟨h.caps,fun v hv=>?_,fun k id hk hid hp=>?_⟩
 ·obtain ⟨n,hn,e⟩:=nd_surj hs (v:=v) (by rw [← hN.eq]; omega)
  have ev:(nd R n).toNat=v:=by omega
  cases n with
  | sink =>
   have hv1:v=1:=by have:(1:Int)=(v:Int):=e; omega
   subst hv1
   have h1:=h.sink
   unfold inR at h1
   rw [ev] at h1
   have h2:out (arcN R) F 1 (netR R).length=0:=by
    have hz:∀ la,la≤(netR R).length→out (arcN R) F 1 la=0:=fun la=>by
     induction la with
     | zero=>intro _; rfl
     | succ n ih =>
      intro hla
      simp only [out,ih (by omega)]
      rw [if_neg (fun q=>?_)]
      ·rfl
      ·have hA:=arcP_of hf (arcIs_of (arcN_mem (show n<(netR R).length by omega)))
       have q':(arcN R n).f=nd R .sink:=q
       generalize arcN R n=a at hA q'
       cases hA with
       | rack r hr=>have:=hf.inj (n:=.dest .clus) (n':=.sink) trivial trivial q'; cases this
       | into k hk=>have:=hf.inj (n:=.dest (.rack _)) (n':=.sink) (node_rack hf hk).2 trivial q'; cases this
       | sink k hk=>have:=hf.inj (n:=.dest (.mach k)) (n':=.sink) hk trivial q'; cases this
       | job j hj=>have:=hf.inj (n:=.dest (.job j)) (n':=.sink) hj trivial q'; cases this
       | leaf y hy d x hw=>have:=hf.inj (n:=.task y) (n':=.sink) hy trivial q'; cases this
    exact hz _ (Jb _)
   have h3:totR R o=(R.t3.length:Int):=by
    unfold totR
    rw [sumN_congr (h:=fun _=>1) (fun i hi=>ho i hi)]
    have h3:∀ n,sumN (fun _=>1) n=(n:Int):=fun n=>by
     induction n with
     | zero=>rfl
     | succ n ih=>simp only [sumN,ih]; omega
    exact h3 _
   have hS:supN R 1=-(R.t3.length:Int):=by unfold supN updI; rw [if_pos rfl]
   rw [h1,h2,hS,h3]
   omega
  | dest d =>
   have h1:=h.dest d hn
   unfold inR ouR at h1
   rw [ev] at h1
   have h2:=hf.midN (n:=.dest d) hn (fun y q=>by cases q) (fun q=>by cases q)
   rw [ev] at h2
   omega
  | task y =>
   have h1:=h.task y hn
   unfold ouR at h1
   rw [ev,ho y hn] at h1
   have h2:=hf.taskN hn
   have h3:supN R v=1:=sup_task (by omega)
   have h4:inn (arcN R) F v (netR R).length=0:=inn_none (fun i hi e'=>by
    have:=to_low hf.net hf.ids (arcIs_of (arcN_mem hi))
    omega)
   rw [h1,h3,h4]
   omega
 ·have h4:=nodeR_in hp hid
  rw [hN.eq]
  by_cases q:k=3
  ·subst q
   have:=ids_lt hp hid
   unfold nodeR
   omega
  ·have:=lensR_mono (R:=R) (show k+1≤3 by omega)
   omega
end
end
section
open Go.RowKit
theorem ARow.at {b0:Nat}{w:World}{p:Option Addr}{n cp:Nat}{xs:List Ar}(h:ARow b0 w (.slice p n cp) xs){k:Nat}(hk:k<xs.length):∃ g,p=some ⟨g,0,none⟩∧g<w.heap.size∧w.cell? ⟨g,k*4,none⟩=some (.int .i64 xs[k].f)∧w.cell? ⟨g,k*4+1,none⟩=some (.int .i64 xs[k].t):=by
 rcases h.2 with ⟨_,e⟩ | ⟨g,cap,cur,e,_,hg,_,_,_,ht⟩
 ·omega
 ·cases e
  have key:∀ c,c<4→w.cell? ⟨g,k*4+c,none⟩=(cellsAr xs[k])[c]?:=fun c hc=>by
   rw [cellC hg]
   have h1:=flatMap_at (enc:=cellsAr) (size:=4) (fun _=>rfl) xs k c hk hc
   rw [← ht,List.getElem?_take_of_lt (by omega)] at h1
   simpa using h1
  have k0:=key 0 (by omega)
  have k1:=key 1 (by omega)
  exact ⟨g,rfl,(Ja.1 hg).1,k0,k1⟩
theorem NRow.at' {b0:Nat}{w:World}{p:Option Addr}{n cp:Nat}{xs:List Int}(h:NRow b0 w (.slice p n cp) xs){k:Nat}(hk:k<xs.length):∃ g,p=some ⟨g,0,none⟩∧g<w.heap.size∧w.cell? ⟨g,k,none⟩=some (.int .i64 xs[k])∧w.frozen? ⟨g,k,none⟩=false:=by
 rcases h.row.shape (fun _=>rfl) with ⟨_,e⟩ | ⟨g,cap,cur,e,_,hg,_,_,hc⟩
 ·rw [e] at hk; simp at hk
 ·cases e
  have:=hc k 0 hk (by decide)
  simp only [cellsI,Je,Nat.mul_one,Nat.add_zero] at this
  exact ⟨g,rfl,hg,this.1,this.2⟩
section
variable {B:Nat}{w:World}{cb mb:Nat}{c:Ch}
theorem owns_move {w w':World}{b0 e size n:Nat}{v:Value}{xs:List Value}(h:w.ownsRow b0 e size v n xs)(hb:∀ b,v.ownBlock=some b→w'.heap[b]?=w.heap[b]?):w'.ownsRow b0 e size v n xs:=by
 refine ⟨h.1,?_⟩
 rcases h.2 with h2 | ⟨g,cap,cur,hv,h0,hg,hr⟩
 ·exact Jr h2
 ·exact Js ⟨g,cap,cur,hv,h0,(hb g (by rw [hv]; rfl)).trans hg,hr⟩
theorem Chart.move {w':World}(h:Chart B w cb mb c)(hb:∀ b∈c.foot cb mb,w'.heap[b]?=w.heap[b]?):Chart B w' cb mb c:=by
 have hv:∀ {v:Value} {b:Nat},v∈[c.vs,c.va,c.vf,c.vt]→v.ownBlock=some b→w'.heap[b]?=w.heap[b]?:=fun hm e=>hb _ (Jk _ (Jk _ (List.mem_filterMap.2 ⟨_,hm,e⟩)))
 exact ⟨(hb cb Jp).trans h.cells,owns_move h.sup (fun b e=>hv (by simp) e),owns_move h.arcs (fun b e=>hv (by simp) e),owns_move h.flow (fun b e=>hv (by simp) e),owns_move h.things (fun b e=>hv (by simp) e),h.nodes.of_block (hb mb (Jk _ Jp)),h.apart,h.lb⟩
theorem Chart.setF (h:Chart B w cb mb c){g cp:Nat}(hv:c.vf=.slice (some ⟨g,0,none⟩) c.fl.length cp)(k:Nat)(x:Int):CPost B cb mb c { c with fl:=c.fl.set k x } w (w.setCell ⟨g,k,none⟩ (.int .i64 x)):=by
 have hg:=grown_setCell w ⟨g,k,none⟩ (.int .i64 x)
 have ho:c.vf.ownBlock=some g:=by rw [hv]; rfl
 have hrow:NRow B (w.setCell ⟨g,k,none⟩ (.int .i64 x)) c.vf (c.fl.set k x):=by
  have h1:=h.flow.row
  rw [hv] at h1
  have h2:=h1.setAt k x
  have h3:RowAt (w.setCell ⟨g,k,none⟩ (.int .i64 x)) 3 1 cellsI c.vf (c.fl.set k x):=by rw [hv]; simpa using h2
  exact NRow.of h3 h.flow.base
 have ne:∀ {v:Value},(v.ownBlock=none∨v.ownBlock≠c.vf.ownBlock)→v.ownBlock=none∨v.ownBlock≠some g:=fun q=>by rw [ho] at q; exact q
 refine ⟨⟨(hg.block _ h.lt (fun e=>h.nF.1 (by rw [ho]; exact e.symm))).trans h.cells,h.sup.kept hg (ne h.apart),h.arcs.kept hg (ne (apart_of h.eA h.eF (by decide))),hrow,h.things.kept hg (ne (apart_of h.eT h.eF (by decide))),h.nodes.grown hg (fun e=>h.nF.2 (by rw [ho]; exact e.symm)),h.apart,h.lb⟩,Only.of_grown' hg (fun b e=>?_),fun _ q=>Jr q⟩
 exact Jk _ (Jk _ (mem_chblocks.2 (Js (Js (Jr (by rw [ho]; exact e))))))
theorem step_any (h:Chart B w cb mb c)(f1 f2 least by':Int)(n j t:Nat)(hal:c.al.length=n)(hfl:c.fl.length=n)(hn:n≤100000)(hj:j<n)(hf:(c.al[j]'(by omega)).f=nodeT c.nm (f1,f2))(hle:least≤c.fl[j]'(by omega))(hno:∀ i,(hi:i<j)→¬ ((c.al[i]'(by omega)).f=nodeT c.nm (f1,f2)∧least≤c.fl[i]'(by omega)))(ht:(c.al[j]'(by omega)).t=(t:Int))(htl:t<c.ts.length)(hb:-1000≤by'∧by'≤1000)(hfb:-100000≤c.fl[j]'(by omega)∧c.fl[j]'(by omega)≤100000) :
  Calls Try.prog 48 #[.pointer (some ⟨cb,0,none⟩),.agg #[.int .i64 f1,.int .i64 f2],.int .i64 least,.int .i64 by'] w fun e w'=>e=.returned (tv c.ts[t])∧CPost B cb mb c { c with fl:=c.fl.set j ((c.fl[j]'(by omega))+by') } w w':=by
 obtain ⟨vs,va,vf,vt,N,sup,al,fl,nm,ts⟩:=c
 simp only at hal hfl hf hle hno ht htl hfb ⊢
 obtain ⟨pa,ca,hva⟩:∃ p q,va=.slice p n q:=by obtain ⟨p,q,e⟩:=h.arcs.sl; exact ⟨p,q,by rw [← hal]; exact e⟩
 obtain ⟨pf,cf,hvf⟩:∃ p q,vf=.slice p n q:=by obtain ⟨p,q,e⟩:=h.flow.sl; exact ⟨p,q,by rw [← hfl]; exact e⟩
 obtain ⟨pt,ct,hvt⟩:∃ p q,vt=.slice p ts.length q:=h.things.sl
 subst hva hvf hvt
 obtain ⟨nd',hnd⟩:∃ x,nodeT nm (f1,f2)=x:=⟨_,rfl⟩
 rw [hnd] at hf hno
 obtain ⟨W1,hW1⟩:∃ W1,(w.alloc (.cells #[.int .i64 f1,.int .i64 f2] 79)).alloc (.cells #[.int .i64 0,.int .i64 0] 79)=W1:=⟨_,rfl⟩
 have b1:Below w.heap.size w W1:=by rw [← hW1]; exact ((Jd _ _).alloc (Jb _) _).alloc (by simp) _
 obtain ⟨X1,X2,z1,z2⟩:=chBoxes (w:=w) (o1:=.cells #[.int .i64 f1,.int .i64 f2] 79) (o2:=.cells #[.int .i64 0,.int .i64 0] 79) (w2:=W1) (by rw [hW1]; exact Jd _ _)
 have H0:=hid (Jc h (Jc hW1 (Jc b1 (Jc X1 (Jc X2 (Jc hnd (Jc hno (Jc hf (Jc hle ht)))))))))
 clear h hW1 b1 X1 X2 hnd hno hf hle ht
 go_enter Try.func48,Try.ntmps48
 go_upto_region 1 with fail
 rw [H0.out.2.1]
 go_wp2_with fail
 go_loopg [9] n (fun gk iv wr=>∃ (i:Nat),i≤j∧j - i≤gk∧iv=.int .i64 i∧Hid (Below W1.heap.size W1 wr))
 case atStart=>exact ⟨0,Jq _,by omega,rfl,Jd _ _⟩
 case' round=>skip
 obtain ⟨i,hij,hgk,rfl,H1⟩:=hrel
 rename World=>Z
 have hZ:=(H0.out.1.keep H0.out.2.2.1).keep H1.out
 have hiA:i<al.length:=by omega
 have hiF:i<fl.length:=by omega
 have qa:ARow B Z (.slice pa n ca) al:=hZ.arcs
 have qf:NRow B Z (.slice pf n cf) fl:=hZ.flow
 obtain ⟨ga,rfl,hga,a0,a1⟩:=qa.at hiA
 obtain ⟨gf,rfl,hgf,f0,ff⟩:=qf.at' hiF
 have k1:Z.cell? ⟨cb,2,none⟩=some (.slice (some ⟨ga,0,none⟩) n ca):=hZ.c2
 have k2:Z.cell? ⟨cb,3,none⟩=some (.slice (some ⟨gf,0,none⟩) n cf):=hZ.c3
 have k3:Z.cell? ⟨cb,4,none⟩=some (.map (some mb)):=hZ.c4
 have kz:cb<Z.heap.size:=hZ.lt
 have Y1:Z.heap[w.heap.size]?=some (.cells #[.int .i64 f1,.int .i64 f2] 79):=(H1.out.block _ z1).trans H0.out.2.2.2.1
 have x0:=cellC Y1 0
 have x1:=cellC Y1 1
 simp only [Jg,Jf,Je] at x0 x1
 have xz:w.heap.size<Z.heap.size:=(Ja.1 Y1).1
 have l1:∀ q,(Instr.lookup 64 (.map (some mb)) (.agg #[.int .i64 f1,.int .i64 f2]) false).run Try.prog (Z.drewN q)=.ok (.int .i64 nd') (Z.drewN q):=fun q=>by rw [← H0.out.2.2.2.2.2.1]; exact look2 (MapAt.of_block (w':=Z.drewN q) hZ.nodes rfl) (f1,f2)
 have hiI:(i:Int)<(n:Int):=by omega
 obtain ⟨av,hav⟩:∃ x,al[i].f=x:=⟨_,rfl⟩
 obtain ⟨fv',hfv⟩:∃ x,fl[i]=x:=⟨_,rfl⟩
 rw [hav] at a0
 rw [hfv] at f0
 have HZ:=hid (Jc hZ (Jc hav hfv))
 clear hZ qa qf hav hfv Y1
 by_cases e1:av=nd'
 ·have d1:(av != nd')=false:=by simp [e1]
  by_cases e2:fv'<least
  ·have d2:decide (fv'<least)=true:=by simpa using e2
   have hlt:i<j:=by
    rcases Nat.lt_or_ge i j with q | q
    ·exact q
    ·obtain rfl:i=j:=by omega
     have:=H0.out.2.2.2.2.2.2.2.2.1
     rw [HZ.out.2.2] at this
     omega
   go_wp2_with fail
   go_quiet (fail)
   go_wp2_with fail
   go_roundg (j - (i+1))
   case measure=>omega
   case rel=>exact ⟨i+1,by omega,Jb _,by go_num,below_drawnR H1.out⟩
  ·have d2:decide (fv'<least)=false:=by simpa using e2
   have hji:i=j:=by
    rcases Nat.lt_or_ge i j with q | q
    ·exact absurd ⟨by rw [HZ.out.2.1,e1],by rw [HZ.out.2.2]; omega⟩ (H0.out.2.2.2.2.2.2.1 i q)
    ·omega
   subst hji
   have hfb':-100000≤fv'∧fv'≤100000:=by have:=hfb; rw [HZ.out.2.2] at this; exact this
   go_wp2_with fail
   go_quiet (fail)
   go_upto_region 4 with fail
   go_cut [9] (fun v wx=>v=.int .i64 i∧Hid (CPost B cb mb ⟨vs,.slice (some ⟨ga,0,none⟩) n ca,.slice (some ⟨gf,0,none⟩) n cf,.slice pt ts.length ct,N,sup,al,fl,nm,ts⟩ ⟨vs,.slice (some ⟨ga,0,none⟩) n ca,.slice (some ⟨gf,0,none⟩) n cf,.slice pt ts.length ct,N,sup,al,fl.set i (fv'+by'),nm,ts⟩ w wx∧wx.heap[w.heap.size+1]?=some (.cells #[.int .i64 0,.int .i64 0] 79)))
   case first =>
    go_wp2_with fail
    go_meet
    refine ⟨rfl,?_,?_⟩
    ·exact (((CPost.refl H0.out.1).behind H0.out.2.2.1).behind (below_drawnR H1.out)).trans (Chart.setF ((H0.out.1.keep H0.out.2.2.1).keep (below_drawnR H1.out)) (by show Value.slice _ n cf=.slice _ fl.length cf; rw [hfl]) i (fv'+by'))
    ·have hgl:gf<w.heap.size:=H0.out.1.flow.lt gf rfl
     refine ((grown_setCell _ _ _).block _ ?_ (fun e=>by simp at e; omega)).trans (((below_drawnR H1.out).block _ z2).trans H0.out.2.2.2.2.1)
     exact Jm z2 H1.out.size
   case rest =>
    obtain ⟨rfl,H2⟩:=hcut
    have hC:=H2.out.1.1
    have X2:=H2.out.2
    have qa:ARow B wc (.slice (some ⟨ga,0,none⟩) n ca) al:=hC.arcs
    have qt:TRow B wc (.slice pt ts.length ct) ts:=hC.things
    obtain ⟨ga',ea,hga',a0',a1'⟩:=qa.at hiA
    cases ea
    obtain ⟨gt,rfl,hgt,t0,t1⟩:=qt.cells htl
    rw [H0.out.2.2.2.2.2.2.2.2.2] at a1'
    have r1:wc.cell? ⟨cb,2,none⟩=some (.slice (some ⟨ga,0,none⟩) n ca):=hC.c2
    have r2:wc.cell? ⟨cb,5,none⟩=some (.slice (some ⟨gt,0,none⟩) ts.length ct):=hC.c5
    have rz:cb<wc.heap.size:=hC.lt
    have s0:=cellC X2 0
    have s1:=cellC X2 1
    simp only [Jg,Jf,Je] at s0 s1
    have s2:=frozenC X2 0
    have s3:=frozenC X2 1
    have sz:w.heap.size+1<wc.heap.size:=(Ja.1 X2).1
    have htI:(t:Int)<(ts.length:Int):=by omega
    obtain ⟨t1',t2',htt⟩:∃ a b,ts[t]=(a,b):=⟨_,_,rfl⟩
    rw [htt] at t0 t1
    have H3:=hid (Jc htt HZ.out.2.2)
    clear hC X2 qa qt htt k1 k2 k3 l1 a0 a1 f0 ff x0 x1
    go_upto_region 5 with fail
    go_region
    go_wp2_with fail
    obtain ⟨Zf,hZf⟩:∃ Zf,((wc.setCell ⟨w.heap.size+1,0,none⟩ (.int .i64 t1')).setCell ⟨w.heap.size+1,1,none⟩ (.int .i64 t2')).drew=Zf:=⟨_,rfl⟩
    rw [hZf]
    have g1:=grown_setCell wc ⟨w.heap.size+1,0,none⟩ (.int .i64 t1')
    have g2:=grown_setCell (wc.setCell ⟨w.heap.size+1,0,none⟩ (.int .i64 t1')) ⟨w.heap.size+1,1,none⟩ (.int .i64 t2')
    have Xf:Zf.heap[w.heap.size+1]?=some (.cells #[.int .i64 t1',.int .i64 t2'] 79):=by
     rw [← hZf]
     exact heap_setCell (heap_setCell H2.out.2 0 (.int .i64 t1')) 1 (.int .i64 t2')
    have zf0:=cellC Xf 0
    have zf1:=cellC Xf 1
    simp only [Jg,Jf,Je] at zf0 zf1
    have hmv:∀ b,b<w.heap.size+1→b<wc.heap.size→Zf.heap[b]?=wc.heap[b]?:=fun b hlt hlt2=>by
     rw [← hZf]
     exact (g2.block b (by simpa using hlt2) (fun e=>by simp at e; omega)).trans (g1.block b hlt2 (fun e=>by simp at e; omega))
    have hO:Only [w.heap.size+1] wc Zf:=by
     rw [← hZf]
     exact ((Only.of_grown' g1 (fun b e=>by cases e; simp)).trans (Only.of_grown' g2 (fun b e=>by cases e; simp))).drew
    refine bodyPost_ret (v:=.agg #[.int .i64 t1',.int .i64 t2']) (by simp [results,Try.f48,go_sem,zf0,zf1]) rfl ⟨by rw [H3.out.1]; rfl,?_⟩
    rw [H3.out.2]
    refine ⟨H2.out.1.1.move (fun b hm=>?_),H2.out.1.2.1.chain hO (fun b hm=>Js (by simp at hm; omega)),H2.out.1.2.2⟩
    have hm':b∈(Ch.mk vs (.slice (some ⟨ga,0,none⟩) n ca) (.slice (some ⟨gf,0,none⟩) n cf) (.slice (some ⟨gt,0,none⟩) ts.length ct) N sup al fl nm ts).foot cb mb:=hm
    have h1:=(H0.out.1.foots b hm').2
    exact hmv b (by omega) (Jm h1 H2.out.1.2.1.size)
 ·have d1:(av != nd')=true:=by simp [e1]
  have hlt:i<j:=by
   rcases Nat.lt_or_ge i j with q | q
   ·exact q
   ·obtain rfl:i=j:=by omega
    have:=H0.out.2.2.2.2.2.2.2.1
    rw [HZ.out.2.1] at this
    exact absurd this e1
  go_wp2_with fail
  go_quiet (fail)
  go_wp2_with fail
  go_roundg (j - (i+1))
  case measure=>omega
  case rel=>exact ⟨i+1,by omega,Jb _,by go_num,below_drawnR H1.out⟩
end
end
section
open Go.RowKit
structure StepOk (c:Ch)(a:Int×Int)(least by':Int)(j t:Nat):Prop where
 hal:c.al.length=c.fl.length
 hn:c.fl.length≤100000
 hj:j<c.fl.length
 hf:(c.al.getD j ⟨0,0,0,0⟩).f=nodeT c.nm a
 hle:least≤c.fl.getD j 0
 hno:∀ i,i<j→¬ ((c.al.getD i ⟨0,0,0,0⟩).f=nodeT c.nm a∧least≤c.fl.getD i 0)
 ht:(c.al.getD j ⟨0,0,0,0⟩).t=(t:Int)
 htl:t<c.ts.length
 hb:-1000≤by'∧by'≤1000
 hfb:-100000≤c.fl.getD j 0∧c.fl.getD j 0≤100000
def stepped (c:Ch)(by':Int)(j:Nat):Ch:={ c with fl:=c.fl.set j (c.fl.getD j 0+by') }
section
variable {B:Nat}{w:World}{cb mb:Nat}{c:Ch}
theorem step_ok (h:Chart B w cb mb c){a:Int×Int}{least by':Int}{j t:Nat}(hs:StepOk c a least by' j t) :
  Calls Try.prog 48 #[.pointer (some ⟨cb,0,none⟩),.agg #[.int .i64 a.1,.int .i64 a.2],.int .i64 least,.int .i64 by'] w fun e w'=>e=.returned (.agg #[.int .i64 (c.ts.getD t (0,0)).1,.int .i64 (c.ts.getD t (0,0)).2])∧CPost B cb mb c (stepped c by' j) w w':=by
 have hja:j<c.al.length:=by rw [hs.hal]; exact hs.hj
 have e1:c.al.getD j ⟨0,0,0,0⟩=c.al[j]:=getD_at hja _
 have e2:c.fl.getD j 0=c.fl[j]'hs.hj:=getD_at hs.hj _
 have e3:c.ts.getD t (0,0)=c.ts[t]'hs.htl:=getD_at hs.htl _
 have h1:=step_any h a.1 a.2 least by' c.fl.length j t hs.hal rfl hs.hn hs.hj (by rw [← e1]; exact hs.hf) (by rw [← e2]; exact hs.hle) (fun i hi=>by
  have:=hs.hno i hi
  rw [getD_at (show i<c.al.length by rw [hs.hal]; have:=hs.hj; omega),getD_at (show i<c.fl.length by have:=hs.hj; omega)] at this
  exact this) (by rw [← e1]; exact hs.ht) hs.htl hs.hb (by rw [← e2]; exact hs.hfb)
 refine h1.mono ?_
 rintro e w' ⟨he,hp⟩
 unfold stepped
 rw [e2,e3]
 exact ⟨he,hp⟩
end
theorem CPost.side {B:Nat}{w Z Z':World}{cb mb b:Nat}{c c1:Ch}(P:CPost B cb mb c c1 w Z)(hO:Only [b] Z Z')(hb:w.heap.size≤b)(hoff:b∉c1.foot cb mb):CPost B cb mb c c1 w Z' :=
 ⟨P.1.move (fun x hm=>hO.block x (P.1.foots x hm).2 (fun q=>hoff (by rw [List.mem_singleton.1 q] at hm; exact hm))),P.2.1.chain hO (fun x hm=>Js (by rw [List.mem_singleton.1 hm]; exact hb)),P.2.2⟩
inductive Path (stop:Int→Bool)(least by':Int):(Int×Int)→Ch→(Int×Int)→Ch→Nat→Prop where
 | done {a:Int×Int} {c:Ch} (h:stop a.1=true):Path stop least by' a c a c 0
 | more {a a':Int×Int} {c c':Ch} {j t m:Nat} (h:stop a.1=false) (hs:StepOk c a least by' j t) (hp:Path stop least by' (c.ts.getD t (0,0)) (stepped c by' j) a' c' m):Path stop least by' a c a' c' (m+1)
section
variable {B:Nat}{w:World}{cb mb:Nat}{c c':Ch}
theorem begin_path (h:Chart B w cb mb c)(a a':Int×Int)(m:Nat)(hp:Path (fun k=>decide (k=5)) 0 1 a c a' c' m) :
  Calls Try.prog 41 #[.pointer (some ⟨cb,0,none⟩),.agg #[.int .i64 a.1,.int .i64 a.2]] w fun e w'=>e=.returned (.tuple #[])∧CPost B cb mb c c' w w':=by
 obtain ⟨a1,a2⟩:=a
 obtain ⟨W1,hW1⟩:∃ W1,(w.alloc (.cells #[.int .i64 a1,.int .i64 a2] 79)).alloc (.cells #[.int .i64 a1,.int .i64 a2] 79)=W1:=⟨_,rfl⟩
 have b1:Below w.heap.size w W1:=by rw [← hW1]; exact ((Jd _ _).alloc (Jb _) _).alloc (by simp) _
 obtain ⟨X1,X2,z1,z2⟩:=chBoxes (w:=w) (o1:=.cells #[.int .i64 a1,.int .i64 a2] 79) (o2:=.cells #[.int .i64 a1,.int .i64 a2] 79) (w2:=W1) (by rw [hW1]; exact Jd _ _)
 have H0:=hid (Jc h (Jc hW1 (Jc b1 (Jc X2 hp))))
 have hlt:=h.lt
 clear h hW1 b1 X1 X2 hp
 go_enter Try.func41,Try.ntmps41
 go_upto_region 2 with fail
 go_loopg [4] m (fun gk pv wr=>∃ (bx k:Nat) (y:Int×Int) (c1:Ch),pv=.pointer (some ⟨bx,0,none⟩)∧k≤gk∧w.heap.size≤bx∧Hid (wr.heap[bx]?=some (.cells #[.int .i64 y.1,.int .i64 y.2] 79)∧bx∉c1.foot cb mb∧CPost B cb mb c c1 w wr∧Path (fun k=>decide (k=5)) 0 1 y c1 a' c' k))
 case atStart=>exact ⟨w.heap.size+1,m,(a1,a2),c,rfl,Jb _,by omega,by rw [← H0.out.2.1] at H0; exact ⟨H0.out.2.2.2.1,fun q=>by have:=(H0.out.1.foots _ q).2; omega,(CPost.refl H0.out.1).behind H0.out.2.2.1,H0.out.2.2.2.2⟩⟩
 case' round=>skip
 obtain ⟨bx,k,⟨y1,y2⟩,c1,rfl,hk,hbw,H1⟩:=hrel
 rename World=>Z
 obtain ⟨Y,hoff,hC,hP⟩:=H1.out
 have r0:=cellC Y 0
 have r1:=cellC Y 1
 simp only [Jg,Jf,Je] at r0 r1
 have rz:bx<Z.heap.size:=(Ja.1 Y).1
 cases hP with
 | done hst =>
  have e5:y1=5:=by simpa using hst
  subst e5
  have H2:=hid hC
  clear hC Y H1 hst hoff
  go_wp2_with fail
  go_end0
  exact ⟨rfl,H2.out⟩
 | more hst hs hp2 =>
  rename_i j t m'
  have e5:¬ y1=5:=by simpa using hst
  have d5:(y1 != 5)=true:=by simpa using e5
  have A1:=hid (step_ok hC.1 hs)
  obtain ⟨n1,n2,hn⟩:∃ n1 n2,c1.ts.getD t (0,0)=(n1,n2):=⟨_,_,rfl⟩
  rw [hn] at A1 hp2
  have H2:=hid (Jc Y (Jc hoff (Jc hC hp2)))
  clear Y hoff hC hp2 hs H1 hst e5
  go_wp2_with (first
   | (go_at_call 48; refine A1.out.mono ?_; rintro e Z2 ⟨rfl,hC2⟩; have Y2:Z2.heap[bx]?=some (.cells #[.int .i64 y1,.int .i64 y2] 79):=(hC2.2.1.block _ rz H2.out.2.1).trans H2.out.1; have s0:=cellC Y2 0; have s1:=cellC Y2 1; simp only [Jg,Jf,Je] at s0 s1; have s2:=frozenC Y2 0; have s3:=frozenC Y2 1; have s4:bx<Z2.heap.size:=(Ja.1 Y2).1)
   | fail)
  have g1:=grown_setCell Z2 ⟨bx,0,none⟩ (.int .i64 n1)
  have g2:=grown_setCell (Z2.setCell ⟨bx,0,none⟩ (.int .i64 n1)) ⟨bx,1,none⟩ (.int .i64 n2)
  have hO:Only [bx] Z2 ((Z2.setCell ⟨bx,0,none⟩ (.int .i64 n1)).setCell ⟨bx,1,none⟩ (.int .i64 n2)):=(Only.of_grown' g1 (fun b e=>by cases e; simp)).trans (Only.of_grown' g2 (fun b e=>by cases e; simp))
  have hC3:=(H2.out.2.2.1.trans hC2).side hO hbw H2.out.2.1
  have hC4:=hC3.behind (W:=_) (w':=((Z2.setCell ⟨bx,0,none⟩ (.int .i64 n1)).setCell ⟨bx,1,none⟩ (.int .i64 n2)).alloc (.cells #[.int .i64 n1,.int .i64 n2] 79)) ((Jd _ _).alloc (Jb _) _)
  have hsz:((Z2.setCell ⟨bx,0,none⟩ (.int .i64 n1)).setCell ⟨bx,1,none⟩ (.int .i64 n2)).heap.size=Z2.heap.size:=by simp
  have hnew:=heap_alloc_new ((Z2.setCell ⟨bx,0,none⟩ (.int .i64 n1)).setCell ⟨bx,1,none⟩ (.int .i64 n2)) (.cells #[.int .i64 n1,.int .i64 n2] 79)
  rw [hsz] at hnew
  have hZw:w.heap.size≤Z2.heap.size:=(H2.out.2.2.1.trans hC2).2.1.size
  have hoff2:Z2.heap.size∉(stepped c1 1 j).foot cb mb:=fun q=>by
   have:=(hC3.1.foots _ q).2
   omega
  have H3:=hid (Jc hnew (Jc hoff2 (Jc hC4 H2.out.2.2.2)))
  clear hC3 hC4 hnew hoff2 g1 g2 hO hC2
  go_roundg m'
  case measure=>omega
  case rel=>exact ⟨Z2.heap.size,m',(n1,n2),stepped c1 1 j,rfl,Jb _,hZw,H3.out⟩
theorem chBoxes3 {w w2:World}{o1 o2 o3:Obj}(h:((w.alloc o1).alloc o2).alloc o3=w2):w2.heap[w.heap.size+1]?=some o2∧w2.heap[w.heap.size+2]?=some o3∧w.heap.size+2<w2.heap.size∧Below w.heap.size w w2:=by
 subst h
 have hz:((w.alloc o1).alloc o2).heap.size=w.heap.size+2:=by simp
 have hz1:(w.alloc o1).heap.size=w.heap.size+1:=by simp
 have hb:Below ((w.alloc o1).alloc o2).heap.size ((w.alloc o1).alloc o2) (((w.alloc o1).alloc o2).alloc o3):=(Jd _ _).alloc (Jb _) _
 refine ⟨?_,?_,by simp,((((Jd _ _).alloc (Jb _) _).alloc (by simp) _).alloc (by simp; omega) _)⟩
 ·rw [hb.block _ (by omega),← hz1]
  exact heap_alloc_new (w.alloc o1) o2
 ·rw [← hz]
  exact heap_alloc_new ((w.alloc o1).alloc o2) o3
theorem place_path (h:Chart B w cb mb c)(a a':Int×Int)(m:Nat)(hp:Path (fun k=>decide (k=1∨k=2)) 1 (-1) a c a' c' m) :
  Calls Try.prog 28 #[.pointer (some ⟨cb,0,none⟩),.agg #[.int .i64 a.1,.int .i64 a.2]] w fun e w'=>e=.returned (.agg #[.int .i64 a'.1,.int .i64 a'.2])∧CPost B cb mb c c' w w':=by
 obtain ⟨a1,a2⟩:=a
 obtain ⟨W1,hW1⟩:∃ W1,((w.alloc (.cells #[.int .i64 a1,.int .i64 a2] 79)).alloc (.cells #[.int .i64 0,.int .i64 0] 79)).alloc (.cells #[.int .i64 a1,.int .i64 a2] 79)=W1:=⟨_,rfl⟩
 obtain ⟨X2,X3,z3,b1⟩:=chBoxes3 hW1
 have H0:=hid (Jc h (Jc hW1 (Jc b1 (Jc X2 (Jc X3 hp)))))
 have hlt:=h.lt
 clear h hW1 b1 X2 X3 hp
 go_enter Try.func28,Try.ntmps28
 go_upto_region 2 with fail
 go_loopg [17] m (fun gk _ wr=>∃ (k:Nat) (y:Int×Int) (c1:Ch),k≤gk∧Hid (wr.heap[w.heap.size+2]?=some (.cells #[.int .i64 y.1,.int .i64 y.2] 79)∧wr.heap[w.heap.size+1]?=some (.cells #[.int .i64 0,.int .i64 0] 79)∧(w.heap.size+2∉c1.foot cb mb∧w.heap.size+1∉c1.foot cb mb)∧CPost B cb mb c c1 w wr∧Path (fun k=>decide (k=1∨k=2)) 1 (-1) y c1 a' c' k))
 case atStart=>exact ⟨m,(a1,a2),c,Jb _,by rw [← H0.out.2.1] at H0; exact ⟨H0.out.2.2.2.2.1,H0.out.2.2.2.1,⟨fun q=>by have:=(H0.out.1.foots _ q).2; omega,fun q=>by have:=(H0.out.1.foots _ q).2; omega⟩,(CPost.refl H0.out.1).behind H0.out.2.2.1,H0.out.2.2.2.2.2⟩⟩
 case' round=>skip
 obtain ⟨k,⟨y1,y2⟩,c1,hk,H1⟩:=hrel
 rename World=>Z
 obtain ⟨Y,X,hoff,hC,hP⟩:=H1.out
 have r0:=cellC Y 0
 have r1:=cellC Y 1
 simp only [Jg,Jf,Je] at r0 r1
 have rz:w.heap.size+2<Z.heap.size:=(Ja.1 Y).1
 cases hP with
 | done hst =>
  have e5:y1=1∨y1=2:=by simpa using hst
  have x0:=cellC X 0
  have x1:=cellC X 1
  simp only [Jg,Jf,Je] at x0 x1
  have x2:=frozenC X 0
  have x3:=frozenC X 1
  have xz:w.heap.size+1<Z.heap.size:=(Ja.1 X).1
  have H2:=hid (Jc hC (Jc X hoff))
  have fin:∀ Zf,((Z.setCell ⟨w.heap.size+1,0,none⟩ (.int .i64 y1)).setCell ⟨w.heap.size+1,1,none⟩ (.int .i64 y2))=Zf→Zf.cell? ⟨w.heap.size+1,0,none⟩=some (.int .i64 y1)∧Zf.cell? ⟨w.heap.size+1,1,none⟩=some (.int .i64 y2)∧CPost B cb mb c c' w Zf:=fun Zf hZf=>by
   have g1:=grown_setCell Z ⟨w.heap.size+1,0,none⟩ (.int .i64 y1)
   have g2:=grown_setCell (Z.setCell ⟨w.heap.size+1,0,none⟩ (.int .i64 y1)) ⟨w.heap.size+1,1,none⟩ (.int .i64 y2)
   have hO:Only [w.heap.size+1] Z Zf:=by rw [← hZf]; exact (Only.of_grown' g1 (fun b e=>by cases e; simp)).trans (Only.of_grown' g2 (fun b e=>by cases e; simp))
   have Xf:Zf.heap[w.heap.size+1]?=some (.cells #[.int .i64 y1,.int .i64 y2] 79):=by rw [← hZf]; exact heap_setCell (heap_setCell H2.out.2.1 0 (.int .i64 y1)) 1 (.int .i64 y2)
   exact ⟨by rw [cellC Xf]; rfl,by rw [cellC Xf]; rfl,H2.out.1.side hO (by omega) H2.out.2.2.2⟩
  have HF:=hid fin
  clear hC Y X H1 hst hoff fin
  rcases e5 with rfl | rfl
  ·go_wp2_with fail
   obtain ⟨Zf,hZf⟩:∃ Zf,((Z.setCell ⟨w.heap.size+1,0,none⟩ (.int .i64 1)).setCell ⟨w.heap.size+1,1,none⟩ (.int .i64 y2))=Zf:=⟨_,rfl⟩
   obtain ⟨f0,f1,f2⟩:=HF.out Zf hZf
   rw [hZf]
   exact bodyPost_ret (v:=.agg #[.int .i64 1,.int .i64 y2]) (by simp [results,Try.f28,go_sem,f0,f1]) rfl ⟨rfl,f2⟩
  ·go_wp2_with fail
   obtain ⟨Zf,hZf⟩:∃ Zf,((Z.setCell ⟨w.heap.size+1,0,none⟩ (.int .i64 2)).setCell ⟨w.heap.size+1,1,none⟩ (.int .i64 y2))=Zf:=⟨_,rfl⟩
   obtain ⟨f0,f1,f2⟩:=HF.out Zf hZf
   rw [hZf]
   exact bodyPost_ret (v:=.agg #[.int .i64 2,.int .i64 y2]) (by simp [results,Try.f28,go_sem,f0,f1]) rfl ⟨rfl,f2⟩
 | more hst hs hp2 =>
  rename_i j t m'
  have e5:¬ y1=1∧¬ y1=2:=by simpa using hst
  have d1:(y1 != 1)=true:=by simpa using e5.1
  have d2:(y1 != 2)=true:=by simpa using e5.2
  have A1:=hid (step_ok hC.1 hs)
  obtain ⟨n1,n2,hn⟩:∃ n1 n2,c1.ts.getD t (0,0)=(n1,n2):=⟨_,_,rfl⟩
  rw [hn] at A1 hp2
  have H2:=hid (Jc Y (Jc X (Jc hoff (Jc hC hp2))))
  have xz:w.heap.size+1<Z.heap.size:=(Ja.1 X).1
  clear Y X hoff hC hp2 hs H1 hst e5
  go_wp2_with (first
   | (go_at_call 48; refine A1.out.mono ?_; rintro e Z2 ⟨rfl,hC2⟩; have Y2:Z2.heap[w.heap.size+2]?=some (.cells #[.int .i64 y1,.int .i64 y2] 79):=(hC2.2.1.block _ rz H2.out.2.2.1.1).trans H2.out.1; have s0:=cellC Y2 0; have s1:=cellC Y2 1; simp only [Jg,Jf,Je] at s0 s1; have s2:=frozenC Y2 0; have s3:=frozenC Y2 1; have s4:w.heap.size+2<Z2.heap.size:=(Ja.1 Y2).1)
   | fail)
  have X2:Z2.heap[w.heap.size+1]?=some (.cells #[.int .i64 0,.int .i64 0] 79):=(hC2.2.1.block _ xz H2.out.2.2.1.2).trans H2.out.2.1
  have g1:=grown_setCell Z2 ⟨w.heap.size+2,0,none⟩ (.int .i64 n1)
  have g2:=grown_setCell (Z2.setCell ⟨w.heap.size+2,0,none⟩ (.int .i64 n1)) ⟨w.heap.size+2,1,none⟩ (.int .i64 n2)
  have hO:Only [w.heap.size+2] Z2 ((Z2.setCell ⟨w.heap.size+2,0,none⟩ (.int .i64 n1)).setCell ⟨w.heap.size+2,1,none⟩ (.int .i64 n2)):=(Only.of_grown' g1 (fun b e=>by cases e; simp)).trans (Only.of_grown' g2 (fun b e=>by cases e; simp))
  have hC3:=(H2.out.2.2.2.1.trans hC2).side hO (by omega) H2.out.2.2.1.1
  have hX3:=(hO.block (w.heap.size+1) (by omega) (by simp)).trans X2
  have hY3:((Z2.setCell ⟨w.heap.size+2,0,none⟩ (.int .i64 n1)).setCell ⟨w.heap.size+2,1,none⟩ (.int .i64 n2)).heap[w.heap.size+2]?=some (.cells #[.int .i64 n1,.int .i64 n2] 79):=heap_setCell (heap_setCell Y2 0 (.int .i64 n1)) 1 (.int .i64 n2)
  have H3:=hid (Jc hY3 (Jc hX3 (Jc H2.out.2.2.1 (Jc hC3 H2.out.2.2.2.2))))
  clear hC3 hX3 hY3 g1 g2 hO hC2 X2 Y2
  go_roundg m'
  case measure=>omega
  case rel=>exact ⟨m',(n1,n2),stepped c1 (-1) j,Jb _,H3.out⟩
end
end
section
section
variable {R:RSt}
def roomsR (R:RSt):List Ar:=rackA R (idsR R 0 100) ++ machL R (idsR R 1 100) ++ jobA R (idsR R 2 100)
theorem net_split (R:RSt)(n:Nat):netR R=(roomsR R ++ taskL R ((idsR R 3 100).take n)) ++ taskL R ((idsR R 3 100).drop n):=by
 unfold netR roomsR
 rw [List.append_assoc _ (taskL R _) (taskL R _)]
 congr 1
 unfold taskL
 rw [← List.flatMap_append,List.take_append_drop]
theorem pre_at {n i:Nat}(hi:i<(roomsR R ++ taskL R ((idsR R 3 100).take n)).length):(roomsR R ++ taskL R ((idsR R 3 100).take n)).getD i ⟨0,0,0,0⟩=arcN R i∧i<(netR R).length:=by
 have e:=net_split R n
 refine ⟨?_,by rw [e,Jo]; omega⟩
 unfold arcN
 rw [e,List.getD_eq_getElem?_getD,List.getD_eq_getElem?_getD,List.getElem?_append_left hi]
theorem first_ex {p:Nat→Prop} [DecidablePred p]:∀ {n:Nat},(∃ i,i<n∧p i)→∃ j,j<n∧p j∧∀ i,i<j→¬ p i
 | 0,h=>by obtain ⟨i,hi,_⟩:=h; omega
 | n+1,h=>by
  by_cases q:∃ i,i<n∧p i
  ·obtain ⟨j,hj,h1,h2⟩:=first_ex q
   exact ⟨j,by omega,h1,h2⟩
  ·obtain ⟨i,hi,hp⟩:=h
   have:i=n:=by
    rcases Nat.lt_or_ge i n with r | r
    ·exact absurd ⟨i,r,hp⟩ q
    ·omega
   subst this
   exact ⟨i,by omega,hp,fun k hk hpk=>q ⟨k,hk,hpk⟩⟩
theorem set_bump (l:List Int){j:Nat}(hj:j<l.length)(b:Int):(fun i=>(l.set j (l.getD j 0+b)).getD i 0)=bump (fun i=>l.getD i 0) j b:=by
 funext i
 unfold bump
 rw [List.getD_eq_getElem?_getD,List.getElem?_set]
 by_cases e:j=i
 ·subst e
  rw [if_pos rfl,if_pos rfl,if_pos hj]
  rfl
 ·rw [if_neg e,if_neg (fun q=>e q.symm)]
  show l[i]?.getD 0=l.getD i 0
  rw [List.getD_eq_getElem?_getD]
theorem caps_le (hf:Fits R):∀ i,i<(netR R).length→(arcN R i).c≤1000:=fun i hi=>by
 have hA:=arcP_of hf (arcIs_of (arcN_mem hi))
 generalize arcN R i=a at hA
 have hsl:∀ k,k<R.t1.length→slR R k≤1000:=fun k hk=>by
  have:=(hf.net.run.sl _ (Jl hk)).2
  unfold slR
  rw [getD_at hk]
  omega
 cases hA with
 | rack r hr=>show (1000:Int)≤1000; omega
 | into k hk=>exact hsl k hk
 | sink k hk=>exact hsl k hk
 | job j hj=>show (16:Int)≤1000; omega
 | leaf y hy d x hw=>show (1:Int)≤1000; omega
theorem ts_at (hf:Fit R){k id:Nat}(hk:k≤3)(hi:id<100)(hp:Pres R k id):(nodeR R k id).toNat<(tsR R).length∧(tsR R).getD (nodeR R k id).toNat (0,0)=((k:Int),(id:Int)):=by
 obtain ⟨l,e⟩:=ids_split hp hi
 obtain ⟨l',e'⟩:=preR_pre (R:=R) (show k+1≤4 by omega)
 have e2:tsR R=(preR R k ++ (idsR R k id).map (fun i=>((k:Int),i))) ++ ((k:Int),(id:Int)) :: (l.map (fun i=>((k:Int),i)) ++ l'):=by
  unfold tsR
  rw [e']
  show (preR R k ++ thR R k) ++ l'=_
  unfold thR
  rw [e]
  simp
 obtain ⟨h1,h2⟩:=at_of_append e2
 have h4:(preR R k ++ (idsR R k id).map (fun i=>((k:Int),i))).length=(nodeR R k id).toNat:=by
  rw [Jo,Jv,preR_length hf (by omega)]
  unfold nodeR
  omega
 rw [← h4]
 exact ⟨h1,by rw [getD_at h1]; exact h2⟩
theorem ts_sink (R:RSt):1<(tsR R).length∧(tsR R).getD 1 (0,0)=(5,0):=by
 obtain ⟨l,e⟩:=preR_pre (R:=R) (show 0≤4 by omega)
 obtain ⟨h1,h2⟩:=at_of_append (l:=tsR R) (a:=[(4,0)]) (x:=(5,0)) (b:=l) (by unfold tsR; rw [e]; rfl)
 have h1':1<(tsR R).length:=h1
 exact ⟨h1',by rw [getD_at h1']; exact h2⟩
theorem ahead_no (hf:Fits R){n id:Nat}(hn:n<(idsR R 3 100).length)(hid:(idsR R 3 100)[n]=(id:Int))(hi:id<100)(hp:Pres R 3 id):∀ a∈roomsR R ++ taskL R ((idsR R 3 100).take n),a.f≠nodeR R 3 id:=fun a ha e=>by
 have hnd:=nodeR_in hp hi
 rcases List.mem_append.1 ha with ha | ha
 ·have hnet:a∈netR R:=by rw [net_split R n]; exact Ju _ (Ju _ ha)
  have h3:∀ {k id':Nat},k≤2→id'<100→Pres R k id'→a.f≠nodeR R k id':=fun hk hi' hp' q=>by
   have:=(nodeR_inj hp' hi' hp hi (q.symm.trans e)).1
   omega
  unfold roomsR at ha
  rcases List.mem_append.1 ha with ha | ha
  ·rcases List.mem_append.1 ha with ha | ha
   ·unfold rackA at ha
    obtain ⟨x,_,rfl⟩:=List.mem_map.1 ha
    have:(0:Int)=nodeR R 3 id:=e
    omega
   ·unfold machL at ha
    obtain ⟨x,hx,ha⟩:=List.mem_flatMap.1 ha
    obtain ⟨j,hj,rfl,hpj⟩:=(ids_pairwise (R:=R) 1 100).2 x hx
    obtain ⟨k,hk,e1,e2⟩:=atOf_some (id:=(j:Int)) (xs:=R.t1) hpj
    unfold machA at ha
    rw [e1,Jn,Jn] at ha
    rcases List.mem_cons.1 ha with rfl | ha
    ·obtain ⟨r,hr,hr1,hr2⟩:=hf.node.rack k hk
     exact h3 (k:=0) (by omega) hr1 hr2 (by show nodeR R 0 _=_; rw [getD_at hk,hr,Jn])
    ·rw [List.mem_singleton.1 ha] at h3
     exact h3 (k:=1) (by omega) hj hpj rfl
  ·unfold jobA at ha
   obtain ⟨x,hx,rfl⟩:=List.mem_map.1 ha
   obtain ⟨j,hj,rfl,hpj⟩:=(ids_pairwise (R:=R) 2 100).2 x hx
   exact h3 (k:=2) (by omega) hj hpj (by simp)
 ·unfold taskL at ha
  obtain ⟨x,hx,ha⟩:=List.mem_flatMap.1 ha
  obtain ⟨m,hm,rfl⟩:=List.mem_iff_getElem.1 hx
  have hmn:m<n:=by rw [List.length_take] at hm; omega
  rw [List.getElem_take] at ha
  have hml:m<(idsR R 3 100).length:=by omega
  obtain ⟨j,hj,ej,hpj⟩:=(ids_pairwise (R:=R) 3 100).2 _ (Jl hml)
  rw [ej,Jn] at ha
  obtain ⟨y,hy,e1,e2⟩:=atOf_some (id:=(j:Int)) (xs:=R.t3) hpj
  rw [e1,Jn] at ha
  have h4:=(leaf_way hf.net hy e2 ha).1
  have h5:=(nodeR_inj hpj hj hp hi (h4.symm.trans e)).2
  have h6:=List.pairwise_iff_getElem.1 (ids_pairwise (R:=R) 3 100).1 m n hml hn hmn
  rw [ej,hid] at h6
  omega
theorem beg_path {l0:Things}{l1:Runs}{l2:Waits}{l3:Prefs}(hs:Sim l0 l1 l2 l3 R){n id y:Nat}(hn:n<(idsR R 3 100).length)(hid:(idsR R 3 100)[n]=(id:Int))(hi:id<100)(hp:Pres R 3 id)(hy:y<R.t3.length)(ey:R.t3[y].1=(id:Int)){c:Ch}(hal:c.al=roomsR R ++ taskL R ((idsR R 3 100).take (n+1)))(hfl:c.fl.length=c.al.length)(hnm:c.nm=nmR R)(hts:c.ts=tsR R)
  {o:Nat→Int} (hB:BegI R (fun i=>c.fl.getD i 0) o) (h0:o y=0) (hz:∀ i,(roomsR R ++ taskL R ((idsR R 3 100).take n)).length≤i→c.fl.getD i 0=0) :
  ∃ fl',Path (fun k=>decide (k=5)) 0 1 (3,(id:Int)) c (5,0) { c with fl:=fl' } 2∧fl'.length=c.fl.length∧BegI R (fun i=>fl'.getD i 0) (updI o y 1)∧∀ i,c.fl.length≤i→fl'.getD i 0=0:=by
 have hf:=hs.fits
 have hft:=hs.fit
 have hio:y<R.on.length:=by rw [hft.lo]; exact hy
 obtain ⟨L0,hL0⟩:∃ L0,roomsR R ++ taskL R ((idsR R 3 100).take n)=L0:=⟨_,rfl⟩
 have hat:atOf (id:Int) R.t3=y:=by rw [← ey]; exact atOf_mem hft.nd3 hy
 have hsp:c.al=L0 ++ leafR R y id:=by
  rw [hal,← hL0,List.take_succ_eq_append_getElem hn,hid]
  unfold taskL
  rw [List.flatMap_append]
  simp [hat]
 have hAt:∀ i,i<c.al.length→c.al.getD i ⟨0,0,0,0⟩=arcN R i∧i<(netR R).length:=fun i hi'=>by
  rw [hal] at hi' ⊢
  exact pre_at hi'
 have hahead:=ahead_no hf hn hid hi hp
 rw [hL0] at hahead hz
 have hbnd:∀ i,i<c.al.length→0≤c.fl.getD i 0∧c.fl.getD i 0≤1000:=fun i hi'=>by
  obtain ⟨_,h1⟩:=hAt i hi'
  have h2:=hB.caps i h1
  have h3:=caps_le hf i h1
  exact ⟨h2.1,by have:c.fl.getD i 0≤(arcN R i).c:=h2.2; omega⟩
 have hlen:c.fl.length≤100000:=by
  rw [hfl]
  have h1:=(net_split R (n+1))
  have h2:c.al.length≤(netR R).length:=by rw [h1,← hal,Jo]; omega
  have h3:(netR R).length≤50000:=by
   unfold netR
   rw [Jo,Jo,Jo,machL_len]
   unfold rackA jobA
   rw [Jv,Jv]
   have h4:=taskL_len R (idsR R 3 100)
   have:=ids_length R 0 100
   have:=ids_length R 1 100
   have:=ids_length R 2 100
   have:=ids_length R 3 100
   omega
  omega
 have hhead:∃ (d:Dest) (k id':Nat) (a:Ar) (l:List Ar),leafR R y id=a :: l∧VD R d∧k≤2∧id'<100∧Pres R k id'∧nd R (.dest d)=nodeR R k id'∧a.t=nodeR R k id'∧((∃ m,d=.mach m∧k=1∧R.on.getD y (-1)=(R.t1.getD m (0,0,0)).1)∨∃ j,d=.job j∧k=2):=by
  rcases hs.runs.onf _ (Jl hio) with e | ⟨ym,hym,e⟩
  ·obtain ⟨j,hj,ej⟩:=hf.net.run.job y hy
   obtain ⟨jb,h1,h2,h3⟩:=hf.node.job y hy
   have hj2:R.t2[j].1=(jb:Int):=by
    obtain ⟨x,hx,e3,e4⟩:=atOf_some (id:=R.t3[y].2.1) (xs:=R.t2) (by omega)
    have:x=j:=by omega
    subst this
    rw [e4,h1]
   refine ⟨.job j,2,jb,leafJob R y (nodeR R 3 id),leafUp R (nodeR R 3 id) id (moreR (R.on.getD y (-1))) 2 ++ [leafAny R y (nodeR R 3 id) (moreR (R.on.getD y (-1)))],?_,hj,by omega,h2,h3,?_,?_,Js ⟨j,rfl,rfl⟩⟩
   ·unfold leafR leafRun
    rw [getD_at hio,e,if_neg (by omega)]
    simp
   ·show nodeR R 2 _=_
    rw [id_at hj hj2]
   ·show nodeR R 2 _=_
    rw [getD_at hy,h1,Jn]
  ·obtain ⟨m,hm,rfl⟩:=List.mem_iff_getElem.1 hym
   have hr:=hft.id1 _ (Jl hm)
   obtain ⟨mid,hmid⟩:∃ mid:Nat,R.t1[m].1=(mid:Int):=⟨R.t1[m].1.toNat,by omega⟩
   have hpm:Pres R 1 mid:=by
    show 0≤atOf (mid:Int) R.t1
    rw [← hmid,atOf_mem hft.nd1 hm]
    omega
   refine ⟨.mach m,1,mid,⟨nodeR R 3 id,nodeR R 1 mid,1,cR R y (atOf (mid:Int) R.t1).toNat⟩,[leafJob R y (nodeR R 3 id)] ++ leafUp R (nodeR R 3 id) id (moreR (R.on.getD y (-1))) 2 ++ [leafAny R y (nodeR R 3 id) (moreR (R.on.getD y (-1)))],?_,hm,by omega,by omega,hpm,?_,rfl,Jr ⟨m,rfl,rfl,?_⟩⟩
   ·unfold leafR leafRun
    rw [getD_at hio,← e,hmid,if_pos (by omega),Jn]
    simp
   ·show nodeR R 1 _=_
    rw [id_at hm hmid]
   ·rw [getD_at hio,getD_at hm,e]
 obtain ⟨d,k,id',a,l,hlf,hd,hk,hid',hpr,hnd,hta,hkind⟩:=hhead
 have hj1:L0.length<c.al.length:=by rw [hsp,hlf]; simp
 have ha1:c.al.getD L0.length ⟨0,0,0,0⟩=a:=by
  rw [hsp,hlf,List.getD_eq_getElem?_getD,List.getElem?_append_right (Jb _)]
  simp
 obtain ⟨eA1,hA1⟩:=hAt _ hj1
 rw [ha1] at eA1
 have hamem:a∈leafR R y id:=by rw [hlf]; exact Jp
 obtain ⟨haf,hac,_⟩:=leaf_way hf.net hy ey hamem
 have etask:nd R (.task y)=nodeR R 3 id:=by
  show nodeR R 3 _=_
  rw [id_at hy ey]
 have hex:∃ i,i<c.al.length∧(c.al.getD i ⟨0,0,0,0⟩).f=nodeR R k id'∧0≤(c.fl.set L0.length (c.fl.getD L0.length 0+1)).getD i 0:=by
  have hroom:∃ b∈roomsR R,b.f=nodeR R k id':=by
   unfold roomsR
   rcases hkind with ⟨m,_,rfl,_⟩ | ⟨j,_,rfl⟩
   ·refine ⟨⟨nodeR R 1 id',1,(R.t1.getD (atOf (id':Int) R.t1).toNat (0,0,0)).2.2,0⟩,Ju _ (Jt _ ?_),rfl⟩
    unfold machL machA
    refine List.mem_flatMap.2 ⟨(id':Int),mem_ids hid' hpr,?_⟩
    rw [Jn]
    simp
   ·refine ⟨⟨nodeR R 2 id',1,16,0⟩,Jt _ ?_,rfl⟩
    unfold jobA
    exact List.mem_map.2 ⟨(id':Int),mem_ids hid' hpr,by rw [Jn]⟩
  obtain ⟨b,hb,hbf⟩:=hroom
  have hb':b∈c.al:=by rw [hal]; exact Ju _ hb
  obtain ⟨i,hi',eb⟩:=List.mem_iff_getElem.1 hb'
  refine ⟨i,hi',by rw [getD_at hi',eb]; exact hbf,?_⟩
  have h2:=congrFun (set_bump c.fl (show L0.length<c.fl.length by omega) 1) i
  have h2':(c.fl.set L0.length (c.fl.getD L0.length 0+1)).getD i 0=bump (fun i=>c.fl.getD i 0) L0.length 1 i:=h2
  rw [h2']
  have hb:=hbnd i hi'
  show (0:Int)≤if i=L0.length then c.fl.getD i 0+1 else c.fl.getD i 0
  split <;> omega
 obtain ⟨j2,hj2,⟨hf2,hg2⟩,hno2⟩:=first_ex (p:=fun i=>(c.al.getD i ⟨0,0,0,0⟩).f=nodeR R k id'∧0≤(c.fl.set L0.length (c.fl.getD L0.length 0+1)).getD i 0) hex
 obtain ⟨eA2,hA2⟩:=hAt _ hj2
 have hfl1:L0.length<c.fl.length:=by omega
 have hj2f:j2<(c.fl.set L0.length (c.fl.getD L0.length 0+1)).length:=by rw [List.length_set]; omega
 have h2f:(arcN R j2).f=nd R (.dest d):=by rw [← eA2,hf2,hnd]
 have hto:(arcN R j2).t=nd R .sink∧((∃ m,d=.mach m∧R.on.getD y (-1)=(R.t1.getD m (0,0,0)).1∧(arcN R j2).c=slR R m)∨(∃ j,d=.job j∧(arcN R j2).c=16)):=by
  have hA:=arcP_of hf (arcIs_of (arcN_mem hA2))
  generalize arcN R j2=b at hA h2f
  rcases hkind with ⟨m,rfl,_,hon⟩ | ⟨j,rfl,_⟩
  ·cases hA with
   | rack r hr=>have:=hf.inj (n:=.dest .clus) (n':=.dest (.mach m)) trivial hd h2f; cases this
   | into k' hk'=>have:=hf.inj (n:=.dest (.rack _)) (n':=.dest (.mach m)) (node_rack hf hk').2 hd h2f; cases this
   | sink k' hk' =>
    have:=hf.inj (n:=.dest (.mach k')) (n':=.dest (.mach m)) hk' hd h2f
    cases this
    exact ⟨rfl,Jr ⟨m,rfl,hon,rfl⟩⟩
   | job j hj=>have:=hf.inj (n:=.dest (.job j)) (n':=.dest (.mach m)) hj hd h2f; cases this
   | leaf y' hy' d' x hw=>have:=hf.inj (n:=.task y') (n':=.dest (.mach m)) hy' hd h2f; cases this
  ·cases hA with
   | rack r hr=>have:=hf.inj (n:=.dest .clus) (n':=.dest (.job j)) trivial hd h2f; cases this
   | into k' hk'=>have:=hf.inj (n:=.dest (.rack _)) (n':=.dest (.job j)) (node_rack hf hk').2 hd h2f; cases this
   | sink k' hk'=>have:=hf.inj (n:=.dest (.mach k')) (n':=.dest (.job j)) hk' hd h2f; cases this
   | job j' hj' =>
    have:=hf.inj (n:=.dest (.job j')) (n':=.dest (.job j)) hj' hd h2f
    cases this
    exact ⟨rfl,Js ⟨j,rfl,rfl⟩⟩
   | leaf y' hy' d' x hw=>have:=hf.inj (n:=.task y') (n':=.dest (.job j)) hy' hd h2f; cases this
 obtain ⟨ht1,ht2⟩:=ts_at hft (show k≤3 by omega) hid' hpr
 have hnr:=nodeR_in hpr hid'
 have S1:StepOk c (3,(id:Int)) 0 1 L0.length (nodeR R k id').toNat:=by
  refine ⟨hfl.symm,hlen,hfl1,?_,(hbnd _ hj1).1,fun i hi' q=>?_,?_,by rw [hts]; exact ht1,by omega,by have:=hbnd _ hj1; omega⟩
  ·rw [ha1,haf,hnm,← node_R hft (by omega) hi hp]
   rfl
  ·have hia:i<c.al.length:=by omega
   have h3:c.al.getD i ⟨0,0,0,0⟩∈L0:=by
    rw [hsp,List.getD_eq_getElem?_getD,List.getElem?_append_left hi',List.getElem?_eq_getElem hi']
    exact Jl hi'
   refine hahead _ h3 ?_
   rw [q.1,hnm,← node_R hft (by omega) hi hp]
   rfl
  ·rw [ha1,hta]
   omega
 have S2:StepOk (stepped c 1 L0.length) ((k:Int),(id':Int)) 0 1 j2 1:=by
  have hfs:∀ i,i<c.al.length→0≤(c.fl.set L0.length (c.fl.getD L0.length 0+1)).getD i 0∧(c.fl.set L0.length (c.fl.getD L0.length 0+1)).getD i 0≤1001:=fun i hi'=>by
   have h2':(c.fl.set L0.length (c.fl.getD L0.length 0+1)).getD i 0=bump (fun i=>c.fl.getD i 0) L0.length 1 i:=congrFun (set_bump c.fl hfl1 1) i
   rw [h2']
   have hb:=hbnd i hi'
   show (0:Int)≤(if i=L0.length then c.fl.getD i 0+1 else c.fl.getD i 0)∧(if i=L0.length then c.fl.getD i 0+1 else c.fl.getD i 0)≤1001
   split <;> omega
  refine ⟨?_,?_,?_,?_,hg2,fun i hi' q=>?_,?_,?_,by omega,?_⟩
  ·show c.al.length=(c.fl.set _ _).length
   rw [List.length_set]; exact hfl.symm
  ·show (c.fl.set _ _).length≤_
   rw [List.length_set]; exact hlen
  ·exact hj2f
  ·show (c.al.getD j2 ⟨0,0,0,0⟩).f=nodeT c.nm _
   rw [hf2,hnm,node_R hft (by omega) hid' hpr]
  ·refine hno2 i hi' ⟨?_,q.2⟩
   have q1:(c.al.getD i ⟨0,0,0,0⟩).f=nodeT c.nm ((k:Int),(id':Int)):=q.1
   rw [q1,hnm,node_R hft (by omega) hid' hpr]
  ·show (c.al.getD j2 ⟨0,0,0,0⟩).t=_
   rw [eA2,hto.1]
   rfl
  ·show 1<c.ts.length
   rw [hts]; exact (ts_sink R).1
  ·have:=hfs j2 hj2
   show -100000≤(c.fl.set _ _).getD j2 0∧(c.fl.set _ _).getD j2 0≤_
   omega
 refine ⟨(stepped (stepped c 1 L0.length) 1 j2).fl,Path.more ?_ S1 ?_,?_,?_,fun i hi'=>?_⟩
 ·rfl
 ·have e1:c.ts.getD (nodeR R k id').toNat (0,0)=((k:Int),(id':Int)):=by rw [hts]; exact ht2
  rw [e1]
  refine Path.more ?_ S2 ?_
  ·show decide ((k:Int)=5)=false
   simp
   omega
  ·have e2:(stepped c 1 L0.length).ts.getD 1 (0,0)=(5,0):=by show c.ts.getD 1 (0,0)=_; rw [hts]; exact (ts_sink R).2
   rw [e2]
   exact Path.done rfl
 ·show ((c.fl.set _ _).set _ _).length=_
  rw [List.length_set,List.length_set]
 ·have e1:(fun i=>(stepped (stepped c 1 L0.length) 1 j2).fl.getD i 0)=bump (bump (fun i=>c.fl.getD i 0) L0.length 1) j2 1:=by
   show (fun i=>((c.fl.set L0.length (c.fl.getD L0.length 0+1)).set j2 ((c.fl.set L0.length (c.fl.getD L0.length 0+1)).getD j2 0+1)).getD i 0)=_
   rw [set_bump _ hj2f,set_bump _ hfl1]
  rw [e1]
  exact hB.more hf (fun m hm o' ho'=>cm_le hft hm ho') hy h0 hd hA1 hA2 (by rw [← eA1,haf,etask]) (by rw [← eA1,hta,hnd]) (by rw [← eA1]; exact hac) (hz _ (Jb _)) h2f hto.1 hto.2
 ·show ((c.fl.set _ _).set _ _).getD i 0=0
  rw [List.getD_eq_getElem?_getD,List.getElem?_eq_none (by rw [List.length_set,List.length_set]; exact hi')]
  rfl
end
end
section
inductive BegR (R:RSt):Nat→List Int→Prop where
 | start:BegR R 0 (List.replicate (roomsR R).length 0)
 | next {k n:Nat} {fl:List Int} {c c':Ch} {a:Int×Int} {m:Nat} (h:BegR R k fl) (hk:k<(idsR R 3 100).length) (hal:c.al=roomsR R ++ taskL R ((idsR R 3 100).take (k+1))) (hfl:c.fl=fl ++ List.replicate n 0) (hlen:c.fl.length=c.al.length) (hnm:c.nm=nmR R) (hts:c.ts=tsR R) (hp:Path (fun k=>decide (k=5)) 0 1 (3,(idsR R 3 100)[k]) c a c' m):BegR R (k+1) c'.fl
inductive PlcR (R:RSt)(fl0:List Int):Nat→List Int→(Nat→Nat)→Prop where
 | start:PlcR R fl0 0 fl0 (fun _=>R.t1.length+1)
 | next {k:Nat} {fl:List Int} {P:Nat→Nat} {c c':Ch} {a:Int×Int} {m y p:Nat} (h:PlcR R fl0 k fl P) (hk:k<(idsR R 3 100).length) (hal:c.al=netR R) (hfl:c.fl=fl) (hnm:c.nm=nmR R) (hts:c.ts=tsR R) (hy:y<R.t3.length) (ey:R.t3[y].1=(idsR R 3 100)[k]) (hp:Path (fun k=>decide (k=1∨k=2)) 1 (-1) (3,(idsR R 3 100)[k]) c a c' m) (ha:(p<R.t1.length∧a=(1,(R.t1.getD p (0,0,0)).1))∨(p=R.t1.length∧a.1=2)):PlcR R fl0 (k+1) c'.fl (updN P y p)
def SolR (R:RSt)(P:Nat→Nat):Prop:=∃ fl0 fl fl',BegR R (idsR R 3 100).length fl0∧LeastR (arcN R) (netR R).length (fun i=>fl0.getD i 0) (fun i=>fl.getD i 0)∧fl.length=(netR R).length∧PlcR R fl (idsR R 3 100).length fl' P
end
end Go.Proofs.Ytjdindfjfpdikab
