import Derived.Deep.LoopGhost
import Derived.Test.YtjdindfjfpdikabB12
import Derived.Test.YtjdindfjfpdikabB13
import Derived.Test.YtjdindfjfpdikabB14
import Derived.Test.YtjdindfjfpdikabB20
import Derived.Test.YtjdindfjfpdikabPre
set_option maxRecDepth 100000
set_option maxHeartbeats 8000000
namespace Go.Proofs.Ytjdindfjfpdikab
section
open Go.RowKit
def onF (R:RSt)(P:Nat→Nat)(i j:Nat):Int:=if j<i then onId R P j else R.on.getD j (-1)
def wtF (R:RSt)(P:Nat→Nat)(i j:Nat):Int:=if j<i∧(0≤onId R P j∨0≤R.on.getD j (-1)) then 0 else R.wt.getD j 0
def Rn (R:RSt)(P:Nat→Nat)(i:Nat):RSt:={ R with on:=intL R.t3.length (onF R P i),wt:=intL R.t3.length (wtF R P i) }
end
section
open Go.RowKit
def nodesR (R:RSt):Nat:=(nodeR R 3 100).toNat
theorem nodesR_eq (R:RSt):nodeR R 3 100=(nodesR R:Int)∧2≤nodesR R:=by
 unfold nodesR nodeR
 omega
end
section
section
variable {R:RSt}
structure Came (R:RSt)(F:Nat→Int)(y:Nat)(d:Dest)(x:Int)(p:Nat):Prop where
 way:wayR R y d x
 arc:∃ i,i<(netR R).length∧arcN R i=⟨nd R (.task y),nd R (.dest d),1,x⟩∧1≤F i
 le:p≤R.t1.length
 onM:p<R.t1.length→d=.mach p∨(d=.rack (rkR R p)∨d=.clus∧∃ i,i<(netR R).length∧arcN R i=⟨nd R (.dest .clus),nd R (.dest (.rack (rkR R p))),1000,0⟩∧1≤F i)∧∃ i,i<(netR R).length∧arcN R i=⟨nd R (.dest (.rack (rkR R p))),nd R (.dest (.mach p)),slR R p,0⟩∧1≤F i
 onN:p=R.t1.length→∃ j,d=.job j
def prcR (R:RSt)(C:Nat→Int):Prc:=⟨C 1,C 0,fun r=>C (nd R (.dest (.rack r))).toNat,fun k=>C (nd R (.dest (.mach k))).toNat,fun j=>C (nd R (.dest (.job j))).toNat,fun y=>C (nd R (.task y)).toNat⟩
theorem prcR_at (C:Nat→Int)(d:Dest):(prcR R C).at d=C (nd R (.dest d)).toNat:=by cases d <;> rfl
structure NetN (R:RSt)(N:Nat):Prop where
 eq:(N:Int)=2+(lensR R 3:Int)+((idsR R 3 100).length:Int)
theorem Fits.low {N:Nat}(h:Fits R)(hN:NetN R N){n:Nd}(hv:VN R n):nd R n<(N:Int):=by
 have hm:=lensR_mono (R:=R) (show 0≤3 by omega)
 rcases h.code hv with (rfl | rfl) | ⟨k,id,h1,h2,e,h3⟩
 ·show (1:Int)<_; rw [hN.eq]; omega
 ·show (0:Int)<_; rw [hN.eq]; omega
 ·rw [e,hN.eq]
  have h4:=nodeR_in h2 h1
  have hk:k≤3:=by rcases h3 with ⟨q,_⟩ | ⟨q,_⟩ | ⟨q,_⟩ | ⟨q,_⟩ <;> omega
  by_cases q:k=3
  ·subst q
   have:=ids_lt h2 h1
   unfold nodeR
   omega
  ·have:=lensR_mono (R:=R) (show k+1≤3 by omega)
   omega
theorem Fits.taskN (h:Fits R){y:Nat}(hy:y<R.t3.length):2+(lensR R 3:Int)≤nd R (.task y)∧nd R (.task y)<2+(lensR R 3:Int)+((idsR R 3 100).length:Int):=by
 rcases h.code (n:=.task y) hy with (q | q) | ⟨k,id,h1,h2,e,h3⟩
 ·cases q
 ·cases q
 ·have hk:k=3:=by rcases h3 with ⟨q,r,q',_⟩ | ⟨q,r,q',_⟩ | ⟨q,r,q',_⟩ | ⟨q,_⟩ <;> first | (cases q'; done) | exact q
  subst hk
  have:=ids_lt h2 h1
  rw [e]
  unfold nodeR
  omega
theorem Fits.midN (h:Fits R){n:Nd}(hv:VN R n)(ht:∀ y,n≠.task y)(hs:n≠.sink):supN R (nd R n).toNat=0:=by
 rcases h.code hv with (rfl | rfl) | ⟨k,id,h1,h2,e,h3⟩
 ·exact absurd rfl hs
 ·exact sup_zero (Jq _)
 ·have h4:=nodeR_in h2 h1
  have hk:k+1≤3:=by rcases h3 with ⟨q,_⟩ | ⟨q,_⟩ | ⟨q,_⟩ | ⟨q,r,q',_⟩ <;> first | omega | exact absurd q' (ht r)
  have:=lensR_mono (R:=R) hk
  rw [e]
  exact sup_low (by omega) (by omega)
section
variable {N:Nat}{F C:Nat→Int}
theorem NetFlow.mid (h:NetFlow R N F)(hf:Fits R)(hN:NetN R N){n:Nd}(hv:VN R n)(ht:∀ y,n≠.task y)(hs:n≠.sink):inR R F n=ouR R F n:=by
 have h1:=hf.low hN hv
 have h2:=(hf.two hv).1
 have:=h.bal (nd R n).toNat (by omega)
 rw [hf.midN hv ht hs] at this
 unfold inR ouR
 omega
theorem NetFlow.one (h:NetFlow R N F)(hf:Fits R)(hN:NetN R N){y:Nat}(hy:y<R.t3.length):ouR R F (.task y)=1:=by
 have h1:=hf.low hN (n:=.task y) hy
 have h2:=hf.taskN hy
 exact h.task hf.net hf.ids (v:=(nd R (.task y)).toNat) (by omega) (by omega)
theorem arc_in (hf:Fits R){i:Nat}{a:Ar}{n:Nd}(hv:VN R n)(e:arcN R i=a)(ht:a.t=nd R n):(arcN R i).t=((nd R n).toNat:Int):=by
 have:=(hf.two hv).1
 rw [e,ht]; omega
theorem arc_out (hf:Fits R){i:Nat}{a:Ar}{n:Nd}(hv:VN R n)(e:arcN R i=a)(ht:a.f=nd R n):(arcN R i).f=((nd R n).toNat:Int):=by
 have:=(hf.two hv).1
 rw [e,ht]; omega
theorem NetFlow.two (h:NetFlow R N F)(hf:Fits R){k:Nat}(hk:k<R.t1.length) :
  ∃ i0 i1,(i0<(netR R).length∧arcN R i0=⟨nd R (.dest (.mach k)),nd R .sink,slR R k,0⟩)∧(i1<(netR R).length∧arcN R i1=⟨nd R (.dest (.rack (rkR R k))),nd R (.dest (.mach k)),slR R k,0⟩) ∧
   inR R F (.dest (.mach k))=F i0∧F i0≤slR R k∧F i1≤F i0:=by
 obtain ⟨id,e,h1,h2⟩:=id_of hk hf.net.run.id1 (hf.net.run.at1 k hk)
 have en:nd R (.dest (.mach k))=nodeR R 1 id:=by show nodeR R 1 _=_; rw [e,Jn]
 obtain ⟨i0,i1,a0,a1,q1,q2,q3⟩:=h.mach hf.node hf.net h1 (by show 0≤atOf (id:Int) R.t1; omega) h2
 rw [(node_rack hf hk).1] at a1
 refine ⟨i0,i1,?_,?_,?_,q2,q3⟩
 ·rw [en]; exact a0
 ·rw [en]; exact a1
 ·unfold inR; rw [en]; exact q1
variable {g:Nat→Int}{P:Nat→Nat}{o:Nat→Int}
theorem Left.dry (L:Left R F g P o .sink)(hf:Fits R)(ho:∀ y,y<R.t3.length→o y=0){k:Nat}(hk:k<R.t1.length):inR R g (.dest (.mach k))=0:=by
 have e':∀ d,VD R d→¬ (nd R .sink=nd R (.dest d)):=fun d hd q=>by have:=hf.inj (n:=.sink) (n':=.dest d) trivial hd q; cases this
 have gnn:∀ i,i<(netR R).length→0≤g i:=fun i hi=>(L.nn i hi).1
 have leafz:∀ i,i<(netR R).length→∀ y,y<R.t3.length→(arcN R i).f=nd R (.task y)→g i=0:=fun i hi y hy e=>by
  have h1:=out_one (A:=arcN R) (F:=g) (v:=(nd R (.task y)).toNat) (i:=i) gnn hi (by have:=(hf.two (n:=.task y) hy).1; rw [e]; omega)
  have h2:=L.task y hy
  rw [ho y hy] at h2
  unfold ouR at h2
  have:=gnn i hi
  omega
 have into:∀ {n:Nd} {i:Nat},VN R n→(arcN R i).t=((nd R n).toNat:Int)→(arcN R i).t=nd R n:=fun {n i} hv e=>by have:=(hf.two hv).1; omega
 have c0:inR R g (.dest .clus)=0:=inn_zero (fun i hi e=>by
  have e:=into (n:=.dest .clus) trivial e
  have hA:=arcP_of hf (arcIs_of (arcN_mem hi))
  generalize hq:arcN R i=a at hA e
  cases hA with
  | rack r hr=>have:=hf.inj (n:=.dest (.rack r)) (n':=.dest .clus) hr trivial e; cases this
  | into k hk=>have:=hf.inj (n:=.dest (.mach k)) (n':=.dest .clus) hk trivial e; cases this
  | sink k hk=>have:=hf.inj (n:=.sink) (n':=.dest .clus) trivial trivial e; cases this
  | job j hj=>have:=hf.inj (n:=.sink) (n':=.dest .clus) trivial trivial e; cases this
  | leaf y hy d x hw=>exact leafz i hi y hy (by rw [hq]))
 have cz:∀ i,i<(netR R).length→(arcN R i).f=nd R (.dest .clus)→g i=0:=fun i hi e=>by
  have h1:=out_one (A:=arcN R) (F:=g) (v:=(nd R (.dest .clus)).toNat) (i:=i) gnn hi (by have:=(hf.two (n:=.dest .clus) trivial).1; rw [e]; omega)
  have h2:=L.clus
  rw [one_neg (e' .clus trivial),c0] at h2
  unfold ouR at h2
  have:=gnn i hi
  omega
 have rz:∀ r,r<R.t0.length→∀ i,i<(netR R).length→(arcN R i).f=nd R (.dest (.rack r))→g i=0:=fun r hr i hi e=>by
  have h0:inR R g (.dest (.rack r))=0:=inn_zero (fun j hj ej=>by
   have ej:=into (n:=.dest (.rack r)) hr ej
   have hA:=arcP_of hf (arcIs_of (arcN_mem hj))
   generalize hq:arcN R j=a at hA ej
   cases hA with
   | rack r hr=>exact cz j hj (by rw [hq])
   | into k hk=>have:=hf.inj (n:=.dest (.mach k)) (n':=.dest (.rack r)) hk hr ej; cases this
   | sink k hk=>have:=hf.inj (n:=.sink) (n':=.dest (.rack r)) trivial hr ej; cases this
   | job j' hj'=>have:=hf.inj (n:=.sink) (n':=.dest (.rack r)) trivial hr ej; cases this
   | leaf y hy d x hw=>exact leafz j hj y hy (by rw [hq]))
  have h1:=out_one (A:=arcN R) (F:=g) (v:=(nd R (.dest (.rack r))).toNat) (i:=i) gnn hi (by have:=(hf.two (n:=.dest (.rack r)) hr).1; rw [e]; omega)
  have h2:=L.rack r hr
  rw [one_neg (e' (.rack r) hr),h0] at h2
  unfold ouR at h2
  have:=gnn i hi
  omega
 refine inn_zero (fun i hi e=>?_)
 have e:=into (n:=.dest (.mach k)) hk e
 have hA:=arcP_of hf (arcIs_of (arcN_mem hi))
 generalize hq:arcN R i=a at hA e
 cases hA with
 | rack r hr=>have:=hf.inj (n:=.dest (.rack r)) (n':=.dest (.mach k)) hr hk e; cases this
 | into k' hk'=>exact rz _ (node_rack hf hk').2 i hi (by rw [hq])
 | sink k' hk'=>have:=hf.inj (n:=.sink) (n':=.dest (.mach k)) trivial hk e; cases this
 | job j' hj'=>have:=hf.inj (n:=.sink) (n':=.dest (.mach k)) trivial hk e; cases this
 | leaf y hy d x hw=>exact leafz i hi y hy (by rw [hq])
theorem Left.count (L:Left R F g P o .sink)(hf:Fits R)(ho:∀ y,y<R.t3.length→o y=0){k:Nat}(hk:k<R.t1.length):(cnt P k R.t3.length:Int)=inR R F (.dest (.mach k)):=by
 have e':¬ (nd R .sink=nd R (.dest (.mach k))):=fun q=>by have:=hf.inj (n:=.sink) (n':=.dest (.mach k)) trivial hk q; cases this
 have:=L.mach k hk
 rw [L.dry hf ho hk,one_neg e'] at this
 omega
theorem job_room (h:NetFlow R N F)(hf:Fits R)(hN:NetN R N){y:Nat}(hy:y<R.t3.length){i0:Nat}(hi0:i0<(netR R).length)(hf0:(arcN R i0).f=nd R (.task y))(h0:1≤F i0){j:Nat}(hj:j<R.t2.length)(hne:(arcN R i0).t≠nd R (.dest (.job j))):inR R F (.dest (.job j))≤15:=by
 have hJ:=(hf.two (n:=.dest (.job j)) hj).1
 have e1:inn (arcN R) (bump F i0 (-1)) (nd R (.dest (.job j))).toNat (netR R).length=inR R F (.dest (.job j)):=by
  rw [inn_bump,if_neg (fun q=>hne (by omega))]
  unfold inR
  omega
 have hnn:∀ i,i<(netR R).length→0≤bump F i0 (-1) i:=fun i hi=>by
  have:=h.nn i hi
  unfold bump
  by_cases q:i=i0
  ·subst q; rw [if_pos rfl]; omega
  ·rw [if_neg q]; exact this
 have h1:=inn_le_outs (A:=arcN R) (F:=bump F i0 (-1)) (v:=(nd R (.dest (.job j))).toNat) (N0:=2+lensR R 3) (T:=(idsR R 3 100).length) hnn (fun i hi e=>by
  have e:(arcN R i).t=nd R (.dest (.job j)):=by omega
  have hA:=arcP_of hf (arcIs_of (arcN_mem hi))
  generalize hq:arcN R i=a at hA e
  cases hA with
  | rack r hr=>have:=hf.inj (n:=.dest (.rack r)) (n':=.dest (.job j)) hr hj e; cases this
  | into k' hk'=>have:=hf.inj (n:=.dest (.mach k')) (n':=.dest (.job j)) hk' hj e; cases this
  | sink k' hk'=>have:=hf.inj (n:=.sink) (n':=.dest (.job j)) trivial hj e; cases this
  | job j' hj'=>have:=hf.inj (n:=.sink) (n':=.dest (.job j)) trivial hj e; cases this
  | leaf y hy d x hw =>
   have:=hf.taskN hy
   show ((2+lensR R 3:Nat):Int)≤nd R (.task y)∧nd R (.task y)<_
   omega)
 have ht:=hf.taskN hy
 obtain ⟨t0,et0⟩:∃ t0:Nat,nd R (.task y)=((2+lensR R 3+t0:Nat):Int):=⟨(nd R (.task y) - (2+(lensR R 3:Int))).toNat,by omega⟩
 have ht0:t0<(idsR R 3 100).length:=by omega
 have h2:sumN (fun t=>out (arcN R) (bump F i0 (-1)) (2+lensR R 3+t) (netR R).length) (idsR R 3 100).length=sumN (fun t=>(fun _=>(1:Int)) t - (fun v=>(fun _=>(1:Int)) v*(if (t0:Int)=(v:Int) then 1 else 0)) t) (idsR R 3 100).length:=sumN_congr (fun t htt=>by
  have hNe:=hN.eq
  rw [out_bump,h.task hf.net hf.ids (v:=2+lensR R 3+t) (by omega) (by omega)]
  by_cases q:t0=t
  ·subst q
   rw [if_pos ⟨hi0,by rw [hf0,et0]⟩]
   simp
  ·rw [if_neg (fun r=>q (by have:=r.2; rw [hf0,et0] at this; omega))]
   show (1:Int)+0=1 - 1*(if (t0:Int)=((t:Nat):Int) then 1 else 0)
   rw [if_neg (fun r=>q (by omega))]
   simp)
 have h3:∀ n,sumN (fun _=>1) n=(n:Int):=fun n=>by
  induction n with
  | zero=>rfl
  | succ n ih=>simp only [sumN,ih]; omega
 have h4:=ids_le (R:=R) 3 100
 have h5:(tkR R 3).length≤16:=hf.net.run.len3
 rw [h2,sumN_sub,h3,sumN_one (fun _=>1) 1 t0 _ ht0,e1] at h1
 omega
theorem read_of (h:NetFlow R N F)(hf:Fits R)(hN:NetN R N)(hp:∀ i,i<(netR R).length→PairOk C (arcN R i) (F i))(L:Left R F g P o .sink)(ho:∀ y,y<R.t3.length→o y=0){used:Nat→Dest}{k:Nat→Int}(hc:∀ y,y<R.t3.length→Came R F y (used y) (k y) (P y)) :
  Read R.t1.length R.t3.length (sR R) (rkR R) (cR R) (prcR R C) (wayR R) used k P:=by
 have fl:∀ {i:Nat} {a:Ar},i<(netR R).length→arcN R i=a→0<F i→C a.f.toNat+a.k≤C a.t.toNat:=fun {i a} hi e q=>by have:=flow_says hp hi q; rw [e] at this; exact this
 have op:∀ {i:Nat} {a:Ar},i<(netR R).length→arcN R i=a→F i<a.c→C a.t.toNat≤C a.f.toNat+a.k:=fun {i a} hi e q=>by have:=open_says hp hi (by rw [e]; exact q); rw [e] at this; exact this
 have msink:∀ {p:Nat},p<R.t1.length→1≤inR R F (.dest (.mach p))→(prcR R C).mach p≤(prcR R C).sink:=fun {p} hpM q=>by
  obtain ⟨i0,i1,a0,a1,q1,q2,q3⟩:=h.two hf hpM
  have:=fl a0.1 a0.2 (by omega)
  simpa [prcR,nd] using this
 refine ⟨fun y hy=>(hc y hy).le,fun y hy=>(hc y hy).way,fun y hy d x hw=>?_,fun y hy=>?_,fun y hy hpM=>?_,fun y hy hpN=>?_,fun m hm hcn=>?_,fun y hy hpM hu=>?_,fun y hy hpM hu=>?_,fun y hy hpM hu=>?_,fun m hm=>?_,fun y hy hpM j x hw=>?_,fun y hy m hm d x hw hto=>way_least hf.rack hm d x hw hto,fun y hy m hm=>way_some hf.rack hm,fun y hy j x hw=>hw.2.2,fun y hy=>?_⟩
 ·obtain ⟨i,hi,e⟩:=arcP_at hf (ArcP.leaf (R:=R) y hy d x hw)
  obtain ⟨i',hi',e',hF'⟩:=(hc y hy).arc
  by_cases q:F i<1
  ·right
   have:=op hi e q
   rw [prcR_at]
   exact this
  ·left
   have h1:=h.one hf hN hy
   unfold ouR at h1
   have u1:=arc_out hf (n:=.task y) hy e rfl
   have u2:=arc_out hf (n:=.task y) hy e' rfl
   have:i=i':=by
    rcases Nat.lt_trichotomy i i' with r | r | r
    ·have:=out_two (A:=arcN R) (F:=F) h.nn r hi' u1 u2; omega
    ·exact r
    ·have:=out_two (A:=arcN R) (F:=F) h.nn r hi u2 u1; omega
   subst this
   rw [e] at e'
   have e1:nd R (.dest d)=nd R (.dest (used y)):=congrArg Ar.t e'
   have e2:x=k y:=congrArg Ar.k e'
   have:=hf.inj (n:=.dest d) (n':=.dest (used y)) (way_there hw) (way_there (hc y hy).way) e1
   cases this
   exact ⟨rfl,e2⟩
 ·obtain ⟨i',hi',e',hF'⟩:=(hc y hy).arc
  rw [prcR_at]
  exact fl hi' e' (by omega)
 ·rcases (hc y hy).onM hpM with e | ⟨e | ⟨e,_⟩,_⟩ <;> rw [e]
  ·exact rfl
  ·exact rfl
  ·trivial
 ·obtain ⟨j,hj⟩:=(hc y hy).onN hpN
  have hjv:VD R (.job j):=by have:=way_there (hc y hy).way; rw [hj] at this; exact this
  refine ⟨j,hj,?_⟩
  obtain ⟨i',hi',e',hF'⟩:=(hc y hy).arc
  rw [hj] at e'
  have h1:=inn_one (A:=arcN R) (F:=F) (v:=(nd R (.dest (.job j))).toNat) (i:=i') h.nn hi' (arc_in hf (n:=.dest (.job j)) hjv e' rfl)
  have h2:=h.mid hf hN (n:=.dest (.job j)) hjv (fun y q=>by cases q) (fun q=>by cases q)
  unfold inR ouR at h2
  obtain ⟨i,hi,e,hF⟩:=out_pos (A:=arcN R) (F:=F) (v:=(nd R (.dest (.job j))).toNat) (la:=(netR R).length) (by omega)
  have hA:=arcP_of hf (arcIs_of (arcN_mem hi))
  have e:(arcN R i).f=nd R (.dest (.job j)):=by have:=(hf.two (n:=.dest (.job j)) hjv).1; omega
  generalize hq:arcN R i=a at hA e
  cases hA with
  | rack r hr=>have:=hf.inj (n:=.dest .clus) (n':=.dest (.job j)) trivial hjv e; cases this
  | into k' hk'=>have:=hf.inj (n:=.dest (.rack _)) (n':=.dest (.job j)) (node_rack hf hk').2 hjv e; cases this
  | sink k' hk'=>have:=hf.inj (n:=.dest (.mach k')) (n':=.dest (.job j)) hk' hjv e; cases this
  | job j' hj' =>
   have:=hf.inj (n:=.dest (.job j')) (n':=.dest (.job j)) hj' hjv e
   cases this
   have:=fl hi hq hF
   simpa [prcR,nd] using this
  | leaf y' hy' d x hw=>have:=hf.inj (n:=.task y') (n':=.dest (.job j)) hy' hjv e; cases this
 ·obtain ⟨i0,i1,a0,a1,q1,q2,q3⟩:=h.two hf hm
  have h1:=L.count hf ho hm
  have hs:(sR R m:Int)=slR R m:=by
   have:=(hf.net.run.sl _ (Jl hm)).1
   unfold sR slR
   rw [getD_at hm]
   omega
  have g0:=op a0.1 a0.2 (by show F i0<slR R m; omega)
  have g1:=op a1.1 a1.2 (by show F i1<slR R m; omega)
  exact ⟨by simpa [prcR,nd] using g0,by simpa [prcR] using g1⟩
 ·obtain ⟨i',hi',e',hF'⟩:=(hc y hy).arc
  obtain ⟨i0,i1,a0,a1,q1,q2,q3⟩:=h.two hf hpM
  rw [hu] at e'
  have u1:=arc_in hf (n:=.dest (.mach (P y))) hpM e' rfl
  have u2:=arc_in hf (n:=.dest (.mach (P y))) hpM a1.2 rfl
  have hne:i'≠i1:=fun q=>by
   subst q
   have:nd R (.task y)=nd R (.dest (.rack (rkR R (P y)))):=congrArg Ar.f (e'.symm.trans a1.2)
   have:=hf.inj (n:=.task y) (n':=.dest (.rack _)) hy (node_rack hf hpM).2 this
   cases this
  have hs:F i'+F i1≤inR R F (.dest (.mach (P y))):=by
   rcases Nat.lt_or_gt_of_ne hne with r | r
   ·exact inn_two (A:=arcN R) (F:=F) h.nn r a1.1 u1 u2
   ·have:=inn_two (A:=arcN R) (F:=F) h.nn r hi' u2 u1; unfold inR; omega
  have hnn1:=h.nn i1 a1.1
  have g1:=op a1.1 a1.2 (by show F i1<slR R (P y); omega)
  exact ⟨by simpa [prcR] using g1,msink hpM (by omega)⟩
 ·rcases (hc y hy).onM hpM with e | ⟨_,i,hi,e,hF⟩
  ·rw [hu] at e; cases e
  ·have h1:=inn_one (A:=arcN R) (F:=F) (v:=(nd R (.dest (.mach (P y)))).toNat) (i:=i) h.nn hi (arc_in hf (n:=.dest (.mach (P y))) hpM e rfl)
   have:=fl hi e (by omega)
   exact ⟨by simpa [prcR] using this,msink hpM (by unfold inR; omega)⟩
 ·rcases (hc y hy).onM hpM with e | ⟨e2,i,hi,e,hF⟩
  ·rw [hu] at e; cases e
  ·rcases e2 with e2 | ⟨_,i2,hi2,e2,hF2⟩
   ·rw [hu] at e2; cases e2
   have h1:=inn_one (A:=arcN R) (F:=F) (v:=(nd R (.dest (.mach (P y)))).toNat) (i:=i) h.nn hi (arc_in hf (n:=.dest (.mach (P y))) hpM e rfl)
   have g1:=fl hi e (by omega)
   have g2:=fl hi2 e2 (by omega)
   exact ⟨by simpa [prcR,nd,nodeOf] using g2,by simpa [prcR] using g1,msink hpM (by unfold inR; omega)⟩
 ·have hr:=(node_rack hf hm).2
  obtain ⟨i,hi,e⟩:=arcP_at hf (ArcP.rack (R:=R) _ hr)
  have h1:=h.clus hf.net hf.ids hN.eq
  have h2:=out_one (A:=arcN R) (F:=F) (v:=0) (i:=i) h.nn hi (by rw [e]; rfl)
  have:=op hi e (by show F i<1000; omega)
  simpa [prcR,nd,nodeOf] using this
 ·have hjv:VD R (.job j):=way_there hw
  obtain ⟨i',hi',e',hF'⟩:=(hc y hy).arc
  have hr:=job_room h hf hN hy hi' (by rw [e']) hF' hjv (fun q=>by
   rw [e'] at q
   have:=hf.inj (n:=.dest (used y)) (n':=.dest (.job j)) (way_there (hc y hy).way) hjv q
   injection this with this
   rcases (hc y hy).onM hpM with e | ⟨e | ⟨e,_⟩,_⟩ <;> rw [e] at this <;> cases this)
  obtain ⟨i,hi,e⟩:=arcP_at hf (ArcP.job (R:=R) j hjv)
  have h2:=h.mid hf hN (n:=.dest (.job j)) hjv (fun y q=>by cases q) (fun q=>by cases q)
  unfold ouR at h2
  have h3:=out_one (A:=arcN R) (F:=F) (v:=(nd R (.dest (.job j))).toNat) (i:=i) h.nn hi (arc_out hf (n:=.dest (.job j)) hjv e rfl)
  have:=op hi e (by show F i<16; omega)
  simpa [prcR,nd] using this
 ·obtain ⟨j,hj,e⟩:=hf.net.run.job y hy
  refine ⟨j,hj,?_,rfl⟩
  obtain ⟨x,hx,e1,e2⟩:=atOf_some (id:=R.t3[y].2.1) (xs:=R.t2) (by omega)
  have:x=j:=by omega
  subst this
  rw [getD_at hj,getD_at hy,e2]
theorem place_of (h:NetFlow R N F)(hf:Fits R)(L:Left R F g P o .sink)(ho:∀ y,y<R.t3.length→o y=0)(hP:∀ y,y<R.t3.length→P y≤R.t1.length):PlaceOk R.t1.length (sR R) P R.t3.length:=by
 refine ⟨hP,fun m hm=>?_⟩
 obtain ⟨i0,i1,a0,a1,q1,q2,q3⟩:=h.two hf hm
 have h1:=L.count hf ho hm
 have hs:(sR R m:Int)=slR R m:=by
  have:=(hf.net.run.sl _ (Jl hm)).1
  unfold sR slR
  rw [getD_at hm]
  omega
 omega
end
end
end
end Go.Proofs.Ytjdindfjfpdikab
