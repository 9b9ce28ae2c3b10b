import Derived.Deep.LoopGhost
import Derived.Deep.RegionWith
import Derived.Test.YtjdindfjfpdikabB07
import Derived.Test.YtjdindfjfpdikabB08
import Derived.Test.YtjdindfjfpdikabB25
import Derived.Test.YtjdindfjfpdikabB31
import Derived.Test.YtjdindfjfpdikabB32
import Derived.Test.YtjdindfjfpdikabB33
import Derived.Test.YtjdindfjfpdikabPre
set_option maxRecDepth 100000
set_option maxHeartbeats 8000000
namespace Go.Proofs.Ytjdindfjfpdikab
section
open Go.RowKit
theorem total_any (w:World)(N:Int)(p q r:Option Addr)(cs la ca cf ls:Nat)(R:Nat→Int)(A:Nat→Ar)(hA:Arcs w q la A)(hR:Ints w r la R)(hla:la≤600)(hok:∀ i,i<la→ArcOk N (A i))(hC:Caps la A R) :
  Calls Try.prog 9 #[.agg #[.int .i64 N,.slice p ls cs,.slice q la ca],.slice r la cf] w fun e w'=>e=.returned (.int .i64 (cost A R la))∧Below w.heap.size w w':=by
 obtain ⟨W,hW⟩:∃ W,w.alloc (.cells #[.int .i64 N,.slice p ls cs,.slice q la ca] 39)=W:=⟨_,rfl⟩
 have hbW:Below w.heap.size w W:=by rw [← hW]; exact (Jd _ _).alloc (Jb _) _
 have hWb:W.heap[w.heap.size]?=some (.cells #[.int .i64 N,.slice p ls cs,.slice q la ca] 39):=by rw [← hW]; exact heap_alloc_new w _
 have hmul:∀ m,m<la→-10000000≤R m*(A m).k∧R m*(A m).k≤10000000:=fun m hm=>by
  have h2:=(hok m hm).2.2
  have h3:=hC m hm
  have u1:=Int.mul_le_mul_of_nonneg_left h2.2.2 h3.1
  have u2:=Int.mul_le_mul_of_nonneg_left h2.2.1 h3.1
  generalize R m*(A m).k=z at *
  omega
 have HW:=hid' (Jc hW (Jc hWb hbW))
 have Hm:=hid' (Jc hA (Jc hR (Jc hmul (Jc hok hC))))
 clear hW hWb hbW hA hR hok hC hmul
 go_enter Try.func9,Try.ntmps9
 go_wp2_with fail
 rw [HW.out.1]
 go_loopg [6,5] la (fun gk iv cv wr=>∃ i:Nat,i≤la∧la - i≤gk∧iv=.int .i64 i∧cv=.int .i64 (cost A R i)∧Below W.heap.size W wr)
 case atStart=>exact ⟨0,Jq _,Jb _,rfl,rfl,Jd _ _⟩
 case' round=>skip
 obtain ⟨i,hi,hgk,rfl,rfl,hb⟩:=hrel
 have hnb:=(hb.block w.heap.size (Ja.1 HW.out.2.1).1).trans HW.out.2.1
 have hbw:=next2 HW.out.2.2 hb
 have n2:=at_cells hnb 2
 simp only [Jg,Jf,Je] at n2
 have nl:w.heap.size<wr.heap.size:=(Ja.1 hnb).1
 by_cases hlt:i<la
 ·obtain ⟨sb,off,rfl,hsb,_,_,_,g3⟩:=(Hm.out.1.below hbw).at hlt
  obtain ⟨sf,of',rfl,hsf,gf⟩:=(Hm.out.2.1.below hbw).at hlt
  have hiI:(i:Int)<(la:Int):=by omega
  have hmi:=Hm.out.2.2.1 i hlt
  have hcb:=sum_bound (n:=i) Hm.out.2.2.2.1 Hm.out.2.2.2.2 (by omega)
  have hcs:cost A R (i+1)=cost A R i+R i*(A i).k:=rfl
  have Hq:=hid' (Jc hb hcs)
  clear hb hbw hnb hcs
  go_wp2_with fail
  go_region
  go_wp2_with fail
  go_roundg (la - (i+1))
  case measure=>omega
  case rel=>exact ⟨i+1,by omega,Jb _,by go_num,by rw [Hq.out.2],Hq.out.1.drew⟩
 ·obtain rfl:i=la:=by omega
  clear hlt hi
  go_wp2_with fail
  go_ret
  exact ⟨rfl,hbw⟩
end
section
open Go.RowKit
theorem own0 {e size k:Nat}{v:Value}{xs:List Value}{B:Nat}{W:World}(hr:W.ownsRow B e size v k xs):W.ownsRow 0 e size v k xs:=row_base hr (Jq _)
section
variable {w w':World}{pb b0 b1 b2 b3:Nat}{l0:Things}{l3:Prefs}{R:RSt}{P:Nat→Nat}{q:Nat→Int}{m1:Runs}{m2:Waits}{vs va vf:Value}{g:Nat}{fl:List Int}{C:Nat→Int}
theorem SPost.shw (h:SPost w pb b0 b1 b2 b3 l0 l3 R w' P q m1 m2 vs va vf g fl C)(hf:Fits R)(h0:R.t0.length≤4) :
  Shw w' (shB vs va vf g vs va) pb (.int .i64 (pcost (cR R) P R.t3.length)) (.bool true) (.int .i64 (nodesR R)) vs va vs va vf (.slice (some ⟨g,0,none⟩) (nodesR R) (nodesR R)) (nodesR R) (pcost (cR R) P R.t3.length) (intL (nodesR R) (supN R)) (netR R) fl (intL (nodesR R) C)∧∀ b∈shB vs va vf g vs va,w.heap.size≤b:=by
 have L:=h.last
 have hN:=(net_ok hf h0).1
 have hla:=(net_ok hf h0).2.2.1
 have hn:nodesR R≤1000:=by omega
 have hm:∀ b∈shB vs va vf g vs va,w.heap.size≤b∧b<w'.heap.size:=fun b hb=>by
  rcases mem_shB.1 hb with rfl | ⟨v,hv,e⟩
  ·exact ⟨L.base,(Ja.1 L.prices).1⟩
  ·simp only [List.mem_cons,List.not_mem_nil,or_false] at hv
   rcases hv with rfl | rfl | rfl | rfl | rfl
   ·exact World.ownsRow.lt L.sup b e
   ·exact World.ownsRow.lt L.arcs b e
   ·exact World.ownsRow.lt L.flow b e
   ·exact World.ownsRow.lt L.sup b e
   ·exact World.ownsRow.lt L.arcs b e
 refine ⟨⟨⟨b0,b1,b2,b3,h.cells⟩,rfl,rfl,own0 L.sup,own0 L.arcs,own0 L.flow,Nums.row L.prices hn,own0 L.sup,own0 L.arcs,fun v hv b e=>mem_shB.2 ?_,fun b hb=>(hm b hb).2,⟨by rw [intL_length]; exact hn,by omega,by rw [L.len]; omega,by rw [intL_length]; exact hn⟩,Js ⟨rfl,h.show hf h0⟩⟩,fun b hb=>(hm b hb).1⟩
 simp only [List.mem_cons,List.not_mem_nil,or_false] at hv
 rcases hv with rfl | rfl | rfl | rfl | rfl | rfl
 ·exact Js ⟨_,by simp,e⟩
 ·exact Js ⟨_,by simp,e⟩
 ·exact Js ⟨_,by simp,e⟩
 ·left; simpa [Value.ownBlock] using e.symm
 ·exact Js ⟨_,by simp,e⟩
 ·exact Js ⟨_,by simp,e⟩
end
section
variable {base:Nat}{w0:Fr}{w w':World}{mb pb b0 b1 b2 b3 xb:Nat}{more:Int}{vs:Value}{slots:List Int}{tasks:Int}{R R':RSt}{p:Option Addr}{len cap a a':Nat}{c:Nat→Int}
theorem mk_solve (h:MK base w0 w mb pb b0 b1 b2 b3 xb more vs slots tasks R p len cap c a) :
  Calls Try.prog 7 #[.pointer (some ⟨pb,0,none⟩)] w fun e w'=>∃ P s S s1 s2 s3 s4 fl pr,e=.returned (.int .i64 s)∧s=pcost (cR R) P R.t3.length∧MK base ⟨w0.w,[]⟩ w' mb pb b0 b1 b2 b3 xb more vs slots tasks (Rn R P R.t3.length) p len cap c a∧Only [pb,b0,b1,b2,b3] w w'∧Shw w' S pb (.int .i64 s) (.bool true) (.int .i64 (nodesR R)) s1 s2 s1 s2 s3 s4 (nodesR R) s (intL (nodesR R) (supN R)) (netR R) fl pr∧ShowOk (nodesR R) s (intL (nodesR R) (supN R)) (netR R) fl pr∧∀ b∈pb :: S,b≠mb∧b∉[b0,b1,b2,b3]∧b≠xb∧vs.ownBlock≠some b∧b<w'.heap.size:=by
 obtain ⟨l0,l1,l2,l3,hp,hs⟩:=h.plan
 refine (solve_any hs hp).mono ?_
 rintro e w' ⟨P,q,m1,m2,us,va,vf,g,fl,C,rfl,hS⟩
 obtain ⟨h1,h2⟩:=hS.shw hs.fits hs.fit.len0
 refine ⟨P,_,_,_,_,_,_,_,_,rfl,rfl,h.solved hp hS.only hS.plan hS.sim,hS.only,h1,hS.show hs.fits hs.fit.len0,fun b hb=>?_⟩
 have hmb:=h.lt
 have hxb:=(Ja.1 h.dice.cells).1
 have hz:=hS.only.size
 have hlt:=hp.lts
 rcases List.mem_cons.1 hb with rfl | hb
 ·obtain ⟨_,_,_,_,_,hpc⟩:=hp.cells
  have hmc:=h.cells
  have hxc:=h.dice.cells
  refine ⟨fun e=>?_,hp.notmap hpc,fun e=>?_,fun e=>?_,Jm hp.lt hz⟩
  ·rw [e,hmc] at hpc; cases hpc
  ·rw [e,hxc] at hpc; cases hpc
  ·rcases h.row.2 with ⟨e1,_⟩ | ⟨g',cp,cur,e1,_,hg,_⟩
   ·rw [e1] at e; cases e
   ·rw [e1] at e
    cases e
    rw [hpc] at hg
    cases hg
 ·have hb1:=h2 b hb
  refine ⟨by omega,fun hm=>?_,by omega,fun e=>?_,h1.lt b hb⟩
  ·have:=hlt b (Jk _ hm)
   omega
  ·have:=(World.ownsRow.lt h.row b e).2
   omega
end
structure SeeAt (Z W:World)(nb:Nat)(N:Int)(v1 v2 v3 v4:Value)(sup:List Int)(arcs:List Ar)(fl pr:List Int):Prop where
 box:W.heap[nb]?=some (.cells #[.int .i64 N,v1,v2] 39)
 r1:NRow 0 W v1 sup
 r2:ARow 0 W v2 arcs
 r3:NRow Z.heap.size W v3 fl
 r4:NRow 0 W v4 pr
 ap:∀ b,v3.ownBlock=some b→b≠nb∧v1.ownBlock≠some b∧v2.ownBlock≠some b∧v4.ownBlock≠some b
 below:Below Z.heap.size Z W
section
variable {Z W W':World}{nb:Nat}{N:Int}{v1 v2 v3 v4:Value}{sup:List Int}{arcs:List Ar}{fl pr:List Int}
theorem SeeAt.keep (h:SeeAt Z W nb N v1 v2 v3 v4 sup arcs fl pr)(hb:Below W.heap.size W W'):SeeAt Z W' nb N v1 v2 v3 v4 sup arcs fl pr :=
 ⟨(hb.block _ (Ja.1 h.box).1).trans h.box,h.r1.below hb,h.r2.below hb,h.r3.below hb,h.r4.below hb,h.ap,next2 h.below hb⟩
theorem SeeAt.cs (h:SeeAt Z W nb N v1 v2 v3 v4 sup arcs fl pr):W.cell? ⟨nb,0,none⟩=some (.int .i64 N)∧W.cell? ⟨nb,1,none⟩=some v1∧W.cell? ⟨nb,2,none⟩=some v2∧nb<W.heap.size:=by
 have:=cells3 h.box
 exact ⟨this.1,this.2.1,this.2.2,(Ja.1 h.box).1⟩
theorem Showed.see {n1 n2 n3:Nat}(h:Showed Z W v1 v2 v3 v4 n1 n2 n3 sup arcs fl pr)(N:Int):SeeAt Z (W.alloc (.cells #[.int .i64 N,v1,v2] 39)) W.heap.size N v1 v2 v3 v4 sup arcs fl pr:=by
 have hb:Below W.heap.size W (W.alloc (.cells #[.int .i64 N,v1,v2] 39)):=(Jd _ _).alloc (Jb _) _
 have e:=h.le
 refine ⟨heap_alloc_new W _,own0 (h.r1.below hb),own0 (h.r2.below hb),row_base (h.r3.below hb) (by omega),own0 (h.r4.below hb),fun b hb=>?_,next2 h.below hb⟩
 have q3:=World.ownsRow.lt h.r3 b hb
 have t3:=h.t3 b hb
 refine ⟨by omega,fun z=>?_,fun z=>?_,fun z=>?_⟩
 ·have:=h.t1 b z; omega
 ·have:=h.t2 b z; omega
 ·have:=(World.ownsRow.lt h.r4 b z).1; omega
theorem SeeAt.total {p1 p2 p3 p4:Option Addr}{c1 c2 c3 c4:Nat}{s:Int}(h:SeeAt Z W nb N (.slice p1 sup.length c1) (.slice p2 arcs.length c2) (.slice p3 fl.length c3) (.slice p4 pr.length c4) sup arcs fl pr)(hs:ShowOk N s sup arcs fl pr) :
  Calls Try.prog 9 #[.agg #[.int .i64 N,.slice p1 sup.length c1,.slice p2 arcs.length c2],.slice p3 fl.length c3] W fun e w'=>e=.returned (.int .i64 s)∧Below W.heap.size W w':=by
 have hl:fl.length=arcs.length:=hs.flow.1
 have:=total_any W N p1 p2 p3 c1 arcs.length c2 c3 sup.length (fun i=>fl.getD i 0) (fun i=>arcs.getD i ⟨0,0,0,0⟩) (h.r2.arcs rfl) (by have:=h.r3.ints rfl; rw [hl] at this; exact this) hs.net.2.2.1 hs.net.2.2.2.2 hs.flow.2.1
 rw [hs.cost,← hl] at this
 rw [← hl]
 exact this
end
end
section
open Go.RowKit
section
variable {c:Nat→Int}{len a a':Nat}{more:Int}{slots:List Int}{tasks:Int}{R:RSt}
theorem MadeIs.rm (h:MadeIs c len more a slots tasks R a'):RM more R slots tasks.toNat:=by
 have hl:R.t1.length=slots.length:=by
  have:=congrArg List.length h.at1
  simpa using this
 have hs:∀ k,(hk:k<R.t1.length)→R.t1[k].2.2=slots[k]'(by omega):=fun k hk=>by
  have:=congrArg (fun l=>l[k]?) h.at1
  simpa [hk,show k<slots.length by omega] using this
 have hf:=h.few
 refine ⟨h.ids.i0,h.ids.i3,by omega,h.each,fun x hx=>?_,fun k hk=>?_⟩
 ·obtain ⟨k,hk,rfl⟩:=List.mem_iff_getElem.1 hx
  obtain ⟨_,e⟩:=ids_at h.ids.i1 (k:=k) (by omega)
  exact ⟨k,by omega,e,hs k hk⟩
 ·obtain ⟨hl',e⟩:=ids_at h.ids.i1 hk
  exact ⟨_,Jl hl',e⟩
end
end
section
open Go.RowKit
section
variable {R:RSt}{a:Ar}{t k j r y:Nat}{d:Dest}
theorem arcP_n (h:Fits R){i:Nat}(hi:i<(netR R).length):ArcP R (arcN R i):=arcP_of h (arcIs_of (arcN_mem hi))
theorem of_task (hf:Fits R)(hp:ArcP R a)(ht:t<R.t3.length)(e:a.f=nd R (.task t)):∃ d,wayR R t d a.k∧a.t=nd R (.dest d):=by
 cases hp with
 | rack r h=>cases hf.inj (n:=.dest .clus) (n':=.task t) trivial ht e
 | into k h=>cases hf.inj (n:=.dest (.rack (rkR R k))) (n':=.task t) (node_rack hf h).2 ht e
 | sink k h=>cases hf.inj (n:=.dest (.mach k)) (n':=.task t) h ht e
 | job j h=>cases hf.inj (n:=.dest (.job j)) (n':=.task t) h ht e
 | leaf y h d x hw =>
  cases hf.inj (n:=.task y) (n':=.task t) h ht e
  exact ⟨d,hw,rfl⟩
theorem to_mach (hf:Fits R)(hp:ArcP R a)(hk:k<R.t1.length)(e:a.t=nd R (.dest (.mach k))):(a.f=nd R (.dest (.rack (rkR R k)))∧a.k=0)∨∃ y,y<R.t3.length∧a.f=nd R (.task y):=by
 cases hp with
 | rack r h=>cases hf.inj (n:=.dest (.rack r)) (n':=.dest (.mach k)) h hk e
 | into k' h =>
  cases hf.inj (n:=.dest (.mach k')) (n':=.dest (.mach k)) h hk e
  exact Jr ⟨rfl,rfl⟩
 | sink k' h=>cases hf.inj (n:=.sink) (n':=.dest (.mach k)) trivial hk e
 | job j h=>cases hf.inj (n:=.sink) (n':=.dest (.mach k)) trivial hk e
 | leaf y h d x hw=>exact Js ⟨y,h,rfl⟩
theorem to_rack (hf:Fits R)(hp:ArcP R a)(hr:r<R.t0.length)(e:a.t=nd R (.dest (.rack r))):(a.f=nd R (.dest .clus)∧a.k=0)∨∃ y,y<R.t3.length∧a.f=nd R (.task y):=by
 cases hp with
 | rack r' h=>exact Jr ⟨rfl,rfl⟩
 | into k' h=>cases hf.inj (n:=.dest (.mach k')) (n':=.dest (.rack r)) h hr e
 | sink k' h=>cases hf.inj (n:=.sink) (n':=.dest (.rack r)) trivial hr e
 | job j h=>cases hf.inj (n:=.sink) (n':=.dest (.rack r)) trivial hr e
 | leaf y h d x hw=>exact Js ⟨y,h,rfl⟩
theorem to_job (hf:Fits R)(hp:ArcP R a)(hj:j<R.t2.length)(e:a.t=nd R (.dest (.job j))):∃ y,y<R.t3.length∧a.f=nd R (.task y):=by
 cases hp with
 | rack r' h=>cases hf.inj (n:=.dest (.rack r')) (n':=.dest (.job j)) h hj e
 | into k' h=>cases hf.inj (n:=.dest (.mach k')) (n':=.dest (.job j)) h hj e
 | sink k' h=>cases hf.inj (n:=.sink) (n':=.dest (.job j)) trivial hj e
 | job j' h=>cases hf.inj (n:=.sink) (n':=.dest (.job j)) trivial hj e
 | leaf y h d x hw=>exact ⟨y,h,rfl⟩
theorem to_task (hf:Fits R)(hp:ArcP R a)(hy:y<R.t3.length)(e:a.t=nd R (.task y)):False:=by
 cases hp with
 | rack r' h=>cases hf.inj (n:=.dest (.rack r')) (n':=.task y) h hy e
 | into k' h=>cases hf.inj (n:=.dest (.mach k')) (n':=.task y) h hy e
 | sink k' h=>cases hf.inj (n:=.sink) (n':=.task y) trivial hy e
 | job j' h=>cases hf.inj (n:=.sink) (n':=.task y) trivial hy e
 | leaf y' h d x hw=>cases hf.inj (n:=.dest d) (n':=.task y) (way_there hw) hy e
theorem no_task (hf:Fits R)(hd:VD R d)(hy:y<R.t3.length)(e:nd R (.task y)=nd R (.dest d)):False:=by
 cases hf.inj (n:=.task y) (n':=.dest d) hy hd e
theorem way_machL (hf:Fits R)(ht:t<R.t3.length)(hk:k<R.t1.length){b:Int}(hb:IsBest (arcN R) (netR R).length (nd R (.task t)) (nd R (.dest (.mach k))) (Wy1 (arcN R) (netR R).length (nd R (.task t)) (nd R (.dest (.mach k))) (netR R).length) b):b=cR R t k:=by
 have hcb:=cR_bound hf.net.run (k:=k) ht
 have h1:b≤cR R t k:=by
  obtain ⟨d,hw,hto⟩:=way_some hf.rack (i:=t) hk
  obtain ⟨i,hi,ei⟩:=arcP_at hf (ArcP.leaf t ht d _ hw)
  cases d with
  | mach m =>
   obtain rfl:m=k:=hto
   exact hb.least _ (w1_of hi ⟨by rw [ei],by rw [ei],by rw [ei]⟩)
  | rack r =>
   obtain rfl:r=rkR R k:=hto
   obtain ⟨m,hm,em⟩:=arcP_at hf (ArcP.into k hk)
   have hs:=hf.net.run.sl _ (Jl hk)
   refine hb.least _ (w2_of hi hm ⟨by rw [ei],by rw [ei,em],by rw [em],?_,by rw [ei,em]; simp⟩)
   rw [em]
   show 0<slR R k
   unfold slR
   rw [getD_at hk]
   omega
  | clus =>
   obtain ⟨m,hm,em⟩:=arcP_at hf (ArcP.into k hk)
   obtain ⟨n,hn,en⟩:=arcP_at hf (ArcP.rack (rkR R k) (node_rack hf hk).2)
   exact hb.least _ (w3_of hi hn hm ⟨by rw [ei],by rw [ei,en],by rw [en,em],by rw [em],by rw [ei,en,em]; simp⟩)
  | job j=>exact absurd hto id
 have h2:cR R t k≤b:=by
  rcases hb.sound with e | ⟨i,hi,q⟩
  ·omega
  ·rcases q with q | ⟨m,hm,q | ⟨n,hn,q⟩⟩
   ·obtain ⟨d,hw,e⟩:=of_task hf (arcP_n hf hi) ht q.1
    have:=hf.inj (n:=.dest d) (n':=.dest (.mach k)) (way_there hw) hk (e.symm.trans q.2.1)
    cases this
    rw [q.2.2]
    exact way_least hf.rack hk _ _ hw rfl
   ·obtain ⟨d,hw,e⟩:=of_task hf (arcP_n hf hi) ht q.1
    rcases to_mach hf (arcP_n hf hm) hk q.2.2.1 with ⟨f1,f2⟩ | ⟨y,hy,f1⟩
    ·have:=hf.inj (n:=.dest d) (n':=.dest (.rack (rkR R k))) (way_there hw) (node_rack hf hk).2 (e.symm.trans (q.2.1.symm.trans f1))
     cases this
     have:=way_least hf.rack hk _ _ hw rfl
     rw [q.2.2.2.2,f2]
     omega
    ·exact (no_task hf (way_there hw) hy (f1.symm.trans (q.2.1.trans e))).elim
   ·obtain ⟨d,hw,e⟩:=of_task hf (arcP_n hf hi) ht q.1
    rcases to_mach hf (arcP_n hf hn) hk q.2.2.2.1 with ⟨f1,f2⟩ | ⟨y,hy,f1⟩
    ·rcases to_rack hf (arcP_n hf hm) (node_rack hf hk).2 (q.2.2.1.symm.trans f1) with ⟨g1,g2⟩ | ⟨y,hy,g1⟩
     ·have:=hf.inj (n:=.dest d) (n':=.dest .clus) (way_there hw) trivial (e.symm.trans (q.2.1.symm.trans g1))
      cases this
      have:=way_least hf.rack hk _ _ hw trivial
      rw [q.2.2.2.2,f2,g2]
      omega
     ·exact (no_task hf (way_there hw) hy (g1.symm.trans (q.2.1.trans e))).elim
    ·exact (to_task hf (arcP_n hf hm) hy (q.2.2.1.symm.trans f1)).elim
 omega
theorem way_jobL (hf:Fits R)(ht:t<R.t3.length)(hj:j<R.t2.length)(hjt:(R.t2.getD j (0,0,0)).1=(R.t3.getD t (0,0,0)).2.1){b:Int}(hb:IsBest (arcN R) (netR R).length (nd R (.task t)) (nd R (.dest (.job j))) (Wy1 (arcN R) (netR R).length (nd R (.task t)) (nd R (.dest (.job j))) (netR R).length) b):b=cR R t R.t1.length:=by
 have hcb:=cR_bound hf.net.run (k:=R.t1.length) ht
 have h1:b≤cR R t R.t1.length:=by
  obtain ⟨i,hi,ei⟩:=arcP_at hf (ArcP.leaf t ht (.job j) (cR R t R.t1.length) ⟨hj,hjt,rfl⟩)
  exact hb.least _ (w1_of hi ⟨by rw [ei],by rw [ei],by rw [ei]⟩)
 have h2:cR R t R.t1.length≤b:=by
  rcases hb.sound with e | ⟨i,hi,q⟩
  ·omega
  ·rcases q with q | ⟨m,hm,q | ⟨n,hn,q⟩⟩
   ·obtain ⟨d,hw,e⟩:=of_task hf (arcP_n hf hi) ht q.1
    have:=hf.inj (n:=.dest d) (n':=.dest (.job j)) (way_there hw) hj (e.symm.trans q.2.1)
    cases this
    have:=hw.2.2
    rw [q.2.2]
    omega
   ·obtain ⟨d,hw,e⟩:=of_task hf (arcP_n hf hi) ht q.1
    obtain ⟨y,hy,f1⟩:=to_job hf (arcP_n hf hm) hj q.2.2.1
    exact (no_task hf (way_there hw) hy (f1.symm.trans (q.2.1.trans e))).elim
   ·obtain ⟨y,hy,f1⟩:=to_job hf (arcP_n hf hn) hj q.2.2.2.1
    exact (to_task hf (arcP_n hf hm) hy (q.2.2.1.symm.trans f1)).elim
 omega
theorem ids_count {kd n:Nat}(h:(tkR R kd).map (·.1)=idsL 0 n)(hn:n≤14):∀ m:Nat,(idsR R kd m).length=min n ((m+6) / 7)
 | 0=>by simp [idsR]
 | m+1=>by
  have ih:=ids_count h hn m
  by_cases hq:∃ i,i<n∧m=7*i
  ·obtain ⟨i,hi,rfl⟩:=hq
   have e:idOf 0 (i:Int)=((7*i:Nat):Int):=by unfold idOf; omega
   have ha:=at_ids h hn hi
   rw [e] at ha
   rw [ids_succ_yes (by omega),Jo,ih]
   simp
   omega
  ·have ha:atOf (m:Int) (tkR R kd)<0:=by
    rw [atOf_neg]
    intro x hx e
    obtain ⟨i,hi,rfl⟩:=List.mem_iff_getElem.1 hx
    have hl:=len_of h
    obtain ⟨_,e'⟩:=ids_at h (k:=i) (by omega)
    rw [e'] at e
    unfold idOf at e
    exact hq ⟨i,by omega,by omega⟩
   rw [ids_succ_no (by omega),ih]
   by_cases hm:m % 7=0
   ·have:¬ m / 7<n:=fun z=>hq ⟨m / 7,z,by omega⟩
    omega
   ·omega
variable {nm nt:Nat}
theorem lens3 (h:RK 0 R 2 2 nm nt):lensR R 3=4+nm:=by
 have h0:=len_of h.i0
 have h1:=len_of h.i1
 have h2:=len_of h.i2
 show 0+R.t0.length+R.t1.length+R.t2.length=_
 omega
theorem nd_mach (h:RK 0 R 2 2 nm nt)(hn:nm≤14)(hk:k<nm):nd R (.dest (.mach k))=4+(k:Int):=by
 obtain ⟨hl,e⟩:=ids_at h.i1 hk
 show nodeR R 1 (R.t1.getD k (0,0,0)).1.toNat=_
 rw [getD_at hl,e]
 have e2:(idOf 0 (k:Int)).toNat=7*k:=by unfold idOf; omega
 have h0:=len_of h.i0
 unfold nodeR
 rw [e2,ids_count (kd:=1) h.i1 hn]
 show 2+((0+R.t0.length:Nat):Int)+_=_
 omega
theorem nd_job (h:RK 0 R 2 2 nm nt)(hj:j<2):nd R (.dest (.job j))=4+(nm:Int)+(j:Int):=by
 obtain ⟨hl,e⟩:=ids_at h.i2 hj
 show nodeR R 2 (R.t2.getD j (0,0,0)).1.toNat=_
 rw [getD_at hl,e]
 have e2:(idOf 0 (j:Int)).toNat=7*j:=by unfold idOf; omega
 have h0:=len_of h.i0
 have h1:=len_of h.i1
 unfold nodeR
 rw [e2,ids_count (kd:=2) h.i2 (by omega)]
 show 2+((0+R.t0.length+R.t1.length:Nat):Int)+_=_
 omega
theorem nd_task (h:RK 0 R 2 2 nm nt)(hn:nt≤14)(ht:t<nt):nd R (.task t)=6+(nm:Int)+(t:Int):=by
 obtain ⟨hl,e⟩:=ids_at h.i3 ht
 show nodeR R 3 (R.t3.getD t (0,0,0)).1.toNat=_
 rw [getD_at hl,e]
 have e2:(idOf 0 (t:Int)).toNat=7*t:=by unfold idOf; omega
 have h3:=lens3 h
 unfold nodeR
 rw [e2,ids_count (kd:=3) h.i3 hn,h3]
 omega
theorem nodes_made (h:RK 0 R 2 2 nm nt)(hn:nt≤14):nodesR R=6+nm+nt:=by
 have h3:=lens3 h
 have e:=(nodesR_eq R).1
 unfold nodeR at e
 rw [ids_count (kd:=3) h.i3 hn,h3] at e
 omega
theorem sup_sink (R:RSt):supN R 1=-(R.t3.length:Int):=by
 unfold supN updI
 rw [if_pos rfl]
theorem sup_made (h:RK 0 R 2 2 nm nt){v:Nat}(hv:6+nm≤v):supN R v=1:=by
 have h3:=lens3 h
 unfold supN updI supF
 rw [if_neg (by omega),if_pos (by rw [nodeR_top,h3]; omega)]
theorem job_of (hf:Fits R)(h:RK 0 R 2 2 nm nt)(ht:t<R.t3.length):∃ j,j<2∧j<R.t2.length∧(R.t2.getD j (0,0,0)).1=(R.t3.getD t (0,0,0)).2.1:=by
 obtain ⟨j,hj,e⟩:=hf.net.run.job t ht
 have h2:=len_of h.i2
 refine ⟨j,by omega,hj,?_⟩
 obtain ⟨k',hk',e2,e3⟩:=atOf_some (id:=R.t3[t].2.1) (xs:=R.t2) (by omega)
 have:k'=j:=by omega
 subst this
 rw [getD_at hj,getD_at ht]
 exact e3
end
end
section
open Go.RowKit
section
variable {base:Nat}{w0:Fr}{w w':World}{mb pb b0 b1 b2 b3 xb:Nat}{more:Int}{vs:Value}{slots:List Int}{tasks:Int}{R R':RSt}{p:Option Addr}{len cap a a' nt:Nat}{c:Nat→Int}
theorem MK.restT {b:Nat}{v:Value}{vals:List Value}{rows:List (List Int)}(h:MK base w0 w mb pb b0 b1 b2 b3 xb more vs slots tasks R p len cap c a)(ho:Only [pb,b0,b1,b2,b3] w w')(hT:Tab b w v vals rows):Tab b w' v vals rows:=hT.keep (fun k cs t _ q ht=>by
 obtain ⟨l0,l1,l2,l3,hp,_⟩:=h.plan
 refine ho.block k (Ja.1 q).1 (fun hm=>?_)
 rcases List.mem_cons.1 hm with rfl | hm
 ·obtain ⟨_,_,_,_,_,q'⟩:=hp.cells
  rw [q] at q'
  cases q'
  rcases ht with e | e <;> cases e
 ·exact hp.notmap q hm)
theorem MK.all_fits (h:MK base w0 w mb pb b0 b1 b2 b3 xb more vs slots tasks R p len cap c a):Fits R:=by
 obtain ⟨l0,l1,l2,l3,hp,hs⟩:=h.plan
 exact hs.fits
end
theorem Tab.get {b:Nat}{w:World}{p:Option Addr}{n cap:Nat}{vals:List Value}{rows:List (List Int)}(h:Tab b w (.slice p n cap) vals rows){i:Nat}(hi:i<rows.length)(h0:0<(rows.getD i []).length) :
  ∃ g gr cr,p=some ⟨g,0,none⟩∧g<w.heap.size∧w.cell? ⟨g,i,none⟩=some (.slice (some ⟨gr,0,none⟩) (rows.getD i []).length cr)∧gr<w.heap.size∧∀ j,j<(rows.getD i []).length→w.cell? ⟨gr,j,none⟩=some (.int .i64 ((rows.getD i []).getD j 0)):=by
 have hiv:i<vals.length:=by rw [← h.len]; exact hi
 have hr:=h.row i hiv
 obtain ⟨pr,cr,er⟩:=hr.sl'
 have hr':=hr
 rw [er] at hr'
 obtain ⟨gr,rfl,hgl,_⟩:=hr'.at' h0
 rcases h.out.2 with ⟨e1,e2⟩ | ⟨g,cp,cur,e1,q0,hg,r⟩
 ·omega
 ·cases e1
  refine ⟨g,gr,cr,rfl,(Ja.1 hg).1,?_,hgl,fun j hj=>?_⟩
  ·have:=World.ownsRow.cellAt h.out i (by omega)
   rw [this,List.getElem?_eq_getElem hiv,er]
  ·obtain ⟨g',e',_,hc,_⟩:=hr'.at' hj
   cases e'
   rw [hc,getD_at hj]
theorem rowsT_get {more:Int}{R:RSt}{ns n t:Nat}(ht:t<n):(rowsT more R ns n).getD t []=intL (ns+1) (tabF more R t):=by
 rw [getD_at (by rw [rowsT_length]; exact ht)]
 simp [rowsT]
theorem posM_made {c:Nat→Int}{len a a':Nat}{more:Int}{slots:List Int}{tasks:Int}{R:RSt}(h:MadeIs c len more a slots tasks R a'){k:Nat}(hk:k<slots.length):posM more R k=k:=by
 have hf:=h.few
 unfold posM
 rw [at_ids h.ids.i1 (by omega) hk]
 simp
theorem SeeAt.way {Z W:World}{nb:Nat}{N:Int}{v1 v3 v4:Value}{p2:Option Addr}{c2:Nat}{sup:List Int}{arcs:List Ar}{fl pr:List Int}{s:Int}(h:SeeAt Z W nb N v1 (.slice p2 arcs.length c2) v3 v4 sup arcs fl pr)(hs:ShowOk N s sup arcs fl pr)(p1:Option Addr)(n1 c1:Nat)(fr tg:Int) :
  Calls Try.prog 10 #[.agg #[.int .i64 N,.slice p1 n1 c1,.slice p2 arcs.length c2],.int .i64 fr,.int .i64 tg] W fun e w'=>∃ b,e=.returned (.int .i64 b)∧IsBest (fun i=>arcs.getD i ⟨0,0,0,0⟩) arcs.length fr tg (Wy1 (fun i=>arcs.getD i ⟨0,0,0,0⟩) arcs.length fr tg arcs.length) b∧Below W.heap.size W w' :=
 way_any W N p1 p2 n1 c1 arcs.length c2 _ (h.r2.arcs rfl) hs.net.2.2.1 hs.net.2.2.2.2 fr tg
def SL (nb mb g1:Nat)(z0 z1 z2:Value)(nt:Int)(W:World):Prop:=W.cell? ⟨nb,0,none⟩=some z0∧W.cell? ⟨nb,1,none⟩=some z1∧W.cell? ⟨nb,2,none⟩=some z2∧W.cell? ⟨mb,3,none⟩=some (.int .i64 nt)∧W.cell? ⟨g1,1,none⟩=some (.int .i64 (-nt))∧nb<W.heap.size∧mb<W.heap.size∧g1<W.heap.size
theorem SL.below {nb mb g1:Nat}{z0 z1 z2:Value}{nt:Int}{W W':World}(h:SL nb mb g1 z0 z1 z2 nt W)(hb:Below W.heap.size W W'):SL nb mb g1 z0 z1 z2 nt W':=by
 obtain ⟨h0,h1,h2,h3,h4,h5,h6,h7⟩:=h
 exact ⟨(hb.cell (p:=⟨nb,0,none⟩) h5).trans h0,(hb.cell (p:=⟨nb,1,none⟩) h5).trans h1,(hb.cell (p:=⟨nb,2,none⟩) h5).trans h2,(hb.cell (p:=⟨mb,3,none⟩) h6).trans h3,(hb.cell (p:=⟨g1,1,none⟩) h7).trans h4,Jm h5 hb.size,Jm h6 hb.size,Jm h7 hb.size⟩
theorem laid_walk (w:World)(p:Option Addr)(len cap:Nat)(c:Nat→Int)(hc:DC w p len c)(hlen:len<1000000000000000) :
  Calls Try.prog 3 #[.slice p len cap] w fun e w'=>e=.returned (.bool true)∧Below w.heap.size w w':=by
 have A1:=hid' (made_any (base:=w.heap.size) (v0:=w) (more:=0) (dice_new (cap:=cap) hc hlen) (by simp) (BelowX.of _ ((Jd _ _).alloc (Jb _) _)) (by omega) hc.arg)
 clear hc hlen
 go_enter Try.func3,Try.ntmps3
 go_upto_region 3 with (first
  | (go_at_call 5; refine A1.out.mono ?_; rintro e W2 ⟨mb,pb,b0,b1,b2,b3,vs,slots,tasks,R,a,rfl,M1,I1,hpc⟩; have H1:=hid' (Jc M1 I1); clear M1 I1 hpc A1)
  | fail)
 have hfew:=H1.out.2.few
 obtain ⟨nt,hnt⟩:∃ nt:Nat,tasks=(nt:Int):=⟨tasks.toNat,by omega⟩
 subst hnt
 have RM0:=H1.out.2.rm
 have RK0:=H1.out.2.ids
 rw [Jn] at RM0 RK0
 obtain ⟨pv,cv,hvs⟩:=H1.out.1.row.sl'
 subst hvs
 have T1:=hid' (table_any H1.out.1 RM0 rfl)
 have HF:=hid' (Jc RK0 (Jc RM0 (Jc H1.out.1.all_fits (show ∀ k,k<slots.length→posM 0 R k=k from fun k hk=>posM_made H1.out.2 hk))))
 clear RM0 RK0
 go_upto_region 6 with (first
  | (go_at_call 6; refine T1.out.mono ?_; rintro e W3 ⟨v,vals,rfl,Tb,bb⟩; have H2:=hid' (Jc Tb (H1.out.1.of_below bb)); clear Tb bb T1)
  | fail)
 obtain ⟨y0,_,_,_⟩:=H2.out.2.cs
 have y4:=H2.out.2.lt
 have Q1:=hid' (mk_solve H2.out.2)
 go_upto_region 7 with (first
  | (go_at_call 7; refine Q1.out.mono ?_; rintro e W4 ⟨P,s,S,s1,s2,s3,s4,fl,pr,rfl,hs0,MC,ho,hSw,hOk,hks⟩; clear hs0 hks; have H3:=hid' (Jc MC (Jc (H2.out.2.restT ho H2.out.1) (Jc hSw hOk))); clear MC ho hSw hOk Q1)
  | fail)
 clear y0 y4
 obtain ⟨y0,_,_,_⟩:=H3.out.1.cs
 have y4:=H3.out.1.lt
 have B1:=hid' (shown_any H3.out.2.2.1)
 go_upto_region 8 with (first
  | (go_at_call 8; refine B1.out.mono ?_; rintro e W5 ⟨v1,v2,v3,v4,n1,n2,n3,rfl,hSh⟩; obtain ⟨a1,j1,rfl⟩:=hSh.r1.sl; obtain ⟨a2,j2,rfl⟩:=hSh.r2.sl; obtain ⟨a3,j3,rfl⟩:=hSh.r3.sl; obtain ⟨a4,j4,rfl⟩:=hSh.r4.sl; have H4:=hid' hSh; clear hSh B1)
  | fail)
 clear y0 y4
 have E0:=H4.out.see (nodesR R)
 generalize hW6:W5.alloc _=W6
 rw [hW6] at E0
 have hN:=nodes_made HF.out.1 (by omega)
 have hls:(intL (nodesR R) (supN R)).length=nodesR R:=intL_length _ _
 obtain ⟨g1,e1,s1',s2',_⟩:=E0.r1.at' (k:=1) (by rw [hls]; omega)
 subst e1
 rw [intL_get,sup_sink,HF.out.2.1.len3] at s2'
 have T2:=(E0.keep ((Jd _ _).drew:Below W6.heap.size W6 W6.drew)).total H3.out.2.2.2
 obtain ⟨x0,x1,x2,x3⟩:=E0.cs
 have MZ:=H3.out.1.of_below E0.below
 obtain ⟨y0,_,y2,y3⟩:=MZ.cs
 have y4:=MZ.lt
 have H5:=hid' (Jc E0 (Jc (H3.out.2.1.below E0.below) MZ))
 clear E0 MZ hW6 H4
 rw [hls] at x1 T2
 have T2:=hid' T2
 rw [hls]
 obtain ⟨n,hn⟩:∃ n:Nat,nodesR R=n:=⟨_,rfl⟩
 have HN:=hid' (Jc hN (Jc hls hn))
 rw [hn] at hN
 simp only [hn] at x0 x1 T2 ⊢
 clear hls hn
 obtain ⟨p5,c5,hv5⟩:=H2.out.1.sl
 rw [rowsT_length] at hv5
 subst hv5
 have wr1:IntKind.i64.wrap (4+(slots.length:Int))=4+(slots.length:Int):=wrap_mid (by omega) (by omega)
 have wr2:IntKind.i64.wrap (4+(slots.length:Int)+2)=4+(slots.length:Int)+2:=wrap_mid (by omega) (by omega)
 have wr3:IntKind.i64.wrap (4+(slots.length:Int)+2+(nt:Int))=4+(slots.length:Int)+2+(nt:Int):=wrap_mid (by omega) (by omega)
 have wr4:IntKind.i64.wrap (-(nt:Int))=-(nt:Int):=wrap_mid (by omega) (by omega)
 have hne:((n:Int) != 4+(slots.length:Int)+2+(nt:Int))=false:=by
  have:(n:Int)=4+(slots.length:Int)+2+(nt:Int):=by omega
  simp [this]
 have h1N:(1:Int)<(n:Int):=by omega
 have HNn:=hid' hN
 clear hN
 go_upto_region 9 with fail
 have hS0:SL W5.heap.size mb g1 (.int .i64 (n:Int)) (.slice (some ⟨g1,0,none⟩) n j1) (.slice a2 (netR R).length j2) (nt:Int) W6.drew:=⟨x0,x1,x2,y3,s2',x3,y4,s1'⟩
 clear x0 x1 x2 y3 s2' y0 y2
 refine wp_region_held_drew (S:=SL W5.heap.size mb g1 (.int .i64 (n:Int)) (.slice (some ⟨g1,0,none⟩) n j1) (.slice a2 (netR R).length j2) (nt:Int)) (by kernel_rfl) hS0 (fun _=>?_)
 refine tkH (v:=?_) 0 50 hS0 ?_ ?_; rotate_left 1
 ·(rintro w' ⟨e0,e1,e2,e3,e4,e5,e6,e7⟩; go_simp; try with_reducible rfl)
 simp only [Act.put,Jh,Ji,Jj]
 refine tkH (v:=?_) 1 51 hS0 ?_ ?_; rotate_left 1
 ·(rintro w' ⟨e0,e1,e2,e3,e4,e5,e6,e7⟩; go_simp; try with_reducible rfl)
 simp only [Act.put,Jh,Ji,Jj]
 refine tkH (v:=?_) 2 52 hS0 ?_ ?_; rotate_left 1
 ·(rintro w' ⟨e0,e1,e2,e3,e4,e5,e6,e7⟩; go_simp; try with_reducible rfl)
 simp only [Act.put,Jh,Ji,Jj]
 refine tkH (v:=?_) 3 53 hS0 ?_ ?_; rotate_left 1
 ·(rintro w' ⟨e0,e1,e2,e3,e4,e5,e6,e7⟩; go_simp; try with_reducible rfl)
 simp only [Act.put,Jh,Ji,Jj]
 refine tkH (v:=?_) 4 54 hS0 ?_ ?_; rotate_left 1
 ·(rintro w' ⟨e0,e1,e2,e3,e4,e5,e6,e7⟩; go_simp; try with_reducible rfl)
 simp only [Act.put,Jh,Ji,Jj]
 refine tkH (v:=?_) 5 55 hS0 ?_ ?_; rotate_left 1
 ·(rintro w' ⟨e0,e1,e2,e3,e4,e5,e6,e7⟩; go_simp; try with_reducible rfl)
 simp only [Act.put,Jh,Ji,Jj]
 refine wpAnyH_take (i:=6) (v:=.int .i64 (4+(slots.length:Int))) rfl (by kernel_rfl) (by kernel_rfl) (by kernel_rfl) (fun _ _ _ h=>h) (Jr ⟨by rfl,?_⟩) hS0 ?_
 ·(rintro w' ⟨e0,e1,e2,e3,e4,e5,e6,e7⟩; go_simp; first | done | with_reducible rfl | omega | (rw [if_pos (by omega)]) | (rw [wr1]) | (simp; done) | (simp; omega) | (trace_state; fail))
 change wpAnyH _ _ _ _ _ _ _ (Act.put _ (some 56) _) _
 simp only [Act.put,Jh,Ji,Jj]
 refine wpAnyH_take (i:=7) (v:=.int .i64 (4+(slots.length:Int)+2)) rfl (by kernel_rfl) (by kernel_rfl) (by kernel_rfl) (fun _ _ _ h=>h) (Jr ⟨by rfl,?_⟩) hS0 ?_
 ·(rintro w' ⟨e0,e1,e2,e3,e4,e5,e6,e7⟩; go_simp; first | done | with_reducible rfl | omega | (rw [if_pos (by omega)]) | (rw [wr2]) | (simp; done) | (simp; omega) | (trace_state; fail))
 change wpAnyH _ _ _ _ _ _ _ (Act.put _ (some 57) _) _
 simp only [Act.put,Jh,Ji,Jj]
 refine tkH (v:=?_) 8 58 hS0 ?_ ?_; rotate_left 1
 ·(rintro w' ⟨e0,e1,e2,e3,e4,e5,e6,e7⟩; go_simp; try with_reducible rfl)
 simp only [Act.put,Jh,Ji,Jj]
 refine tkH (v:=?_) 9 59 hS0 ?_ ?_; rotate_left 1
 ·(rintro w' ⟨e0,e1,e2,e3,e4,e5,e6,e7⟩; go_simp; try with_reducible rfl)
 simp only [Act.put,Jh,Ji,Jj]
 refine tkH (v:=?_) 10 60 hS0 ?_ ?_; rotate_left 1
 ·(rintro w' ⟨e0,e1,e2,e3,e4,e5,e6,e7⟩; go_simp; try with_reducible rfl)
 simp only [Act.put,Jh,Ji,Jj]
 refine tkH (v:=?_) 11 61 hS0 ?_ ?_; rotate_left 1
 ·(rintro w' ⟨e0,e1,e2,e3,e4,e5,e6,e7⟩; go_simp; try with_reducible rfl)
 simp only [Act.put,Jh,Ji,Jj]
 refine wpAnyH_take (i:=12) (v:=.int .i64 (4+(slots.length:Int)+2+(nt:Int))) rfl (by kernel_rfl) (by kernel_rfl) (by kernel_rfl) (fun _ _ _ h=>h) (Jr ⟨by rfl,?_⟩) hS0 ?_
 ·(rintro w' ⟨e0,e1,e2,e3,e4,e5,e6,e7⟩; go_simp; first | done | with_reducible rfl | omega | (rw [if_pos (by omega)]) | (rw [wr3]) | (simp; done) | (simp; omega) | (trace_state; fail))
 change wpAnyH _ _ _ _ _ _ _ (Act.put _ (some 62) _) _
 simp only [Act.put,Jh,Ji,Jj]
 refine wpAnyH_take (i:=13) (v:=.bool false) rfl (by kernel_rfl) (by kernel_rfl) (by kernel_rfl) (fun _ _ _ h=>h) (Jr ⟨by rfl,?_⟩) hS0 ?_
 ·(rintro w' ⟨e0,e1,e2,e3,e4,e5,e6,e7⟩; go_simp; first | done | with_reducible rfl | omega | (rw [if_pos (by omega)]) | (rw [hne]) | (simp; done) | (simp; omega) | (trace_state; fail))
 change wpAnyH _ _ _ _ _ _ _ (Act.put _ (some 63) _) _
 simp only [Act.put,Jh,Ji,Jj]
 refine wpAnyH_take (i:=14) (v:=.bool false) rfl (by kernel_rfl) (by kernel_rfl) (by kernel_rfl) (fun _ _ _ h=>h) (Jr ⟨by rfl,?_⟩) hS0 ?_
 ·(rintro w' ⟨e0,e1,e2,e3,e4,e5,e6,e7⟩; go_simp; first | done | with_reducible rfl | omega | (rw [if_pos (by omega)]) | (simp; done) | (simp; omega) | (trace_state; fail))
 change wpAnyH _ _ _ _ _ _ _ (Act.put _ (some 64) _) _
 simp only [Act.put,Jh,Ji,Jj]
 refine tkH (v:=?_) 15 65 hS0 ?_ ?_; rotate_left 1
 ·(rintro w' ⟨e0,e1,e2,e3,e4,e5,e6,e7⟩; go_simp; try with_reducible rfl)
 simp only [Act.put,Jh,Ji,Jj]
 refine tkH (v:=?_) 16 66 hS0 ?_ ?_; rotate_left 1
 ·(rintro w' ⟨e0,e1,e2,e3,e4,e5,e6,e7⟩; go_simp; try with_reducible rfl)
 simp only [Act.put,Jh,Ji,Jj]
 refine tkH (v:=?_) 17 67 hS0 ?_ ?_; rotate_left 1
 ·(rintro w' ⟨e0,e1,e2,e3,e4,e5,e6,e7⟩; go_simp; try with_reducible rfl)
 simp only [Act.put,Jh,Ji,Jj]
 refine tkH (v:=?_) 18 68 hS0 ?_ ?_; rotate_left 1
 ·(rintro w' ⟨e0,e1,e2,e3,e4,e5,e6,e7⟩; go_simp; try with_reducible rfl)
 simp only [Act.put,Jh,Ji,Jj]
 refine tkH (v:=?_) 19 69 hS0 ?_ ?_; rotate_left 1
 ·(rintro w' ⟨e0,e1,e2,e3,e4,e5,e6,e7⟩; go_simp; try with_reducible rfl)
 simp only [Act.put,Jh,Ji,Jj]
 refine tkH (v:=?_) 20 70 hS0 ?_ ?_; rotate_left 1
 ·(rintro w' ⟨e0,e1,e2,e3,e4,e5,e6,e7⟩; go_simp; try with_reducible rfl)
 simp only [Act.put,Jh,Ji,Jj]
 refine wpAnyH_take (i:=21) (v:=.bool false) rfl (by kernel_rfl) (by kernel_rfl) (by kernel_rfl) (fun _ _ _ h=>h) (Jr ⟨by rfl,?_⟩) hS0 ?_
 ·(rintro w' ⟨e0,e1,e2,e3,e4,e5,e6,e7⟩; go_simp; first | done | with_reducible rfl | omega | (rw [if_pos (by omega)]) | (simp; done) | (simp; omega) | (trace_state; fail))
 change wpAnyH _ _ _ _ _ _ _ (Act.put _ (some 71) _) _
 simp only [Act.put,Jh,Ji,Jj]
 refine wpAnyH_take (i:=22) (v:=.bool false) rfl (by kernel_rfl) (by kernel_rfl) (by kernel_rfl) (fun _ _ _ h=>h) (Jr ⟨by rfl,?_⟩) hS0 ?_
 ·(rintro w' ⟨e0,e1,e2,e3,e4,e5,e6,e7⟩; go_simp; first | done | with_reducible rfl | omega | (rw [if_pos (by omega)]) | (simp; done) | (simp; omega) | (trace_state; fail))
 change wpAnyH _ _ _ _ _ _ _ (Act.put _ (some 72) _) _
 simp only [Act.put,Jh,Ji,Jj]
 refine tkH (v:=?_) 23 73 hS0 ?_ ?_; rotate_left 1
 ·(rintro w' ⟨e0,e1,e2,e3,e4,e5,e6,e7⟩; go_simp; try with_reducible rfl)
 simp only [Act.put,Jh,Ji,Jj]
 refine tkH (v:=?_) 24 74 hS0 ?_ ?_; rotate_left 1
 ·(rintro w' ⟨e0,e1,e2,e3,e4,e5,e6,e7⟩; go_simp; try with_reducible rfl)
 simp only [Act.put,Jh,Ji,Jj]
 refine tkH (v:=?_) 25 75 hS0 ?_ ?_; rotate_left 1
 ·(rintro w' ⟨e0,e1,e2,e3,e4,e5,e6,e7⟩; go_simp; try with_reducible rfl)
 simp only [Act.put,Jh,Ji,Jj]
 refine wpAnyH_take (i:=26) (v:=.pointer (some ⟨g1,1,none⟩)) rfl (by kernel_rfl) (by kernel_rfl) (by kernel_rfl) (fun _ _ _ h=>h) (Jr ⟨by rfl,?_⟩) hS0 ?_
 ·(rintro w' ⟨e0,e1,e2,e3,e4,e5,e6,e7⟩; go_simp; first | done | with_reducible rfl | omega | (rw [if_pos (by omega)]) | (simp; done) | (simp; omega) | (trace_state; fail))
 change wpAnyH _ _ _ _ _ _ _ (Act.put _ (some 76) _) _
 simp only [Act.put,Jh,Ji,Jj]
 refine wpAnyH_take (i:=27) (v:=.int .i64 (-(nt:Int))) rfl (by kernel_rfl) (by kernel_rfl) (by kernel_rfl) (fun _ _ _ h=>h) (Jr ⟨by rfl,?_⟩) hS0 ?_
 ·(rintro w' ⟨e0,e1,e2,e3,e4,e5,e6,e7⟩; go_simp; first | done | with_reducible rfl | omega | (rw [if_pos (by omega)]) | (simp; done) | (simp; omega) | (trace_state; fail))
 change wpAnyH _ _ _ _ _ _ _ (Act.put _ (some 77) _) _
 simp only [Act.put,Jh,Ji,Jj]
 refine tkH (v:=?_) 28 78 hS0 ?_ ?_; rotate_left 1
 ·(rintro w' ⟨e0,e1,e2,e3,e4,e5,e6,e7⟩; go_simp; try with_reducible rfl)
 simp only [Act.put,Jh,Ji,Jj]
 refine tkH (v:=?_) 29 79 hS0 ?_ ?_; rotate_left 1
 ·(rintro w' ⟨e0,e1,e2,e3,e4,e5,e6,e7⟩; go_simp; try with_reducible rfl)
 simp only [Act.put,Jh,Ji,Jj]
 refine tkH (v:=?_) 30 80 hS0 ?_ ?_; rotate_left 1
 ·(rintro w' ⟨e0,e1,e2,e3,e4,e5,e6,e7⟩; go_simp; try with_reducible rfl)
 simp only [Act.put,Jh,Ji,Jj]
 refine tkH (v:=?_) 31 81 hS0 ?_ ?_; rotate_left 1
 ·(rintro w' ⟨e0,e1,e2,e3,e4,e5,e6,e7⟩; go_simp; try with_reducible rfl)
 simp only [Act.put,Jh,Ji,Jj]
 refine wpAnyH_take (i:=32) (v:=.int .i64 (-(nt:Int))) rfl (by kernel_rfl) (by kernel_rfl) (by kernel_rfl) (fun _ _ _ h=>h) (Jr ⟨by rfl,?_⟩) hS0 ?_
 ·(rintro w' ⟨e0,e1,e2,e3,e4,e5,e6,e7⟩; go_simp; first | done | with_reducible rfl | omega | (rw [if_pos (by omega)]) | (rw [wr4]) | (simp; done) | (simp; omega) | (trace_state; fail))
 change wpAnyH _ _ _ _ _ _ _ (Act.put _ (some 82) _) _
 simp only [Act.put,Jh,Ji,Jj]
 refine wpAnyH_take (i:=33) (v:=.bool false) rfl (by kernel_rfl) (by kernel_rfl) (by kernel_rfl) (fun _ _ _ h=>h) (Jr ⟨by rfl,?_⟩) hS0 ?_
 ·(rintro w' ⟨e0,e1,e2,e3,e4,e5,e6,e7⟩; go_simp; first | done | with_reducible rfl | omega | (rw [if_pos (by omega)]) | (simp; done) | (simp; omega) | (trace_state; fail))
 change wpAnyH _ _ _ _ _ _ _ (Act.put _ (some 83) _) _
 simp only [Act.put,Jh,Ji,Jj]
 refine wpAnyH_take (i:=34) (v:=.bool false) rfl (by kernel_rfl) (by kernel_rfl) (by kernel_rfl) (fun _ _ _ h=>h) (Jr ⟨by rfl,?_⟩) hS0 ?_
 ·(rintro w' ⟨e0,e1,e2,e3,e4,e5,e6,e7⟩; go_simp; first | done | with_reducible rfl | omega | (rw [if_pos (by omega)]) | (simp; done) | (simp; omega) | (trace_state; fail))
 change wpAnyH _ _ _ _ _ _ _ (Act.put _ (some 84) _) _
 simp only [Act.put,Jh,Ji,Jj]
 refine tkH (v:=?_) 35 85 hS0 ?_ ?_; rotate_left 1
 ·(rintro w' ⟨e0,e1,e2,e3,e4,e5,e6,e7⟩; go_simp; try with_reducible rfl)
 simp only [Act.put,Jh,Ji,Jj]
 refine tkH (v:=?_) 36 86 hS0 ?_ ?_; rotate_left 1
 ·(rintro w' ⟨e0,e1,e2,e3,e4,e5,e6,e7⟩; go_simp; try with_reducible rfl)
 simp only [Act.put,Jh,Ji,Jj]
 refine tkH (v:=?_) 37 87 hS0 ?_ ?_; rotate_left 1
 ·(rintro w' ⟨e0,e1,e2,e3,e4,e5,e6,e7⟩; go_simp; try with_reducible rfl)
 simp only [Act.put,Jh,Ji,Jj]
 refine tkH (v:=?_) 39 89 hS0 ?_ ?_; rotate_left 1
 ·(rintro w' ⟨e0,e1,e2,e3,e4,e5,e6,e7⟩; go_simp; try with_reducible rfl)
 simp only [Act.put,Jh,Ji,Jj]
 refine wpAnyH_ready (rs:=[38]) (by kernel_rfl) (by simp) ?_
 refine AllReadyH.cons rfl (fun K hK=>?_) AllReadyH.nil
 go_simp
 refine T2.out.mono ?_
 rintro e W7 ⟨rfl,bb⟩
 have hS1:=hS0.below bb
 have H6:=hid' (next2 ((Jd _ _).drew:Below W6.heap.size W6 W6.drew) bb)
 clear bb T2
 refine hK.out _ _ hS1 (fun _=>?_)
 clear hK K
 refine tkH (v:=?_) 40 90 hS1 ?_ ?_; rotate_left 1
 ·(rintro w' ⟨e0,e1,e2,e3,e4,e5,e6,e7⟩; go_simp; try with_reducible rfl)
 simp only [Act.put,Jh,Ji,Jj]
 refine tkH (v:=?_) 41 91 hS1 ?_ ?_; rotate_left 1
 ·(rintro w' ⟨e0,e1,e2,e3,e4,e5,e6,e7⟩; go_simp; try with_reducible rfl)
 simp only [Act.put,Jh,Ji,Jj]
 refine wpAnyH_done (by kernel_rfl) ?_ _
 clear wr1 wr2 wr3 wr4 hne hS0 hS1 y4 x3 s1'
 have H7:=hid' (Jc (H5.out.1.keep H6.out) (Jc (H5.out.2.1.below H6.out) (H5.out.2.2.of_below H6.out)))
 have E7:=H7.out.1
 rw [HN.out.2.1] at E7
 simp only [HN.out.2.2] at E7
 have hOk:=H3.out.2.2.2
 simp only [HN.out.2.2] at hOk
 have H8:=hid' (Jc E7 (Jc hOk H7.out.2))
 clear E7 hOk H7 H5 h1N
 go_upto_region 11 with fail
 go_wp2_with fail
 go_loopg [12] nt (fun gk tv wr=>∃ t:Nat,t≤nt∧nt - t≤gk∧tv=.int .i64 t∧Hid (Below W7.heap.size W7 wr))
 case atStart=>exact ⟨0,by omega,by omega,rfl,(show Below _ _ _ from Jd _ _)⟩
 case' round=>skip
 obtain ⟨t,htn,hgk,rfl,HL⟩:=hrel
 rename World=>Z0
 have MZ:=hid' (H8.out.2.2.2.of_below HL.out)
 obtain ⟨_,_,_,y3⟩:=MZ.out.cs
 have y4:=MZ.out.lt
 by_cases ht:t<nt
 ·have htI:(t:Int)<(nt:Int):=by omega
  have ht3:t<R.t3.length:=by rw [HF.out.2.1.len3]; exact ht
  have EZ:=H8.out.1.keep HL.out
  obtain ⟨x0,x1,x2,x3⟩:=EZ.cs
  obtain ⟨fr,hfr⟩:∃ fr:Nat,6+slots.length+t=fr:=⟨_,rfl⟩
  have hfn:fr<n:=by have:=HNn.out; omega
  have hfI:(fr:Int)<(n:Int):=by omega
  obtain ⟨_,e1,s1,s2,_⟩:=EZ.r1.at' (k:=fr) (by rw [intL_length]; exact hfn)
  cases e1
  rw [intL_get,sup_made HF.out.1 (by omega)] at s2
  have hfe:4+(slots.length:Int)+2+(t:Int)=(fr:Int):=by omega
  have hfe2:6+(slots.length:Int)+(t:Int)=(fr:Int):=by omega
  have HFR:=hid' hfr
  clear EZ hfr
  go_upto_region 17 with fail
  clear x0 x1 x2 x3 s1 s2 y3 y4
  clear hfe hfe2
  go_wp2_with fail
  go_loopg [14] slots.length (fun gk kv wr=>∃ k:Nat,k≤slots.length∧slots.length - k≤gk∧kv=.int .i64 k∧Hid (Below W7.heap.size W7 wr))
  case atStart=>exact ⟨0,by omega,by omega,rfl,HL⟩
  case' round=>skip
  obtain ⟨k,hkn,hgk2,rfl,HI⟩:=hrel
  rename World=>Z1
  have EY:=H8.out.1.keep HI.out
  obtain ⟨x0,x1,x2,x3⟩:=EY.cs
  have hl1:=len_of HF.out.1.i1
  have hnt:=nd_task HF.out.1 (by omega) ht
  have hnt':nd R (.task t)=(fr:Int):=by have:=HFR.out; omega
  by_cases hk:k<slots.length
  ·have hkI:(k:Int)<(slots.length:Int):=by omega
   have WA:=hid' (EY.way H8.out.2.1 (some ⟨g1,0,none⟩) n j1 (fr:Int) (4+(k:Int)))
   have hnm:=nd_mach HF.out.1 (by omega) hk
   have HK:=hid' (show ∀ b,IsBest (fun i=>(netR R).getD i ⟨0,0,0,0⟩) (netR R).length (fr:Int) (4+(k:Int)) (Wy1 (fun i=>(netR R).getD i ⟨0,0,0,0⟩) (netR R).length (fr:Int) (4+(k:Int)) (netR R).length) b→b=cR R t k from fun b hb=>way_machL HF.out.2.2.1 ht3 (by omega) (by rw [hnt',hnm]; exact hb))
   clear EY hnt hnt' hnm
   go_upto_region 21 with (first
    | (go_at_call 10; refine WA.out.mono ?_; rintro e Z2 ⟨b,rfl,hb,bb⟩; have eb:=HK.out b hb; subst eb; have H9:=hid' (next2 HI.out bb); clear hb bb WA)
    | fail)
   clear x0 x1 x2 x3
   obtain ⟨g5,r5,cr5,e5,q1,q2,q3,q4⟩:=(H8.out.2.2.1.below H9.out).get (i:=t) (by rw [rowsT_length]; exact ht) (by rw [rowsT_get ht,intL_length]; omega)
   rw [rowsT_get ht,intL_length] at q2 q4
   subst e5
   have q5:=q4 (k+1) (by omega)
   have hX:(intL (slots.length+1) (tabF 0 R t)).getD (k+1) 0=cR R t k:=by
    rw [getD_at (by rw [intL_length]; omega),intL_get]
    unfold tabF
    rw [if_neg (by omega)]
    show cR R t (posM 0 R k)=_
    rw [HF.out.2.2.2 k hk]
   rw [hX] at q5
   obtain ⟨X,hXX⟩:∃ X,cR R t k=X:=⟨_,rfl⟩
   rw [hXX] at q5
   simp only [hXX]
   clear q4 hX hXX
   have hkI2:(k:Int)+1<(slots.length:Int)+1:=by omega
   go_wp2_with fail
   go_roundg (slots.length - (k+1))
   case measure=>omega
   case rel=>exact ⟨k+1,by omega,Jb _,by go_num,H9⟩
  ·obtain rfl:k=slots.length:=by omega
   have WA:=hid' (EY.way H8.out.2.1 (some ⟨g1,0,none⟩) n j1 (fr:Int) (4+(slots.length:Int)))
   clear EY hnt
   go_upto_region 24 with (first
    | (go_at_call 10; refine WA.out.mono ?_; rintro e Z2 ⟨b1',rfl,hb1,bb⟩; have H9:=hid' (Jc hb1 (next2 HI.out bb)); clear hb1 bb WA)
    | fail)
   clear x0 x1 x2 x3
   have E2:=H8.out.1.keep H9.out.2
   obtain ⟨x0,x1,x2,x3⟩:=E2.cs
   have WB:=hid' (E2.way H8.out.2.1 (some ⟨g1,0,none⟩) n j1 (fr:Int) (5+(slots.length:Int)))
   clear E2
   go_upto_region 25 with (first
    | (go_at_call 10; refine WB.out.mono ?_; rintro e Z3 ⟨b2',rfl,hb2,bb⟩; have HB2:=hid' hb2; have H10:=hid' (next2 H9.out.2 bb); clear hb2 bb WB)
    | fail)
   clear x0 x1 x2 x3
   obtain ⟨g5,r5,cr5,e5,q1,q2,q3,q4⟩:=(H8.out.2.2.1.below H10.out).get (i:=t) (by rw [rowsT_length]; exact ht) (by rw [rowsT_get ht,intL_length]; omega)
   rw [rowsT_get ht,intL_length] at q2 q4
   subst e5
   have q5:=q4 0 (by omega)
   have hX:(intL (slots.length+1) (tabF 0 R t)).getD 0 0=cR R t R.t1.length:=by
    rw [getD_at (by rw [intL_length]; omega),intL_get]
    unfold tabF
    rw [if_pos rfl]
   rw [hX] at q5
   have hor:b1'=cR R t R.t1.length∨b2'=cR R t R.t1.length:=by
    obtain ⟨j,hj2,hj,hjt⟩:=job_of HF.out.2.2.1 HF.out.1 ht3
    have hnj:=nd_job HF.out.1 hj2
    rcases (show j=0∨j=1 by omega) with rfl | rfl
    ·exact Jr (way_jobL HF.out.2.2.1 ht3 hj hjt (by rw [hnt',hnj,show 4+(slots.length:Int)+((0:Nat):Int)=4+(slots.length:Int) by omega]; exact H9.out.1))
    ·exact Js (way_jobL HF.out.2.2.1 ht3 hj hjt (by rw [hnt',hnj,show 4+(slots.length:Int)+((1:Nat):Int)=5+(slots.length:Int) by omega]; exact HB2.out))
   obtain ⟨X,hXX⟩:∃ X,cR R t R.t1.length=X:=⟨_,rfl⟩
   rw [hXX] at q5 hor
   have h0M:(0:Int)<(slots.length:Int)+1:=by omega
   clear q4 hX hXX hnt' hl1
   by_cases h1:b1'=X
   ·have h1b:(b1' != X)=false:=by simp [h1]
    go_wp2_with fail
    go_roundg (nt - (t+1))
    case measure=>omega
    case rel=>exact ⟨t+1,by omega,Jb _,by go_num,H10⟩
   ·have h1b:(b1' != X)=true:=by simp [h1]
    have h2:b2'=X:=by rcases hor with q | q; exact absurd q h1; exact q
    have h2b:(b2' != X)=false:=by simp [h2]
    clear hor h2
    go_wp2_with fail
    go_roundg (nt - (t+1))
    case measure=>omega
    case rel=>exact ⟨t+1,by omega,Jb _,by go_num,H10⟩
 ·have htI:¬ (t:Int)<(nt:Int):=by omega
  go_wp2_with fail
  go_ret
  exact ⟨rfl,MZ.out.below.below (Jb _)⟩
end
end Go.Proofs.Ytjdindfjfpdikab
