import Derived.Deep.DeepCutAuto
import Derived.Deep.RegionHeld
import Derived.Test.YtjdindfjfpdikabB19
import Derived.Test.YtjdindfjfpdikabB22
import Derived.Test.YtjdindfjfpdikabB23
import Derived.Test.YtjdindfjfpdikabPre
set_option maxRecDepth 100000
set_option maxHeartbeats 8000000
namespace Go.Proofs.Ytjdindfjfpdikab
section
open Go.RowKit
def SB (b b':Nat)(x0 x1 y0 y1:Int)(w:World):Prop:=w.cell? ⟨b,0,none⟩=some (.int .i64 x0)∧w.cell? ⟨b,1,none⟩=some (.int .i64 x1)∧w.cell? ⟨b',0,none⟩=some (.int .i64 y0)∧w.cell? ⟨b',1,none⟩=some (.int .i64 y1)
theorem SB.below {b b':Nat}{x0 x1 y0 y1:Int}{w w':World}(h:SB b b' x0 x1 y0 y1 w)(hb:Below w.heap.size w w'):SB b b' x0 x1 y0 y1 w':=by
 have l1:b<w.heap.size:=World.block_lt_of_cell? w _ h.1
 have l2:b'<w.heap.size:=World.block_lt_of_cell? w _ h.2.2.1
 exact ⟨(hb.cell (p:=⟨b,0,none⟩) l1).trans h.1,(hb.cell (p:=⟨b,1,none⟩) l1).trans h.2.1,(hb.cell (p:=⟨b',0,none⟩) l2).trans h.2.2.1,(hb.cell (p:=⟨b',1,none⟩) l2).trans h.2.2.2⟩
theorem SB.of {b b':Nat}{x0 x1 y0 y1:Int}{w:World}{r r':List Value}{t t':TypeId}(h:w.heap[b]?=some (.cells (.int .i64 x0 :: .int .i64 x1 :: r).toArray t))(h':w.heap[b']?=some (.cells (.int .i64 y0 :: .int .i64 y1 :: r').toArray t')):SB b b' x0 x1 y0 y1 w :=
 ⟨by rw [cellC h]; rfl,by rw [cellC h]; rfl,by rw [cellC h']; rfl,by rw [cellC h']; rfl⟩
theorem flatMap_ext {α β:Type}{f g:α→List β}:∀ {l:List α},(∀ x∈l,f x=g x)→l.flatMap f=l.flatMap g
 | [],_=>rfl
 | x :: r,h=>by rw [List.flatMap_cons,List.flatMap_cons,h x Jp,flatMap_ext (fun y hy=>h y (Jk _ hy))]
def tgtA (R:RSt)(fr t mo:Int)(l:List (Int×Int)):List Ar:=l.flatMap (fun a=>match wishR R t a.1 a.2 with
 | some c=>[⟨fr,nodeT (nmR R) a,1,c+mo⟩]
 | none=>[])
section
variable {B:Nat}{w:World}{pb b0 b1 b2 b3 cb mb:Nat}{l0:Things}{l1:Runs}{l2:Waits}{l3:Prefs}{R:RSt}{c:Ch}
theorem tgt_leaf (hf:Fit R){fr t mo:Int}{k:Nat}(hk:k≤3):tgtA R fr t mo (thR R k)=leafK R fr t mo k (idsR R k 100):=by
 unfold tgtA leafK thR
 rw [List.flatMap_map]
 refine flatMap_ext (fun x hx=>?_)
 obtain ⟨j,hj,rfl,hp⟩:=(ids_pairwise (R:=R) k 100).2 x hx
 unfold leafW
 simp only [Jn]
 rw [node_R hf hk hj hp]
 rfl
theorem tgt_all (hf:Fit R)(fr t mo:Int):tgtA R fr t mo (thR R 1 ++ thR R 0)=leafUp R fr t mo 2:=by
 have:tgtA R fr t mo (thR R 1 ++ thR R 0)=tgtA R fr t mo (thR R 1) ++ tgtA R fr t mo (thR R 0):=by unfold tgtA; rw [List.flatMap_append]
 rw [this,tgt_leaf hf (by omega),tgt_leaf hf (by omega)]
 show _=([] ++ leafK R fr t mo 1 (idsR R 1 100)) ++ leafK R fr t mo 0 (idsR R 0 100)
 rw [List.nil_append]
theorem task_arcs (hs:Sim l0 l1 l2 l3 R)(hp:PlanAt w pb b0 b1 b2 b3 l0 l1 l2 l3)(hlow:∀ b∈[pb,b0,b1,b2,b3],b<B)(hc:Chart B w cb mb c)(hnm:c.nm=nmR R)(hal:c.al.length≤10000)(hfl:c.fl.length≤10000){i id:Nat}(hi:i<R.t3.length)(hid0:R.t3[i].1=(id:Int)) :
  Calls Try.prog 40 #[.pointer (some ⟨pb,0,none⟩),.pointer (some ⟨cb,0,none⟩),.agg #[.int .i64 3,.int .i64 id]] w fun e w'=>e=.returned (.tuple #[])∧∃ va vf,CPost B cb mb c (chArcs c va vf (leafR R i id)) w w':=by
 have hf:=hs.fit
 obtain ⟨jb,any,htk⟩:∃ jb any,R.t3[i]=((id:Int),jb,any):=⟨_,_,by rw [← hid0]⟩
 have hn3:=hf.n3 _ (Jl hi)
 rw [htk] at hn3
 have hget:=hs.yes3 hi
 rw [htk] at hget
 obtain ⟨W1,hW1⟩:∃ W1,w.alloc (.cells #[.int .i64 3,.int .i64 id] 79)=W1:=⟨_,rfl⟩
 have bb1:Below w.heap.size w W1:=by rw [← hW1]; exact (Jd _ _).alloc (Jb _) _
 have X1:W1.heap[w.heap.size]?=some (.cells #[.int .i64 3,.int .i64 id] 79):=by rw [← hW1]; exact heap_alloc_new w _
 have P1:=hp.below bb1
 have e1:(Instr.lookup 70 (.map (some b0)) (.agg #[.int .i64 3,.int .i64 id]) false).run Try.prog W1.drew=.ok (.agg #[.int .i64 2,.int .i64 jb,.int .i64 0,.int .i64 any]) W1.drew:=run_look_yes' kt79 Try.underlying70 P1.m0.drew (3,(id:Int)) hget _ (zero82 _)
 have e1':∀ o,(Instr.lookup 70 (.map (some b0)) (.agg #[.int .i64 3,.int .i64 id]) false).run Try.prog (W1.alloc o).drew=.ok (.agg #[.int .i64 2,.int .i64 jb,.int .i64 0,.int .i64 any]) (W1.alloc o).drew:=fun o=>run_look_yes' kt79 Try.underlying70 (P1.m0.alloc o).drew (3,(id:Int)) hget _ (zero82 _)
 have p0:=P1.c0
 have pz:=P1.lt
 have c0:=cellC X1 0
 have c1:=cellC X1 1
 simp only [Jg,Jf,Je] at c0 c1
 have y1:w.heap.size<W1.heap.size:=(Ja.1 X1).1
 have H0:=hid (Jc hp (Jc hlow (Jc hc (Jc hnm (Jc hs (Jc htk hid0))))))
 have H1:=hid (Jc X1 (Jc bb1 hget))
 clear hp hlow hc hnm hs X1 bb1 P1 hget htk hid0
 go_enter Try.func40,Try.ntmps40
 go_upto_region 1 with fail
 go_region
 obtain ⟨W2,hW2⟩:∃ W2,(W1.alloc (.cells #[.int .i64 2,.int .i64 jb,.int .i64 0,.int .i64 any] 85)).drew=W2:=⟨_,rfl⟩
 rw [hW2]
 have bb2:Below W1.heap.size W1 W2:=by rw [← hW2]; exact ((Jd _ _).alloc (Jb _) _).drew
 have X2:W2.heap[W1.heap.size]?=some (.cells #[.int .i64 2,.int .i64 jb,.int .i64 0,.int .i64 any] 85):=by rw [← hW2]; exact heap_alloc_new W1 _
 have X1:W2.heap[w.heap.size]?=some (.cells #[.int .i64 3,.int .i64 id] 79):=(bb2.block _ y1).trans H1.out.1
 have P2:=(H0.out.1.below H1.out.2.1).below bb2
 obtain ⟨m1,m2,ok,hm⟩:∃ m1 m2 ok,(((get (3,(id:Int)) l1).getD (0,0)).1=m1∧((get (3,(id:Int)) l1).getD (0,0)).2=m2∧(get (3,(id:Int)) l1).isSome=ok):=⟨_,_,_,rfl,rfl,rfl⟩
 have e2:(Instr.lookup 71 (.map (some b1)) (.agg #[.int .i64 3,.int .i64 id]) true).run Try.prog W2.drew=.ok (.tuple #[.agg #[.int .i64 m1,.int .i64 m2],.bool ok]) W2.drew:=by rw [← hm.1,← hm.2.1,← hm.2.2]; exact look1 P2.m1.drew (3,(id:Int))
 have e2':∀ o,(Instr.lookup 71 (.map (some b1)) (.agg #[.int .i64 3,.int .i64 id]) true).run Try.prog (W2.alloc o).drew=.ok (.tuple #[.agg #[.int .i64 m1,.int .i64 m2],.bool ok]) (W2.alloc o).drew:=fun o=>by rw [← hm.1,← hm.2.1,← hm.2.2]; exact look1 (P2.m1.alloc o).drew (3,(id:Int))
 have p1:=P2.c1
 have pz2:=P2.lt
 have c0:=cellC X1 0
 have c1:=cellC X1 1
 simp only [Jg,Jf,Je] at c0 c1
 have y2:w.heap.size<W2.heap.size:=(Ja.1 X1).1
 have y3:W1.heap.size<W2.heap.size:=(Ja.1 X2).1
 have H2:=hid (Jc X1 (Jc X2 (Jc bb2 hm)))
 clear X1 X2 P2 hm bb2 hW2 e1 e1' p0 pz
 go_upto_region 2 with fail
 go_region
 obtain ⟨W3,hW3⟩:∃ W3,(W2.alloc (.cells #[.int .i64 m1,.int .i64 m2] 79)).drew=W3:=⟨_,rfl⟩
 rw [hW3]
 have bb3:Below W2.heap.size W2 W3:=by rw [← hW3]; exact ((Jd _ _).alloc (Jb _) _).drew
 have X3:W3.heap[W2.heap.size]?=some (.cells #[.int .i64 m1,.int .i64 m2] 79):=by rw [← hW3]; exact heap_alloc_new W2 _
 have X2:W3.heap[W1.heap.size]?=some (.cells #[.int .i64 2,.int .i64 jb,.int .i64 0,.int .i64 any] 85):=(bb3.block _ y3).trans H2.out.2.1
 have X1:W3.heap[w.heap.size]?=some (.cells #[.int .i64 3,.int .i64 id] 79):=(bb3.block _ y2).trans H2.out.1
 have RI0:RI B cb mb c w W3 [w.heap.size,W1.heap.size,W2.heap.size] c.va c.vf [] W3:=RI.start H0.out.2.2.1 (next2 (next2 H1.out.2.1 H2.out.2.2.1) bb3) (fun b hb=>by
  have z3:W2.heap.size<W3.heap.size:=(Ja.1 X3).1
  simp at hb
  rcases hb with rfl | rfl | rfl <;> omega)
 obtain ⟨mo,hmo⟩:∃ mo,moreR (R.on.getD i (-1))=mo:=⟨_,rfl⟩
 obtain ⟨fr,hfr⟩:∃ fr,nodeR R 3 id=fr:=⟨_,rfl⟩
 have hmo':=more_R H0.out.2.2.2.2.1 hi
 rw [hmo,H0.out.2.2.2.2.2.2,H2.out.2.2.2.2.2] at hmo'
 have hfr':nodeT c.nm (3,(id:Int))=fr:=by
  have hi3:=hf.id3 _ (Jl hi)
  rw [H0.out.2.2.2.2.2.1] at hi3
  have hpr:Pres R 3 id:=by
   show 0≤atOf (id:Int) R.t3
   have:=atOf_mem hf.nd3 hi
   rw [H0.out.2.2.2.2.2.1] at this
   rw [this]
   omega
  have h9:(id:Int)≤99:=hi3.2
  rw [H0.out.2.2.2.1,← hfr,← node_R hf (by omega) (by omega) hpr]
  rfl
 have H3:=hid (Jc X1 (Jc X2 (Jc X3 (Jc RI0 (Jc hmo (Jc hfr hfr'))))))
 have P3:=RI0.post.plan H0.out.2.2.1 H0.out.1 H0.out.2.1
 have hS3:SB w.heap.size W2.heap.size 3 id m1 m2 W3.drew:=SB.of (r:=[]) (r':=[]) X1 X3
 clear X1 X2 X3 bb3 hW3 e2 e2' p1 pz2 c0 c1 RI0 hfr hfr' hmo
 go_upto_if 29 with fail
 go_cut [7] (fun v wx=>∃ va vf,v=.int .i64 mo∧Hid (RI B cb mb c w W3 [w.heap.size,W1.heap.size,W2.heap.size] va vf (leafRun R i fr (R.on.getD i (-1))) wx))
 case first =>
  have hio:i<R.on.length:=by rw [hf.lo]; exact hi
  have hon:=H0.out.2.2.2.2.1.mv hi hio
  rw [H0.out.2.2.2.2.2.2] at hon
  have hgd:R.on.getD i (-1)=onL l1 (id:Int):=by rw [getD_at hio,hon]
  cases ok with
  | false =>
   have hg1:get (3,(id:Int)) l1=none:=by
    have:=H2.out.2.2.2.2.2
    cases e:get (3,(id:Int)) l1 with
    | none=>rfl
    | some m=>rw [e] at this; cases this
   have ho:R.on.getD i (-1)=-1:=by rw [hgd]; unfold onL; rw [hg1]
   have hm0:mo=0:=by rw [hmo']; rfl
   have H4:=hid (show leafRun R i fr (R.on.getD i (-1))=[] by unfold leafRun; rw [ho]; rfl)
   subst hm0
   clear hgd hon ho hg1 hS3 hmo'
   go_wp2_with fail
   go_meet
   exact ⟨c.va,c.vf,rfl,by rw [H4.out]; exact H3.out.2.2.2.1⟩
  | true =>
   obtain ⟨m,hg1⟩:∃ m,get (3,(id:Int)) l1=some m:=by
    have:=H2.out.2.2.2.2.2
    cases e:get (3,(id:Int)) l1 with
    | none=>rw [e] at this; cases this
    | some m=>exact ⟨m,rfl⟩
   obtain ⟨_,y,hy,rfl⟩:=H0.out.2.2.2.2.1.runs.in1 _ _ hg1
   have q1:=H2.out.2.2.2.1
   have q2:=H2.out.2.2.2.2.1
   rw [hg1] at q1 q2
   obtain rfl:m1=1:=q1.symm
   obtain rfl:m2=y.1:=q2.symm
   obtain ⟨k,hk,rfl⟩:=List.mem_iff_getElem.1 hy
   have hid1:=hf.id1 _ (Jl hk)
   have hgm:=H0.out.2.2.2.2.1.yes1 hk
   have ho:R.on.getD i (-1)=R.t1[k].1:=by rw [hgd]; unfold onL; rw [hg1]
   have hm0:mo=50:=by rw [hmo']; rfl
   have hcst:=cost_R H0.out.2.2.2.2.1 hi hk
   rw [H0.out.2.2.2.2.2.1] at hcst
   obtain ⟨mid,hmid⟩:∃ mid,R.t1[k].1=mid:=⟨_,rfl⟩
   obtain ⟨rk,hrk⟩:∃ rk,R.t1[k].2.1=rk:=⟨_,rfl⟩
   obtain ⟨sl,hsl⟩:∃ sl,R.t1[k].2.2=sl:=⟨_,rfl⟩
   have hat:=atOf_mem hf.nd1 hk
   rw [hmid,hrk,hsl] at hgm
   rw [hmid] at ho hid1 hat
   rw [hmid,hrk] at hcst
   have A1:=hid (costOn_any (P3.below (Jd _ _).drew) 3 (id:Int) 1 mid 2 jb 0 any 0 rk sl 0 H1.out.2.2 hgm hn3.1 hn3.2 H0.out.2.2.2.2.1.costs)
   obtain ⟨cst,hcst'⟩:∃ cst,cR R i k=cst:=⟨_,rfl⟩
   rw [hcst,hcst'] at A1
   rw [hmid] at hS3
   have H4:=hid (show leafRun R i fr (R.on.getD i (-1))=[⟨fr,nodeR R 1 mid.toNat,1,cst⟩] by unfold leafRun; rw [ho,if_pos hid1.1,hat,Jn,hcst'])
   have H5:=hid (show nodeT c.nm (1,mid)=nodeR R 1 mid.toNat by
    have hpr:Pres R 1 mid.toNat:=by
     show 0≤atOf ((mid.toNat:Nat):Int) R.t1
     rw [show ((mid.toNat:Nat):Int)=mid by omega,hat]
     omega
    rw [H0.out.2.2.2.1,← node_R hf (by omega) (by omega) hpr,show ((mid.toNat:Nat):Int)=mid by omega]
    rfl)
   rw [hmid]
   subst hm0
   clear hgd hon ho hg1 hmo' hcst hcst' hgm hat q1 q2 hid1
   go_upto_region 4 with fail
   refine wp_region_held_drew (S:=SB w.heap.size W2.heap.size 3 id 1 mid) (by kernel_rfl) hS3 (fun _=>?_)
   refine tkH (v:=?_) 0 30 hS3 ?_ ?_; rotate_left 1
   ·(rintro w' ⟨e1,e2,e3,e4⟩; go_simp; try with_reducible rfl)
   simp only [Act.put,Jh,Ji,Jj]
   refine tkH (v:=?_) 1 31 hS3 ?_ ?_; rotate_left 1
   ·(rintro w' ⟨e1,e2,e3,e4⟩; go_simp; try with_reducible rfl)
   simp only [Act.put,Jh,Ji,Jj]
   refine tkH (v:=?_) 2 32 hS3 ?_ ?_; rotate_left 1
   ·(rintro w' ⟨e1,e2,e3,e4⟩; go_simp; try with_reducible rfl)
   simp only [Act.put,Jh,Ji,Jj]
   refine tkH (v:=?_) 3 33 hS3 ?_ ?_; rotate_left 1
   ·(rintro w' ⟨e1,e2,e3,e4⟩; go_simp; try with_reducible rfl)
   simp only [Act.put,Jh,Ji,Jj]
   refine tkH (v:=?_) 4 34 hS3 ?_ ?_; rotate_left 1
   ·(rintro w' ⟨e1,e2,e3,e4⟩; go_simp; try with_reducible rfl)
   simp only [Act.put,Jh,Ji,Jj]
   refine tkH (v:=?_) 5 35 hS3 ?_ ?_; rotate_left 1
   ·(rintro w' ⟨e1,e2,e3,e4⟩; go_simp; try with_reducible rfl)
   simp only [Act.put,Jh,Ji,Jj]
   refine wpAnyH_ready (rs:=[6]) (by kernel_rfl) (by simp) ?_
   refine AllReadyH.cons rfl (fun K hK=>?_) AllReadyH.nil
   go_simp
   refine A1.out.mono ?_
   rintro e W4 ⟨rfl,b4⟩
   have hS4:=hS3.below b4
   refine hK.out _ _ hS4 (fun _=>?_)
   clear hK K
   have R4:=(H3.out.2.2.2.1.keep (Jd _ _).drew).keep b4
   have A2:=hid (R4.arc 3 (id:Int) 1 mid 1 cst (by simp; omega) (by simp; omega))
   have HR4:=hid R4
   refine wpAnyH_ready (rs:=[7]) (by kernel_rfl) (by simp) ?_
   refine AllReadyH.cons rfl (fun K hK=>?_) AllReadyH.nil
   go_simp
   refine A2.out.mono ?_
   rintro e W5 ⟨rfl,va',vf',hp5⟩
   have R5:=HR4.out.more hp5
   have hS5:SB w.heap.size W2.heap.size 3 id 1 mid W5:=SB.of (r:=[]) (r':=[]) (R5.box (by simp) H3.out.1) (by have:=R5.box (b:=W2.heap.size) (by simp) H3.out.2.2.1; rw [hmid] at this; exact this)
   refine hK.out _ _ hS5 (fun _=>?_)
   clear hK K
   refine wpAnyH_done (by kernel_rfl) ?_ _
   have HR5:=hid R5
   clear R5 R4 hp5 hS5 hS4
   go_wp2_with fail
   go_meet
   refine ⟨va',vf',rfl,?_⟩
   have:=HR5.out
   rw [H5.out,H3.out.2.2.2.2.2.2,List.nil_append] at this
   rw [H4.out]
   exact this
 case rest =>
  obtain ⟨va,vf,rfl,H4⟩:=hcut
  clear P3 hS3
  have hmob:0≤mo∧mo≤50:=by rw [hmo']; split <;> omega
  have P4:=H4.out.post.plan H0.out.2.2.1 H0.out.1 H0.out.2.1
  have hS4:SB w.heap.size W1.heap.size 3 id 2 jb wc.drew:=SB.of (r:=[]) (r':=[.int .i64 0,.int .i64 any]) (H4.out.box (by simp) H3.out.1) (H4.out.box (by simp) H3.out.2.1)
  obtain ⟨yj,hyj,eyj⟩:=hf.job _ (Jl hi)
  obtain ⟨j,hj,rfl⟩:=List.mem_iff_getElem.1 hyj
  have hn2:=hf.n2 _ (Jl hj)
  have hid2:=hf.more.id2 _ (Jl hj)
  have hjb:=H0.out.2.2.2.2.1.yes2 hj
  have ej:=atOf_mem hf.nd2 hj
  rw [eyj] at hjb ej hid2
  have hcst:=none_R H0.out.2.2.2.2.1 hi hj ej
  rw [H0.out.2.2.2.2.2.1] at hcst hjb ej hid2
  have hjb':get (2,jb) l0=some ((4,0),0,R.t2[j].2.2):=hjb
  have A1:=hid (costOnNone_any (P4.below (Jd _ _).drew) 3 (id:Int) 2 jb 0 any 4 0 0 R.t2[j].2.2 H1.out.2.2 hjb' hn2.1 hn2.2 H0.out.2.2.2.2.1.wd)
  have hcst2:R.t2[j].2.2+(get (3,(id:Int)) l2).getD 0+moves l1 (3,(id:Int))=cR R i R.t1.length:=hcst
  obtain ⟨cst,hcst'⟩:∃ cst,cR R i R.t1.length=cst:=⟨_,rfl⟩
  rw [hcst2,hcst'] at A1
  have H5:=hid (show [⟨nodeT c.nm (3,(id:Int)),nodeT c.nm (2,jb),1,cst⟩]=[leafJob R i fr] by
   have hid2':0≤jb∧jb≤99:=hid2
   have ej':atOf jb R.t2=j:=ej
   have hpr:Pres R 2 jb.toNat:=by
    show 0≤atOf ((jb.toNat:Nat):Int) R.t2
    rw [show ((jb.toNat:Nat):Int)=jb by omega,ej']
    omega
   have e5:nodeT c.nm (2,jb)=nodeR R 2 jb.toNat:=by
    rw [H0.out.2.2.2.1,← node_R hf (by omega) (by omega) hpr,show ((jb.toNat:Nat):Int)=jb by omega]
    rfl
   rw [e5,H3.out.2.2.2.2.2.2]
   unfold leafJob
   rw [getD_at hi,H0.out.2.2.2.2.2.1,hcst'])
  have hlr:(leafRun R i fr (R.on.getD i (-1))).length≤1:=by unfold leafRun; split <;> simp
  obtain ⟨L1,hL1⟩:∃ L1,leafRun R i fr (R.on.getD i (-1))=L1:=⟨_,rfl⟩
  rw [hL1] at hlr H4
  clear hcst hcst' hcst2 hjb hjb' ej hn2 hid2 eyj hyj hmo'
  go_upto_region 6 with fail
  refine wp_region_held_drew (S:=SB w.heap.size W1.heap.size 3 id 2 jb) (by kernel_rfl) hS4 (fun _=>?_)
  refine tkH (v:=?_) 0 38 hS4 ?_ ?_; rotate_left 1
  ·(rintro w' ⟨e1,e2,e3,e4⟩; go_simp; try with_reducible rfl)
  simp only [Act.put,Jh,Ji,Jj]
  refine tkH (v:=?_) 1 39 hS4 ?_ ?_; rotate_left 1
  ·(rintro w' ⟨e1,e2,e3,e4⟩; go_simp; try with_reducible rfl)
  simp only [Act.put,Jh,Ji,Jj]
  refine tkH (v:=?_) 2 40 hS4 ?_ ?_; rotate_left 1
  ·(rintro w' ⟨e1,e2,e3,e4⟩; go_simp; try with_reducible rfl)
  simp only [Act.put,Jh,Ji,Jj]
  refine tkH (v:=?_) 3 41 hS4 ?_ ?_; rotate_left 1
  ·(rintro w' ⟨e1,e2,e3,e4⟩; go_simp; try with_reducible rfl)
  simp only [Act.put,Jh,Ji,Jj]
  refine tkH (v:=?_) 4 42 hS4 ?_ ?_; rotate_left 1
  ·(rintro w' ⟨e1,e2,e3,e4⟩; go_simp; try with_reducible rfl)
  simp only [Act.put,Jh,Ji,Jj]
  refine tkH (v:=?_) 5 43 hS4 ?_ ?_; rotate_left 1
  ·(rintro w' ⟨e1,e2,e3,e4⟩; go_simp; try with_reducible rfl)
  simp only [Act.put,Jh,Ji,Jj]
  refine wpAnyH_ready (rs:=[6]) (by kernel_rfl) (by simp) ?_
  refine AllReadyH.cons rfl (fun K hK=>?_) AllReadyH.nil
  go_simp
  refine A1.out.mono ?_
  rintro e Z4 ⟨rfl,b4⟩
  have hS5:=hS4.below b4
  refine hK.out _ _ hS5 (fun _=>?_)
  clear hK K
  have R4:=(H4.out.keep (Jd _ _).drew).keep b4
  have A2:=hid (R4.arc 3 (id:Int) 2 jb 1 cst (by omega) (by omega))
  have HR4:=hid R4
  refine wpAnyH_ready (rs:=[7]) (by kernel_rfl) (by simp) ?_
  refine AllReadyH.cons rfl (fun K hK=>?_) AllReadyH.nil
  go_simp
  refine A2.out.mono ?_
  rintro e Z5 ⟨rfl,va5,vf5,hp5⟩
  have R5:=HR4.out.more hp5
  have hS6:SB w.heap.size W1.heap.size 3 id 2 jb Z5:=SB.of (r:=[]) (r':=[.int .i64 0,.int .i64 any]) (R5.box (by simp) H3.out.1) (R5.box (by simp) H3.out.2.1)
  refine hK.out _ _ hS6 (fun _=>?_)
  clear hK K
  refine wpAnyH_done (by kernel_rfl) ?_ _
  rw [H5.out] at R5
  obtain ⟨L2,hL2⟩:∃ L2,L1 ++ [leafJob R i fr]=L2:=⟨_,rfl⟩
  have hl2:L2.length≤2:=by rw [← hL2,Jo,List.length_singleton]; omega
  rw [hL2] at R5
  have P5:=R5.post.plan H0.out.2.2.1 H0.out.1 H0.out.2.1
  obtain ⟨tl,htl⟩:∃ tl,thR R 1 ++ thR R 0=tl:=⟨_,rfl⟩
  have hlt1:=th_le R 1
  have hlt0:=th_le R 0
  have A4:=hid (all_R' H0.out.2.2.2.2.1 P5 (show 1≤3 by omega))
  have HR5:=hid (Jc R5 (Jc hL1 (Jc hL2 htl)))
  have HP5:=hid P5
  clear R5 R4 hp5 hS4 hS5 hS6 P4 P5 hL1 hL2 htl HR4 A1 A2 b4 H5
  go_wp2_with (first
   | (go_at_call 26; refine A4.out.mono ?_; rintro e W6 ⟨p6,c6,rfl,hr6,b6⟩; have A5:=hid (all_R' H0.out.2.2.2.2.1 (HP5.out.below b6) (show 0≤3 by omega)); clear A4)
   | (go_at_call 26; refine A5.out.mono ?_; rintro e W7 ⟨p7,c7,rfl,hr7,b7⟩; have b8:Below W7.heap.size W7 (W7.alloc (.cells #[.slice p6 (thR R 1).length c6,.slice p7 (thR R 0).length c7] 65)):=(Jd _ _).alloc (Jb _) _; have A6:=hid (concat_any (W7.alloc (.cells #[.slice p6 (thR R 1).length c6,.slice p7 (thR R 0).length c7] 65)) W7.heap.size _ _ _ _ (thR R 1) (thR R 0) (heap_alloc_new W7 _) ((hr6.below b7).below b8) (hr7.below b8) (by omega)); clear A5; rw [HR5.out.2.2.2] at A6; have HB:=hid (next2 (next2 b6 b7) b8))
   | (go_at_call 55; refine A6.out.mono ?_; rintro e W9 ⟨v9,rfl,hr9,b9⟩; obtain ⟨p9,c9,e9⟩:=hr9.sl; subst e9)
   | fail)
  have hb9:Below Z5.heap.size Z5 W9:=next2 HB.out b9
  have RI9:RI B cb mb c w W9 ([w.heap.size,W1.heap.size] ++ (Value.slice p9 tl.length c9).ownBlock.toList) va5 vf5 L2 W9:=HR5.out.1.next hb9 (fun b hb=>by
   rcases List.mem_append.1 hb with hb | hb
   ·exact Jr (by simp at hb ⊢; rcases hb with rfl | rfl <;> simp)
   ·refine Js ⟨Nat.le_trans HB.out.size (hr9.base b (by simpa using hb)),hr9.lt b (by simpa using hb)⟩)
  have X1:W9.heap[w.heap.size]?=some (.cells #[.int .i64 3,.int .i64 id] 79):=(hb9.block _ (HR5.out.1.lt _ (by simp))).trans (HR5.out.1.box (by simp) H3.out.1)
  have X2:W9.heap[W1.heap.size]?=some (.cells #[.int .i64 2,.int .i64 jb,.int .i64 0,.int .i64 any] 85):=(hb9.block _ (HR5.out.1.lt _ (by simp))).trans (HR5.out.1.box (by simp) H3.out.2.1)
  have htln:tl.length≤200:=by rw [← HR5.out.2.2.2,Jo]; omega
  have H6:=hid (Jc RI9 (Jc hr9 (Jc X1 X2)))
  clear RI9 hr9 X1 X2 hb9 b9 HB A6 hr6 hr7 b6 b7 b8
  go_loopg [53] tl.length (fun gk iv wr=>∃ (k:Nat) (va vf:Value),k≤tl.length∧tl.length - k≤gk∧iv=.int .i64 k∧Hid (RI B cb mb c w W9 ([w.heap.size,W1.heap.size] ++ (Value.slice p9 tl.length c9).ownBlock.toList) va vf (L2 ++ tgtA R fr id mo (tl.take k)) wr))
  case atStart=>exact ⟨0,va5,vf5,Jq _,by omega,rfl,(show RI _ _ _ _ _ _ _ _ _ (L2 ++ tgtA R fr id mo (tl.take 0)) _ from by simpa [tgtA] using H6.out.1)⟩
  case' round=>skip
  obtain ⟨k,va6,vf6,hk,hgk,rfl,H7⟩:=hrel
  rename World=>Z6
  have htgt:∀ l:List (Int×Int),(tgtA R fr id mo l).length≤l.length:=fun l=>by
   unfold tgtA
   induction l with
   | nil=>simp
   | cons a r ih =>
    rw [List.flatMap_cons,Jo,List.length_cons]
    have:(match wishR R (id:Int) a.1 a.2 with
     | some c=>[(⟨fr,nodeT (nmR R) a,1,c+mo⟩:Ar)]
     | none=>[]).length≤1:=by split <;> simp
    omega
  have P6:=H7.out.post.plan H0.out.2.2.1 H0.out.1 H0.out.2.1
  by_cases hlt:k<tl.length
  ·obtain ⟨x1,x2,hx⟩:∃ x1 x2,tl[k]=(x1,x2):=⟨_,_,rfl⟩
   have hrow:=H7.out.row H6.out.2.1 (fun b e=>Jt _ (by simpa using e))
   obtain ⟨g,rfl,hgl,q0,q1⟩:=hrow.cells hlt
   rw [hx] at q0 q1
   have hkI:(k:Int)<(tl.length:Int):=by omega
   obtain ⟨Z7,hZ7⟩:∃ Z7,Z6.alloc (.cells #[.int .i64 x1,.int .i64 x2] 79)=Z7:=⟨_,rfl⟩
   have bz:Below Z6.heap.size Z6 Z7:=by rw [← hZ7]; exact (Jd _ _).alloc (Jb _) _
   have Y1:Z7.heap[Z6.heap.size]?=some (.cells #[.int .i64 x1,.int .i64 x2] 79):=by rw [← hZ7]; exact heap_alloc_new Z6 _
   have R7:=H7.out.keep bz
   have Y2:=R7.box (b:=w.heap.size) (by simp) H6.out.2.2.1
   have P7:=P6.below bz
   have c0:=cellC Y1 0
   have c1:=cellC Y1 1
   have d0:=cellC Y2 0
   have d1:=cellC Y2 1
   simp only [Jg,Jf,Je] at c0 c1 d0 d1
   have y6:Z6.heap.size<Z7.heap.size:=(Ja.1 Y1).1
   have y7:w.heap.size<Z7.heap.size:=(Ja.1 Y2).1
   have p3:=P7.c3
   have pz:=P7.lt
   have htk:tl.take (k+1)=tl.take k ++ [(x1,x2)]:=by rw [List.take_succ_eq_append_getElem hlt,hx]
   have hwi:=wish_R H0.out.2.2.2.2.1 (id:Int) x1 x2
   have hll:(L2 ++ tgtA R fr id mo (tl.take k)).length≤1000:=by
    rw [Jo]
    have:=htgt (tl.take k)
    rw [List.length_take] at this
    omega
   obtain ⟨L3,hL3⟩:∃ L3,L2 ++ tgtA R fr id mo (tl.take k)=L3:=⟨_,rfl⟩
   rw [hL3] at R7 hll
   cases hw:get ((3,(id:Int)),(x1,x2)) l3 with
   | none =>
    have e1:(Instr.lookup 72 (.map (some b3)) (.agg #[.int .i64 3,.int .i64 id,.int .i64 x1,.int .i64 x2]) true).run Try.prog Z7.drew=.ok (.tuple #[.int .i64 0,.bool false]) Z7.drew:=run_look_no kt86 Try.underlying72 P7.m3.drew ((3,(id:Int)),(x1,x2)) hw _ (zero3 _)
    rw [hw] at hwi
    have H8:=hid (show L3=L2 ++ tgtA R fr id mo (tl.take (k+1)) by
     rw [← hL3,htk]
     unfold tgtA
     rw [List.flatMap_append]
     simp [← hwi])
    have HR7:=hid R7
    clear R7 P7 Y1 Y2 hrow H7 hL3 htk hwi hw P6 htgt bz
    go_upto_region 10 with fail
    go_region
    go_wp2_with fail
    go_roundg (tl.length - (k+1))
    case measure=>omega
    case rel=>exact ⟨k+1,va6,vf6,by omega,Jb _,by go_num,by rw [← H8.out]; exact HR7.out.keep (Jd _ _).drew⟩
   | some c9' =>
    have e1:(Instr.lookup 72 (.map (some b3)) (.agg #[.int .i64 3,.int .i64 id,.int .i64 x1,.int .i64 x2]) true).run Try.prog Z7.drew=.ok (.tuple #[.int .i64 c9',.bool true]) Z7.drew:=run_look_yes kt86 Try.underlying72 P7.m3.drew ((3,(id:Int)),(x1,x2)) hw _ (zero3 _)
    rw [hw] at hwi
    have hcb:=H0.out.2.2.2.2.1.costs _ _ hw
    have A7:=hid ((R7.keep (Jd _ _).drew).arc 3 (id:Int) x1 x2 1 (c9'+mo) (by omega) (by omega))
    have H8:=hid (show L3 ++ [⟨nodeT c.nm (3,(id:Int)),nodeT c.nm (x1,x2),1,c9'+mo⟩]=L2 ++ tgtA R fr id mo (tl.take (k+1)) by
     rw [← hL3,htk,H3.out.2.2.2.2.2.2,H0.out.2.2.2.1]
     unfold tgtA
     rw [List.flatMap_append]
     simp [← hwi])
    have HR7:=hid (R7.keep (Jd _ _).drew)
    clear R7 P7 Y1 Y2 hrow H7 hL3 htk hwi hw P6 htgt bz
    go_upto_region 10 with fail
    go_region
    go_wp2_with (first
     | (go_at_call 54; refine A7.out.mono ?_; rintro e Z8 ⟨rfl,va8,vf8,hp8⟩; have hR8:=HR7.out.more hp8)
     | fail)
    rw [H8.out] at hR8
    have HR8:=hid hR8
    clear hR8 hp8 A7
    go_roundg (tl.length - (k+1))
    case measure=>omega
    case rel=>exact ⟨k+1,va8,vf8,by omega,Jb _,by go_num,HR8.out⟩
  ·obtain rfl:k=tl.length:=by omega
   have R7:=H7.out
   rw [List.take_length] at R7
   have Y2:=R7.box (b:=w.heap.size) (by simp) H6.out.2.2.1
   have Y3:=R7.box (b:=W1.heap.size) (by simp) H6.out.2.2.2
   have d0:=cellC Y2 0
   have d1:=cellC Y2 1
   have f3:=cellC Y3 3
   simp only [Jg,Jf,Je] at d0 d1 f3
   have y6:w.heap.size<Z6.heap.size:=(Ja.1 Y2).1
   have y7:W1.heap.size<Z6.heap.size:=(Ja.1 Y3).1
   have hll:(L2 ++ tgtA R fr id mo tl).length≤1000:=by
    rw [Jo]
    have:=htgt tl
    omega
   have A7:=hid (R7.arc 3 (id:Int) 4 0 1 (any+mo) (by omega) (by omega))
   have H8:=hid (show L2 ++ tgtA R fr id mo tl ++ [⟨nodeT c.nm (3,(id:Int)),nodeT c.nm (4,0),1,any+mo⟩]=leafR R i id by
    rw [← HR5.out.2.2.1,← HR5.out.2.1,← HR5.out.2.2.2,tgt_all hf,H3.out.2.2.2.2.2.2,H0.out.2.2.2.1,node_clus]
    unfold leafR leafAny
    rw [H3.out.2.2.2.2.2.1,H3.out.2.2.2.2.1,getD_at hi,H0.out.2.2.2.2.2.1])
   have hmb:=hmob
   have HR7:=hid R7
   clear R7 Y2 Y3 H7 P6 htgt
   go_wp2_with (first
    | (go_at_call 54; refine A7.out.mono ?_; rintro e Z8 ⟨rfl,va8,vf8,hp8⟩; have hR8:=HR7.out.more hp8)
    | fail)
   rw [H8.out] at hR8
   have HR8:=hid hR8.post
   clear hR8 hp8
   go_end0
   exact ⟨rfl,va8,vf8,HR8.out⟩
end
end
end Go.Proofs.Ytjdindfjfpdikab
