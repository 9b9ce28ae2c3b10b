import Derived.Deep.LoopGhost
import Derived.Test.YtjdindfjfpdikabB07
import Derived.Test.YtjdindfjfpdikabB08
import Derived.Test.YtjdindfjfpdikabB25
import Derived.Test.YtjdindfjfpdikabB32
import Derived.Test.YtjdindfjfpdikabB33
import Derived.Test.YtjdindfjfpdikabPre
set_option maxRecDepth 100000
set_option maxHeartbeats 8000000
namespace Go.Proofs.Ytjdindfjfpdikab
section
open Go.RowKit
theorem total_any (w:World)(N:Int)(p q r:Option Addr)(cs la ca cf ls:Nat)(R:Nat→Int)(A:Nat→Ar)(hA:Arcs w q la A)(hR:Ints w r la R)(hla:la≤600)(hok:∀ i,i<la→ArcOk N (A i))(hC:Caps la A R) :
  Calls Try.prog 9 #[.agg #[.int .i64 N,.slice p ls cs,.slice q la ca],.slice r la cf] w fun e w'=>e=.returned (.int .i64 (cost A R la))∧Below w.heap.size w w':=by
 obtain ⟨W,hW⟩:∃ W,w.alloc (.cells #[.int .i64 N,.slice p ls cs,.slice q la ca] 39)=W:=⟨_,rfl⟩
 have hbW:Below w.heap.size w W:=by rw [← hW]; exact (Jd _ _).alloc (Jb _) _
 have hWb:W.heap[w.heap.size]?=some (.cells #[.int .i64 N,.slice p ls cs,.slice q la ca] 39):=by rw [← hW]; exact heap_alloc_new w _
 have hmul:∀ m,m<la→-10000000≤R m*(A m).k∧R m*(A m).k≤10000000:=fun m hm=>by
  have h2:=(hok m hm).2.2
  have h3:=hC m hm
  have u1:=Int.mul_le_mul_of_nonneg_left h2.2.2 h3.1
  have u2:=Int.mul_le_mul_of_nonneg_left h2.2.1 h3.1
  generalize R m*(A m).k=z at *
  omega
 have HW:=hid' (Jc hW (Jc hWb hbW))
 have Hm:=hid' (Jc hA (Jc hR (Jc hmul (Jc hok hC))))
 clear hW hWb hbW hA hR hok hC hmul
 go_enter Try.func9,Try.ntmps9
 go_wp2_with fail
 rw [HW.out.1]
 go_loopg [6,5] la (fun gk iv cv wr=>∃ i:Nat,i≤la∧la - i≤gk∧iv=.int .i64 i∧cv=.int .i64 (cost A R i)∧Below W.heap.size W wr)
 case atStart=>exact ⟨0,Jq _,Jb _,rfl,rfl,Jd _ _⟩
 case' round=>skip
 obtain ⟨i,hi,hgk,rfl,rfl,hb⟩:=hrel
 have hnb:=(hb.block w.heap.size (Ja.1 HW.out.2.1).1).trans HW.out.2.1
 have hbw:=next2 HW.out.2.2 hb
 have n2:=at_cells hnb 2
 simp only [Jg,Jf,Je] at n2
 have nl:w.heap.size<wr.heap.size:=(Ja.1 hnb).1
 by_cases hlt:i<la
 ·obtain ⟨sb,off,rfl,hsb,_,_,_,g3⟩:=(Hm.out.1.below hbw).at hlt
  obtain ⟨sf,of',rfl,hsf,gf⟩:=(Hm.out.2.1.below hbw).at hlt
  have hiI:(i:Int)<(la:Int):=by omega
  have hmi:=Hm.out.2.2.1 i hlt
  have hcb:=sum_bound (n:=i) Hm.out.2.2.2.1 Hm.out.2.2.2.2 (by omega)
  have hcs:cost A R (i+1)=cost A R i+R i*(A i).k:=rfl
  have Hq:=hid' (Jc hb hcs)
  clear hb hbw hnb hcs
  go_wp2_with fail
  go_region
  go_wp2_with fail
  go_roundg (la - (i+1))
  case measure=>omega
  case rel=>exact ⟨i+1,by omega,Jb _,by go_num,by rw [Hq.out.2],Hq.out.1.drew⟩
 ·obtain rfl:i=la:=by omega
  clear hlt hi
  go_wp2_with fail
  go_ret
  exact ⟨rfl,hbw⟩
end
section
open Go.RowKit
section
variable {A:Nat→Ar}{F F':Nat→Int}{i v:Nat}
theorem inn_turn (h:∀ j,j≠i→F' j=F j)(ht:(A i).t≠(v:Int)):∀ n,inn A F' v n=inn A F v n
 | 0=>rfl
 | n+1=>by
  simp only [inn]
  rw [inn_turn h ht n]
  by_cases e:n=i
  ·subst e
   rw [if_neg ht,if_neg ht]
  ·rw [h n e]
theorem out_turn (h:∀ j,j≠i→F' j=F j)(h1:F' i=F i+1)(hf:(A i).f=(v:Int)):∀ n,out A F' v n=out A F v n+(if i<n then 1 else 0)
 | 0=>by simp [out]
 | n+1=>by
  simp only [out]
  rw [out_turn h h1 hf n]
  by_cases e:n=i
  ·subst e
   rw [if_pos hf,if_pos hf,h1,if_neg (by omega),if_pos (by omega)]
   omega
  ·rw [h n e]
   by_cases q:i<n
   ·rw [if_pos q,if_pos (show i<n+1 by omega)]
    omega
   ·rw [if_neg q,if_neg (show ¬ i<n+1 by omega)]
    omega
theorem flow_turn {N:Int}{ls la lf:Nat}{S:Nat→Int}(hN:NetOk N ls S la A)(hF:FlowOk ls S la A lf F)(hi:i<la)(h:∀ j,j≠i→F' j=F j)(h1:F' i=F i+1)(hne:(A i).f≠(A i).t):¬ FlowOk ls S la A lf F':=fun hq=>by
 have ha:=(hN.2.2.2.2 i hi).1
 have hl:=hN.2.1
 have e:(A i).f=(((A i).f.toNat:Nat):Int):=by omega
 have b1:=hF.2.2 (A i).f.toNat (by omega)
 have b2:=hq.2.2 (A i).f.toNat (by omega)
 rw [inn_turn h (by rw [← e]; exact fun z=>hne z.symm) la,out_turn h h1 e la,if_pos hi] at b2
 omega
end
theorem own0 {e size k:Nat}{v:Value}{xs:List Value}{B:Nat}{W:World}(hr:W.ownsRow B e size v k xs):W.ownsRow 0 e size v k xs:=row_base hr (Jq _)
section
variable {w w':World}{pb b0 b1 b2 b3:Nat}{l0:Things}{l3:Prefs}{R:RSt}{P:Nat→Nat}{q:Nat→Int}{m1:Runs}{m2:Waits}{vs va vf:Value}{g:Nat}{fl:List Int}{C:Nat→Int}
theorem SPost.shw (h:SPost w pb b0 b1 b2 b3 l0 l3 R w' P q m1 m2 vs va vf g fl C)(hf:Fits R)(h0:R.t0.length≤4) :
  Shw w' (shB vs va vf g vs va) pb (.int .i64 (pcost (cR R) P R.t3.length)) (.bool true) (.int .i64 (nodesR R)) vs va vs va vf (.slice (some ⟨g,0,none⟩) (nodesR R) (nodesR R)) (nodesR R) (pcost (cR R) P R.t3.length) (intL (nodesR R) (supN R)) (netR R) fl (intL (nodesR R) C)∧∀ b∈shB vs va vf g vs va,w.heap.size≤b:=by
 have L:=h.last
 have hN:=(net_ok hf h0).1
 have hla:=(net_ok hf h0).2.2.1
 have hn:nodesR R≤1000:=by omega
 have hm:∀ b∈shB vs va vf g vs va,w.heap.size≤b∧b<w'.heap.size:=fun b hb=>by
  rcases mem_shB.1 hb with rfl | ⟨v,hv,e⟩
  ·exact ⟨L.base,(Ja.1 L.prices).1⟩
  ·simp only [List.mem_cons,List.not_mem_nil,or_false] at hv
   rcases hv with rfl | rfl | rfl | rfl | rfl
   ·exact World.ownsRow.lt L.sup b e
   ·exact World.ownsRow.lt L.arcs b e
   ·exact World.ownsRow.lt L.flow b e
   ·exact World.ownsRow.lt L.sup b e
   ·exact World.ownsRow.lt L.arcs b e
 refine ⟨⟨⟨b0,b1,b2,b3,h.cells⟩,rfl,rfl,own0 L.sup,own0 L.arcs,own0 L.flow,Nums.row L.prices hn,own0 L.sup,own0 L.arcs,fun v hv b e=>mem_shB.2 ?_,fun b hb=>(hm b hb).2,⟨by rw [intL_length]; exact hn,by omega,by rw [L.len]; omega,by rw [intL_length]; exact hn⟩,Js ⟨rfl,h.show hf h0⟩⟩,fun b hb=>(hm b hb).1⟩
 simp only [List.mem_cons,List.not_mem_nil,or_false] at hv
 rcases hv with rfl | rfl | rfl | rfl | rfl | rfl
 ·exact Js ⟨_,by simp,e⟩
 ·exact Js ⟨_,by simp,e⟩
 ·exact Js ⟨_,by simp,e⟩
 ·left; simpa [Value.ownBlock] using e.symm
 ·exact Js ⟨_,by simp,e⟩
 ·exact Js ⟨_,by simp,e⟩
end
theorem shw_new {w:World}{pb b0 b1 b2 b3:Nat}(h:w.heap[pb]?=some (.cells #[.map (some b0),.map (some b1),.map (some b2),.map (some b3),.int .i64 0,.slice none 0 0,.slice none 0 0,.slice none 0 0,.slice none 0 0] 74)):Shw w [] pb (.int .i64 0) (.bool false) (.int .i64 0) (.slice none 0 0) (.slice none 0 0) (.slice none 0 0) (.slice none 0 0) (.slice none 0 0) (.slice none 0 0) 0 0 [] [] [] [] :=
 ⟨⟨b0,b1,b2,b3,h⟩,rfl,rfl,NRow.nil _ _,ARow.nil _ _,NRow.nil _ _,NRow.nil _ _,NRow.nil _ _,ARow.nil _ _,(fun v hv b e=>by simp at hv; rw [hv] at e; cases e),fun b hb=>by simp at hb,by simp,Jr ⟨rfl,rfl,rfl,rfl,rfl⟩⟩
section
variable {base:Nat}{w0:Fr}{w w':World}{mb pb b0 b1 b2 b3 xb:Nat}{more:Int}{vs:Value}{slots:List Int}{tasks:Int}{R R':RSt}{p:Option Addr}{len cap a a':Nat}{c:Nat→Int}
theorem mk_solve (h:MK base w0 w mb pb b0 b1 b2 b3 xb more vs slots tasks R p len cap c a) :
  Calls Try.prog 7 #[.pointer (some ⟨pb,0,none⟩)] w fun e w'=>∃ P s S s1 s2 s3 s4 fl pr,e=.returned (.int .i64 s)∧s=pcost (cR R) P R.t3.length∧MK base ⟨w0.w,[]⟩ w' mb pb b0 b1 b2 b3 xb more vs slots tasks (Rn R P R.t3.length) p len cap c a∧Only [pb,b0,b1,b2,b3] w w'∧Shw w' S pb (.int .i64 s) (.bool true) (.int .i64 (nodesR R)) s1 s2 s1 s2 s3 s4 (nodesR R) s (intL (nodesR R) (supN R)) (netR R) fl pr∧ShowOk (nodesR R) s (intL (nodesR R) (supN R)) (netR R) fl pr∧∀ b∈pb :: S,b≠mb∧b∉[b0,b1,b2,b3]∧b≠xb∧vs.ownBlock≠some b∧b<w'.heap.size:=by
 obtain ⟨l0,l1,l2,l3,hp,hs⟩:=h.plan
 refine (solve_any hs hp).mono ?_
 rintro e w' ⟨P,q,m1,m2,us,va,vf,g,fl,C,rfl,hS⟩
 obtain ⟨h1,h2⟩:=hS.shw hs.fits hs.fit.len0
 refine ⟨P,_,_,_,_,_,_,_,_,rfl,rfl,h.solved hp hS.only hS.plan hS.sim,hS.only,h1,hS.show hs.fits hs.fit.len0,fun b hb=>?_⟩
 have hmb:=h.lt
 have hxb:=(Ja.1 h.dice.cells).1
 have hz:=hS.only.size
 have hlt:=hp.lts
 rcases List.mem_cons.1 hb with rfl | hb
 ·obtain ⟨_,_,_,_,_,hpc⟩:=hp.cells
  have hmc:=h.cells
  have hxc:=h.dice.cells
  refine ⟨fun e=>?_,hp.notmap hpc,fun e=>?_,fun e=>?_,Jm hp.lt hz⟩
  ·rw [e,hmc] at hpc; cases hpc
  ·rw [e,hxc] at hpc; cases hpc
  ·rcases h.row.2 with ⟨e1,_⟩ | ⟨g',cp,cur,e1,_,hg,_⟩
   ·rw [e1] at e; cases e
   ·rw [e1] at e
    cases e
    rw [hpc] at hg
    cases hg
 ·have hb1:=h2 b hb
  refine ⟨by omega,fun hm=>?_,by omega,fun e=>?_,h1.lt b hb⟩
  ·have:=hlt b (Jk _ hm)
   omega
  ·have:=(World.ownsRow.lt h.row b e).2
   omega
end
structure SeeAt (Z W:World)(nb:Nat)(N:Int)(v1 v2 v3 v4:Value)(sup:List Int)(arcs:List Ar)(fl pr:List Int):Prop where
 box:W.heap[nb]?=some (.cells #[.int .i64 N,v1,v2] 39)
 r1:NRow 0 W v1 sup
 r2:ARow 0 W v2 arcs
 r3:NRow Z.heap.size W v3 fl
 r4:NRow 0 W v4 pr
 ap:∀ b,v3.ownBlock=some b→b≠nb∧v1.ownBlock≠some b∧v2.ownBlock≠some b∧v4.ownBlock≠some b
 below:Below Z.heap.size Z W
section
variable {Z W W':World}{nb:Nat}{N:Int}{v1 v2 v3 v4:Value}{sup:List Int}{arcs:List Ar}{fl pr:List Int}
theorem SeeAt.keep (h:SeeAt Z W nb N v1 v2 v3 v4 sup arcs fl pr)(hb:Below W.heap.size W W'):SeeAt Z W' nb N v1 v2 v3 v4 sup arcs fl pr :=
 ⟨(hb.block _ (Ja.1 h.box).1).trans h.box,h.r1.below hb,h.r2.below hb,h.r3.below hb,h.r4.below hb,h.ap,next2 h.below hb⟩
theorem SeeAt.cs (h:SeeAt Z W nb N v1 v2 v3 v4 sup arcs fl pr):W.cell? ⟨nb,0,none⟩=some (.int .i64 N)∧W.cell? ⟨nb,1,none⟩=some v1∧W.cell? ⟨nb,2,none⟩=some v2∧nb<W.heap.size:=by
 have:=cells3 h.box
 exact ⟨this.1,this.2.1,this.2.2,(Ja.1 h.box).1⟩
theorem Showed.see {n1 n2 n3:Nat}(h:Showed Z W v1 v2 v3 v4 n1 n2 n3 sup arcs fl pr)(N:Int):SeeAt Z (W.alloc (.cells #[.int .i64 N,v1,v2] 39)) W.heap.size N v1 v2 v3 v4 sup arcs fl pr:=by
 have hb:Below W.heap.size W (W.alloc (.cells #[.int .i64 N,v1,v2] 39)):=(Jd _ _).alloc (Jb _) _
 have e:=h.le
 refine ⟨heap_alloc_new W _,own0 (h.r1.below hb),own0 (h.r2.below hb),row_base (h.r3.below hb) (by omega),own0 (h.r4.below hb),fun b hb=>?_,next2 h.below hb⟩
 have q3:=World.ownsRow.lt h.r3 b hb
 have t3:=h.t3 b hb
 refine ⟨by omega,fun z=>?_,fun z=>?_,fun z=>?_⟩
 ·have:=h.t1 b z; omega
 ·have:=h.t2 b z; omega
 ·have:=(World.ownsRow.lt h.r4 b z).1; omega
theorem SeeAt.turn {g cp i:Nat}{x:Int}(h:SeeAt Z W nb N v1 v2 (.slice (some ⟨g,0,none⟩) fl.length cp) v4 sup arcs fl pr):SeeAt Z (W.setCell ⟨g,i,none⟩ (.int .i64 x)) nb N v1 v2 (.slice (some ⟨g,0,none⟩) fl.length cp) v4 sup arcs (fl.set i x) pr:=by
 have ha:=h.ap g rfl
 have hz:=(World.ownsRow.lt h.r3 g rfl).1
 have mv:∀ b,b≠g→(W.setCell ⟨g,i,none⟩ (.int .i64 x)).heap[b]?=W.heap[b]?:=fun b hb=>Below.heap_setCell W ⟨g,i,none⟩ _ b (by simpa using hb)
 have hr:=NRow.set h.r3 i x
 refine ⟨(mv nb (fun e=>ha.1 e.symm)).trans h.box,ownsRow_mv h.r1 (fun b e=>mv b (fun z=>ha.2.1 (z ▸ e))),ownsRow_mv h.r2 (fun b e=>mv b (fun z=>ha.2.2.1 (z ▸ e))),hr,ownsRow_mv h.r4 (fun b e=>mv b (fun z=>ha.2.2.2 (z ▸ e))),h.ap,h.below.trans ⟨rfl,rfl,rfl,Nat.le_of_eq (by simp),fun b hb=>mv b (by omega)⟩⟩
theorem SeeAt.check {p1 p2 p3 p4:Option Addr}{c1 c2 c3 c4:Nat}(h:SeeAt Z W nb N (.slice p1 sup.length c1) (.slice p2 arcs.length c2) (.slice p3 fl.length c3) (.slice p4 pr.length c4) sup arcs fl pr) :
  Calls Try.prog 12 #[.agg #[.int .i64 N,.slice p1 sup.length c1,.slice p2 arcs.length c2],.slice p3 fl.length c3,.slice p4 pr.length c4] W fun e w'=>∃ c,e=.returned (.int .i64 c)∧IsChk c N sup.length (fun i=>sup.getD i 0) arcs.length (fun i=>arcs.getD i ⟨0,0,0,0⟩) fl.length (fun i=>fl.getD i 0) pr.length (fun i=>pr.getD i 0)∧Below W.heap.size W w' :=
 check_any W N p1 p2 p3 p4 _ c1 _ c2 _ c3 _ c4 _ _ _ _ (h.r1.ints rfl) (h.r2.arcs rfl) (h.r3.ints rfl) (h.r4.ints rfl)
theorem SeeAt.total {p1 p2 p3 p4:Option Addr}{c1 c2 c3 c4:Nat}{s:Int}(h:SeeAt Z W nb N (.slice p1 sup.length c1) (.slice p2 arcs.length c2) (.slice p3 fl.length c3) (.slice p4 pr.length c4) sup arcs fl pr)(hs:ShowOk N s sup arcs fl pr) :
  Calls Try.prog 9 #[.agg #[.int .i64 N,.slice p1 sup.length c1,.slice p2 arcs.length c2],.slice p3 fl.length c3] W fun e w'=>e=.returned (.int .i64 s)∧Below W.heap.size W w':=by
 have hl:fl.length=arcs.length:=hs.flow.1
 have:=total_any W N p1 p2 p3 c1 arcs.length c2 c3 sup.length (fun i=>fl.getD i 0) (fun i=>arcs.getD i ⟨0,0,0,0⟩) (h.r2.arcs rfl) (by have:=h.r3.ints rfl; rw [hl] at this; exact this) hs.net.2.2.1 hs.net.2.2.2.2 hs.flow.2.1
 rw [hs.cost,← hl] at this
 rw [← hl]
 exact this
end
end
section
open Go.RowKit
section
variable {c:Nat→Int}{len a a':Nat}{more:Int}{slots:List Int}{tasks:Int}{R:RSt}
theorem MadeIs.rm (h:MadeIs c len more a slots tasks R a'):RM more R slots tasks.toNat:=by
 have hl:R.t1.length=slots.length:=by
  have:=congrArg List.length h.at1
  simpa using this
 have hs:∀ k,(hk:k<R.t1.length)→R.t1[k].2.2=slots[k]'(by omega):=fun k hk=>by
  have:=congrArg (fun l=>l[k]?) h.at1
  simpa [hk,show k<slots.length by omega] using this
 have hf:=h.few
 refine ⟨h.ids.i0,h.ids.i3,by omega,h.each,fun x hx=>?_,fun k hk=>?_⟩
 ·obtain ⟨k,hk,rfl⟩:=List.mem_iff_getElem.1 hx
  obtain ⟨_,e⟩:=ids_at h.ids.i1 (k:=k) (by omega)
  exact ⟨k,by omega,e,hs k hk⟩
 ·obtain ⟨hl',e⟩:=ids_at h.ids.i1 hk
  exact ⟨_,Jl hl',e⟩
end
theorem seen_walk (w:World)(p:Option Addr)(len cap:Nat)(c:Nat→Int)(hc:DC w p len c)(hlen:len<1000000000000000)(which:Int)(hw1:(Lit.int .i64 which).wf=true) :
  Calls Try.prog 4 #[.slice p len cap,.int .i64 which] w fun e w'=>e=.returned (.bool true)∧Below w.heap.size w w':=by
 have A1:=hid' (made_any (base:=w.heap.size) (v0:=w) (more:=0) (dice_new (cap:=cap) hc hlen) (by simp) (BelowX.of _ ((Jd _ _).alloc (Jb _) _)) (by omega) hc.arg)
 have P1:=hid' (fun W n (h1:1≤n) (h2:n≤1001)=>pick_some which n W hw1 h1 h2)
 clear hc hlen hw1
 go_enter Try.func4,Try.ntmps4
 go_upto_region 3 with (first
  | (go_at_call 5; refine A1.out.mono ?_; rintro e W2 ⟨mb,pb,b0,b1,b2,b3,vs,slots,tasks,R0',a,rfl,M1,I1,hpc⟩; have H1:=hid' (Jc M1 (Jc I1 hpc)); clear M1 I1 hpc A1)
  | fail)
 have hfew:=H1.out.2.1.few
 obtain ⟨nt,hnt⟩:∃ nt:Nat,tasks=(nt:Int):=⟨tasks.toNat,by omega⟩
 subst hnt
 have RM0:=H1.out.2.1.rm
 rw [Jn] at RM0
 have B1:=hid' (shown_any (shw_new H1.out.2.2))
 have H2:=hid' (Jc H1.out.1 RM0)
 obtain ⟨y0,_,_,_⟩:=H1.out.1.cs
 have y4:=H1.out.1.lt
 clear RM0 H1
 go_upto_region 6 with (first
  | (go_at_call 8; refine B1.out.mono ?_; rintro e W3 ⟨v1,v2,v3,v4,n1,n2,n3,rfl,hSh⟩; obtain ⟨a1,j1,rfl⟩:=hSh.r1.sl; obtain ⟨a2,j2,rfl⟩:=hSh.r2.sl; obtain ⟨a3,j3,rfl⟩:=hSh.r3.sl; obtain ⟨a4,j4,rfl⟩:=hSh.r4.sl; have H3:=hid' hSh; clear hSh B1)
  | fail)
 clear y0 y4
 have E0:=H3.out.see 0
 simp only [List.length_nil] at E0
 generalize hW4:W3.alloc _=W4
 rw [hW4] at E0
 obtain ⟨x0,x1,x2,x3⟩:=E0.cs
 have H4:=hid' E0.below
 clear hW4 E0 H3
 go_upto_region 8 with fail
 clear x0 x1 x2 x3
 go_wp2_with fail
 go_loopg [10] 2 (fun gk kv wr=>∃ (k:Nat) (R:RSt) (a:Nat),k≤2∧2 - k≤gk∧kv=.int .i64 k∧Hid (MK w.heap.size ⟨w,[]⟩ wr mb pb b0 b1 b2 b3 w.heap.size 0 vs slots nt R p len cap c a∧RM 0 R slots nt))
 case atStart=>exact ⟨0,R0',a,by omega,by omega,rfl,(show _∧_ from ⟨H2.out.1.of_below H4.out,H2.out.2⟩)⟩
 case' round=>skip
 obtain ⟨k,R,a,hk3,hgk,rfl,HL⟩:=hrel
 rename World=>Z0
 clear H2 H4
 by_cases hk:k<2
 ·have hkI:(k:Int)<2:=by omega
  obtain ⟨y0,_,_,_⟩:=HL.out.1.cs
  have y4:=HL.out.1.lt
  have Q1:=hid' (mk_solve HL.out.1)
  go_upto_region 12 with (first
   | (go_at_call 7; refine Q1.out.mono ?_; rintro e Z1 ⟨P,s,S,s1,s2,s3,s4,fl,pr,rfl,hs0,MC,ho,hSw,hOk,hks⟩; clear hs0 ho; have H5:=hid' (Jc MC (Jc hSw (Jc hOk hks))); clear MC hSw hOk hks Q1)
   | fail)
  clear y0 y4
  have ST:=hid' (stir_any (H5.out.1.frame (pb :: S) H5.out.2.2.2) (HL.out.2.rn P R.t3.length) rfl)
  go_upto_region 13 with (first
   | (go_at_call 11; refine ST.out.mono ?_; rintro e Z2 ⟨rfl,Rx,ax,Mx,RMx⟩; have H6:=hid' (Jc Mx (Jc RMx (H5.out.2.1.move (Mx.kept pb (by simp)) (fun b hb=>Mx.kept b (by simp [hb]))))); clear Mx RMx ST)
   | fail)
  obtain ⟨y0,_,_,_⟩:=H6.out.1.cs
  have y4:=H6.out.1.lt
  have B2:=hid' (shown_any H6.out.2.2)
  go_upto_region 14 with (first
   | (go_at_call 8; refine B2.out.mono ?_; rintro e Z3 ⟨v1,v2,v3,v4,n1,n2,n3,rfl,hSh⟩; obtain ⟨a1,j1,rfl⟩:=hSh.r1.sl; obtain ⟨a2,j2,rfl⟩:=hSh.r2.sl; obtain ⟨a3,j3,rfl⟩:=hSh.r3.sl; obtain ⟨a4,j4,rfl⟩:=hSh.r4.sl; have H7:=hid' hSh; clear hSh B2)
   | fail)
  clear y0 y4
  have E1:=H7.out.see (nodesR R)
  generalize hZ4:Z3.alloc _=Z4
  rw [hZ4] at E1
  obtain ⟨x0,x1,x2,x3⟩:=E1.cs
  have C1:=hid' E1.check
  have H8:=hid' E1
  clear hZ4 E1 H7
  go_upto_region 15 with (first
   | (go_at_call 12; refine C1.out.mono ?_; rintro e Z5 ⟨cc,rfl,hchk,bb⟩; have ecc:cc=0:=hchk.ok H5.out.2.2.1.net H5.out.2.2.1.flow H5.out.2.2.1.price; subst ecc; have H9:=hid' (H8.out.keep bb); clear hchk bb C1)
   | fail)
  clear x0 x1 x2 x3
  obtain ⟨x0,x1,x2,x3⟩:=H9.out.cs
  have T1:=hid' (H9.out.total H5.out.2.2.1)
  have hne:((fl.length:Int) != ((netR R).length:Int))=false:=by simp [H5.out.2.2.1.flow.1]
  go_upto_region 17 with (first
   | (go_at_call 9; refine T1.out.mono ?_; rintro e Z6 ⟨rfl,bb⟩; have H10:=hid' (H9.out.keep bb); clear bb T1)
   | fail)
  clear x0 x1 x2 x3 hne
  by_cases hn0:fl.length=0
  ·go_wp2_with fail
   go_roundg (2 - (k+1))
   case measure=>omega
   case rel=>exact ⟨k+1,Rx,ax,by omega,Jb _,by go_num,(show _∧_ from ⟨(H6.out.1.of_below H10.out.below).unframe H5.out.1.below,H6.out.2.1⟩)⟩
  ·have hlf:fl.length=(netR R).length:=H5.out.2.2.1.flow.1
   have hl6:=H5.out.2.2.1.net.2.2.1
   obtain ⟨i,hi⟩:∃ i:Nat,pickOf which (fl.length:Int)=(i:Int):=⟨(pickOf which (fl.length:Int)).toNat,by have:=pickOf_bounds which (fl.length:Int) (by omega); omega⟩
   have hil:i<fl.length:=by have:=pickOf_bounds which (fl.length:Int) (by omega); omega
   have hiI:(i:Int)<(fl.length:Int):=by omega
   have hla:i<(netR R).length:=by omega
   have hlaI:(i:Int)<((netR R).length:Int):=by omega
   have hcp:=H5.out.2.2.1.flow.2.1 i hla
   have hak:=(H5.out.2.2.1.net.2.2.2.2 i hla).2.2.1
   simp only [getD_at hil,getD_at hla] at hcp hak
   obtain ⟨g,e3,g1,g2,g3⟩:=H10.out.r3.at' hil
   subst e3
   obtain ⟨X,hX⟩:∃ X,fl[i]=X:=⟨_,rfl⟩
   rw [hX] at g2 hcp
   have HX:=hid' (Jc hi (Jc hX (Jc hlf hl6)))
   have hn1:(1:Int)≤(fl.length:Int):=by omega
   have hn2:(fl.length:Int)≤1001:=by omega
   clear hi hX hlf hl6
   go_upto_region 19 with (first
    | (go_at_call 13; refine (P1.out _ _ hn1 hn2).mono ?_; rintro e z ⟨rfl,hz⟩; subst z; rw [HX.out.1])
    | fail)
   go_upto_region 20 with fail
   have E2:=H10.out.turn (i:=i) (x:=X+1)
   generalize hZ7:Z6.setCell _ _=Z7
   rw [hZ7] at E2
   have el:(fl.set i (X+1)).length=fl.length:=List.length_set
   rw [← el] at E2
   obtain ⟨x0,x1,x2,x3⟩:=E2.cs
   have C2:=E2.check
   rw [el] at C2
   have C2:=hid' C2
   have H11:=hid' E2
   clear hZ7 E2 g1 g2 g3 el
   go_upto_region 21 with (first
    | (go_at_call 12; refine C2.out.mono ?_; rintro e Z8 ⟨cc,rfl,hchk,bb⟩; have H12:=hid' (Jc (H11.out.keep bb) hchk); clear hchk bb C2)
    | fail)
   clear x0 x1 x2 x3
   obtain ⟨_,_,x2,x3⟩:=H12.out.1.cs
   obtain ⟨h2,e2,q1,q2,q3⟩:=H12.out.1.r2.at hla
   subst e2
   obtain ⟨F,hF⟩:∃ F,(netR R)[i].f=F:=⟨_,rfl⟩
   obtain ⟨T,hT⟩:∃ T,(netR R)[i].t=T:=⟨_,rfl⟩
   rw [hF] at q2
   rw [hT] at q3
   have HFT:=hid' (Jc hF hT)
   clear hF hT
   by_cases hft:F=T
   ·have hftb:(F != T)=false:=by simp [hft]
    go_quiet (fail)
    go_wp2_with fail
    go_roundg (2 - (k+1))
    case measure=>omega
    case rel=>exact ⟨k+1,Rx,ax,by omega,Jb _,by go_num,(show _∧_ from ⟨(H6.out.1.of_below (below_drawnR H12.out.1.below)).unframe H5.out.1.below,H6.out.2.1⟩)⟩
   ·have hftb:(F != T)=true:=by simp [hft]
    have e9:cc=9:=by
     have hN:=H5.out.2.2.1.net
     have hFl:=H5.out.2.2.1.flow
     refine H12.out.2.flow hN ?_
     refine flow_turn hN hFl hla (fun j hj=>?_) ?_ ?_
     ·simp [List.getD,Ne.symm hj]
     ·show (fl.set i (X+1)).getD i 0=fl.getD i 0+1
      rw [getD_at hil,HX.out.2.1]
      simp [List.getD,hil]
     ·simp only [getD_at hla]
      rw [HFT.out.1,HFT.out.2]
      exact hft
    subst e9
    go_quiet (fail)
    go_wp2_with fail
    go_roundg (2 - (k+1))
    case measure=>omega
    case rel=>exact ⟨k+1,Rx,ax,by omega,Jb _,by go_num,(show _∧_ from ⟨(H6.out.1.of_below (below_drawnR H12.out.1.below)).unframe H5.out.1.below,H6.out.2.1⟩)⟩
 ·have hkI:¬ (k:Int)<2:=by omega
  go_wp2_with fail
  go_ret
  exact ⟨rfl,HL.out.1.below.below (Jb _)⟩
end
end Go.Proofs.Ytjdindfjfpdikab
