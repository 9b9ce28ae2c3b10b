import Derived.Deep.LoopGhost
import Derived.BigRegion
import Derived.Test.YtjdindfjfpdikabB06
import Derived.Test.YtjdindfjfpdikabB22
import Derived.Test.YtjdindfjfpdikabPre
set_option maxRecDepth 100000
set_option maxHeartbeats 8000000
namespace Go.Proofs.Ytjdindfjfpdikab
section
open Go.RowKit
def chArcs (c:Ch)(va vf:Value)(xa:List Ar):Ch:={ c with va:=va,vf:=vf,al:=c.al ++ xa,fl:=c.fl ++ List.replicate xa.length 0 }
theorem chArcs_nil (c:Ch):chArcs c c.va c.vf []=c:=by unfold chArcs; simp
theorem chArcs_more (c:Ch)(va vf va' vf':Value)(xa bs:List Ar):chArcs (chArcs c va vf xa) va' vf' bs=chArcs c va' vf' (xa ++ bs):=by
 unfold chArcs
 simp
structure RI (B cb mb:Nat)(c:Ch)(w:World)(W1:World)(S:List Nat)(va vf:Value)(xa:List Ar)(wr:World):Prop where
 post:CPost B cb mb c (chArcs c va vf xa) w wr
 same:∀ b∈S,wr.heap[b]?=W1.heap[b]?
 off:∀ b∈S,b∉(chArcs c va vf xa).foot cb mb
 lt:∀ b∈S,b<wr.heap.size
section
variable {B cb mb:Nat}{c:Ch}{w W1 Z Z':World}{S:List Nat}{va vf va' vf':Value}{xa bs:List Ar}
theorem RI.start (h:Chart B w cb mb c)(hb:Below w.heap.size w W1)(hS:∀ b∈S,w.heap.size≤b∧b<W1.heap.size):RI B cb mb c w W1 S c.va c.vf [] W1:=by
 have hp:CPost B cb mb c (chArcs c c.va c.vf []) w W1:=by rw [chArcs_nil]; exact (CPost.refl h).behind hb
 refine ⟨hp,fun _ _=>rfl,fun b hm q=>?_,fun b hm=>(hS b hm).2⟩
 rw [chArcs_nil] at q
 have:=(h.foots b q).2
 have:=(hS b hm).1
 omega
theorem RI.keep (h:RI B cb mb c w W1 S va vf xa Z)(hb:Below Z.heap.size Z Z'):RI B cb mb c w W1 S va vf xa Z' :=
 ⟨h.post.behind hb,fun b hm=>(hb.block b (h.lt b hm)).trans (h.same b hm),h.off,fun b hm=>Jm (h.lt b hm) hb.size⟩
theorem RI.next {T:List Nat}(h:RI B cb mb c w W1 S va vf xa Z)(hb:Below Z.heap.size Z Z')(hT:∀ b∈T,(b∈S)∨(Z.heap.size≤b∧b<Z'.heap.size)):RI B cb mb c w Z' T va vf xa Z':=by
 refine ⟨h.post.behind hb,fun _ _=>rfl,fun b hm q=>?_,fun b hm=>?_⟩
 ·rcases hT b hm with r | r
  ·exact h.off b r q
  ·have:=(h.post.1.foots b q).2
   omega
 ·rcases hT b hm with r | r
  ·exact Jm (h.lt b r) hb.size
  ·exact r.2
theorem RI.more (h:RI B cb mb c w W1 S va vf xa Z)(hp:CPost B cb mb (chArcs c va vf xa) (chArcs (chArcs c va vf xa) va' vf' bs) Z Z'):RI B cb mb c w W1 S va' vf' (xa ++ bs) Z':=by
 rw [chArcs_more] at hp
 refine ⟨h.post.trans hp,fun b hm=>(hp.2.1.block b (h.lt b hm) (h.off b hm)).trans (h.same b hm),fun b hm q=>?_,fun b hm=>Jm (h.lt b hm) hp.2.1.size⟩
 rcases hp.2.2 b q with r | r
 ·exact h.off b hm r
 ·have:=h.lt b hm
  omega
theorem RI.row {b9:Nat}{v:Value}{xs:List (Int×Int)}(h:RI B cb mb c w W1 S va vf xa Z)(hr:TRow b9 W1 v xs)(hv:∀ b,v.ownBlock=some b→b∈S):TRow b9 Z v xs:=by
 refine ⟨hr.1,?_⟩
 rcases hr.2 with q | ⟨g,cap,cur,e,e0,hg,q⟩
 ·exact Jr q
 ·exact Js ⟨g,cap,cur,e,e0,(h.same g (hv g (by rw [e]; rfl))).trans hg,q⟩
theorem RI.box {b:Nat}{o:Obj}(h:RI B cb mb c w W1 S va vf xa Z)(hm:b∈S)(ho:W1.heap[b]?=some o):Z.heap[b]?=some o:=(h.same b hm).trans ho
theorem CPost.plan {c':Ch}{pb b0 b1 b2 b3:Nat}{l0:Things}{l1:Runs}{l2:Waits}{l3:Prefs}(P:CPost B cb mb c c' w Z)(hc:Chart B w cb mb c)(h:PlanAt w pb b0 b1 b2 b3 l0 l1 l2 l3)(hl:∀ b∈[pb,b0,b1,b2,b3],b<B):PlanAt Z pb b0 b1 b2 b3 l0 l1 l2 l3:=by
 have mv:∀ b∈[pb,b0,b1,b2,b3],b<w.heap.size→Z.heap[b]?=w.heap[b]?:=fun b hm hlt=>P.2.1.block b hlt (fun q=>by have:=(hc.foots b q).1; have:=hl b hm; omega)
 exact ⟨h.cells.move (mv pb (by simp) h.lt),h.m0.of_block (mv b0 (by simp) h.m0.lt),h.m1.of_block (mv b1 (by simp) h.m1.lt),h.m2.of_block (mv b2 (by simp) h.m2.lt),h.m3.of_block (mv b3 (by simp) h.m3.lt),h.ne⟩
theorem RI.arc (h:RI B cb mb c w W1 S va vf xa Z)(f1 f2 t1 t2 most cost:Int)(hl:c.al.length+xa.length≤100000)(hf:c.fl.length+xa.length≤100000) :
  Calls Try.prog 54 #[.pointer (some ⟨cb,0,none⟩),.agg #[.int .i64 f1,.int .i64 f2],.agg #[.int .i64 t1,.int .i64 t2],.int .i64 most,.int .i64 cost] Z fun e Z'=>e=.returned (.tuple #[])∧∃ va' vf',CPost B cb mb (chArcs c va vf xa) (chArcs (chArcs c va vf xa) va' vf' [⟨nodeT c.nm (f1,f2),nodeT c.nm (t1,t2),most,cost⟩]) Z Z':=by
 have hB:B≤Z.heap.size:=Nat.le_trans h.post.1.lb.1 (Nat.le_of_lt h.post.1.lt)
 refine (addArc_any h.post.1 f1 f2 t1 t2 most cost (by show (c.al ++ xa).length≤_; rw [Jo]; exact hl) (by show (c.fl ++ List.replicate xa.length 0).length≤_; rw [Jo,List.length_replicate]; exact hf) hB).mono ?_
 rintro e Z' ⟨he,va',vf',hp⟩
 exact ⟨he,va',vf',hp⟩
end
end
section
open Go.RowKit
theorem th_at {R:RSt}{k n:Nat}(hn:n<(thR R k).length):∃ j:Nat,j<100∧(thR R k)[n]=((k:Int),(j:Int))∧Pres R k j∧∃ h:n<(idsR R k 100).length,(idsR R k 100)[n]=(j:Int):=by
 have h1:n<(idsR R k 100).length:=by unfold thR at hn; simpa using hn
 obtain ⟨j,hj,e,hp⟩:=(ids_pairwise (R:=R) k 100).2 _ (Jl h1)
 refine ⟨j,hj,?_,hp,h1,e⟩
 have h2:(thR R k)[n]?=some ((k:Int),(j:Int)):=by unfold thR; rw [List.getElem?_map,List.getElem?_eq_getElem h1,e]; rfl
 rw [List.getElem?_eq_getElem hn] at h2
 exact Option.some.inj h2
theorem th_len (R:RSt)(k:Nat):(thR R k).length=(idsR R k 100).length:=by unfold thR; simp
theorem th_le (R:RSt)(k:Nat):(thR R k).length≤100:=by rw [th_len]; exact ids_length R k 100
section
variable {B:Nat}{w:World}{pb b0 b1 b2 b3 cb mb:Nat}{l0:Things}{l1:Runs}{l2:Waits}{l3:Prefs}{R:RSt}{c:Ch}
theorem all_R' (hs:Sim l0 l1 l2 l3 R)(hp:PlanAt w pb b0 b1 b2 b3 l0 l1 l2 l3){k:Nat}(hk:k≤3) :
  Calls Try.prog 26 #[.pointer (some ⟨pb,0,none⟩),.int .i64 (k:Int)] w fun e w'=>∃ p cp,e=.returned (.slice p (thR R k).length cp)∧TRow w.heap.size w' (.slice p (thR R k).length cp) (thR R k)∧Below w.heap.size w w':=by
 refine (all_any sortSaid hp (k:Int) hs.len).mono ?_
 rintro e w' ⟨v,xs,he,h1,h2,h3,h4⟩
 have:=all_R hs hk h1 h4
 subst this
 obtain ⟨p,cp,rfl⟩:=ownsRow_shape h2
 exact ⟨p,cp,he,h2,h3⟩
theorem rooms_any (hs:Sim l0 l1 l2 l3 R)(hp:PlanAt w pb b0 b1 b2 b3 l0 l1 l2 l3)(hlow:∀ b∈[pb,b0,b1,b2,b3],b<B)(hc:Chart B w cb mb c)(hnm:c.nm=nmR R)(hal:c.al.length≤1000)(hfl:c.fl.length≤1000) :
  Calls Try.prog 39 #[.pointer (some ⟨pb,0,none⟩),.pointer (some ⟨cb,0,none⟩)] w fun e w'=>e=.returned (.tuple #[])∧∃ va vf,CPost B cb mb c (chArcs c va vf (rackA R (idsR R 0 100) ++ machL R (idsR R 1 100) ++ jobA R (idsR R 2 100))) w w':=by
 have hf:=hs.fit
 obtain ⟨W1,hW1⟩:∃ W1,(w.alloc (.cells #[.int .i64 4,.int .i64 0] 79)).alloc (.cells #[.int .i64 5,.int .i64 0] 79)=W1:=⟨_,rfl⟩
 have b1':Below w.heap.size w W1:=by rw [← hW1]; exact ((Jd _ _).alloc (Jb _) _).alloc (by simp) _
 obtain ⟨X4,X5,z4,z5⟩:=chBoxes (w:=w) (o1:=.cells #[.int .i64 4,.int .i64 0] 79) (o2:=.cells #[.int .i64 5,.int .i64 0] 79) (w2:=W1) (by rw [hW1]; exact Jd _ _)
 have RI0:RI B cb mb c w W1 [w.heap.size,w.heap.size+1] c.va c.vf [] W1:=RI.start hc b1' (fun b hb=>by simp at hb; rcases hb with rfl | rfl <;> omega)
 have A1:=hid (all_R' hs (hp.below b1') (show 0≤3 by omega))
 have H0:=hid (Jc hp (Jc hlow (Jc hc (Jc hnm (Jc hs hW1)))))
 have H1:=hid (Jc RI0 (Jc X4 X5))
 clear hp hlow hc hnm hs hW1 RI0 X4 X5 b1'
 go_enter Try.func39,Try.ntmps39
 go_upto_region 1 with fail
 rw [H0.out.2.2.2.2.2]
 go_wp2_with (first
  | (go_at_call 26; refine A1.out.mono ?_; rintro e W2 ⟨p0,cp0,rfl,hr0,bb2⟩)
  | fail)
 have RI1:RI B cb mb c w W2 ([w.heap.size,w.heap.size+1] ++ (Value.slice p0 (thR R 0).length cp0).ownBlock.toList) c.va c.vf [] W2:=H1.out.1.next bb2 (fun b hb=>by
  rcases List.mem_append.1 hb with hb | hb
  ·exact Jr hb
  ·exact Js ⟨hr0.base b (by simpa using hb),hr0.lt b (by simpa using hb)⟩)
 have X4':W2.heap[w.heap.size]?=some (.cells #[.int .i64 4,.int .i64 0] 79):=(bb2.block _ z4).trans H1.out.2.1
 have X5':W2.heap[w.heap.size+1]?=some (.cells #[.int .i64 5,.int .i64 0] 79):=(bb2.block _ z5).trans H1.out.2.2
 have H2:=hid (Jc RI1 (Jc hr0 (Jc X4' X5')))
 have hl0:=th_le R 0
 clear RI1 hr0 X4' X5' bb2 A1 H1
 go_loopg [18] (thR R 0).length (fun gk iv wr=>∃ (k:Nat) (va vf:Value),k≤(thR R 0).length∧(thR R 0).length - k≤gk∧iv=.int .i64 k∧Hid (RI B cb mb c w W2 ([w.heap.size,w.heap.size+1] ++ (Value.slice p0 (thR R 0).length cp0).ownBlock.toList) va vf (rackA R ((idsR R 0 100).take k)) wr))
 case atStart=>exact ⟨0,c.va,c.vf,Jq _,by omega,rfl,(show RI _ _ _ _ _ _ _ _ _ (rackA R ((idsR R 0 100).take 0)) _ from by simpa [rackA] using H2.out.1)⟩
 case' round=>skip
 obtain ⟨k,va,vf,hk,hgk,rfl,H3⟩:=hrel
 rename World=>Z0
 by_cases hlt:k<(thR R 0).length
 ·obtain ⟨jd,hj,exk,hpj,hki,eik⟩:=th_at hlt
  have hrow:=H3.out.row H2.out.2.1 (fun b e=>Jt _ (by simpa using e))
  obtain ⟨g,rfl,hgl,q0,q1⟩:=hrow.cells hlt
  rw [exk] at q0 q1
  have hkI:(k:Int)<((thR R 0).length:Int):=by omega
  obtain ⟨Z1,hZ1⟩:∃ Z1,Z0.alloc (.cells #[.int .i64 0,.int .i64 jd] 79)=Z1:=⟨_,rfl⟩
  have bz:Below Z0.heap.size Z0 Z1:=by rw [← hZ1]; exact (Jd _ _).alloc (Jb _) _
  have X1:Z1.heap[Z0.heap.size]?=some (.cells #[.int .i64 0,.int .i64 jd] 79):=by rw [← hZ1]; exact heap_alloc_new Z0 _
  have R1:=H3.out.keep bz
  have c0:=cellC X1 0
  have c1:=cellC X1 1
  have Y4:=R1.box (b:=w.heap.size) (by simp) H2.out.2.2.1
  have d0:=cellC Y4 0
  have d1:=cellC Y4 1
  simp only [Jg,Jf,Je] at c0 c1 d0 d1
  have y0:Z0.heap.size<Z1.heap.size:=(Ja.1 X1).1
  have y4:w.heap.size<Z1.heap.size:=(Ja.1 Y4).1
  have hlr:(rackA R ((idsR R 0 100).take k)).length≤100:=by unfold rackA; rw [Jv,List.length_take]; have:=th_len R 0; omega
  have A2:=hid (R1.arc 4 0 0 (jd:Int) 1000 0 (by omega) (by omega))
  have HN:=hid (show rackA R ((idsR R 0 100).take k) ++ [⟨nodeT c.nm (4,0),nodeT c.nm (0,(jd:Int)),1000,0⟩]=rackA R ((idsR R 0 100).take (k+1)) from by
   rw [H0.out.2.2.2.1,node_clus,show ((0:Int),(jd:Int))=(((0:Nat):Int),(jd:Int)) from rfl,node_R hf (by omega) hj hpj]
   unfold rackA
   rw [List.take_succ_eq_append_getElem hki,List.map_append,eik]
   simp)
  have HR1:=hid R1
  clear R1 X1 Y4 hrow H3 bz
  go_upto_region 4 with fail
  go_wp2_with (first
   | (go_at_call 54; refine A2.out.mono ?_; rintro e Z2 ⟨rfl,va',vf',hp2⟩; have hR2:=HR1.out.more hp2)
   | fail)
  rw [HN.out] at hR2
  have HR2:=hid hR2
  clear hR2 A2
  go_roundg ((thR R 0).length - (k+1))
  case measure=>omega
  case rel=>exact ⟨k+1,va',vf',by omega,Jb _,by go_num,HR2.out⟩
 ·obtain rfl:k=(thR R 0).length:=by omega
  have R3:=H3.out
  rw [List.take_of_length_le (by rw [th_len]; exact Jb _)] at R3
  obtain ⟨L0,hL0⟩:∃ L0,rackA R (idsR R 0 100)=L0:=⟨_,rfl⟩
  have hL0n:L0.length≤100:=by rw [← hL0]; unfold rackA; rw [Jv]; exact ids_length R 0 100
  rw [hL0] at R3
  have A3:=hid (all_R' H0.out.2.2.2.2.1 (R3.post.plan H0.out.2.2.1 H0.out.1 H0.out.2.1) (show 1≤3 by omega))
  have H4:=hid (Jc R3 hL0)
  clear R3 H3 hL0 hk hgk hlt
  go_wp2_with (first
   | (go_at_call 26; refine A3.out.mono ?_; rintro e W3 ⟨p1,cp1,rfl,hr1,bb3⟩)
   | fail)
  have RI2:RI B cb mb c w W3 ([w.heap.size,w.heap.size+1] ++ (Value.slice p1 (thR R 1).length cp1).ownBlock.toList) va vf L0 W3:=H4.out.1.next bb3 (fun b hb=>by
   rcases List.mem_append.1 hb with hb | hb
   ·exact Jr (Ju _ hb)
   ·exact Js ⟨hr1.base b (by simpa using hb),hr1.lt b (by simpa using hb)⟩)
  have X5':W3.heap[w.heap.size+1]?=some (.cells #[.int .i64 5,.int .i64 0] 79):=(bb3.block _ (H4.out.1.lt _ (by simp))).trans (H4.out.1.box (by simp) H2.out.2.2.2)
  have H5:=hid (Jc RI2 (Jc hr1 X5'))
  have hl1:=th_le R 1
  have hf:=hf
  clear RI2 hr1 X5' bb3 A3
  go_loopg [30] (thR R 1).length (fun gk iv wr=>∃ (k:Nat) (va vf:Value),k≤(thR R 1).length∧(thR R 1).length - k≤gk∧iv=.int .i64 k∧Hid (RI B cb mb c w W3 ([w.heap.size,w.heap.size+1] ++ (Value.slice p1 (thR R 1).length cp1).ownBlock.toList) va vf (L0 ++ machL R ((idsR R 1 100).take k)) wr))
  case atStart=>exact ⟨0,va,vf,Jq _,by omega,rfl,(show RI _ _ _ _ _ _ _ _ _ (L0 ++ machL R ((idsR R 1 100).take 0)) _ from by simpa [machL] using H5.out.1)⟩
  case' round=>skip
  obtain ⟨k,va,vf,hk,hgk,rfl,H6⟩:=hrel
  rename World=>Z3
  by_cases hlt:k<(thR R 1).length
  ·obtain ⟨jd,hj,exk,hpj,hki,eik⟩:=th_at hlt
   have hrow:=H6.out.row H5.out.2.1 (fun b e=>Jt _ (by simpa using e))
   obtain ⟨g,rfl,hgl,q0,q1⟩:=hrow.cells hlt
   rw [exk] at q0 q1
   have hkI:(k:Int)<((thR R 1).length:Int):=by omega
   obtain ⟨i,hi,ei,eid⟩:=atOf_some (id:=(jd:Int)) (xs:=R.t1) hpj
   have hget:=H0.out.2.2.2.2.1.yes1 hi
   rw [eid] at hget
   obtain ⟨rk,sl,hrs⟩:∃ rk sl,R.t1[i]=((jd:Int),rk,sl):=⟨_,_,by rw [← eid]⟩
   rw [hrs] at hget
   obtain ⟨yr,hyr,eyr⟩:=hf.more.rk _ (Jl hi)
   have hyr':=hf.id0 yr hyr
   rw [hrs] at eyr
   obtain ⟨Z4,hZ4⟩:∃ Z4,Z3.alloc (.cells #[.int .i64 1,.int .i64 jd] 79)=Z4:=⟨_,rfl⟩
   have bz:Below Z3.heap.size Z3 Z4:=by rw [← hZ4]; exact (Jd _ _).alloc (Jb _) _
   have X1:Z4.heap[Z3.heap.size]?=some (.cells #[.int .i64 1,.int .i64 jd] 79):=by rw [← hZ4]; exact heap_alloc_new Z3 _
   have R1:=H6.out.keep bz
   have P1:=R1.post.plan H0.out.2.2.1 H0.out.1 H0.out.2.1
   have e1:(Instr.lookup 70 (.map (some b0)) (.agg #[.int .i64 1,.int .i64 jd]) false).run Try.prog Z4.drew=.ok (.agg #[.int .i64 0,.int .i64 rk,.int .i64 sl,.int .i64 0]) Z4.drew:=run_look_yes' kt79 Try.underlying70 P1.m0.drew (1,(jd:Int)) hget _ (zero82 _)
   have e1':∀ o,(Instr.lookup 70 (.map (some b0)) (.agg #[.int .i64 1,.int .i64 jd]) false).run Try.prog (Z4.alloc o).drew=.ok (.agg #[.int .i64 0,.int .i64 rk,.int .i64 sl,.int .i64 0]) (Z4.alloc o).drew:=fun o=>run_look_yes' kt79 Try.underlying70 (P1.m0.alloc o).drew (1,(jd:Int)) hget _ (zero82 _)
   have p0':=P1.c0
   have pz:=P1.lt
   have c0:=cellC X1 0
   have c1:=cellC X1 1
   simp only [Jg,Jf,Je] at c0 c1
   have y0:Z3.heap.size<Z4.heap.size:=(Ja.1 X1).1
   have HZ4:=hid (Jc R1 (Jc X1 hZ4))
   clear R1 P1 X1 hrow bz hget
   go_upto_region 9 with fail
   go_region
   obtain ⟨Z5,hZ5⟩:∃ Z5,(Z4.alloc (.cells #[.int .i64 0,.int .i64 rk,.int .i64 sl,.int .i64 0] 85)).drew=Z5:=⟨_,rfl⟩
   rw [hZ5]
   have b5:Below Z4.heap.size Z4 Z5:=by rw [← hZ5]; exact ((Jd _ _).alloc (Jb _) _).drew
   have X6:Z5.heap[Z4.heap.size]?=some (.cells #[.int .i64 0,.int .i64 rk,.int .i64 sl,.int .i64 0] 85):=by rw [← hZ5]; exact heap_alloc_new Z4 _
   have X7:Z5.heap[Z3.heap.size]?=some (.cells #[.int .i64 1,.int .i64 jd] 79):=(b5.block _ y0).trans HZ4.out.2.1
   have R5:RI B cb mb c w Z5 [w.heap.size+1,Z3.heap.size,Z4.heap.size] va vf (L0 ++ machL R ((idsR R 1 100).take k)) Z5:=by
    have r1:=H6.out.next (T:=[w.heap.size+1,Z3.heap.size]) (Z':=Z4) (by rw [← HZ4.out.2.2]; exact (Jd _ _).alloc (Jb _) _) (fun b hb=>by
     simp at hb
     rcases hb with rfl | rfl
     ·exact Jr (by simp)
     ·exact Js ⟨Jb _,y0⟩)
    exact r1.next b5 (fun b hb=>by
     simp at hb
     rcases hb with rfl | rfl | rfl
     ·exact Jr (by simp)
     ·exact Jr (by simp)
     ·exact Js ⟨Jb _,(Ja.1 X6).1⟩)
   have Y5:Z5.heap[w.heap.size+1]?=some (.cells #[.int .i64 5,.int .i64 0] 79):=by
    exact (b5.block _ (HZ4.out.1.lt _ (by simp))).trans (HZ4.out.1.box (b:=w.heap.size+1) (by simp) H5.out.2.2)
   obtain ⟨L2,hL2⟩:∃ L2,L0 ++ machL R ((idsR R 1 100).take k)=L2:=⟨_,rfl⟩
   have hml:L2.length≤1000:=by rw [← hL2,Jo,machL_len,List.length_take]; have:=th_len R 1; omega
   rw [hL2] at R5
   have R5':=HZ4.out.1.keep b5
   rw [hL2] at R5'
   have A4:=hid (R5.arc 0 rk 1 (jd:Int) sl 0 (by omega) (by omega))
   have f0:=cellC X6 0
   have f1:=cellC X6 1
   have f2:=cellC X6 2
   have c0:=cellC X7 0
   have c1:=cellC X7 1
   simp only [Jg,Jf,Je] at f0 f1 f2 c0 c1
   have y6:Z4.heap.size<Z5.heap.size:=(Ja.1 X6).1
   have y7:Z3.heap.size<Z5.heap.size:=(Ja.1 X7).1
   have H7:=hid (Jc X6 (Jc X7 (Jc Y5 (Jc hL2 (Jc R5 R5')))))
   clear R5 R5' X6 X7 Y5 b5 hL2 hZ5 e1 e1' p0' pz HZ4
   go_wp2_with (first
    | (go_at_call 54; refine A4.out.mono ?_; rintro e Z6 ⟨rfl,va6,vf6,hp6⟩; have hR6:=H7.out.2.2.2.2.1.more hp6; have hR6':=H7.out.2.2.2.2.2.more hp6; have x6:=hR6.box (b:=Z4.heap.size) (by simp) H7.out.1; have x7:=hR6.box (b:=Z3.heap.size) (by simp) H7.out.2.1; have x5:=hR6.box (b:=w.heap.size+1) (by simp) H7.out.2.2.1; have A5:=hid (hR6.arc 1 (jd:Int) 5 0 sl 0 (by rw [Jo,List.length_singleton]; omega) (by rw [Jo,List.length_singleton]; omega)); have g2:=cellC x6 2; have h0:=cellC x7 0; have h1:=cellC x7 1; have d0:=cellC x5 0; have d1:=cellC x5 1; simp only [Jg,Jf,Je] at g2 h0 h1 d0 d1; have y8:Z4.heap.size<Z6.heap.size:=(Ja.1 x6).1; have y9:Z3.heap.size<Z6.heap.size:=(Ja.1 x7).1; have y10:w.heap.size+1<Z6.heap.size:=(Ja.1 x5).1; have H8:=hid hR6'; clear hR6 hR6' x6 x7 x5 A4 hp6)
    | (go_at_call 54; refine A5.out.mono ?_; rintro e Z7 ⟨rfl,va7,vf7,hp7⟩; have hR7:=H8.out.more hp7)
    | fail)
   have HR7:=hid hR7
   clear hR7 A5 hp7
   go_roundg ((thR R 1).length - (k+1))
   case measure=>omega
   case rel =>
    refine ⟨k+1,va7,vf7,by omega,Jb _,by go_num,?_⟩
    have hq:=HR7.out
    have hprk:Pres R 0 rk.toNat:=by
     show 0≤atOf ((rk.toNat:Nat):Int) R.t0
     rw [show ((rk.toNat:Nat):Int)=rk by omega,← eyr]
     obtain ⟨m,hm,rfl⟩:=List.mem_iff_getElem.1 hyr
     rw [atOf_mem hf.nd0 hm]
     omega
    have e1:nodeT c.nm (0,rk)=nodeR R 0 rk.toNat:=by
     rw [H0.out.2.2.2.1,← node_R hf (by omega) (by omega) hprk]
     rw [show ((rk.toNat:Nat):Int)=rk by omega]
     rfl
    have e2:nodeT c.nm (1,(jd:Int))=nodeR R 1 jd:=by rw [H0.out.2.2.2.1,← node_R hf (by omega) hj hpj]; rfl
    have e3:nodeT c.nm (5,0)=1:=by rw [H0.out.2.2.2.1]; exact node_sink R
    rw [e1,e2,e3,← H7.out.2.2.2.1] at hq
    have e4:L0 ++ machL R ((idsR R 1 100).take (k+1))=L0 ++ machL R ((idsR R 1 100).take k) ++ [⟨nodeR R 0 rk.toNat,nodeR R 1 jd,sl,0⟩] ++ [⟨nodeR R 1 jd,1,sl,0⟩]:=by
     rw [List.take_succ_eq_append_getElem hki,eik]
     unfold machL
     rw [List.flatMap_append]
     simp only [List.flatMap_cons,List.flatMap_nil,List.append_nil,machA,ei,Jn,getD_at hi,hrs]
     simp
    rw [e4]
    exact hq
  ·obtain rfl:k=(thR R 1).length:=by omega
   have R3:=H6.out
   rw [List.take_of_length_le (by rw [th_len]; exact Jb _)] at R3
   obtain ⟨L1,hL1⟩:∃ L1,L0 ++ machL R (idsR R 1 100)=L1:=⟨_,rfl⟩
   have hL1n:L1.length≤1000:=by rw [← hL1,Jo,machL_len]; have:=ids_length R 1 100; omega
   rw [hL1] at R3
   have A3:=hid (all_R' H0.out.2.2.2.2.1 (R3.post.plan H0.out.2.2.1 H0.out.1 H0.out.2.1) (show 2≤3 by omega))
   have H9:=hid (Jc R3 hL1)
   clear R3 H6 hL1 hk hgk hlt
   go_wp2_with (first
    | (go_at_call 26; refine A3.out.mono ?_; rintro e W4 ⟨p2,cp2,rfl,hr2,bb4⟩)
    | fail)
   have RI3:RI B cb mb c w W4 ([w.heap.size,w.heap.size+1] ++ (Value.slice p2 (thR R 2).length cp2).ownBlock.toList) va vf L1 W4:=H9.out.1.next bb4 (fun b hb=>by
    rcases List.mem_append.1 hb with hb | hb
    ·exact Jr (Ju _ hb)
    ·exact Js ⟨hr2.base b (by simpa using hb),hr2.lt b (by simpa using hb)⟩)
   have X5':W4.heap[w.heap.size+1]?=some (.cells #[.int .i64 5,.int .i64 0] 79):=(bb4.block _ (H9.out.1.lt _ (by simp))).trans (H9.out.1.box (by simp) H5.out.2.2)
   have H10:=hid (Jc RI3 (Jc hr2 X5'))
   have hl2:=th_le R 2
   clear RI3 hr2 X5' bb4 A3
   go_loopg [57] (thR R 2).length (fun gk iv wr=>∃ (k:Nat) (va vf:Value),k≤(thR R 2).length∧(thR R 2).length - k≤gk∧iv=.int .i64 k∧Hid (RI B cb mb c w W4 ([w.heap.size,w.heap.size+1] ++ (Value.slice p2 (thR R 2).length cp2).ownBlock.toList) va vf (L1 ++ jobA R ((idsR R 2 100).take k)) wr))
   case atStart=>exact ⟨0,va,vf,Jq _,by omega,rfl,(show RI _ _ _ _ _ _ _ _ _ (L1 ++ jobA R ((idsR R 2 100).take 0)) _ from by simpa [jobA] using H10.out.1)⟩
   case' round=>skip
   obtain ⟨k,va,vf,hk,hgk,rfl,H11⟩:=hrel
   rename World=>Z8
   by_cases hlt:k<(thR R 2).length
   ·obtain ⟨jd,hj,exk,hpj,hki,eik⟩:=th_at hlt
    have hrow:=H11.out.row H10.out.2.1 (fun b e=>Jt _ (by simpa using e))
    obtain ⟨g,rfl,hgl,q0,q1⟩:=hrow.cells hlt
    rw [exk] at q0 q1
    have hkI:(k:Int)<((thR R 2).length:Int):=by omega
    obtain ⟨Z9,hZ9⟩:∃ Z9,Z8.alloc (.cells #[.int .i64 2,.int .i64 jd] 79)=Z9:=⟨_,rfl⟩
    have bz:Below Z8.heap.size Z8 Z9:=by rw [← hZ9]; exact (Jd _ _).alloc (Jb _) _
    have X1:Z9.heap[Z8.heap.size]?=some (.cells #[.int .i64 2,.int .i64 jd] 79):=by rw [← hZ9]; exact heap_alloc_new Z8 _
    have R1:=H11.out.keep bz
    have c0:=cellC X1 0
    have c1:=cellC X1 1
    have Y4:=R1.box (b:=w.heap.size+1) (by simp) H10.out.2.2
    have d0:=cellC Y4 0
    have d1:=cellC Y4 1
    simp only [Jg,Jf,Je] at c0 c1 d0 d1
    have y0:Z8.heap.size<Z9.heap.size:=(Ja.1 X1).1
    have y4:w.heap.size+1<Z9.heap.size:=(Ja.1 Y4).1
    have hlr:(L1 ++ jobA R ((idsR R 2 100).take k)).length≤2000:=by unfold jobA; rw [Jo,Jv,List.length_take]; have:=th_len R 2; omega
    have A2:=hid (R1.arc 2 (jd:Int) 5 0 16 0 (by omega) (by omega))
    have HN:=hid (show L1 ++ jobA R ((idsR R 2 100).take k) ++ [⟨nodeT c.nm (2,(jd:Int)),nodeT c.nm (5,0),16,0⟩]=L1 ++ jobA R ((idsR R 2 100).take (k+1)) from by
     rw [H0.out.2.2.2.1,node_sink,show ((2:Int),(jd:Int))=(((2:Nat):Int),(jd:Int)) from rfl,node_R hf (by omega) hj hpj]
     unfold jobA
     rw [List.take_succ_eq_append_getElem hki,List.map_append,eik]
     simp)
    have HR1:=hid R1
    clear R1 X1 Y4 hrow H11 bz
    go_upto_region 16 with fail
    go_wp2_with (first
     | (go_at_call 54; refine A2.out.mono ?_; rintro e Z2 ⟨rfl,va',vf',hp2⟩; have hR2:=HR1.out.more hp2)
     | fail)
    rw [HN.out] at hR2
    have HR2:=hid hR2
    clear hR2 A2
    go_roundg ((thR R 2).length - (k+1))
    case measure=>omega
    case rel=>exact ⟨k+1,va',vf',by omega,Jb _,by go_num,HR2.out⟩
   ·obtain rfl:k=(thR R 2).length:=by omega
    have R4:=H11.out.post
    rw [List.take_of_length_le (by rw [th_len]; exact Jb _),← H9.out.2,← H4.out.2] at R4
    have H12:=hid R4
    clear R4
    go_wp2_with fail
    go_end0
    exact ⟨rfl,va,vf,H12.out⟩
end
end
end Go.Proofs.Ytjdindfjfpdikab
