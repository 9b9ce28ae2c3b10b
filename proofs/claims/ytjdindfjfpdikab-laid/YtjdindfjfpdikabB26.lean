import Derived.Test.YtjdindfjfpdikabB01
import Derived.Test.YtjdindfjfpdikabB24
import Derived.Test.YtjdindfjfpdikabB25
import Derived.Test.YtjdindfjfpdikabPre
set_option maxRecDepth 100000
set_option maxHeartbeats 8000000
namespace Go.Proofs.Ytjdindfjfpdikab
section
open Go.RowKit
structure DI (B cb mb:Nat)(c0:Ch)(w W1:World)(S:List Nat)(c:Ch)(wr:World):Prop where
 post:CPost B cb mb c0 c w wr
 same:∀ b∈S,wr.heap[b]?=W1.heap[b]?
 off:∀ b∈S,b∉c.foot cb mb
 lt:∀ b∈S,b<wr.heap.size
structure Nods (c:Ch)(tl:List (Int×Int))(sl:List Int):Prop where
 ts:c.ts=tl
 nm:c.nm=addNm [] 0 tl
 sup:c.sup=sl
 al:c.al=[]
 fl:c.fl=[]
 N:c.N=(tl.length:Int)
 len:sl.length=tl.length
section
variable {B cb mb:Nat}{c0 c c':Ch}{w W1 Z Z':World}{S:List Nat}
theorem DI.start (h:Chart B w cb mb c0)(hb:Below w.heap.size w W1)(hS:∀ b∈S,w.heap.size≤b∧b<W1.heap.size):DI B cb mb c0 w W1 S c0 W1:=by
 refine ⟨(CPost.refl h).behind hb,fun _ _=>rfl,fun b hm q=>?_,fun b hm=>(hS b hm).2⟩
 have:=(h.foots b q).2
 have:=(hS b hm).1
 omega
theorem DI.keep (h:DI B cb mb c0 w W1 S c Z)(hb:Below Z.heap.size Z Z'):DI B cb mb c0 w W1 S c Z' :=
 ⟨h.post.behind hb,fun b hm=>(hb.block b (h.lt b hm)).trans (h.same b hm),h.off,fun b hm=>Jm (h.lt b hm) hb.size⟩
theorem DI.more (h:DI B cb mb c0 w W1 S c Z)(hp:CPost B cb mb c c' Z Z'):DI B cb mb c0 w W1 S c' Z':=by
 refine ⟨h.post.trans hp,fun b hm=>(hp.2.1.block b (h.lt b hm) (h.off b hm)).trans (h.same b hm),fun b hm q=>?_,fun b hm=>Jm (h.lt b hm) hp.2.1.size⟩
 rcases hp.2.2 b q with r | r
 ·exact h.off b hm r
 ·have:=h.lt b hm
  omega
theorem DI.row {b9:Nat}{v:Value}{xs:List (Int×Int)}(h:DI B cb mb c0 w W1 S c Z)(hr:TRow b9 W1 v xs)(hv:∀ b,v.ownBlock=some b→b∈S):TRow b9 Z v xs:=by
 refine ⟨hr.1,?_⟩
 rcases hr.2 with q | ⟨g,cap,cur,e,e0,hg,q⟩
 ·exact Jr q
 ·exact Js ⟨g,cap,cur,e,e0,(h.same g (hv g (by rw [e]; rfl))).trans hg,q⟩
theorem Nods.start:Nods ⟨.slice none 0 0,.slice none 0 0,.slice none 0 0,.slice none 0 0,0,[],[],[],[],[]⟩ [] []:=⟨rfl,rfl,rfl,rfl,rfl,rfl,rfl⟩
theorem Nods.more {ts:List (Int×Int)}{sup:List Int}(h:Nods c ts sup)(vs vt:Value)(s:Int)(xs:List (Int×Int)):Nods { chNodes c vs vt s xs with N:=((c.ts.length+xs.length:Nat):Int) } (ts ++ xs) (sup ++ List.replicate xs.length s):=by
 refine ⟨?_,?_,?_,h.al,h.fl,?_,?_⟩
 ·show c.ts ++ xs=_; rw [h.ts]
 ·show addNm c.nm c.ts.length xs=_
  rw [h.nm,h.ts,← addNm_append,Nat.zero_add]
 ·show c.sup ++ List.replicate xs.length s=_; rw [h.sup]
 ·show ((c.ts.length+xs.length:Nat):Int)=_; rw [h.ts,Jo]
 ·rw [Jo,Jo,List.length_replicate,h.len]
theorem DI.nodes {ts:List (Int×Int)}{sup:List Int}(h:DI B cb mb c0 w W1 S c Z)(hn:Nods c ts sup)(supply:Int)(va:Value)(xs:List (Int×Int))(b9:Nat)(hx:TRow b9 Z va xs)(hd:∀ b,va.ownBlock=some b→b∉c.foot cb mb)(hl:ts.length+xs.length≤10000) :
  Calls Try.prog 38 #[.pointer (some ⟨cb,0,none⟩),.int .i64 supply,va] Z fun e Z'=>e=.returned (.tuple #[])∧∃ c',DI B cb mb c0 w W1 S c' Z'∧Nods c' (ts ++ xs) (sup ++ List.replicate xs.length supply):=by
 refine (addNodes_any h.post.1 supply va xs b9 hx hd (by rw [hn.ts]; exact hl) (by rw [hn.sup,hn.len]; exact hl)).mono ?_
 rintro e Z' ⟨he,vs,vt,hp⟩
 exact ⟨he,_,h.more hp,hn.more vs vt supply xs⟩
theorem one_row (W:World)(x y:Int):TRow W.heap.size (W.alloc (.cells #[.int .i64 x,.int .i64 y] 79)) (.slice (some ⟨W.heap.size,0,none⟩) 1 1) [(x,y)] :=
 ⟨rfl,Js ⟨_,1,_,rfl,Jb _,heap_alloc_new W _,Jb _,by unfold maxLen; omega,rfl,rfl⟩⟩
theorem Chart.new (h:Chart B W1 cb mb c):W1.heap.size∉c.foot cb mb:=fun q=>by
 have:=(h.foots _ q).2
 omega
theorem chart_made (w:World):Chart w.heap.size ((w.alloc (.map #[] 0)).alloc (.cells #[.int .i64 0,.slice none 0 0,.slice none 0 0,.slice none 0 0,.map (some w.heap.size),.slice none 0 0] 67)) (w.heap.size+1) w.heap.size ⟨.slice none 0 0,.slice none 0 0,.slice none 0 0,.slice none 0 0,0,[],[],[],[],[]⟩:=by
 have e1:(w.alloc (.map #[] 0)).heap.size=w.heap.size+1:=by simp
 refine ⟨?_,NRow.nil _ _,ARow.nil _ _,NRow.nil _ _,TRow.nil _ _,(mapAt_made w).alloc _,Jr rfl,by omega,Jb _⟩
 rw [← e1]
 exact heap_alloc_new _ _
end
section
variable {R:RSt}
def oK (R:RSt)(k:Nat):Nat→Int:=fun y=>if (R.t3.getD y (-1,0,0)).1∈(idsR R 3 100).take k then 1 else 0
structure Drawn (R:RSt)(k:Nat)(c:Ch):Prop where
 al:c.al=roomsR R ++ taskL R ((idsR R 3 100).take k)
 fl:c.fl.length=c.al.length
 nm:c.nm=nmR R
 ts:c.ts=tsR R
 sup:c.sup=[0,-((idsR R 3 100).length:Int)] ++ List.replicate ((thR R 0).length+(thR R 1).length+(thR R 2).length) 0 ++ List.replicate (thR R 3).length 1
 N:c.N=((tsR R).length:Int)
 beg:BegI R (fun i=>c.fl.getD i 0) (oK R k)
 bg:BegR R k c.fl
theorem oK_zero (R:RSt):oK R 0=fun _=>0:=by
 funext y
 unfold oK
 simp
theorem oK_end (hf:Fit R){y:Nat}(hy:y<R.t3.length):oK R (idsR R 3 100).length y=1:=by
 unfold oK
 rw [List.take_length,getD_at hy,if_pos]
 have h1:=hf.id3 _ (Jl hy)
 obtain ⟨j,hj⟩:∃ j:Nat,R.t3[y].1=(j:Int):=⟨R.t3[y].1.toNat,by omega⟩
 rw [hj]
 refine mem_ids (by omega) ?_
 show 0≤atOf (j:Int) R.t3
 rw [← hj,atOf_mem hf.nd3 hy]
 omega
theorem oK_no {k:Nat}(hk:k<(idsR R 3 100).length){y:Nat}(hy:y<R.t3.length)(e:R.t3[y].1=(idsR R 3 100)[k]):oK R k y=0:=by
 unfold oK
 rw [getD_at hy,e,if_neg]
 intro q
 obtain ⟨m,hm,e2⟩:=List.mem_iff_getElem.1 q
 rw [List.getElem_take] at e2
 rw [List.length_take] at hm
 have:=List.pairwise_iff_getElem.1 (ids_pairwise (R:=R) 3 100).1 m k (by omega) hk (by omega)
 omega
theorem oK_succ (hf:Fit R){k:Nat}(hk:k<(idsR R 3 100).length){y:Nat}(hy:y<R.t3.length)(e:R.t3[y].1=(idsR R 3 100)[k]):∀ z,z<R.t3.length→oK R (k+1) z=updI (oK R k) y 1 z:=fun z hz=>by
 show (if (R.t3.getD z (-1,0,0)).1∈(idsR R 3 100).take (k+1) then (1:Int) else 0)=if z=y then 1 else if (R.t3.getD z (-1,0,0)).1∈(idsR R 3 100).take k then 1 else 0
 rw [List.take_succ_eq_append_getElem hk,getD_at hz]
 by_cases q:z=y
 ·subst q
  rw [if_pos rfl,if_pos (by rw [e]; exact Jt _ (List.mem_singleton.2 rfl))]
 ·rw [if_neg q]
  have:R.t3[z].1≠(idsR R 3 100)[k]:=fun h=>by
   rw [← e] at h
   have h1:=atOf_mem hf.nd3 hz
   have h2:=atOf_mem hf.nd3 hy
   rw [h,h2] at h1
   omega
  by_cases hm:R.t3[z].1∈(idsR R 3 100).take k
  ·rw [if_pos hm,if_pos (Ju _ hm)]
  ·rw [if_neg hm,if_neg (fun h=>by
    rcases List.mem_append.1 h with h | h
    ·exact hm h
    ·exact this (List.mem_singleton.1 h))]
theorem oK_out (R:RSt)(k:Nat){z:Nat}(hz:R.t3.length≤z):oK R k z=0:=by
 unfold oK
 rw [if_neg]
 rw [List.getD_eq_getElem?_getD,List.getElem?_eq_none hz]
 intro q
 have h1:(-1:Int)∈idsR R 3 100:=List.mem_of_mem_take q
 obtain ⟨j,_,e,_⟩:=(ids_pairwise (R:=R) 3 100).2 _ h1
 omega
theorem oK_succ' (hf:Fit R){k:Nat}(hk:k<(idsR R 3 100).length){y:Nat}(hy:y<R.t3.length)(e:R.t3[y].1=(idsR R 3 100)[k]):oK R (k+1)=updI (oK R k) y 1:=by
 funext z
 by_cases hz:z<R.t3.length
 ·exact oK_succ hf hk hy e z hz
 ·rw [oK_out R _ (by omega)]
  unfold updI
  rw [if_neg (by omega),oK_out R _ (by omega)]
theorem pad_zero (l:List Int)(m:Nat):(fun i=>(l ++ List.replicate m 0).getD i 0)=fun i=>l.getD i 0:=by
 funext i
 rw [List.getD_eq_getElem?_getD,List.getD_eq_getElem?_getD]
 by_cases h:i<l.length
 ·rw [List.getElem?_append_left h]
 ·rw [List.getElem?_append_right (by omega),List.getElem?_eq_none (show l.length≤i by omega),List.getElem?_replicate]
  split <;> rfl
end
section
variable {w Z:World}{pb b0 b1 b2 b3 cb mb B:Nat}{l0:Things}{l1:Runs}{l2:Waits}{l3:Prefs}{R:RSt}{c:Ch}
theorem net_len_le (hf:Fits R)(n:Nat):(roomsR R ++ taskL R ((idsR R 3 100).take n)).length≤9000:=by
 have h1:=(net_split R n)
 have h2:(roomsR R ++ taskL R ((idsR R 3 100).take n)).length≤(netR R).length:=by
  have h3:=congrArg List.length h1
  simp only [Jo] at h3 ⊢
  omega
 have h3:(netR R).length≤9000:=by
  unfold netR
  rw [Jo,Jo,Jo,machL_len]
  unfold rackA jobA
  rw [Jv,Jv]
  have h4:=taskL_len R (idsR R 3 100)
  have:=ids_length R 0 100
  have:=ids_length R 1 100
  have:=ids_length R 2 100
  have:=ids_le (R:=R) 3 100
  have:(tkR R 3).length≤16:=hf.net.run.len3
  omega
 omega
end
end
section
open Go.RowKit
section
variable {w:World}{pb b0 b1 b2 b3:Nat}{l0:Things}{l1:Runs}{l2:Waits}{l3:Prefs}{R:RSt}
theorem chart_any (hs:Sim l0 l1 l2 l3 R)(hp:PlanAt w pb b0 b1 b2 b3 l0 l1 l2 l3)(hlow:∀ b∈[pb,b0,b1,b2,b3],b<w.heap.size) :
  Calls Try.prog 23 #[.pointer (some ⟨pb,0,none⟩)] w fun e w'=>∃ cb mb c,e=.returned (.pointer (some ⟨cb,0,none⟩))∧Chart w.heap.size w' cb mb c∧Drawn R (idsR R 3 100).length c∧Below w.heap.size w w':=by
 have hmm:=@run_makeMap Try.prog
 have hC0:=chart_made w
 obtain ⟨W1,hW1⟩:∃ W1,(w.alloc (.map #[] 0)).alloc (.cells #[.int .i64 0,.slice none 0 0,.slice none 0 0,.slice none 0 0,.map (some w.heap.size),.slice none 0 0] 67)=W1:=⟨_,rfl⟩
 rw [hW1] at hC0
 have bW:Below w.heap.size w W1:=by rw [← hW1]; exact ((Jd _ _).alloc (Jb _) _).alloc (by simp) _
 obtain ⟨c0,hc0⟩:∃ c0:Ch,(⟨.slice none 0 0,.slice none 0 0,.slice none 0 0,.slice none 0 0,0,[],[],[],[],[]⟩:Ch)=c0:=⟨_,rfl⟩
 have hn0:Nods c0 [] []:=by rw [← hc0]; exact Nods.start
 rw [hc0] at hC0
 have A1:=hid (all_R' hs (hp.below bW) (show 3≤3 by omega))
 have H0:=hid (Jc hs (Jc hp (Jc hlow (Jc hW1 (Jc bW (Jc hC0 hn0))))))
 have hl0:=th_le R 0
 have hl1:=th_le R 1
 have hl2:=th_le R 2
 have hl3:=th_le R 3
 have hz1:w.heap.size+1<W1.heap.size:=hC0.lt
 clear hs hp hlow hW1 bW hC0 hn0 hc0
 go_enter Try.func23,Try.ntmps23
 go_upto_region 2 with fail
 rw [H0.out.2.2.2.1]
 go_upto_region 3 with (first
  | (go_at_call 26; refine A1.out.mono ?_; rintro e W2 ⟨p3,cp3,rfl,hr3,bb2⟩)
  | fail)
 have hS:∀ b∈(Value.slice p3 (thR R 3).length cp3).ownBlock.toList,W1.heap.size≤b∧b<W2.heap.size:=fun b hb=>⟨hr3.base b (by simpa using hb),hr3.lt b (by simpa using hb)⟩
 have D2:DI w.heap.size (w.heap.size+1) w.heap.size c0 W1 W2 (Value.slice p3 (thR R 3).length cp3).ownBlock.toList c0 W2:=DI.start H0.out.2.2.2.2.2.1 bb2 hS
 have D3:=D2.keep (Z':=W2.alloc (.cells #[.int .i64 4,.int .i64 0] 79)) ((Jd _ _).alloc (Jb _) _)
 have A2:=hid (D3.nodes H0.out.2.2.2.2.2.2 0 (.slice (some ⟨W2.heap.size,0,none⟩) 1 1) [(4,0)] _ (one_row W2 4 0) (fun b e=>by cases e; exact D2.post.1.new) (by simp))
 have H2:=hid (Jc D2 (Jc hr3 bb2))
 have hz2:w.heap.size+1<W2.heap.size:=Jm hz1 bb2.size
 clear D2 D3 hS hr3 bb2 A1
 go_upto_region 4 with (first
  | (go_at_call 38; refine A2.out.mono ?_; rintro e W3 ⟨rfl,c1,D3,hn1⟩)
  | fail)
 have D4:=D3.keep (Z':=W3.alloc (.cells #[.int .i64 5,.int .i64 0] 79)) ((Jd _ _).alloc (Jb _) _)
 have A3:=hid (D4.nodes hn1 (-((thR R 3).length:Int)) (.slice (some ⟨W3.heap.size,0,none⟩) 1 1) [(5,0)] _ (one_row W3 5 0) (fun b e=>by cases e; exact D3.post.1.new) (by simp))
 have hz3:w.heap.size+1<W3.heap.size:=D3.post.1.lt
 clear D3 D4 hn1 A2
 go_upto_region 5 with (first
  | (go_at_call 38; refine A3.out.mono ?_; rintro e W4 ⟨rfl,c2,D4,hn2⟩)
  | fail)
 have P4:=D4.post.plan H0.out.2.2.2.2.2.1 (H0.out.2.1.below H0.out.2.2.2.2.1) H0.out.2.2.1
 have A4:=hid (all_R' H0.out.1 P4 (show 0≤3 by omega))
 have H4:=hid (Jc D4 hn2)
 clear D4 hn2 A3 P4
 go_upto_region 6 with (first
  | (go_at_call 26; refine A4.out.mono ?_; rintro e W5 ⟨p0,cp0,rfl,hr0,bb5⟩; have D5:=H4.out.1.keep bb5; have A5:=hid (D5.nodes H4.out.2 0 _ _ _ hr0 (fun b e=>fun q=>by have:=hr0.base b e; have:=(H4.out.1.post.1.foots b q).2; omega) (by simp; omega)); clear D5 hr0 bb5 A4)
  | (go_at_call 38; refine A5.out.mono ?_; rintro e W6 ⟨rfl,c3,D6,hn3⟩)
  | fail)
 have P6:=D6.post.plan H0.out.2.2.2.2.2.1 (H0.out.2.1.below H0.out.2.2.2.2.1) H0.out.2.2.1
 have A6:=hid (all_R' H0.out.1 P6 (show 1≤3 by omega))
 have H6:=hid (Jc D6 hn3)
 clear D6 hn3 A5 P6 H4
 go_upto_region 7 with (first
  | (go_at_call 26; refine A6.out.mono ?_; rintro e W7 ⟨p1,cp1,rfl,hr1,bb7⟩; have D7:=H6.out.1.keep bb7; have A7:=hid (D7.nodes H6.out.2 0 _ _ _ hr1 (fun b e=>fun q=>by have:=hr1.base b e; have:=(H6.out.1.post.1.foots b q).2; omega) (by simp; omega)); clear D7 hr1 bb7 A6)
  | (go_at_call 38; refine A7.out.mono ?_; rintro e W8 ⟨rfl,c4,D8,hn4⟩)
  | fail)
 have P8:=D8.post.plan H0.out.2.2.2.2.2.1 (H0.out.2.1.below H0.out.2.2.2.2.1) H0.out.2.2.1
 have A8:=hid (all_R' H0.out.1 P8 (show 2≤3 by omega))
 have H8:=hid (Jc D8 hn4)
 clear D8 hn4 A7 P8 H6
 go_upto_region 8 with (first
  | (go_at_call 26; refine A8.out.mono ?_; rintro e W9 ⟨p2,cp2,rfl,hr2,bb9⟩; have D9:=H8.out.1.keep bb9; have A9:=hid (D9.nodes H8.out.2 0 _ _ _ hr2 (fun b e=>fun q=>by have:=hr2.base b e; have:=(H8.out.1.post.1.foots b q).2; omega) (by simp; omega)); clear D9 hr2 bb9 A8)
  | (go_at_call 38; refine A9.out.mono ?_; rintro e X1 ⟨rfl,c5,E1,hn5⟩)
  | fail)
 have A10:=hid (E1.nodes hn5 1 _ _ _ (E1.row H2.out.2.1 (fun b e=>by simpa using e)) (fun b e=>E1.off b (by simpa using e)) (by simp; omega))
 clear E1 hn5 A9 H8
 go_upto_region 9 with (first
  | (go_at_call 38; refine A10.out.mono ?_; rintro e X2 ⟨rfl,c6,E2,hn6⟩)
  | fail)
 have hts:c6.ts=tsR R:=by rw [hn6.ts]; rfl
 have hnm:c6.nm=nmR R:=by rw [hn6.nm]; rfl
 have hsup:c6.sup=[0,-((idsR R 3 100).length:Int)] ++ List.replicate ((thR R 0).length+(thR R 1).length+(thR R 2).length) 0 ++ List.replicate (thR R 3).length 1:=by
  rw [hn6.sup,← th_len]
  simp [← List.replicate_append_replicate]
 have hN:c6.N=((tsR R).length:Int):=by rw [hn6.N]; rfl
 have P2:=E2.post.plan H0.out.2.2.2.2.2.1 (H0.out.2.1.below H0.out.2.2.2.2.1) H0.out.2.2.1
 have A11:=hid (rooms_any H0.out.1 P2 H0.out.2.2.1 E2.post.1 hnm (by rw [hn6.al]; simp) (by rw [hn6.fl]; simp))
 have H9:=hid (Jc E2 (Jc hn6 (Jc hts (Jc hnm (Jc hsup hN)))))
 clear E2 hn6 hts hnm hsup hN P2 A10
 go_upto_region 10 with (first
  | (go_at_call 39; refine A11.out.mono ?_; rintro e X3 ⟨rfl,va,vf,hP3⟩)
  | fail)
 have E3:=H9.out.1.more hP3
 have hF:=H0.out.1.fits
 have hft:=H0.out.1.fit
 have G3:Drawn R 0 (chArcs c6 va vf (roomsR R)):=by
  obtain ⟨_,hn6,h1,h2,h3,h4⟩:=H9.out
  refine ⟨?_,?_,h2,h1,h3,h4,?_,?_⟩
  ·show c6.al ++ roomsR R=_
   rw [hn6.al]
   simp [taskL]
  ·show (c6.fl ++ List.replicate (roomsR R).length 0).length=(c6.al ++ roomsR R).length
   rw [hn6.fl,hn6.al]
   simp
  ·show BegI R (fun i=>(c6.fl ++ List.replicate (roomsR R).length 0).getD i 0) _
   rw [pad_zero,hn6.fl,oK_zero]
   exact BegI.zero R (caps_nn hF)
  ·show BegR R 0 (c6.fl ++ List.replicate (roomsR R).length 0)
   rw [hn6.fl]
   exact BegR.start
 obtain ⟨c7,hc7⟩:∃ c7,chArcs c6 va vf (roomsR R)=c7:=⟨_,rfl⟩
 rw [hc7] at G3
 rw [show chArcs c6 va vf (rackA R (idsR R 0 100) ++ machL R (idsR R 1 100) ++ jobA R (idsR R 2 100))=c7 from hc7] at E3
 have H10:=hid (Jc E3 (Jc G3 (Jc hF hft)))
 clear E3 G3 hF hft hc7 hP3 H9 A11
 go_upto_region 11 with fail
 go_loopg [43] (thR R 3).length (fun gk iv wr=>∃ (k:Nat) (c:Ch),k≤(thR R 3).length∧(thR R 3).length - k≤gk∧iv=.int .i64 k∧Hid (DI w.heap.size (w.heap.size+1) w.heap.size c0 W1 W2 (Value.slice p3 (thR R 3).length cp3).ownBlock.toList c wr∧Drawn R k c))
 case atStart=>exact ⟨0,c7,Jq _,by omega,rfl,(show _∧_ from ⟨H10.out.1,H10.out.2.1⟩)⟩
 case' round=>skip
 obtain ⟨k,c,hk,hgk,rfl,H11⟩:=hrel
 rename World=>Z0
 by_cases hlt:k<(thR R 3).length
 ·obtain ⟨jd,hj,exk,hpj,hki,eik⟩:=th_at hlt
  have hrow:=H11.out.1.row H2.out.2.1 (fun b e=>by simpa using e)
  obtain ⟨g,rfl,hgl,q0,q1⟩:=hrow.cells hlt
  rw [exk] at q0 q1
  have hkI:(k:Int)<((thR R 3).length:Int):=by omega
  obtain ⟨Z1,hZ1⟩:∃ Z1,Z0.alloc (.cells #[.int .i64 3,.int .i64 jd] 79)=Z1:=⟨_,rfl⟩
  have bz:Below Z0.heap.size Z0 Z1:=by rw [← hZ1]; exact (Jd _ _).alloc (Jb _) _
  have X1:Z1.heap[Z0.heap.size]?=some (.cells #[.int .i64 3,.int .i64 jd] 79):=by rw [← hZ1]; exact heap_alloc_new Z0 _
  have D1:=H11.out.1.keep bz
  have r0:=cellC X1 0
  have r1:=cellC X1 1
  simp only [Jg,Jf,Je] at r0 r1
  have y0:Z0.heap.size<Z1.heap.size:=(Ja.1 X1).1
  obtain ⟨y,hy,ey1,ey2⟩:=atOf_some (id:=(jd:Int)) (xs:=R.t3) hpj
  have hlen:c.al.length≤9000:=by rw [H11.out.2.al]; exact net_len_le H10.out.2.2.1 k
  have hlf:c.fl.length≤9000:=by rw [H11.out.2.fl]; exact hlen
  have hoff:Z0.heap.size∉c.foot (w.heap.size+1) w.heap.size:=H11.out.1.post.1.new
  have PL:=D1.post.plan H0.out.2.2.2.2.2.1 (H0.out.2.1.below H0.out.2.2.2.2.1) H0.out.2.2.1
  have A12:=hid (task_arcs H0.out.1 PL H0.out.2.2.1 D1.post.1 H11.out.2.nm (by omega) (by omega) hy ey2)
  have HD:=hid (Jc D1 (Jc X1 hoff))
  clear D1 X1 bz hrow PL hoff
  go_upto_region 13 with fail
  go_upto_region 14 with (first
   | (go_at_call 40; refine A12.out.mono ?_; rintro e Z2 ⟨rfl,va2,vf2,hP2⟩)
   | fail)
  have D2:=HD.out.1.more hP2
  have X2:Z2.heap[Z0.heap.size]?=some (.cells #[.int .i64 3,.int .i64 jd] 79):=(hP2.2.1.block _ y0 HD.out.2.2).trans HD.out.2.1
  have s0:=cellC X2 0
  have s1:=cellC X2 1
  simp only [Jg,Jf,Je] at s0 s1
  have y2:Z0.heap.size<Z2.heap.size:=(Ja.1 X2).1
  have hal2:(chArcs c va2 vf2 (leafR R y jd)).al=roomsR R ++ taskL R ((idsR R 3 100).take (k+1)):=by
   show c.al ++ leafR R y jd=_
   rw [H11.out.2.al,List.take_succ_eq_append_getElem hki,eik]
   unfold taskL
   rw [List.flatMap_append]
   simp [ey1]
  have hfl2:(chArcs c va2 vf2 (leafR R y jd)).fl.length=(chArcs c va2 vf2 (leafR R y jd)).al.length:=by
   show (c.fl ++ List.replicate (leafR R y jd).length 0).length=(c.al ++ leafR R y jd).length
   rw [Jo,Jo,List.length_replicate,H11.out.2.fl]
  have hpad:(fun i=>(chArcs c va2 vf2 (leafR R y jd)).fl.getD i 0)=fun i=>c.fl.getD i 0:=pad_zero c.fl _
  obtain ⟨fl',hPath,hlen',hB',_⟩:=beg_path H0.out.1 hki eik hj hpj hy ey2 hal2 hfl2 H11.out.2.nm H11.out.2.ts (o:=oK R k) (by rw [hpad]; exact H11.out.2.beg) (oK_no hki hy (by rw [eik]; exact ey2)) (fun i hi=>by
   have h1:=congrFun hpad i
   have h2:(chArcs c va2 vf2 (leafR R y jd)).fl.getD i 0=c.fl.getD i 0:=h1
   rw [h2,List.getD_eq_getElem?_getD,List.getElem?_eq_none (by rw [H11.out.2.fl,H11.out.2.al]; exact hi)]
   rfl)
  have A13:=hid (begin_path D2.post.1 _ _ _ hPath)
  have G2:Drawn R (k+1) { chArcs c va2 vf2 (leafR R y jd) with fl:=fl' }:=⟨hal2,hlen'.trans hfl2,H11.out.2.nm,H11.out.2.ts,H11.out.2.sup,H11.out.2.N,by rw [oK_succ' H10.out.2.2.2 hki hy (by rw [eik]; exact ey2)]; exact hB',BegR.next (c:=chArcs c va2 vf2 (leafR R y jd)) (n:=(leafR R y jd).length) H11.out.2.bg hki hal2 rfl hfl2 H11.out.2.nm H11.out.2.ts (by rw [eik]; exact hPath)⟩
  have HE:=hid (Jc D2 G2)
  clear D2 G2 hal2 hfl2 hpad hPath hlen' hB' X2 hP2 A12
  go_wp2_with (first
   | (go_at_call 41; refine A13.out.mono ?_; rintro e Z3 ⟨rfl,hP3⟩)
   | fail)
  have HF:=hid (Jc (HE.out.1.more hP3) HE.out.2)
  clear hP3 A13 HE HD H11
  go_roundg ((thR R 3).length - (k+1))
  case measure=>omega
  case rel=>exact ⟨k+1,_,by omega,Jb _,by go_num,HF.out⟩
 ·obtain rfl:k=(thR R 3).length:=by omega
  have h1:=H11.out
  rw [th_len R 3] at h1
  have hbl:Below w.heap.size w Z0:=H0.out.2.2.2.2.1.trans ⟨h1.1.post.2.1.os,h1.1.post.2.1.tape,h1.1.post.2.1.output,h1.1.post.2.1.size,fun q hq=>h1.1.post.2.1.block q (by omega) (fun hm=>by have:=(H0.out.2.2.2.2.2.1.foots q hm).1; omega)⟩
  have H12:=hid (Jc h1.1.post.1 (Jc h1.2 hbl))
  clear h1 hbl H11
  go_wp2_with fail
  go_ret
  exact ⟨_,_,c,rfl,H12.out⟩
end
end
end Go.Proofs.Ytjdindfjfpdikab
