import Derived.Deep.RegionWith
import Derived.Test.YtjdindfjfpdikaaGreatB12
import Derived.Test.YtjdindfjfpdikaaGreatB13
import Derived.Test.YtjdindfjfpdikaaGreatB15
import Derived.Test.YtjdindfjfpdikaaGreatB28
import Derived.Test.YtjdindfjfpdikaaGreatB35
import Derived.Test.YtjdindfjfpdikaaGreatB36
import Derived.Test.YtjdindfjfpdikaaGreatB38
import Derived.Test.YtjdindfjfpdikaaGreatPre
set_option maxRecDepth 100000
set_option maxHeartbeats 8000000
namespace Go.Proofs.YtjdindfjfpdikaaGreat
section
open Go.RowKit
theorem ZeX (n:Nat)(f:Nat→Int):(intL n f).flatMap cellsI=numL n f:=by
 have:∀ l:List Nat,(l.map f).flatMap cellsI=l.map (fun i=>Value.int .i64 (f i)):=fun l=>by
  induction l with
  | nil=>rfl
  | cons a l ih=>rw [List.map_cons,List.flatMap_cons,ih]; rfl
 exact this _
theorem Nums.row {w:World}{g n:Nat}{C:Nat→Int}(h:Nums w g n C)(hn:n≤1000):NRow 0 w (.slice (some ⟨g,0,none⟩) n n) (intL n C):=by
 refine ⟨by rw [ZeX,ZaC,Zad,Nat.mul_one],Js ⟨g,n,_,by rw [Zad],Jq _,h,by rw [Zad]; exact Jb _,by unfold maxLen; omega,by simp [ZaC],?_⟩⟩
 rw [ZeX,Zad]
 simp [ZaC,List.take_of_length_le]
theorem Ze2 {n i:Nat}(f:Nat→Int)(h:i<n):(intL n f).getD i 0=f i:=by rw [Zac (by rw [Zad]; exact h),ZaM]
def shB (vs va vf:Value)(g:Nat)(x10 x11:Value):List Nat:=g :: [vs,va,vf,x10,x11].filterMap Value.ownBlock
theorem ZfL {vs va vf x10 x11:Value}{g b:Nat}:b∈shB vs va vf g x10 x11↔b=g∨∃ v∈[vs,va,vf,x10,x11],v.ownBlock=some b:=by
 unfold shB
 rw [List.mem_cons,List.mem_filterMap]
theorem SPost.show {w w':World}{pb b0 b1 b2 b3:Nat}{l0:Things}{l3:Prefs}{R:RSt}{P:Nat→Nat}{q:Nat→Int}{m1:Runs}{m2:Waits}{vs va vf:Value}{g:Nat}{fl:List Int}{C:Nat→Int}
  (h:SPost w pb b0 b1 b2 b3 l0 l3 R w' P q m1 m2 vs va vf g fl C) (hf:Fits R) (h0:R.t0.length≤4):ShowOk (nodesR R) (pcost (cR R) P R.t3.length) (intL (nodesR R) (supN R)) (netR R) fl (intL (nodesR R) C):=by
 obtain ⟨hN,hl,hla,hS,hA⟩:=Zgf hf h0
 have L:=h.last
 have gs:∀ i,i<nodesR R→(intL (nodesR R) (supN R)).getD i 0=supN R i:=fun i hi=>Ze2 _ hi
 have gc:∀ i,i<nodesR R→(intL (nodesR R) C).getD i 0=C i:=fun i hi=>Ze2 _ hi
 refine ⟨by have:=(ZbI R).2; omega,⟨hN,by rw [Zad],hla,fun i hi=>?_,hA⟩,⟨L.len,L.net.caps,fun v hv=>?_⟩,⟨by rw [Zad],fun i hi=>?_,fun i hi=>?_⟩,h.found.cost⟩
 ·rw [Zad] at hi
  simp only [gs i hi]
  exact hS i hi
 ·rw [Zad] at hv
  show (intL (nodesR R) (supN R)).getD v 0+_=_
  rw [gs v hv]
  exact L.net.bal v hv
 ·rw [Zad] at hi
  simp only [gc i hi]
  have:=L.bnd i hi
  omega
 ·have h1:=L.pair i hi
  have h2:=hA i hi
  have h3:((netR R).getD i ⟨0,0,0,0⟩).f.toNat<nodesR R:=by have:=h2.1; unfold arcN at this; omega
  have h4:((netR R).getD i ⟨0,0,0,0⟩).t.toNat<nodesR R:=by have:=h2.2.1; unfold arcN at this; omega
  have e:dd (fun i=>(intL (nodesR R) C).getD i 0) ((netR R).getD i ⟨0,0,0,0⟩)=dd C (arcN R i):=by
   show _+(intL (nodesR R) C).getD _ 0 - (intL (nodesR R) C).getD _ 0=_
   rw [gc _ h3,gc _ h4]
   rfl
  unfold PairOk
  rw [e]
  exact h1
theorem SPost.shown {w w' Z:World}{pb b0 b1 b2 b3:Nat}{l0:Things}{l3:Prefs}{R:RSt}{P:Nat→Nat}{q:Nat→Int}{m1:Runs}{m2:Waits}{vs va vf x10 x11:Value}{g n:Nat}{fl:List Int}{C:Nat→Int}
  (h:SPost w pb b0 b1 b2 b3 l0 l3 R w' P q m1 m2 vs va vf g fl C) (hf:Fits R) (h0:R.t0.length≤4) (hp:Z.heap[pb]?=w'.heap[pb]?) (hm:∀ b,w.heap.size≤b→b<w'.heap.size→Z.heap[b]?=w'.heap[b]?)
  (hs:NRow n Z x10 (intL (nodesR R) (supN R))) (ha:ARow n Z x11 (netR R)) :
  ShOk Z (shB vs va vf g x10 x11) pb (.int .i64 (pcost (cR R) P R.t3.length)) (.bool true) (.int .i64 (nodesR R)) x10 x11:=by
 have L:=h.last
 have hN:=(Zgf hf h0).1
 have hla:=(Zgf hf h0).2.2.1
 have hn:nodesR R≤1000:=by omega
 have z:∀ {e size k:Nat} {v:Value} {xs:List Value} {B:Nat} {W:World},W.ownsRow B e size v k xs→W.ownsRow 0 e size v k xs:=fun hr=>by
  refine ⟨hr.1,?_⟩
  rcases hr.2 with h2 | ⟨g,cap,cur,hv,_,hr⟩
  ·exact Jr h2
  ·exact Js ⟨g,cap,cur,hv,Jq _,hr⟩
 have mv:∀ {e size k:Nat} {v:Value} {xs:List Value},w'.ownsRow w.heap.size e size v k xs→Z.ownsRow 0 e size v k xs:=fun hr=>z (ZaU hr (fun b e=>hm b (hr.lt b e).1 (hr.lt b e).2))
 have hg:Nums Z g (nodesR R) C:=(hm g L.base (Ja.1 L.prices).1).trans L.prices
 refine ⟨vs,va,vf,.slice (some ⟨g,0,none⟩) (nodesR R) (nodesR R),nodesR R,_,intL (nodesR R) (supN R),netR R,fl,intL (nodesR R) C,⟨b0,b1,b2,b3,hp.trans h.cells⟩,rfl,rfl,mv L.sup,mv L.arcs,mv L.flow,hg.row hn,z hs,z ha,fun v hv b e=>ZfL.2 ?_,fun b hb=>?_,⟨by rw [Zad]; exact hn,by omega,by rw [L.len]; omega,by rw [Zad]; exact hn⟩,Js ⟨rfl,h.show hf h0⟩⟩
 ·simp only [List.mem_cons,List.not_mem_nil,or_false] at hv
  rcases hv with rfl | rfl | rfl | rfl | rfl | rfl
  ·exact Js ⟨_,by simp,e⟩
  ·exact Js ⟨_,by simp,e⟩
  ·exact Js ⟨_,by simp,e⟩
  ·left; simpa [Value.ownBlock] using e.symm
  ·exact Js ⟨_,by simp,e⟩
  ·exact Js ⟨_,by simp,e⟩
 ·rcases ZfL.1 hb with rfl | ⟨v,hv,e⟩
  ·exact (Ja.1 hg).1
  ·simp only [List.mem_cons,List.not_mem_nil,or_false] at hv
   rcases hv with rfl | rfl | rfl | rfl | rfl
   ·exact ((mv L.sup).lt b e).2
   ·exact ((mv L.arcs).lt b e).2
   ·exact ((mv L.flow).lt b e).2
   ·exact hs.lt b e
   ·exact ha.lt b e
end
section
open Go.RowKit
theorem ZgF (w:World)(b9:Nat)(v:Value)(xs:List Ar)(h:ARow b9 w v xs)(hl:xs.length≤100000) :
  Calls Tryz.prog 77 #[v] w fun e w'=>∃ v',e=.returned v'∧ARow w.heap.size w' v' xs∧Below w.heap.size w w':=by
 rcases h.2 with ⟨rfl,e2⟩ | ⟨g,cap,cur,rfl,_,hg,hc1,hc2,hc3,ht⟩
 ·obtain rfl:xs=[]:=List.eq_nil_of_length_eq_zero e2
  have hnil:∀ W,(binOp .eql 33 (.slice none 0 0) (.slice none 0 0)).run Tryz.prog W=.ok (.bool true) W:=fun W=>Lib.run_eql_slice_nil_nil W _ _ Tryz.underlying33
  go_enter Tryz.func77,Tryz.ntmps77
  go_wp2
  go_ret
  exact ⟨_,rfl,ARow.nil _ _,Jd _ _⟩
 ·have hnil:∀ W,(binOp .eql 33 (.slice (some ⟨g,0,none⟩) xs.length cap) (.slice none 0 0)).run Tryz.prog W=.ok (.bool false) W:=fun W=>Lib.run_eql_slice_some_nil W _ _ _ Tryz.underlying33
  obtain ⟨i3,hi3,hy0,hy1,hy2⟩:=info_parts Zdz
  have bA:Below w.heap.size w (w.alloc (.cells #[] 93)):=(Jd _ _).alloc (Jb _) _
  have hgl:g<w.heap.size:=(Ja.1 hg).1
  have hr0:(w.alloc (.cells #[] 93)).ownsRow w.heap.size 93 4 (.slice (some ⟨w.heap.size,0,none⟩) 0 0) 0 []:=⟨rfl,Js ⟨_,0,#[],rfl,Jb _,heap_alloc_new w _,Jb _,by unfold maxLen; omega,rfl,rfl⟩⟩
  have hlen:(xs.flatMap cellsAr).length=xs.length*4:=h.1
  have hsrc:∀ (j:Nat) (u:Value),(xs.flatMap cellsAr)[j]?=some u→(w.alloc (.cells #[] 93)).cell? ((⟨g,0,none⟩:Addr).add j)=some u:=fun j u hj=>by
   have hz:(w.alloc (.cells #[] 93)).heap[g]?=some (.cells cur 93):=(bA.block g hgl).trans hg
   rw [Addr.add_lit,Nat.zero_add,Zaf hz]
   rw [← ht] at hj
   have hj':j<xs.length*4:=by
    have:=(List.getElem?_eq_some_iff.1 hj).1
    rw [List.length_take] at this
    omega
   rw [List.getElem?_take_of_lt hj',Array.getElem?_toList] at hj
   exact hj
  have hone:∀ u∈xs.flatMap cellsAr,u.oneCell'=true:=fun u hu=>by
   obtain ⟨x,_,hx⟩:=List.mem_flatMap.1 hu
   simp [cellsAr] at hx
   rcases hx with rfl | rfl | rfl | rfl <;> rfl
  have HA:=hid (Jc hr0 (Jc hlen (Jc hsrc (Jc hone bA))))
  clear hr0 hlen hsrc hone bA h ht
  go_enter Tryz.func77,Tryz.ntmps77
  go_wp2_with (first
   | (at_builtin; refine wpList_append_own_at (w.alloc (.cells #[] 93)) rfl _ _ 33 rfl w.heap.size 93 i3 (.agg #[.int .i64 0,.int .i64 0,.int .i64 0,.int .i64 0]) 4 32 Tryz.underlying33 hi3 hy0 hy1 hy2 rfl (by decide) _ 0 [] rfl HA.out.1 ⟨g,0,none⟩ xs.length cap (xs.flatMap cellsAr) rfl HA.out.2.1 HA.out.2.2.1 HA.out.2.2.2.1 (by unfold maxLen; omega) (by omega) (by simp) ?_; intro u w' hrow hg2 _ hloc; have HR:=hid (Jc hrow hg2); clear hrow hg2 hloc)
   | fail)
  go_ret
  refine ⟨_,rfl,?_,?_⟩
  ·have:=HR.out.1
   unfold ARow
   simpa using this
  ·refine HA.out.2.2.2.2.trans ⟨HR.out.2.os,HR.out.2.tape,HR.out.2.output,HR.out.2.size,fun b hb=>HR.out.2.block b (by simp; omega) (fun e=>by have e':some b=some w.heap.size:=e; injection e' with e''; omega)⟩
theorem Zfh {A:Nat→Ar}{F:Nat→Int}{N:Int}{la n:Nat}(hA:∀ i,i<la→ArcOk N (A i))(hC:Caps la A F)(hn:n≤la):-(10000000*(n:Int))≤cost A F n∧cost A F n≤10000000*(n:Int):=by
 induction n with
 | zero=>simp [cost,sumN]
 | succ n ih =>
  have h1:=ih (by omega)
  have h2:=(hA n (by omega)).2.2
  have h3:=hC n (by omega)
  have e:cost A F (n+1)=cost A F n+F n*(A n).k:=rfl
  have u1:=Int.mul_le_mul_of_nonneg_left h2.2.2 h3.1
  have u2:=Int.mul_le_mul_of_nonneg_left h2.2.1 h3.1
  rw [e]
  generalize F n*(A n).k=z at *
  omega
theorem ZjB (w:World)(N:Int)(p q r:Option Addr)(ls cs la ca cf:Nat)(A:Nat→Ar)(F:Nat→Int)(hA:Arcs w q la A)(hF:Ints w r la F)(hok:∀ i,i<la→ArcOk N (A i))(hC:Caps la A F)(h6:la≤600) :
  Calls Tryz.prog 45 #[.agg #[.int .i64 N,.slice p ls cs,.slice q la ca],.slice r la cf] w fun e w'=>e=.returned (.int .i64 (cost A F la))∧Below w.heap.size w w':=by
 have hb0:Below w.heap.size w (w.alloc (.cells #[.int .i64 N,.slice p ls cs,.slice q la ca] 35)):=(Jd _ _).alloc (Jb _) _
 have X0:=heap_alloc_new w (.cells #[.int .i64 N,.slice p ls cs,.slice q la ca] 35)
 obtain ⟨W1,hW1⟩:∃ W1,w.alloc (.cells #[.int .i64 N,.slice p ls cs,.slice q la ca] 35)=W1:=⟨_,rfl⟩
 rw [hW1] at hb0 X0
 have H0:=hid (Jc hW1 (Jc hb0 (Jc (hA.below hb0) (Jc (hF.below hb0) (Jc hok hC)))))
 obtain ⟨k0,k1,k2⟩:=Za5 X0
 have z0:w.heap.size<W1.heap.size:=(Ja.1 X0).1
 clear hW1 hb0 X0 hA hF hok hC
 go_enter Tryz.func45,Tryz.ntmps45
 go_upto_region 2 with fail
 rw [H0.out.1]
 go_wp2_with fail
 go_loopg [5,6] la (fun gk sv iv wr=>∃ i:Nat,i≤la∧la - i≤gk∧iv=.int .i64 i∧sv=.int .i64 (cost A F i)∧Below W1.heap.size W1 wr)
 case atStart=>exact ⟨0,Jq _,by omega,rfl,rfl,Jd _ _⟩
 case' round=>skip
 obtain ⟨i,hi,hgk,rfl,rfl,hb⟩:=hrel
 rename World=>Z
 have j2:=(hb.cell (p:=⟨w.heap.size,2,none⟩) z0).trans k2
 have z1:w.heap.size<Z.heap.size:=Jm z0 hb.size
 by_cases hlt:i<la
 ·have hiI:(i:Int)<(la:Int):=by omega
  obtain ⟨fb,fo,rfl,hf1,hf2⟩:=(H0.out.2.2.2.1.below hb).at hlt
  obtain ⟨ab,ao,rfl,ha1,ha2,ha3,ha4,ha5⟩:=(H0.out.2.2.1.below hb).at hlt
  have B1:=Zfh H0.out.2.2.2.2.1 H0.out.2.2.2.2.2 (n:=i) hi
  have B2:=Zfh H0.out.2.2.2.2.1 H0.out.2.2.2.2.2 (n:=i+1) hlt
  have e:cost A F (i+1)=cost A F i+F i*(A i).k:=rfl
  go_upto_region 5 with fail
  go_region
  go_wp2_with fail
  go_roundg (la - (i+1))
  case measure=>omega
  case rel=>exact ⟨i+1,by omega,Jb _,by go_num,rfl,hb.trans (((Jd _ _).drew:Below Z.heap.size Z Z.drew).mono hb.size)⟩
 ·obtain rfl:i=la:=by omega
  go_wp2_with fail
  go_ret
  exact ⟨rfl,Zai H0.out.2.1 hb⟩
theorem ZfV (w:World)(N:Int)(p q p' q':Option Addr)(ls cs la ca cs' ca':Nat)(S:Nat→Int)(A:Nat→Ar)(hS:Ints w p ls S)(hA:Arcs w q la A)(hS':Ints w p' ls S)(hA':Arcs w q' la A)(hl:ls≤1000)(hl':la≤1000) :
  Calls Tryz.prog 46 #[.agg #[.int .i64 N,.slice p ls cs,.slice q la ca],.agg #[.int .i64 N,.slice p' ls cs',.slice q' la ca']] w fun e w'=>e=.returned (.bool true)∧Below w.heap.size w w':=by
 obtain ⟨W1,hW1⟩:∃ W1,(w.alloc (.cells #[.int .i64 N,.slice p ls cs,.slice q la ca] 35)).alloc (.cells #[.int .i64 N,.slice p' ls cs',.slice q' la ca'] 35)=W1:=⟨_,rfl⟩
 have hb0:Below w.heap.size w W1:=by rw [← hW1]; exact ((Jd _ _).alloc (Jb _) _).alloc (by simp) _
 obtain ⟨X0,X1,z0,z1⟩:=ZbY (w2:=W1) (by rw [hW1]; exact Jd _ _)
 have A1:=hid (ZbP W1 p p' ls cs cs' S (hS.below hb0) (hS'.below hb0) (by omega))
 have H0:=hid (Jc hW1 (Jc hb0 (Jc (hA.below hb0) (Jc (hA'.below hb0) (Jc X0 X1)))))
 obtain ⟨k0,k1,k2⟩:=Za5 X0
 obtain ⟨j0,j1,j2⟩:=Za5 X1
 clear hW1 hb0 X0 X1 hA hS hA' hS'
 go_enter Tryz.func46,Tryz.ntmps46
 go_upto_region 1 with fail
 rw [H0.out.1]
 go_upto_region 2 with (first
  | (go_at_call 52; refine A1.out.mono ?_; rintro e W2 ⟨rfl,hb2⟩)
  | fail)
 have X2:=(hb2.block _ z0).trans H0.out.2.2.2.2.1
 have X3:=(hb2.block _ z1).trans H0.out.2.2.2.2.2
 have z2:w.heap.size<W2.heap.size:=Jm z0 hb2.size
 have z3:w.heap.size+1<W2.heap.size:=Jm z1 hb2.size
 clear k0 k1 k2 j0 j1 j2
 obtain ⟨k0,k1,k2⟩:=Za5 X2
 obtain ⟨j0,j1,j2⟩:=Za5 X3
 have H2:=hid (Jc hb2 (Jc X2 X3))
 clear hb2 X2 X3 A1
 go_wp2_with fail
 go_loopg [6] la (fun gk iv wr=>∃ i:Nat,i≤la∧la - i≤gk∧iv=.int .i64 i∧Below W2.heap.size W2 wr)
 case atStart=>exact ⟨0,Jq _,by omega,rfl,Jd _ _⟩
 case' round=>skip
 obtain ⟨i,hi,hgk,rfl,hb⟩:=hrel
 rename World=>Z
 have y2:=(hb.cell (p:=⟨w.heap.size,2,none⟩) z2).trans k2
 have y3:=(hb.cell (p:=⟨w.heap.size+1,2,none⟩) z3).trans j2
 have z4:w.heap.size<Z.heap.size:=Jm z2 hb.size
 have z5:w.heap.size+1<Z.heap.size:=Jm z3 hb.size
 by_cases hlt:i<la
 ·have hiI:(i:Int)<(la:Int):=by omega
  have hbZ:=Zai H2.out.1 hb
  obtain ⟨ab,ao,rfl,ha1,ha2,ha3,ha4,ha5⟩:=(H0.out.2.2.1.below hbZ).at hlt
  obtain ⟨fb,fo,rfl,hf1,hf2,hf3,hf4,hf5⟩:=(H0.out.2.2.2.1.below hbZ).at hlt
  go_upto_region 7 with fail
  go_region
  go_wp2_with fail
  go_roundg (la - (i+1))
  case measure=>omega
  case rel=>exact ⟨i+1,by omega,Jb _,by go_num,hb.trans (((Jd _ _).drew:Below Z.heap.size Z Z.drew).mono hb.size)⟩
 ·obtain rfl:i=la:=by omega
  go_wp2_with fail
  go_ret
  exact ⟨rfl,Zai H0.out.2.1 (Zai H2.out.1 hb)⟩
end
section
open Go.RowKit
structure Showed (w w':World)(v1 v2 v3 v4:Value)(n1 n2 n3:Nat)(sup:List Int)(arcs:List Ar)(fl pr:List Int):Prop where
 r1:NRow w.heap.size w' v1 sup
 r2:ARow n1 w' v2 arcs
 r3:NRow n2 w' v3 fl
 r4:NRow n3 w' v4 pr
 t1:∀ b,v1.ownBlock=some b→b<n1
 t2:∀ b,v2.ownBlock=some b→b<n2
 t3:∀ b,v3.ownBlock=some b→b<n3
 le:w.heap.size≤n1∧n1≤n2∧n2≤n3∧n3≤w'.heap.size
 below:Below w.heap.size w w'
theorem Zhn {w:World}{b:Nat}{z0 z1 z2 z3 z4:Value}{t:TypeId}(h:w.heap[b]?=some (.cells #[z0,z1,z2,z3,z4] t)) :
  w.cell? ⟨b,0,none⟩=some z0∧w.cell? ⟨b,1,none⟩=some z1∧w.cell? ⟨b,2,none⟩=some z2∧w.cell? ⟨b,3,none⟩=some z3∧w.cell? ⟨b,4,none⟩=some z4:=by
 refine ⟨?_,?_,?_,?_,?_⟩ <;> simp [World.cell?,h]
def S5 (bx:Nat)(z0 z1 z2 z3 z4:Value)(W:World):Prop:=W.cell? ⟨bx,0,none⟩=some z0∧W.cell? ⟨bx,1,none⟩=some z1∧W.cell? ⟨bx,2,none⟩=some z2∧W.cell? ⟨bx,3,none⟩=some z3∧W.cell? ⟨bx,4,none⟩=some z4∧bx<W.heap.size
theorem S5.below {bx:Nat}{z0 z1 z2 z3 z4:Value}{W W':World}(h:S5 bx z0 z1 z2 z3 z4 W)(hb:Below W.heap.size W W'):S5 bx z0 z1 z2 z3 z4 W':=by
 obtain ⟨h0,h1,h2,h3,h4,h5⟩:=h
 exact ⟨(hb.cell (p:=⟨bx,0,none⟩) h5).trans h0,(hb.cell (p:=⟨bx,1,none⟩) h5).trans h1,(hb.cell (p:=⟨bx,2,none⟩) h5).trans h2,(hb.cell (p:=⟨bx,3,none⟩) h5).trans h3,(hb.cell (p:=⟨bx,4,none⟩) h5).trans h4,Jm h5 hb.size⟩
theorem S5.grown {bx a:Nat}{z0 z1 z2 z3 z4:Value}{W W':World}(h:S5 bx z0 z1 z2 z3 z4 W)(hg:W.grownBy W' (some a))(hne:bx≠a):S5 bx z0 z1 z2 z3 z4 W':=by
 obtain ⟨h0,h1,h2,h3,h4,h5⟩:=h
 have o:Only [a] W W':=Only.of_grown hg (by simp)
 have hn:bx∉[a]:=by simpa using hne
 exact ⟨(o.cell (p:=⟨bx,0,none⟩) h5 hn).trans h0,(o.cell (p:=⟨bx,1,none⟩) h5 hn).trans h1,(o.cell (p:=⟨bx,2,none⟩) h5 hn).trans h2,(o.cell (p:=⟨bx,3,none⟩) h5 hn).trans h3,(o.cell (p:=⟨bx,4,none⟩) h5 hn).trans h4,Jm h5 hg.size⟩
theorem Zc7 {fn:Func}{p u v:Tmp}{ty:TypeId}(h:fn.results=#[.cell p ty,.tmp u,.tmp v])(tmps:Array Value)(P:Program)(w:World) :
  (results fn tmps).run P w=((asAddr (tmps.getD p undef)).run P w).andThen fun a w₁=>((loadVar ty a).run P w₁).andThen fun x w₂=>.ok (.tuple #[x,tmps.getD u undef,tmps.getD v undef]) w₂:=by
 simp only [results,h]
 simp [Sem.run_bind,Result.andThen]
theorem Zjo {w:World}{B B' size n:Nat}{e:TypeId}{v:Value}{xs:List Value}(h:w.ownsRow B e size v n xs)(hb:B'≤B):w.ownsRow B' e size v n xs:=by
 refine ⟨h.1,?_⟩
 rcases h.2 with h2 | ⟨g,cap,cur,hv,h0,hr⟩
 ·exact Jr h2
 ·exact Js ⟨g,cap,cur,hv,Nat.le_trans hb h0,hr⟩
theorem Zcy {w w1 w2:World}{b:Option Nat}(h:w.grownBy w1 b)(h':w1.grownBy w2 b):w.grownBy w2 b:=⟨h'.os.trans h.os,h'.tape.trans h.tape,h'.output.trans h.output,Nat.le_trans h.size h'.size,fun k hk hn=>(h'.block k (Jm hk h.size) hn).trans (h.block k hk hn)⟩
theorem Zim {w:World}{S:List Nat}{pb:Nat}{x7 x8 x9 x10 x11 s1 s2 s3 s4:Value}{N c:Int}{sup:List Int}{arcs:List Ar}{fl pr:List Int}(h:Shw w S pb x7 x8 x9 x10 x11 s1 s2 s3 s4 N c sup arcs fl pr) :
  Calls Tryz.prog 44 #[.pointer (some ⟨pb,0,none⟩)] w fun e w'=>∃ v1 v2 v3 v4 n1 n2 n3,e=.returned (.tuple #[.agg #[.int .i64 N,v1,v2],v3,v4])∧Showed w w' v1 v2 v3 v4 n1 n2 n3 sup arcs fl pr:=by
 obtain ⟨b0,b1,b2,b3,hc⟩:=h.cells
 have hpl:pb<w.heap.size:=(Ja.1 hc).1
 have c4:w.cell? ⟨pb,4,none⟩=some (.int .i64 N):=by simp [World.cell?,hc]
 have c5:w.cell? ⟨pb,5,none⟩=some s1:=by simp [World.cell?,hc]
 have c6:w.cell? ⟨pb,6,none⟩=some s2:=by simp [World.cell?,hc]
 have c7:w.cell? ⟨pb,7,none⟩=some s3:=by simp [World.cell?,hc]
 have c8:w.cell? ⟨pb,8,none⟩=some s4:=by simp [World.cell?,hc]
 obtain ⟨p1,k1,rfl⟩:=h.r1.sl
 obtain ⟨p2,k2,rfl⟩:=h.r2.sl
 obtain ⟨p3,k3,rfl⟩:=h.r3.sl
 obtain ⟨p4,k4,rfl⟩:=h.r4.sl
 have H:=hid h
 clear hc h
 go_enter Tryz.func44,Tryz.ntmps44
 go_upto_region 2 with fail
 obtain ⟨W1,hW1⟩:∃ W1,(w.alloc (.cells #[.int .i64 0,.slice none 0 0,.slice none 0 0] 35)).alloc (.cells #[.int .i64 N,.slice p1 sup.length k1,.slice p2 arcs.length k2,.slice p3 fl.length k3,.slice p4 pr.length k4] 59)=W1:=⟨_,rfl⟩
 have hb1:Below w.heap.size w W1:=by rw [← hW1]; exact ((Jd _ _).alloc (Jb _) _).alloc (by simp) _
 obtain ⟨X0,X1,z0,z1⟩:=ZbY (w2:=W1) (by rw [hW1]; exact Jd _ _)
 rw [hW1]
 clear hW1 c4 c5 c6 c7 c8
 obtain ⟨y0,y1,y2,y3,y4⟩:=Zhn X1
 have A1:=hid (Zb9 W1.drew 0 _ sup (H.out.r1.below (hb1.trans (((Jd _ _).drew:Below W1.heap.size W1 W1.drew).mono hb1.size))) (by have:=H.out.len; omega))
 have HX:=hid (Jc hb1 (Jc X0 X1))
 clear hb1 X0 X1
 go_region_with (first
  | (go_at_call 71; refine A1.out.mono ?_; rintro e W2 ⟨v1,rfl,hn1,hb2⟩; obtain ⟨a1,j1,rfl⟩:=hn1.sl; have x0:=(hb2.cell (p:=⟨w.heap.size+1,0,none⟩) z1).trans y0; have x2:=(hb2.cell (p:=⟨w.heap.size+1,2,none⟩) z1).trans y2; have z2:w.heap.size+1<W2.heap.size:=Jm z1 hb2.size; have H2:=hid (Jc hn1 hb2); clear hn1 hb2)
  | (go_at_call 77; refine (ZgF W2 0 _ arcs (H.out.r2.below (Zai (HX.out.1.trans (((Jd _ _).drew:Below W1.heap.size W1 W1.drew).mono HX.out.1.size)) H2.out.2)) (by have:=H.out.len; omega)).mono ?_; rintro e W3 ⟨v2,rfl,hn2,hb3⟩; obtain ⟨a2,j2,rfl⟩:=hn2.sl; have X3:=(hb3.block _ z2).trans ((H2.out.2.block _ z1).trans HX.out.2.2); obtain ⟨q0,q1,q2,q3,q4⟩:=Zhn X3; have f1:=ZaF X3 1; have f2:=ZaF X3 2; have z3:w.heap.size+1<W3.heap.size:=(Ja.1 X3).1; have H3:=hid (Jc hn2 (Jc hb3 X3)); clear hn2 hb3 X3)
  | fail)
 all_goals
  go_upto_region 3 with fail
  obtain ⟨W4,hW4⟩:∃ W4,(W3.setCell ⟨w.heap.size+1,1,none⟩ (.slice a1 sup.length j1)).setCell ⟨w.heap.size+1,2,none⟩ (.slice a2 arcs.length j2)=W4:=⟨_,rfl⟩
  have X4:W4.heap[w.heap.size+1]?=some (.cells #[.int .i64 N,.slice a1 sup.length j1,.slice a2 arcs.length j2,.slice p3 fl.length k3,.slice p4 pr.length k4] 59):=by rw [← hW4]; simp [World.setCell,Array.getElem?_modify,H3.out.2.2]
  have g4:W3.grownBy W4 (some (w.heap.size+1)):=by rw [← hW4]; exact Zcy (Za0 W3 _ _ _) (Za0 _ _ _ _)
  rw [hW4]
  clear hW4 A1 y0 y1 y2 y3 y4 x0 x2 q0 q1 q2 q3 q4 f1 f2
  have z4:w.heap.size+1<W4.heap.size:=(Ja.1 X4).1
  have hS0:S5 (w.heap.size+1) (.int .i64 N) (.slice a1 sup.length j1) (.slice a2 arcs.length j2) (.slice p3 fl.length k3) (.slice p4 pr.length k4) W4.drew:=by obtain ⟨m0,m1,m2,m3,m4⟩:=Zhn X4; exact ⟨m0,m1,m2,m3,m4,z4⟩
  have o4:∀ b,b<w.heap.size+1→W4.heap[b]?=W1.heap[b]?:=fun b hb=>by
   rw [g4.block b (by have:=H3.out.2.1.size; have:=H2.out.2.size; simp at *; omega) (by simp; omega),H3.out.2.1.block b (by have:=H2.out.2.size; simp at *; omega)]
   exact H2.out.2.block b (by simp; omega)
  have b14:Below w.heap.size w W4.drew:=⟨g4.os.trans (H3.out.2.1.os.trans (H2.out.2.os.trans HX.out.1.os)),g4.tape.trans (H3.out.2.1.tape.trans (H2.out.2.tape.trans HX.out.1.tape)),g4.output.trans (H3.out.2.1.output.trans (H2.out.2.output.trans HX.out.1.output)),by have:=H3.out.2.1.size; have:=H2.out.2.size; have:=g4.size; have:=HX.out.1.size; simp at *; omega,fun b hb=>(o4 b (by omega)).trans (HX.out.1.block b hb)⟩
  have A3:=hid (Zb9 W4.drew 0 _ fl (H.out.r3.below b14) (by have:=H.out.len; omega))
  have H4:=hid (Jc X4 (Jc g4 (Jc o4 b14)))
  clear X4 g4 o4 b14
  refine wp_region_held_drew (S:=S5 (w.heap.size+1) (.int .i64 N) (.slice a1 sup.length j1) (.slice a2 arcs.length j2) (.slice p3 fl.length k3) (.slice p4 pr.length k4)) (by kernel_rfl) hS0 (fun _=>?_)
  refine tkH (v:=?_) 0 22 hS0 ?_ ?_; rotate_left 1
  ·(rintro w' ⟨e0,e1,e2,e3,e4,e5⟩; go_simp; try with_reducible rfl)
  simp only [Act.put,Jh,Ji,Jj]
  refine tkH (v:=?_) 1 23 hS0 ?_ ?_; rotate_left 1
  ·(rintro w' ⟨e0,e1,e2,e3,e4,e5⟩; go_simp; try with_reducible rfl)
  simp only [Act.put,Jh,Ji,Jj]
  refine tkH (v:=?_) 2 24 hS0 ?_ ?_; rotate_left 1
  ·(rintro w' ⟨e0,e1,e2,e3,e4,e5⟩; go_simp; try with_reducible rfl)
  simp only [Act.put,Jh,Ji,Jj]
  refine tkH (v:=?_) 3 25 hS0 ?_ ?_; rotate_left 1
  ·(rintro w' ⟨e0,e1,e2,e3,e4,e5⟩; go_simp; try with_reducible rfl)
  simp only [Act.put,Jh,Ji,Jj]
  refine tkH (v:=?_) 5 27 hS0 ?_ ?_; rotate_left 1
  ·(rintro w' ⟨e0,e1,e2,e3,e4,e5⟩; go_simp; try with_reducible rfl)
  simp only [Act.put,Jh,Ji,Jj]
  refine tkH (v:=?_) 6 28 hS0 ?_ ?_; rotate_left 1
  ·(rintro w' ⟨e0,e1,e2,e3,e4,e5⟩; go_simp; try with_reducible rfl)
  simp only [Act.put,Jh,Ji,Jj]
  refine wpAnyH_ready (rs:=[4]) (by kernel_rfl) (by simp) ?_
  refine AllReadyH.cons rfl (fun K hK=>?_) AllReadyH.nil
  go_simp
  refine A3.out.mono ?_
  rintro e W5 ⟨v3,rfl,hn3,hb5⟩
  obtain ⟨a3,j3,rfl⟩:=hn3.sl
  have hS1:=hS0.below hb5
  refine hK.out _ _ hS1 (fun _=>?_)
  clear hK K
  have A4:=hid (Zb9 W5 0 _ pr (H.out.r4.below (Zai H4.out.2.2.2 hb5)) (by have:=H.out.len; omega))
  have H5:=hid (Jc hn3 hb5)
  clear hn3 hb5
  refine wpAnyH_ready (rs:=[7]) (by kernel_rfl) (by simp) ?_
  refine AllReadyH.cons rfl (fun K hK=>?_) AllReadyH.nil
  go_simp
  refine A4.out.mono ?_
  rintro e W6 ⟨v4,rfl,hn4,hb6⟩
  obtain ⟨a4,j4,rfl⟩:=hn4.sl
  have hS2:=hS1.below hb6
  refine hK.out _ _ hS2 (fun _=>?_)
  clear hK K
  have X6:W6.heap[w.heap.size]?=some (.cells #[.int .i64 0,.slice none 0 0,.slice none 0 0] 35):=by
   rw [hb6.block _ (Jm (by simp; omega) H5.out.2.size),H5.out.2.block _ (by simp; omega)]
   exact (H4.out.2.2.1 _ (by omega)).trans HX.out.2.1
  obtain ⟨m0,m1,m2⟩:=Za5 X6
  have f0:=ZaF X6 0
  have f1:=ZaF X6 1
  have f2:=ZaF X6 2
  have z6:w.heap.size<W6.heap.size:=(Ja.1 X6).1
  have H6:=hid (Jc hn4 (Jc hb6 X6))
  clear hn4 hb6 X6
  refine wpAnyH_ready (rs:=[8]) (by kernel_rfl) (by simp) ?_
  refine AllReadyH.cons rfl (fun K hK=>?_) AllReadyH.nil
  go_simp
  obtain ⟨W7,hW7⟩:∃ W7,((W6.setCell ⟨w.heap.size,0,none⟩ (.int .i64 N)).setCell ⟨w.heap.size,1,none⟩ (.slice a1 sup.length j1)).setCell ⟨w.heap.size,2,none⟩ (.slice a2 arcs.length j2)=W7:=⟨_,rfl⟩
  have g7:W6.grownBy W7 (some w.heap.size):=by rw [← hW7]; exact Zcy (Zcy (Za0 W6 _ _ _) (Za0 _ _ _ _)) (Za0 _ _ _ _)
  have X7:W7.heap[w.heap.size]?=some (.cells #[.int .i64 N,.slice a1 sup.length j1,.slice a2 arcs.length j2] 35):=by rw [← hW7]; simp [World.setCell,Array.getElem?_modify,H6.out.2.2]
  have hS3:=hS2.grown g7 (by omega)
  rw [hW7]
  refine hK.out _ _ hS3 (fun _=>?_)
  clear hK K hW7 m0 m1 m2 f0 f1 f2 A3 A4
  obtain ⟨m0,m1,m2⟩:=Za5 X7
  have z7:w.heap.size<W7.heap.size:=(Ja.1 X7).1
  refine tkH (v:=?_) 9 3 hS3 ?_ ?_; rotate_left 1
  ·(rintro w' ⟨e0,e1,e2,e3,e4,e5⟩; go_simp; try with_reducible rfl)
  simp only [Act.put,Jh,Ji,Jj]
  refine tkH (v:=?_) 10 4 hS3 ?_ ?_; rotate_left 1
  ·(rintro w' ⟨e0,e1,e2,e3,e4,e5⟩; go_simp; try with_reducible rfl)
  simp only [Act.put,Jh,Ji,Jj]
  refine wpAnyH_done (by kernel_rfl) ?_ _
  clear hS0 hS1 hS2 hS3
  go_wp2_with fail
  try simp only [Exit.inBlock,Exit.then]
  refine bodyPost_ret (v:=.tuple #[.agg #[.int .i64 N,.slice a1 sup.length j1,.slice a2 arcs.length j2],.slice a3 fl.length j3,.slice a4 pr.length j4]) ((Zc7 rfl _ _ _).trans ?_) rfl ?_
  ·go_simp
  refine ⟨_,_,_,_,W2.heap.size,W4.heap.size,W5.heap.size,rfl,?_⟩
  have e2:W1.heap.size≤W2.heap.size:=H2.out.2.size
  have e3:W2.heap.size≤W3.heap.size:=H3.out.2.1.size
  have e4:W3.heap.size≤W4.heap.size:=H4.out.2.1.size
  have e5:W4.heap.size≤W5.heap.size:=H5.out.2.size
  have e6:W5.heap.size≤W6.heap.size:=H6.out.2.1.size
  have e7:=g7.size
  have l1:∀ b,(Value.slice a1 sup.length j1).ownBlock=some b→W1.heap.size≤b∧b<W2.heap.size:=fun b e=>World.ownsRow.lt H2.out.1 b e
  have l2:∀ b,(Value.slice a2 arcs.length j2).ownBlock=some b→W2.heap.size≤b∧b<W3.heap.size:=fun b e=>World.ownsRow.lt H3.out.1 b e
  have l3:∀ b,(Value.slice a3 fl.length j3).ownBlock=some b→W4.heap.size≤b∧b<W5.heap.size:=fun b e=>World.ownsRow.lt H5.out.1 b e
  have l4:∀ b,(Value.slice a4 pr.length j4).ownBlock=some b→W5.heap.size≤b∧b<W6.heap.size:=fun b e=>World.ownsRow.lt H6.out.1 b e
  have m7:∀ b,b<W6.heap.size→b≠w.heap.size→W7.heap[b]?=W6.heap[b]?:=fun b h1 h2=>g7.block b h1 (by simpa using h2)
  have m6:∀ b,b<W5.heap.size→W6.heap[b]?=W5.heap[b]?:=fun b h1=>H6.out.2.1.block b h1
  have m5:∀ b,b<W4.heap.size→W5.heap[b]?=W4.heap[b]?:=fun b h1=>H5.out.2.block b h1
  have m4:∀ b,b<W3.heap.size→b≠w.heap.size+1→W4.heap[b]?=W3.heap[b]?:=fun b h1 h2=>H4.out.2.1.block b h1 (by simpa using h2)
  have m3:∀ b,b<W2.heap.size→W3.heap[b]?=W2.heap[b]?:=fun b h1=>H3.out.2.1.block b h1
  have hbz:=HX.out.1.size
  refine ⟨?_,?_,?_,?_,fun b e=>(l1 b e).2,fun b e=>by have:=l2 b e; omega,fun b e=>(l3 b e).2,⟨by omega,by omega,e5,by omega⟩,?_⟩
  ·have h1:W7.ownsRow W1.heap.size 3 1 _ _ _:=ZaU H2.out.1 (fun b e=>by have:=l1 b e; rw [m7 b (by omega) (by omega),m6 b (by omega),m5 b (by omega),m4 b (by omega) (by omega),m3 b (by omega)])
   exact Zjo h1 hbz
  ·exact ZaU H3.out.1 (fun b e=>by have:=l2 b e; rw [m7 b (by omega) (by omega),m6 b (by omega),m5 b (by omega),m4 b (by omega) (by omega)])
  ·exact ZaU H5.out.1 (fun b e=>by have:=l3 b e; rw [m7 b (by omega) (by omega),m6 b (by omega)])
  ·exact ZaU H6.out.1 (fun b e=>by have:=l4 b e; rw [m7 b (by omega) (by omega)])
  ·have hb6:Below w.heap.size w W6:=Zai (Zai H4.out.2.2.2 H5.out.2) H6.out.2.1
   exact ⟨g7.os.trans hb6.os,g7.tape.trans hb6.tape,g7.output.trans hb6.output,Nat.le_trans hb6.size g7.size,fun b hb=>(m7 b (by omega) (by omega)).trans (hb6.block b hb)⟩
end
section
open Go.RowKit
structure KS (n:Nat)(W0 W:World)(wb:Nat)(v vh0 vh:Value)(hs0 hs:List (Nat×List Nat))(k:Nat)(used:List Nat):Prop where
 more:KeptMore W0 wb n v vh0 hs0 k W vh hs
 blk:∀ x∈hs,∀ b∈x.2,b<n∨b∈used∨W0.heap.size≤b
 keep:∀ (b:Nat) (cs:Array Value) (T:TypeId),T≠53→T≠29→b∉used→W0.heap[b]?=some (.cells cs T)→W.heap[b]?=some (.cells cs T)
theorem KS.next {n:Nat}{W0 W W':World}{wb k g:Nat}{v vh0 vh vh':Value}{hs0 hs:List (Nat×List Nat)}{used:List Nat}{x:Nat×List Nat}(h:KS n W0 W wb v vh0 vh hs0 hs k used)(hn:n≤W0.heap.size)(hg:n≤g)(K:KeptOne W wb g v vh hs W' vh' x):KS n W0 W' wb v vh0 vh' hs0 (hs ++ [x]) (k+1) (g :: used):=by
 have hs1:=h.more.size
 refine ⟨h.more.one hg (by omega) K,fun y hy b hb=>?_,fun b cs T h1 h2 h3 h4=>?_⟩
 ·rcases List.mem_append.1 hy with hy | hy
  ·rcases h.blk y hy b hb with q | q | q
   ·exact Jr q
   ·exact Js (Jr (Jk _ q))
   ·exact Js (Js q)
  ·obtain rfl:=List.mem_singleton.1 hy
   rcases K.new b hb with q | q
   ·exact Js (Jr (by rw [q]; exact Jp))
   ·exact Js (Js (by omega))
 ·exact K.tag h.more.cells h.more.holds (h.keep b cs T h1 h2 (fun q=>h3 (Jk _ q)) h4) h1 h2 (fun q=>h3 (by rw [q]; exact Jp))
theorem KS.int {n:Nat}{W0 W:World}{wb k B hi len cap:Nat}{v vh0 vh:Value}{hs0 hs:List (Nat×List Nat)}{used:List Nat}{p:Option Addr}{xs:List Int}(h:KS n W0 W wb v vh0 vh hs0 hs k used)(hn:n≤W0.heap.size)(hl:hs.length≤9000000000010)(hr:NRow B W0 (.slice p len cap) xs)(hB:n≤B)(hhi:∀ b,(Value.slice p len cap).ownBlock=some b→b<hi)(hu:∀ b,B≤b→b<W0.heap.size→b∉used)(hlen:xs.length≤1000) :
  Calls Tryz.prog 47 #[.pointer (some ⟨wb,0,none⟩),.slice p len cap] W fun e W'=>e=.returned (.tuple #[])∧∃ vh' hs' g,KS n W0 W' wb v vh0 vh' hs0 hs' (k+1) (g :: used)∧(g<hi∨W0.heap.size≤g)∧hs'.length=hs.length+1:=by
 have hsz:=h.more.size
 obtain ⟨g,hN,hg1,hg2,hg3⟩:∃ g,NumP W g p len cap∧n≤g∧(∀ x∈hs,g∉x.2)∧(g<hi∨W0.heap.size≤g):=by
  rcases hr.2 with ⟨e1,e2⟩ | ⟨g,cp,cur,e,hb,hg,hc1,_,hc3,_⟩
  ·cases e1
   exact ⟨W.heap.size+1,⟨Jb _,Jr ⟨rfl,rfl,rfl⟩⟩,by omega,fun x hx hm=>by have:=(h.more.holds.held x hx).1 _ hm; omega,Js (by omega)⟩
  ·cases e
   have hlt:=(Ja.1 hg).1
   refine ⟨g,⟨hc1,Js ⟨rfl,cur,h.keep g cur 3 (by decide) (by decide) (hu g hb hlt) hg,by omega⟩⟩,by omega,fun x hx hm=>?_,Jr (hhi g rfl)⟩
   rcases h.blk x hx g hm with q | q | q
   ·omega
   ·exact hu g hb hlt q
   ·omega
 have hx:len=xs.length:=by
  obtain ⟨p',c',e⟩:=hr.sl
  cases e
  rfl
 refine (Zdd W wb g len cap p v vh hs h.more.cells h.more.holds (by omega) hN (by omega) hg2).mono ?_
 rintro e W' ⟨rfl,vh',x,K⟩
 exact ⟨rfl,vh',_,g,h.next hn hg1 K,hg3,by simp⟩
theorem KS.arcs {n:Nat}{W0 W:World}{wb k B hi len cap:Nat}{v vh0 vh:Value}{hs0 hs:List (Nat×List Nat)}{used:List Nat}{p:Option Addr}{xs:List Ar}(h:KS n W0 W wb v vh0 vh hs0 hs k used)(hn:n≤W0.heap.size)(hl:hs.length≤9000000000010)(hr:ARow B W0 (.slice p len cap) xs)(hB:n≤B)(hhi:∀ b,(Value.slice p len cap).ownBlock=some b→b<hi)(hu:∀ b,B≤b→b<W0.heap.size→b∉used)(hlen:xs.length≤1000) :
  Calls Tryz.prog 48 #[.pointer (some ⟨wb,0,none⟩),.slice p len cap] W fun e W'=>e=.returned (.tuple #[])∧∃ vh' hs' g,KS n W0 W' wb v vh0 vh' hs0 hs' (k+1) (g :: used)∧(g<hi∨W0.heap.size≤g)∧hs'.length=hs.length+1:=by
 have hsz:=h.more.size
 obtain ⟨g,hN,hg1,hg2,hg3⟩:∃ g,ArcQ W g p len cap∧n≤g∧(∀ x∈hs,g∉x.2)∧(g<hi∨W0.heap.size≤g):=by
  rcases hr.2 with ⟨e1,e2⟩ | ⟨g,cp,cur,e,hb,hg,hc1,_,hc3,_⟩
  ·cases e1
   exact ⟨W.heap.size+1,⟨Jb _,Jr ⟨rfl,rfl,rfl⟩⟩,by omega,fun x hx hm=>by have:=(h.more.holds.held x hx).1 _ hm; omega,Js (by omega)⟩
  ·cases e
   have hlt:=(Ja.1 hg).1
   refine ⟨g,⟨hc1,Js ⟨rfl,cur,h.keep g cur 93 (by decide) (by decide) (hu g hb hlt) hg,by omega⟩⟩,by omega,fun x hx hm=>?_,Jr (hhi g rfl)⟩
   rcases h.blk x hx g hm with q | q | q
   ·omega
   ·exact hu g hb hlt q
   ·omega
 have hx:len=xs.length:=by
  obtain ⟨p',c',e⟩:=hr.sl
  cases e
  rfl
 refine (Zdc W wb g len cap p v vh hs h.more.cells h.more.holds (by omega) hN (by omega) hg2).mono ?_
 rintro e W' ⟨rfl,vh',x,K⟩
 exact ⟨rfl,vh',_,g,h.next hn hg1 K,hg3,by simp⟩
end
section
open Go.RowKit
theorem Zih (w:World)(N:Int)(p q r:Option Addr)(ls cs la ca lf cf:Nat)(A:Nat→Ar)(F:Nat→Int)(hA:Arcs w q la A)(hF:Ints w r lf F)(hl:lf=la)(hok:∀ i,i<la→ArcOk N (A i))(hC:Caps la A F)(h6:la≤600) :
  Calls Tryz.prog 45 #[.agg #[.int .i64 N,.slice p ls cs,.slice q la ca],.slice r lf cf] w fun e w'=>e=.returned (.int .i64 (cost A F la))∧Below w.heap.size w w':=by
 subst hl
 exact ZjB w N p q r ls cs lf ca cf A F hA hF hok hC h6
def S6 (nb bx rb:Nat)(z0 z1 z2 x9 x10 x11:Value)(W:World):Prop:=W.cell? ⟨nb,0,none⟩=some z0∧W.cell? ⟨nb,1,none⟩=some z1∧W.cell? ⟨nb,2,none⟩=some z2∧W.cell? ⟨bx,2,none⟩=some (.pointer (some ⟨rb,0,none⟩))∧W.cell? ⟨rb,9,none⟩=some x9∧W.cell? ⟨rb,10,none⟩=some x10∧W.cell? ⟨rb,11,none⟩=some x11
theorem RefAt.c7 {w:World}{rb:Nat}{V:RVs}{x7 x8 x9 x10 x11:Value}{R:RSt}(h:RefAt w rb V x7 x8 x9 x10 x11 R):w.cell? ⟨rb,7,none⟩=some x7∧w.cell? ⟨rb,8,none⟩=some x8∧w.cell? ⟨rb,9,none⟩=some x9∧w.cell? ⟨rb,10,none⟩=some x10∧w.cell? ⟨rb,11,none⟩=some x11:=by
 have:=h.cells
 refine ⟨?_,?_,?_,?_,?_⟩ <;> simp [World.cell?,this]
theorem Zin {w:World}{wb:Nat}{v vh:Value}{hs:List (Nat×List Nat)}{x:Pr}(hx:x.ok w)(h:w.heap[wb]?=some (.cells #[v,vh] 29))(H:HoldsAt w wb vh hs)(hn:hs.length≤9000000000000) :
  Calls Tryz.prog 19 #[.pointer (some ⟨wb,0,none⟩),.agg #[.pointer (some ⟨x.pb,0,none⟩),.pointer (some ⟨x.qb,0,none⟩),.pointer (some ⟨x.rb,0,none⟩)]] w fun e w'=>e=.returned (.bool true)∧∃ vh' hs',KeptMore w wb w.heap.size v vh hs 4 w' vh' hs':=by
 obtain ⟨s1,s2,s3,s4,N,c,sup,arcs,fl,pr,hsh⟩:=hx.sh
 obtain ⟨W1,hW1⟩:∃ W1,w.alloc (.cells #[.pointer (some ⟨x.pb,0,none⟩),.pointer (some ⟨x.qb,0,none⟩),.pointer (some ⟨x.rb,0,none⟩)] 47)=W1:=⟨_,rfl⟩
 have b1:Below w.heap.size w W1:=by rw [← hW1]; exact (Jd _ _).alloc (Jb _) _
 have X1:W1.heap[w.heap.size]?=some (.cells #[.pointer (some ⟨x.pb,0,none⟩),.pointer (some ⟨x.qb,0,none⟩),.pointer (some ⟨x.rb,0,none⟩)] 47):=by rw [← hW1]; exact heap_alloc_new w _
 have hpl:x.pb<w.heap.size:=hx.p.lts _ Jp
 have A1:=hid (Zim (hsh.move (b1.block _ hpl) (fun b hb=>b1.block _ (hsh.lt b hb))))
 obtain ⟨k0,k1,k2⟩:=Za5 X1
 have z1:w.heap.size<W1.heap.size:=(Ja.1 X1).1
 have H0:=hid (Jc hW1 (Jc b1 (Jc X1 (Jc hx (Jc hsh (Jc h H))))))
 clear hW1 b1 X1 hx hsh h H hpl
 go_enter Tryz.func19,Tryz.ntmps19
 go_upto_region 1 with fail
 rw [H0.out.1]
 go_upto_region 2 with (first
  | (go_at_call 44; refine A1.out.mono ?_; rintro e W2 ⟨v1,v2,v3,v4,n1,n2,n3,rfl,hS⟩; obtain ⟨a1,j1,rfl⟩:=hS.r1.sl; obtain ⟨a2,j2,rfl⟩:=hS.r2.sl; obtain ⟨a3,j3,rfl⟩:=hS.r3.sl; obtain ⟨a4,j4,rfl⟩:=hS.r4.sl)
  | fail)
 obtain ⟨W3,hW3⟩:∃ W3,W2.alloc (.cells #[.int .i64 N,.slice a1 sup.length j1,.slice a2 arcs.length j2] 35)=W3:=⟨_,rfl⟩
 have X3:W3.heap[W2.heap.size]?=some (.cells #[.int .i64 N,.slice a1 sup.length j1,.slice a2 arcs.length j2] 35):=by rw [← hW3]; exact heap_alloc_new W2 _
 have b23:Below W2.heap.size W2 W3:=by rw [← hW3]; exact (Jd _ _).alloc (Jb _) _
 have b13:Below w.heap.size w W3:=Zai (Zai H0.out.2.1 hS.below) b23
 have z2:w.heap.size<W2.heap.size:=Jm z1 hS.below.size
 have Y3:=(b23.block _ z2).trans ((hS.below.block _ z1).trans H0.out.2.2.1)
 rw [hW3]
 clear hW3 k0 k1 k2 A1
 obtain ⟨k0,k1,k2⟩:=Za5 Y3
 obtain ⟨m0,m1,m2⟩:=Za5 X3
 have z3:w.heap.size<W3.heap.size:=(Ja.1 Y3).1
 have zn3:W2.heap.size<W3.heap.size:=(Ja.1 X3).1
 have r3:=H0.out.2.2.2.1.r.below b13
 have zr3:=r3.lt
 obtain ⟨c7,c8,c9,c10,c11⟩:=r3.c7
 have HS:=hid (Jc hS (Jc b23 (Jc b13 (Jc X3 (Jc Y3 r3)))))
 clear hS b23 b13 X3 Y3 r3
 have hsaid:=H0.out.2.2.2.2.1.said
 have e7:=H0.out.2.2.2.2.1.e7
 have e9:=H0.out.2.2.2.2.1.e9
 obtain ⟨p10,c10',e10⟩:=H0.out.2.2.2.2.1.rsup.sl
 obtain ⟨p11,c11',e11⟩:=H0.out.2.2.2.2.1.rarcs.sl
 rw [e7] at c7
 rw [e9] at c9
 rw [e10] at c10
 rw [e11] at c11
 rcases hsaid with ⟨e8,rfl,rfl,rfl,rfl⟩ | ⟨e8,hok⟩
 ·rw [e8] at c8
  clear e7 e8 e9 e10 e11
  go_upto_region 8 with fail
  have XK:=HS.out.2.2.2.1
  have bK:Below W3.heap.size W3 W3:=Jd _ _
  have bw:Below w.heap.size w W3:=HS.out.2.2.1
  clear k0 k1 k2 c7 c8 c9 c10 c11 m0 m1 m2
  have hbw:w.heap.size≤W3.heap.size:=bw.size
  have hw0:wb<w.heap.size:=(Ja.1 H0.out.2.2.2.2.2.1).1
  have K0:KS w.heap.size W3 W3 wb v vh vh hs hs 0 []:=⟨KeptMore.zero ((bw.block wb hw0).trans H0.out.2.2.2.2.2.1) (H0.out.2.2.2.2.2.2.below bw),fun y hy b hb=>Jr ((H0.out.2.2.2.2.2.2.held y hy).1 b hb),fun _ _ _ _ _ _ q=>q⟩
  have le:=HS.out.1.le
  have len:=H0.out.2.2.2.2.1.len
  have b1s:w.heap.size≤W1.heap.size:=by omega
  have nbl:W2.heap.size<W3.heap.size:=(Ja.1 XK).1
  have A4:=hid (K0.int (B:=W1.heap.size) (hi:=n1) hbw (by omega) ((HS.out.1.r1.below HS.out.2.1).below bK) b1s HS.out.1.t1 (fun _ _ _ q=>by cases q) (by omega))
  obtain ⟨m0,m1,m2⟩:=Za5 XK
  have HX:=hid XK
  clear XK K0
  go_upto_region 9 with (first
   | (go_at_call 47; refine A4.out.mono ?_; rintro e Y1 ⟨rfl,vh1,hs1,g1,K1,hg1,hl1⟩)
   | fail)
  have X9:=K1.keep W2.heap.size _ 35 (by decide) (by decide) (fun q=>by have:=List.mem_singleton.1 q; omega) HX.out
  clear m0 m1 m2
  obtain ⟨m0,m1,m2⟩:=Za5 X9
  have nb1:W2.heap.size<Y1.heap.size:=(Ja.1 X9).1
  have A5:=hid (K1.arcs (B:=n1) (hi:=n2) hbw (by omega) ((HS.out.1.r2.below HS.out.2.1).below bK) (by omega) HS.out.1.t2 (fun b q1 q2 q=>by have:=List.mem_singleton.1 q; omega) (by omega))
  clear K1 A4 X9
  go_upto_region 10 with (first
   | (go_at_call 48; refine A5.out.mono ?_; rintro e Y2 ⟨rfl,vh2,hs2,g2,K2,hg2,hl2⟩)
   | fail)
  have A6:=hid (K2.int (B:=n2) (hi:=n3) hbw (by omega) ((HS.out.1.r3.below HS.out.2.1).below bK) (by omega) HS.out.1.t3 (fun b q1 q2 q=>by simp at q; omega) (by omega))
  clear K2 A5 m0 m1 m2
  go_upto_region 11 with (first
   | (go_at_call 47; refine A6.out.mono ?_; rintro e Y3 ⟨rfl,vh3,hs3,g3,K3,hg3,hl3⟩)
   | fail)
  have A7:=hid (K3.int (B:=n3) (hi:=W2.heap.size) hbw (by omega) ((HS.out.1.r4.below HS.out.2.1).below bK) (by omega) (fun b q=>HS.out.1.r4.lt b q) (fun b q1 q2 q=>by simp at q; omega) (by omega))
  clear K3 A6
  go_wp2_with (first
   | (go_at_call 47; refine A7.out.mono ?_; rintro e Y4 ⟨rfl,vh4,hs4,g4,K4,hg4,hl4⟩; have H9:=hid K4; clear K4 A7)
   | fail)
  go_ret
  exact ⟨rfl,_,_,H9.out.more.pre bw (Jb _)⟩
 ·rw [e8] at c8
  have hN1:¬ N=0:=by have:=hok.pos; omega
  have x10':=H0.out.2.2.2.2.1.rsup
  rw [e10] at x10'
  have x11':=H0.out.2.2.2.2.1.rarcs
  rw [e11] at x11'
  have HO:=hid (Jc hok (Jc x10' x11'))
  clear e7 e8 e9 e10 e11 x10' x11'
  have hla:arcs.length≤600:=hok.net.2.2.1
  clear hok
  have A2:=hid (Zei W3 N a1 a2 a3 a4 sup.length j1 arcs.length j2 fl.length j3 pr.length j4 _ _ _ _ ((HS.out.1.r1.below HS.out.2.1).ints rfl) ((HS.out.1.r2.below HS.out.2.1).arcs rfl) ((HS.out.1.r3.below HS.out.2.1).ints rfl) ((HS.out.1.r4.below HS.out.2.1).ints rfl))
  go_upto_region 5 with (first
   | (go_at_call 25; refine A2.out.mono ?_; rintro e W4 ⟨ce,rfl,hch,b4⟩; obtain rfl:ce=0:=hch.ok HO.out.1.net HO.out.1.flow HO.out.1.price)
   | fail)
  have zn4:W2.heap.size<W4.heap.size:=Jm zn3 b4.size
  have zb4:w.heap.size<W4.heap.size:=Jm z3 b4.size
  have zr4:x.rb<W4.heap.size:=Jm zr3 b4.size
  have X4:=(b4.block _ zn3).trans HS.out.2.2.2.1
  have Y4:=(b4.block _ z3).trans HS.out.2.2.2.2.1
  clear m0 m1 m2 k0 k1 k2 A2
  obtain ⟨m0,m1,m2⟩:=Za5 X4
  obtain ⟨k0,k1,k2⟩:=Za5 Y4
  have A3:=Zih W4 N a1 a2 a3 sup.length j1 arcs.length j2 fl.length j3 _ _ (((HS.out.1.r2.below HS.out.2.1).below b4).arcs rfl) (((HS.out.1.r3.below HS.out.2.1).below b4).ints rfl) HO.out.1.flow.1 HO.out.1.net.2.2.2.2 HO.out.1.flow.2.1 hla
  rw [HO.out.1.cost] at A3
  have A3:=hid A3
  have H4:=hid (Jc b4 (Jc X4 Y4))
  clear b4 X4 Y4 hch
  go_upto_region 6 with (first
   | (go_at_call 45; refine A3.out.mono ?_; rintro e W5 ⟨rfl,b5⟩)
   | fail)
  have zn5:W2.heap.size<W5.heap.size:=Jm zn4 b5.size
  have zb5:w.heap.size<W5.heap.size:=Jm zb4 b5.size
  have zr5:x.rb<W5.heap.size:=Jm zr4 b5.size
  have X5:=(b5.block _ zn4).trans H4.out.2.1
  have Y5:=(b5.block _ zb4).trans H4.out.2.2
  have b35:Below W3.heap.size W3 W5:=Zai H4.out.1 b5
  clear m0 m1 m2 k0 k1 k2 A3
  obtain ⟨m0,m1,m2⟩:=Za5 X5
  obtain ⟨k0,k1,k2⟩:=Za5 Y5
  have d7:=(b35.cell (p:=⟨x.rb,7,none⟩) zr3).trans c7
  have d9:=(b35.cell (p:=⟨x.rb,9,none⟩) zr3).trans c9
  have d10:=(b35.cell (p:=⟨x.rb,10,none⟩) zr3).trans c10
  have d11:=(b35.cell (p:=⟨x.rb,11,none⟩) zr3).trans c11
  have hS0:S6 W2.heap.size w.heap.size x.rb (.int .i64 N) (.slice a1 sup.length j1) (.slice a2 arcs.length j2) (.int .i64 N) (.slice p10 sup.length c10') (.slice p11 arcs.length c11') W5.drew:=⟨m0,m1,m2,k2,d9,d10,d11⟩
  have bd:Below W3.heap.size W3 W5.drew:=b35.trans (((Jd _ _).drew:Below W5.heap.size W5 W5.drew).mono b35.size)
  have bwd:Below w.heap.size w W5.drew:=Zai HS.out.2.2.1 bd
  have A6:=hid (ZfV W5.drew N a1 a2 p10 p11 sup.length j1 arcs.length j2 c10' c11' _ _ (((HS.out.1.r1.below HS.out.2.1).below bd).ints rfl) (((HS.out.1.r2.below HS.out.2.1).below bd).arcs rfl) ((HO.out.2.1.below bwd).ints rfl) ((HO.out.2.2.below bwd).arcs rfl) (by have:=H0.out.2.2.2.2.1.len; omega) (by omega))
  have H5:=hid (Jc bd (Jc X5 Y5))
  clear bd bwd X5 Y5 b35 b5 c7 c8 c9 c10 c11 m0 m1 m2 k0 k1 k2 d9 d10 d11
  refine wp_region_held_drew (S:=S6 W2.heap.size w.heap.size x.rb (.int .i64 N) (.slice a1 sup.length j1) (.slice a2 arcs.length j2) (.int .i64 N) (.slice p10 sup.length c10') (.slice p11 arcs.length c11')) (by kernel_rfl) hS0 (fun _=>?_)
  refine tkH (v:=?_) 0 50 hS0 ?_ ?_; rotate_left 1
  ·(rintro w' ⟨e0,e1,e2,e3,e4,e5,e6⟩; go_simp; try with_reducible rfl)
  simp only [Act.put,Jh,Ji,Jj]
  refine tkH (v:=?_) 1 51 hS0 ?_ ?_; rotate_left 1
  ·(rintro w' ⟨e0,e1,e2,e3,e4,e5,e6⟩; go_simp; try with_reducible rfl)
  simp only [Act.put,Jh,Ji,Jj]
  refine tkH (v:=?_) 2 52 hS0 ?_ ?_; rotate_left 1
  ·(rintro w' ⟨e0,e1,e2,e3,e4,e5,e6⟩; go_simp; try with_reducible rfl)
  simp only [Act.put,Jh,Ji,Jj]
  refine tkH (v:=?_) 3 53 hS0 ?_ ?_; rotate_left 1
  ·(rintro w' ⟨e0,e1,e2,e3,e4,e5,e6⟩; go_simp; try with_reducible rfl)
  simp only [Act.put,Jh,Ji,Jj]
  refine tkH (v:=?_) 4 54 hS0 ?_ ?_; rotate_left 1
  ·(rintro w' ⟨e0,e1,e2,e3,e4,e5,e6⟩; go_simp; try with_reducible rfl)
  simp only [Act.put,Jh,Ji,Jj]
  refine tkH (v:=?_) 5 55 hS0 ?_ ?_; rotate_left 1
  ·(rintro w' ⟨e0,e1,e2,e3,e4,e5,e6⟩; go_simp; try with_reducible rfl)
  simp only [Act.put,Jh,Ji,Jj]
  refine wpAnyH_ready (rs:=[6]) (by kernel_rfl) (by simp) ?_
  refine AllReadyH.cons rfl (fun K hK=>?_) AllReadyH.nil
  go_simp
  refine A6.out.mono ?_
  rintro e W6 ⟨rfl,b6⟩
  have hS1:S6 W2.heap.size w.heap.size x.rb (.int .i64 N) (.slice a1 sup.length j1) (.slice a2 arcs.length j2) (.int .i64 N) (.slice p10 sup.length c10') (.slice p11 arcs.length c11') W6:=⟨(b6.cell (p:=⟨W2.heap.size,0,none⟩) zn5).trans hS0.1,(b6.cell (p:=⟨W2.heap.size,1,none⟩) zn5).trans hS0.2.1,(b6.cell (p:=⟨W2.heap.size,2,none⟩) zn5).trans hS0.2.2.1,(b6.cell (p:=⟨w.heap.size,2,none⟩) zb5).trans hS0.2.2.2.1,(b6.cell (p:=⟨x.rb,9,none⟩) zr5).trans hS0.2.2.2.2.1,(b6.cell (p:=⟨x.rb,10,none⟩) zr5).trans hS0.2.2.2.2.2.1,(b6.cell (p:=⟨x.rb,11,none⟩) zr5).trans hS0.2.2.2.2.2.2⟩
  refine hK.out _ _ hS1 (fun _=>?_)
  clear hK K
  refine tkH (v:=?_) 7 11 hS1 ?_ ?_; rotate_left 1
  ·(rintro w' ⟨e0,e1,e2,e3,e4,e5,e6⟩; go_simp; try with_reducible rfl)
  simp only [Act.put,Jh,Ji,Jj]
  refine wpAnyH_done (by kernel_rfl) ?_ _
  have d6:=(b6.cell (p:=⟨x.rb,7,none⟩) zr5).trans d7
  obtain ⟨m0,m1,m2,k2,_,_,_⟩:=hS1
  have zn6:W2.heap.size<W6.heap.size:=Jm zn5 b6.size
  have zb6:w.heap.size<W6.heap.size:=Jm zb5 b6.size
  have zr6:x.rb<W6.heap.size:=Jm zr5 b6.size
  have bK:Below W3.heap.size W3 W6:=Zai H5.out.1 b6
  have XK:=(bK.block _ zn3).trans HS.out.2.2.2.1
  have bw:Below w.heap.size w W6:=Zai HS.out.2.2.1 bK
  have HB:=hid (Jc XK (Jc bK bw))
  clear hS0 XK bK bw b6 A6 d7
  go_upto_region 8 with fail
  have XK:=HB.out.1
  have bK:=HB.out.2.1
  have bw:=HB.out.2.2
  clear m0 m1 m2 k2 d6
  have hbw:w.heap.size≤W6.heap.size:=bw.size
  have hw0:wb<w.heap.size:=(Ja.1 H0.out.2.2.2.2.2.1).1
  have K0:KS w.heap.size W6 W6 wb v vh vh hs hs 0 []:=⟨KeptMore.zero ((bw.block wb hw0).trans H0.out.2.2.2.2.2.1) (H0.out.2.2.2.2.2.2.below bw),fun y hy b hb=>Jr ((H0.out.2.2.2.2.2.2.held y hy).1 b hb),fun _ _ _ _ _ _ q=>q⟩
  have le:=HS.out.1.le
  have len:=H0.out.2.2.2.2.1.len
  have b1s:w.heap.size≤W1.heap.size:=by omega
  have nbl:W2.heap.size<W6.heap.size:=(Ja.1 XK).1
  have A4:=hid (K0.int (B:=W1.heap.size) (hi:=n1) hbw (by omega) ((HS.out.1.r1.below HS.out.2.1).below bK) b1s HS.out.1.t1 (fun _ _ _ q=>by cases q) (by omega))
  obtain ⟨m0,m1,m2⟩:=Za5 XK
  have HX:=hid XK
  clear XK K0
  go_upto_region 9 with (first
   | (go_at_call 47; refine A4.out.mono ?_; rintro e Y1 ⟨rfl,vh1,hs1,g1,K1,hg1,hl1⟩)
   | fail)
  have X9:=K1.keep W2.heap.size _ 35 (by decide) (by decide) (fun q=>by have:=List.mem_singleton.1 q; omega) HX.out
  clear m0 m1 m2
  obtain ⟨m0,m1,m2⟩:=Za5 X9
  have nb1:W2.heap.size<Y1.heap.size:=(Ja.1 X9).1
  have A5:=hid (K1.arcs (B:=n1) (hi:=n2) hbw (by omega) ((HS.out.1.r2.below HS.out.2.1).below bK) (by omega) HS.out.1.t2 (fun b q1 q2 q=>by have:=List.mem_singleton.1 q; omega) (by omega))
  clear K1 A4 X9
  go_upto_region 10 with (first
   | (go_at_call 48; refine A5.out.mono ?_; rintro e Y2 ⟨rfl,vh2,hs2,g2,K2,hg2,hl2⟩)
   | fail)
  have A6:=hid (K2.int (B:=n2) (hi:=n3) hbw (by omega) ((HS.out.1.r3.below HS.out.2.1).below bK) (by omega) HS.out.1.t3 (fun b q1 q2 q=>by simp at q; omega) (by omega))
  clear K2 A5 m0 m1 m2
  go_upto_region 11 with (first
   | (go_at_call 47; refine A6.out.mono ?_; rintro e Y3 ⟨rfl,vh3,hs3,g3,K3,hg3,hl3⟩)
   | fail)
  have A7:=hid (K3.int (B:=n3) (hi:=W2.heap.size) hbw (by omega) ((HS.out.1.r4.below HS.out.2.1).below bK) (by omega) (fun b q=>HS.out.1.r4.lt b q) (fun b q1 q2 q=>by simp at q; omega) (by omega))
  clear K3 A6
  go_wp2_with (first
   | (go_at_call 47; refine A7.out.mono ?_; rintro e Y4 ⟨rfl,vh4,hs4,g4,K4,hg4,hl4⟩; have H9:=hid K4; clear K4 A7)
   | fail)
  go_ret
  exact ⟨rfl,_,_,H9.out.more.pre bw (Jb _)⟩
end
end Go.Proofs.YtjdindfjfpdikaaGreat
