import Derived.Deep.RegionHeld
import Derived.Test.YtjdindfjfpdikaaGreatB10
import Derived.Test.YtjdindfjfpdikaaGreatB12
import Derived.Test.YtjdindfjfpdikaaGreatPre
set_option maxRecDepth 100000
set_option maxHeartbeats 8000000
namespace Go.Proofs.YtjdindfjfpdikaaGreat
section
open Go.RowKit
def lentF (len:Nat)(F:Nat→Int):Nat→Int:=fun i=>if i<len then F i else -77
theorem Zbl (w:World)(p:Option Addr)(len cap:Nat)(F:Nat→Int)(hF:Ints w p len F)(hlen:len*8≤140737488351232) :
  Calls Tryz.prog 49 #[.slice p len cap] w fun e w'=>e=.returned (.slice (some ⟨w.heap.size,0,none⟩) (len+8) (len+8))∧Nums w' w.heap.size (len+8) (lentF len F)∧Below w.heap.size w w':=by
 obtain ⟨i0,hi0,hz0,hz1,hz2⟩:=info_parts ZkJ
 have hl1:len≤17592186043904:=by omega
 go_enter Tryz.func49,Tryz.ntmps49
 go_upto_region 2 with (first
  | (at_make; refine wpList_make_full _ rfl _ _ 32 rfl 0 3 i0 (.int .i64 0) 1 Tryz.underlying32 hi0 hz0 hz1 .i64 .i64 ((len:Int)+8) ((len:Int)+8) (len+8) rfl rfl (by omega) (by omega) (by rw [hz2]; omega) (by unfold maxLen; omega) (Jq _) ?_; intro w1 hrow hg1)
  | fail)
 have hN1:=ZdJ (g:=w.heap.size) hrow rfl
 have hb1:Below w.heap.size w w1:=(Jd _ _).grown hg1 (Jb _) (fun k e=>by cases e)
 have H1:=Zan (Jc hN1 hb1)
 clear hrow hg1 hN1 hb1
 go_wp2_with fail
 go_loopg [4] (len+8) (fun gk iv wr=>∃ (i:Nat) (G:Nat→Int),i≤len+8∧len+8 - i≤gk∧iv=.int .i64 i∧Nums wr w.heap.size (len+8) G∧Below w.heap.size w wr∧Hid (∀ m,m<i→G m=lentF len F m))
 case atStart=>exact ⟨0,_,Jq _,Jb _,rfl,H1.out.1,H1.out.2,fun m hm=>by omega⟩
 case' round=>skip
 clear H1
 obtain ⟨i,G,hi,hgk,rfl,hN,hb,hG⟩:=hrel
 by_cases hlt:i<len+8
 ·have hiI:(i:Int)<(len:Int)+8:=by omega
  have gv:=hN.cell hlt
  have fz:=hN.frozen i
  have gl:=hN.lt
  by_cases hin:i<len
  ·have hiL:(i:Int)<(len:Int):=by omega
   obtain ⟨sb,off,rfl,hsb,hc⟩:=hF.at hin
   have hcr:=(hb.cell (p:=⟨sb,off+i,none⟩) hsb).trans hc
   have hsr:sb<wr.heap.size:=Jm hsb hb.size
   have hne:¬ sb=w.heap.size:=by omega
   have Hb:=Zan (Jc hN hb)
   clear hN hb hc
   go_wp2_with fail
   go_roundg (len+8 - (i+1))
   case measure=>omega
   case rel =>
    refine ⟨i+1,setN (setN G i (-77)) i (F i),by omega,Jb _,by go_num,(Hb.out.1.set i _).set i _,(Hb.out.2.setCell (p:=⟨w.heap.size,i,none⟩) (Jb _) _).setCell (p:=⟨w.heap.size,i,none⟩) (Jb _) _,fun m hm=>?_⟩
    by_cases h1:m<i
    ·have e:setN (setN G i (-77)) i (F i) m=G m:=by simp [setN,show m≠i by omega]
     rw [e]
     exact hG.out m h1
    ·obtain rfl:m=i:=by omega
     simp [setN,lentF,hin]
  ·have hiL:¬ (i:Int)<(len:Int):=by omega
   have Hb:=Zan (Jc hN hb)
   clear hN hb
   go_wp2_with fail
   go_roundg (len+8 - (i+1))
   case measure=>omega
   case rel =>
    refine ⟨i+1,setN G i (-77),by omega,Jb _,by go_num,Hb.out.1.set i _,Hb.out.2.setCell (p:=⟨w.heap.size,i,none⟩) (Jb _) _,fun m hm=>?_⟩
    by_cases h1:m<i
    ·have e:setN G i (-77) m=G m:=by simp [setN,show m≠i by omega]
     rw [e]
     exact hG.out m h1
    ·obtain rfl:m=i:=by omega
     simp [setN,lentF,hin]
 ·obtain rfl:i=len+8:=by omega
  have Hb:=Zan (Jc hN hb)
  clear hN hb hlt hi
  go_wp2_with fail
  go_ret
  exact ⟨rfl,Hb.out.1.congr hG.out,Hb.out.2⟩
end
section
open Go.RowKit
theorem ZbP (w:World)(p q:Option Addr)(n cp cq:Nat)(F:Nat→Int)(hp:Ints w p n F)(hq:Ints w q n F)(hlen:n≤1000000000000000) :
  Calls Tryz.prog 52 #[.slice p n cp,.slice q n cq] w fun e w'=>e=.returned (.bool true)∧Below w.heap.size w w':=by
 go_enter Tryz.func52,Tryz.ntmps52
 go_wp2_with fail
 go_loopg [5] n (fun gk iv wr=>∃ i:Nat,i≤n∧n - i≤gk∧iv=.int .i64 i∧Below w.heap.size w wr)
 case atStart=>exact ⟨0,Jq _,Jb _,rfl,Jd _ _⟩
 case' round=>skip
 obtain ⟨i,hi,hgk,rfl,hb⟩:=hrel
 by_cases hlt:i<n
 ·obtain ⟨sb,off,rfl,hsb,g0⟩:=(hp.below hb).at hlt
  obtain ⟨sf,of',rfl,hsf,g1⟩:=(hq.below hb).at hlt
  have hiI:(i:Int)<(n:Int):=by omega
  have Hb:=Zan hb
  clear hb
  go_wp2_with fail
  go_quiet (fail)
  go_wp2_with fail
  go_roundg (n - (i+1))
  case measure=>omega
  case rel=>exact ⟨i+1,by omega,Jb _,by go_num,ZaB Hb.out⟩
 ·obtain rfl:i=n:=by omega
  go_wp2_with fail
  go_ret
  exact ⟨rfl,hb⟩
end
section
open Go.RowKit
theorem ZhD:(Tryz.prog.info? 93).map (fun i=>(i.zero,i.size,i.bytes))=some (some (.agg #[.int .i64 0,.int .i64 0,.int .i64 0,.int .i64 0]),4,32):=by kernel_rfl
structure ArcB (w:World)(g n:Nat)(A:Nat→Ar)(cs:Array Value):Prop where
 heap:w.heap[g]?=some (.cells cs 93)
 size:cs.size=n*4
 cells:∀ i,i<n→cs[i*4]?=some (.int .i64 (A i).f)∧cs[i*4+1]?=some (.int .i64 (A i).t)∧cs[i*4+2]?=some (.int .i64 (A i).c)∧cs[i*4+3]?=some (.int .i64 (A i).k)
def setA (A:Nat→Ar)(k:Nat)(a:Ar):Nat→Ar:=fun i=>if i=k then a else A i
section
variable {w w':World}{g n:Nat}{A B:Nat→Ar}{cs:Array Value}
theorem ArcB.lt (h:ArcB w g n A cs):g<w.heap.size:=(Ja.1 h.heap).1
theorem ArcB.at (h:ArcB w g n A cs){i:Nat}(hi:i<n):w.cell? ⟨g,i*4,none⟩=some (.int .i64 (A i).f)∧w.cell? ⟨g,i*4+1,none⟩=some (.int .i64 (A i).t)∧w.cell? ⟨g,i*4+2,none⟩=some (.int .i64 (A i).c)∧w.cell? ⟨g,i*4+3,none⟩=some (.int .i64 (A i).k):=by
 rw [Zaf h.heap,Zaf h.heap,Zaf h.heap,Zaf h.heap]
 exact h.cells i hi
theorem ArcB.frozen (h:ArcB w g n A cs)(i:Nat):w.frozen? ⟨g,i,none⟩=false:=by simp [World.frozen?,h.heap]
theorem ArcB.move (h:ArcB w g n A cs)(hb:w'.heap[g]?=w.heap[g]?):ArcB w' g n A cs:=⟨hb.trans h.heap,h.size,h.cells⟩
theorem ArcB.congr (h:ArcB w g n A cs)(e:∀ i,i<n→A i=B i):ArcB w g n B cs:=⟨h.heap,h.size,fun i hi=>by rw [← e i hi]; exact h.cells i hi⟩
theorem ArcB.set (h:ArcB w g n A cs){k:Nat}(hk:k<n)(a:Ar):ArcB ((((w.setCell ⟨g,k*4,none⟩ (.int .i64 a.f)).setCell ⟨g,k*4+1,none⟩ (.int .i64 a.t)).setCell ⟨g,k*4+2,none⟩ (.int .i64 a.c)).setCell ⟨g,k*4+3,none⟩ (.int .i64 a.k)) g n (setA A k a) ((((cs.setIfInBounds (k*4) (.int .i64 a.f)).setIfInBounds (k*4+1) (.int .i64 a.t)).setIfInBounds (k*4+2) (.int .i64 a.c)).setIfInBounds (k*4+3) (.int .i64 a.k)):=by
 refine ⟨by simp [World.setCell,Array.getElem?_modify,h.heap],by simp [h.size],fun i hi=>?_⟩
 have hs:=h.size
 by_cases e:i=k
 ·subst e
  simp only [setA,Array.getElem?_setIfInBounds,Array.size_setIfInBounds,hs,if_true]
  refine ⟨?_,?_,?_,?_⟩
  ·rw [if_neg (by omega),if_neg (by omega),if_neg (by omega),if_pos (by omega)]
  ·rw [if_neg (by omega),if_neg (by omega),if_pos (by omega)]
  ·rw [if_neg (by omega),if_pos (by omega)]
  ·rw [if_pos (by omega)]
 ·simp only [setA,if_neg e,Array.getElem?_setIfInBounds]
  obtain ⟨h0,h1,h2,h3⟩:=h.cells i hi
  refine ⟨?_,?_,?_,?_⟩
  ·rw [if_neg (by omega),if_neg (by omega),if_neg (by omega),if_neg (by omega)]; exact h0
  ·rw [if_neg (by omega),if_neg (by omega),if_neg (by omega),if_neg (by omega)]; exact h1
  ·rw [if_neg (by omega),if_neg (by omega),if_neg (by omega),if_neg (by omega)]; exact h2
  ·rw [if_neg (by omega),if_neg (by omega),if_neg (by omega),if_neg (by omega)]; exact h3
theorem Zhi {base:Nat}(h:w.ownsRow base 93 4 (.slice (some ⟨g,0,none⟩) n n) n (madeCells (Value.cells (.agg #[.int .i64 0,.int .i64 0,.int .i64 0,.int .i64 0])) (n*4)).toList):∃ cs,ArcB w g n (fun _=>⟨0,0,0,0⟩) cs:=by
 obtain ⟨hl,hr⟩:=h
 rcases hr with ⟨e,_⟩ | ⟨g',cap,cur,e,_,hg,_,_,hs,ht⟩
 ·cases e
 ·cases e
  refine ⟨cur,hg,hs,fun i hi=>?_⟩
  have e1:cur=(madeCells (Value.cells (.agg #[.int .i64 0,.int .i64 0,.int .i64 0,.int .i64 0])) (n*4)):=by
   apply Array.ext'
   rw [← ht]
   exact (List.take_of_length_le (by simp [hs])).symm
  have hat:∀ j,j<n*4→cur[j]?=some (.int .i64 0):=fun j hj=>by
   rw [e1]
   have hm:j % 4<4:=Nat.mod_lt _ (by decide)
   simp only [madeCells,Value.cells]
   rw [Array.getElem?_map,Array.getElem?_range,if_pos hj]
   have:j % 4=0∨j % 4=1∨j % 4=2∨j % 4=3:=by omega
   rcases this with e | e | e | e <;> simp [e]
  exact ⟨hat _ (by omega),hat _ (by omega),hat _ (by omega),hat _ (by omega)⟩
end
theorem ZcV {B g k:Nat}{w W:World}(h:Below B w W)(hg:B≤g)(x0 x1 x2 x3:Value):Below B w ((((W.setCell ⟨g,k*4,none⟩ x0).setCell ⟨g,k*4+1,none⟩ x1).setCell ⟨g,k*4+2,none⟩ x2).setCell ⟨g,k*4+3,none⟩ x3) :=
 (((h.setCell (p:=⟨g,k*4,none⟩) hg _).setCell (p:=⟨g,k*4+1,none⟩) hg _).setCell (p:=⟨g,k*4+2,none⟩) hg _).setCell (p:=⟨g,k*4+3,none⟩) hg _
def lentG (len:Nat)(A:Nat→Ar):Nat→Ar:=fun i=>if i<len then A i else ⟨0,0,0,-77⟩
theorem Zdf (w:World)(p:Option Addr)(len cap:Nat)(A:Nat→Ar)(hA:Arcs w p len A)(hlen:len*32≤140737488351232) :
  Calls Tryz.prog 50 #[.slice p len cap] w fun e w'=>e=.returned (.slice (some ⟨w.heap.size,0,none⟩) (len+8) (len+8))∧(∃ cs,ArcB w' w.heap.size (len+8) (lentG len A) cs)∧Below w.heap.size w w':=by
 obtain ⟨i0,hi0,hz0,hz1,hz2⟩:=info_parts ZhD
 have hl1:len≤4398046510976:=by omega
 go_enter Tryz.func50,Tryz.ntmps50
 go_upto_region 2 with (first
  | (at_make; refine wpList_make_full _ rfl _ _ 33 rfl 0 93 i0 (.agg #[.int .i64 0,.int .i64 0,.int .i64 0,.int .i64 0]) 4 Tryz.underlying33 hi0 hz0 hz1 .i64 .i64 ((len:Int)+8) ((len:Int)+8) (len+8) rfl rfl (by omega) (by omega) (by rw [hz2]; omega) (by unfold maxLen; omega) (Jq _) ?_; intro w1 hrow hg1)
  | fail)
 obtain ⟨cs1,hN1⟩:=Zhi (g:=w.heap.size) hrow
 have hb1:Below w.heap.size w w1:=(Jd _ _).grown hg1 (Jb _) (fun k e=>by cases e)
 have H1:=Zan (Jc hN1 hb1)
 clear hrow hg1 hN1 hb1
 go_wp2_with fail
 go_loopg [4] (len+8) (fun gk iv wr=>∃ (i:Nat) (G:Nat→Ar) (cs:Array Value),i≤len+8∧len+8 - i≤gk∧iv=.int .i64 i∧ArcB wr w.heap.size (len+8) G cs∧Below w.heap.size w wr∧Hid (∀ m,m<i→G m=lentG len A m))
 case atStart=>exact ⟨0,_,_,Jq _,Jb _,rfl,H1.out.1,H1.out.2,fun m hm=>by omega⟩
 case' round=>skip
 clear H1
 obtain ⟨i,G,cs,hi,hgk,rfl,hN,hb,hG⟩:=hrel
 by_cases hlt:i<len+8
 ·have hiI:(i:Int)<(len:Int)+8:=by omega
  obtain ⟨v0,v1,v2,v3⟩:=hN.at hlt
  have z0:=hN.frozen (i*4)
  have z1:=hN.frozen (i*4+1)
  have z2:=hN.frozen (i*4+2)
  have z3:=hN.frozen (i*4+3)
  have gl:=hN.lt
  by_cases hin:i<len
  ·have hiL:(i:Int)<(len:Int):=by omega
   obtain ⟨sb,off,rfl,hsb,g0,g1,g2,g3⟩:=hA.at hin
   have mv:∀ o,wr.cell? ⟨sb,o,none⟩=w.cell? ⟨sb,o,none⟩:=fun o=>hb.cell (p:=⟨sb,o,none⟩) hsb
   rw [← mv] at g0 g1 g2 g3
   have hsr:sb<wr.heap.size:=Jm hsb hb.size
   have hne:¬ sb=w.heap.size:=by omega
   have Hb:=Zan (Jc hN hb)
   clear hN hb mv
   go_wp2_with fail
   go_roundg (len+8 - (i+1))
   case measure=>omega
   case rel =>
    refine ⟨i+1,setA (setA G i ⟨0,0,0,-77⟩) i (A i),_,by omega,Jb _,by go_num,(Hb.out.1.set hlt ⟨0,0,0,-77⟩).set hlt (A i),ZcV (ZcV Hb.out.2 (Jb _) _ _ _ _) (Jb _) _ _ _ _,fun m hm=>?_⟩
    by_cases h1:m<i
    ·have e:setA (setA G i ⟨0,0,0,-77⟩) i (A i) m=G m:=by simp [setA,show m≠i by omega]
     rw [e]
     exact hG.out m h1
    ·obtain rfl:m=i:=by omega
     simp [setA,lentG,hin]
  ·have hiL:¬ (i:Int)<(len:Int):=by omega
   have Hb:=Zan (Jc hN hb)
   clear hN hb
   go_wp2_with fail
   go_roundg (len+8 - (i+1))
   case measure=>omega
   case rel =>
    refine ⟨i+1,setA G i ⟨0,0,0,-77⟩,_,by omega,Jb _,by go_num,Hb.out.1.set hlt ⟨0,0,0,-77⟩,ZcV Hb.out.2 (Jb _) _ _ _ _,fun m hm=>?_⟩
    by_cases h1:m<i
    ·have e:setA G i ⟨0,0,0,-77⟩ m=G m:=by simp [setA,show m≠i by omega]
     rw [e]
     exact hG.out m h1
    ·obtain rfl:m=i:=by omega
     simp [setA,lentG,hin]
 ·obtain rfl:i=len+8:=by omega
  have Hb:=Zan (Jc hN hb)
  clear hN hb hlt hi
  go_wp2_with fail
  go_ret
  exact ⟨rfl,⟨_,Hb.out.1.congr hG.out⟩,Hb.out.2⟩
end
section
open Go.RowKit
structure Loan (w W:World)(lb g0 g1 g2 g3 ls lf lp la:Nat)(S F P:Nat→Int)(A:Nat→Ar)(cs:Array Value):Prop where
 below:Below w.heap.size w W
 cells:W.heap[lb]?=some (.cells #[.slice (some ⟨g0,0,none⟩) (ls+8) (ls+8),.slice (some ⟨g1,0,none⟩) (lf+8) (lf+8),.slice (some ⟨g2,0,none⟩) (lp+8) (lp+8),.slice (some ⟨g3,0,none⟩) (la+8) (la+8)] 67)
 supply:Nums W g0 (ls+8) (lentF ls S)
 flow:Nums W g1 (lf+8) (lentF lf F)
 prices:Nums W g2 (lp+8) (lentF lp P)
 arcs:ArcB W g3 (la+8) (lentG la A) cs
 ord:w.heap.size<g0∧g0<g1∧g1<g2∧g2<g3∧g3<lb
theorem ZiR (w:World)(N:Int)(p q r s:Option Addr)(ls cs la ca lf cf lp cp:Nat)(S:Nat→Int)(A:Nat→Ar)(F P:Nat→Int)(hS:Ints w p ls S)(hA:Arcs w q la A)(hF:Ints w r lf F)(hP:Ints w s lp P)
  (hl0:ls*8≤140737488351232) (hl1:lf*8≤140737488351232) (hl2:lp*8≤140737488351232) (hl3:la*32≤140737488351232) :
  Calls Tryz.prog 21 #[.agg #[.int .i64 N,.slice p ls cs,.slice q la ca],.slice r lf cf,.slice s lp cp] w fun e w'=>∃ lb g0 g1 g2 g3 cs',e=.returned (.pointer (some ⟨lb,0,none⟩))∧Loan w w' lb g0 g1 g2 g3 ls lf lp la S F P A cs':=by
 obtain ⟨W1,hW1⟩:∃ W1,w.alloc (.cells #[.int .i64 N,.slice p ls cs,.slice q la ca] 35)=W1:=⟨_,rfl⟩
 have X0:W1.drew.heap[w.heap.size]?=some (.cells #[.int .i64 N,.slice p ls cs,.slice q la ca] 35):=by rw [← hW1]; exact heap_alloc_new w _
 have B0:Below w.heap.size w W1.drew:=by rw [← hW1]; exact ((Jd _ _).alloc (Jb _) _).drew
 have Z0:w.heap.size<W1.drew.heap.size:=(Ja.1 X0).1
 have hS0:(fun W':World=>W'.cell? ⟨w.heap.size,1,none⟩=some (.slice p ls cs)∧W'.cell? ⟨w.heap.size,2,none⟩=some (.slice q la ca)) W1.drew:=⟨by simp [World.cell?,X0],by simp [World.cell?,X0]⟩
 have H1:=Zan hW1
 clear hW1
 go_enter Tryz.func21,Tryz.ntmps21
 go_wp2_with fail
 rw [H1.out]
 refine wp_region_held_drew (S:=fun W':World=>W'.cell? ⟨w.heap.size,1,none⟩=some (.slice p ls cs)∧W'.cell? ⟨w.heap.size,2,none⟩=some (.slice q la ca)) (by kernel_rfl) hS0 (fun _=>?_)
 refine tkH (v:=?_) 0 7 hS0 ?_ ?_; rotate_left 1
 ·(rintro w ⟨e1,e2⟩; go_simp; try with_reducible rfl)
 simp only [Act.put,Jh,Ji,Jj]
 refine tkH (v:=?_) 1 8 hS0 ?_ ?_; rotate_left 1
 ·(rintro w ⟨e1,e2⟩; go_simp; try with_reducible rfl)
 simp only [Act.put,Jh,Ji,Jj]
 refine tkH (v:=?_) 3 10 hS0 ?_ ?_; rotate_left 1
 ·(rintro w ⟨e1,e2⟩; go_simp; try with_reducible rfl)
 simp only [Act.put,Jh,Ji,Jj]
 refine tkH (v:=?_) 5 12 hS0 ?_ ?_; rotate_left 1
 ·(rintro w ⟨e1,e2⟩; go_simp; try with_reducible rfl)
 simp only [Act.put,Jh,Ji,Jj]
 refine tkH (v:=?_) 7 14 hS0 ?_ ?_; rotate_left 1
 ·(rintro w ⟨e1,e2⟩; go_simp; try with_reducible rfl)
 simp only [Act.put,Jh,Ji,Jj]
 refine tkH (v:=?_) 8 15 hS0 ?_ ?_; rotate_left 1
 ·(rintro w ⟨e1,e2⟩; go_simp; try with_reducible rfl)
 simp only [Act.put,Jh,Ji,Jj]
 refine wpAnyH_ready (rs:=[2]) (by kernel_rfl) (by simp) ?_
 refine AllReadyH.cons rfl (fun K hK=>?_) AllReadyH.nil
 go_simp
 refine (Zbl _ p ls cs S (hS.below B0) hl0).mono ?_
 rintro e w1 ⟨rfl,h1,b1⟩
 have B1:Below w.heap.size w w1:=Zal B0 b1
 have X1:w1.heap[w.heap.size]?=some (.cells #[.int .i64 N,.slice p ls cs,.slice q la ca] 35):=(b1.block _ Z0).trans X0
 have Z1:w.heap.size<w1.heap.size:=(Ja.1 X1).1
 have hS1:(fun W':World=>W'.cell? ⟨w.heap.size,1,none⟩=some (.slice p ls cs)∧W'.cell? ⟨w.heap.size,2,none⟩=some (.slice q la ca)) w1:=⟨by simp [World.cell?,X1],by simp [World.cell?,X1]⟩
 refine hK.out _ _ hS1 (fun _=>?_)
 clear hK K
 refine wpAnyH_ready (rs:=[4]) (by kernel_rfl) (by simp) ?_
 refine AllReadyH.cons rfl (fun K hK=>?_) AllReadyH.nil
 go_simp
 refine (Zbl _ r lf cf F (hF.below B1) hl1).mono ?_
 rintro e w2 ⟨rfl,h2,b2⟩
 have B2:Below w.heap.size w w2:=Zal B1 b2
 have X2:w2.heap[w.heap.size]?=some (.cells #[.int .i64 N,.slice p ls cs,.slice q la ca] 35):=(b2.block _ Z1).trans X1
 have Z2:w.heap.size<w2.heap.size:=(Ja.1 X2).1
 have hS2:(fun W':World=>W'.cell? ⟨w.heap.size,1,none⟩=some (.slice p ls cs)∧W'.cell? ⟨w.heap.size,2,none⟩=some (.slice q la ca)) w2:=⟨by simp [World.cell?,X2],by simp [World.cell?,X2]⟩
 refine hK.out _ _ hS2 (fun _=>?_)
 clear hK K
 refine wpAnyH_ready (rs:=[6]) (by kernel_rfl) (by simp) ?_
 refine AllReadyH.cons rfl (fun K hK=>?_) AllReadyH.nil
 go_simp
 refine (Zbl _ s lp cp P (hP.below B2) hl2).mono ?_
 rintro e w3 ⟨rfl,h3,b3⟩
 have B3:Below w.heap.size w w3:=Zal B2 b3
 have X3:w3.heap[w.heap.size]?=some (.cells #[.int .i64 N,.slice p ls cs,.slice q la ca] 35):=(b3.block _ Z2).trans X2
 have Z3:w.heap.size<w3.heap.size:=(Ja.1 X3).1
 have hS3:(fun W':World=>W'.cell? ⟨w.heap.size,1,none⟩=some (.slice p ls cs)∧W'.cell? ⟨w.heap.size,2,none⟩=some (.slice q la ca)) w3:=⟨by simp [World.cell?,X3],by simp [World.cell?,X3]⟩
 refine hK.out _ _ hS3 (fun _=>?_)
 clear hK K
 refine wpAnyH_ready (rs:=[9]) (by kernel_rfl) (by simp) ?_
 refine AllReadyH.cons rfl (fun K hK=>?_) AllReadyH.nil
 go_simp
 refine (Zdf _ q la ca A (hA.below B3) hl3).mono ?_
 rintro e w4 ⟨rfl,h4,b4⟩
 have B4:Below w.heap.size w w4:=Zal B3 b4
 have X4:w4.heap[w.heap.size]?=some (.cells #[.int .i64 N,.slice p ls cs,.slice q la ca] 35):=(b4.block _ Z3).trans X3
 have Z4:w.heap.size<w4.heap.size:=(Ja.1 X4).1
 have hS4:(fun W':World=>W'.cell? ⟨w.heap.size,1,none⟩=some (.slice p ls cs)∧W'.cell? ⟨w.heap.size,2,none⟩=some (.slice q la ca)) w4:=⟨by simp [World.cell?,X4],by simp [World.cell?,X4]⟩
 refine hK.out _ _ hS4 (fun _=>?_)
 clear hK K
 refine tkH (v:=?_) 10 17 hS4 ?_ ?_; rotate_left 1
 ·(rintro w ⟨e1,e2⟩; go_simp; try with_reducible rfl)
 simp only [Act.put,Jh,Ji,Jj]
 refine wpAnyH_ready (rs:=[11]) (by kernel_rfl) (by simp) ?_
 refine AllReadyH.cons rfl (fun K hK=>?_) AllReadyH.nil
 go_simp
 obtain ⟨W5,hW5⟩:∃ W5,w4.alloc (.cells #[.slice (some ⟨W1.heap.size,0,none⟩) (ls+8) (ls+8),.slice (some ⟨w1.heap.size,0,none⟩) (lf+8) (lf+8),.slice (some ⟨w2.heap.size,0,none⟩) (lp+8) (lp+8),.slice (some ⟨w3.heap.size,0,none⟩) (la+8) (la+8)] 67)=W5:=⟨_,rfl⟩
 have b5:Below w4.heap.size w4 W5:=by rw [← hW5]; exact (Jd _ _).alloc (Jb _) _
 have hc5:W5.heap[w4.heap.size]?=some (.cells #[.slice (some ⟨W1.heap.size,0,none⟩) (ls+8) (ls+8),.slice (some ⟨w1.heap.size,0,none⟩) (lf+8) (lf+8),.slice (some ⟨w2.heap.size,0,none⟩) (lp+8) (lp+8),.slice (some ⟨w3.heap.size,0,none⟩) (la+8) (la+8)] 67):=by rw [← hW5]; exact heap_alloc_new w4 _
 have X5:W5.heap[w.heap.size]?=some (.cells #[.int .i64 N,.slice p ls cs,.slice q la ca] 35):=(b5.block _ Z4).trans X4
 have hS5:(fun W':World=>W'.cell? ⟨w.heap.size,1,none⟩=some (.slice p ls cs)∧W'.cell? ⟨w.heap.size,2,none⟩=some (.slice q la ca)) W5:=⟨by simp [World.cell?,X5],by simp [World.cell?,X5]⟩
 rw [hW5]
 refine hK.out _ _ hS5 (fun _=>?_)
 clear hK K hW5
 refine tkH (v:=?_) 12 6 hS5 ?_ ?_; rotate_left 1
 ·(rintro w ⟨e1,e2⟩; go_simp; try with_reducible rfl)
 simp only [Act.put,Jh,Ji,Jj]
 refine wpAnyH_done (by kernel_rfl) ?_ _
 have HL:=Zan (Jc h1 (Jc h2 (Jc h3 h4)))
 clear hS0 hS1 hS2 hS3 hS4 hS5 X0 X1 X2 X3 X4 X5 h1 h2 h3 h4
 go_wp2_with fail
 go_ret
 obtain ⟨h1,h2,h3,c4,h4⟩:=HL.out
 have l1:=h1.lt
 have l2:=h2.lt
 have l3:=h3.lt
 have l4:=h4.lt
 have b345:=Zal b3 (Zal b4 b5)
 have b45:=Zal b4 b5
 exact ⟨w4.heap.size,W1.heap.size,w1.heap.size,w2.heap.size,w3.heap.size,c4,rfl,Zal B4 b5,hc5,h1.below (Zal b2 b345),h2.below b345,h3.below b45,h4.move (b5.block _ l4),Z0,l1,l2,l3,l4⟩
end
section
open Go.RowKit
theorem ZfJ (w:World)(N:Int)(p q:Option Addr)(ls cs la ca lb g0 g1 g2 g3 l1 l2:Nat)(hlb:w.heap[lb]?=some (.cells #[.slice (some ⟨g0,0,none⟩) (ls+8) (ls+8),.slice (some ⟨g1,0,none⟩) l1 l1,.slice (some ⟨g2,0,none⟩) l2 l2,.slice (some ⟨g3,0,none⟩) (la+8) (la+8)] 67)) :
  Calls Tryz.prog 23 #[.pointer (some ⟨lb,0,none⟩),.agg #[.int .i64 N,.slice p ls cs,.slice q la ca]] w fun e w'=>e=.returned (.agg #[.int .i64 N,.slice (some ⟨g0,0,none⟩) ls (ls+8),.slice (some ⟨g3,0,none⟩) la (la+8)])∧Below w.heap.size w w':=by
 obtain ⟨W1,hW1⟩:∃ W1,(w.alloc (.cells #[.int .i64 N,.slice p ls cs,.slice q la ca] 35)).alloc (.cells #[.int .i64 0,.slice none 0 0,.slice none 0 0] 35)=W1:=⟨_,rfl⟩
 have hll:lb<w.heap.size:=(Ja.1 hlb).1
 have B0:Below w.heap.size w W1:=by rw [← hW1]; exact ((Jd _ _).alloc (Jb _) _).alloc (by simp) _
 have X0:W1.heap[w.heap.size]?=some (.cells #[.int .i64 N,.slice p ls cs,.slice q la ca] 35):=by
  rw [← hW1,Below.heap_alloc _ _ _ (by simp)]
  exact heap_alloc_new w _
 have X1:W1.heap[w.heap.size+1]?=some (.cells #[.int .i64 0,.slice none 0 0,.slice none 0 0] 35):=by
  have:=heap_alloc_new (w.alloc (.cells #[.int .i64 N,.slice p ls cs,.slice q la ca] 35)) (.cells #[.int .i64 0,.slice none 0 0,.slice none 0 0] 35)
  rw [hW1] at this
  simpa using this
 have X2:=(B0.block lb hll).trans hlb
 have s0:W1.cell? ⟨w.heap.size,0,none⟩=some (.int .i64 N):=by simp [World.cell?,X0]
 have s1:W1.cell? ⟨w.heap.size,1,none⟩=some (.slice p ls cs):=by simp [World.cell?,X0]
 have s2:W1.cell? ⟨w.heap.size,2,none⟩=some (.slice q la ca):=by simp [World.cell?,X0]
 have s3:W1.cell? ⟨lb,0,none⟩=some (.slice (some ⟨g0,0,none⟩) (ls+8) (ls+8)):=by simp [World.cell?,X2]
 have s4:W1.cell? ⟨lb,3,none⟩=some (.slice (some ⟨g3,0,none⟩) (la+8) (la+8)):=by simp [World.cell?,X2]
 have hS0:(fun W':World=>W'.cell? ⟨w.heap.size,0,none⟩=some (.int .i64 N)∧W'.cell? ⟨w.heap.size,1,none⟩=some (.slice p ls cs)∧W'.cell? ⟨w.heap.size,2,none⟩=some (.slice q la ca)∧W'.cell? ⟨lb,0,none⟩=some (.slice (some ⟨g0,0,none⟩) (ls+8) (ls+8))∧W'.cell? ⟨lb,3,none⟩=some (.slice (some ⟨g3,0,none⟩) (la+8) (la+8))) W1.drew:=⟨s0,s1,s2,s3,s4⟩
 have hc0:(ls:Int)≤(ls:Int)+8:=by omega
 have hc3:(la:Int)≤(la:Int)+8:=by omega
 have r0:W1.cell? ⟨w.heap.size+1,0,none⟩=some (.int .i64 0):=by simp [World.cell?,X1]
 have r1:W1.cell? ⟨w.heap.size+1,1,none⟩=some (.slice none 0 0):=by simp [World.cell?,X1]
 have r2:W1.cell? ⟨w.heap.size+1,2,none⟩=some (.slice none 0 0):=by simp [World.cell?,X1]
 have f0:W1.frozen? ⟨w.heap.size+1,0,none⟩=false:=by simp [World.frozen?,X1]
 have f1:W1.frozen? ⟨w.heap.size+1,1,none⟩=false:=by simp [World.frozen?,X1]
 have f2:W1.frozen? ⟨w.heap.size+1,2,none⟩=false:=by simp [World.frozen?,X1]
 have H1:=Zan (Jc hW1 (Jc B0 (Jc X0 (Jc X1 X2))))
 clear hW1 B0 X0 X1 X2 hlb s0 s1 s2 s3 s4
 go_enter Tryz.func23,Tryz.ntmps23
 go_wp2_with fail
 rw [H1.out.1]
 refine wp_region_held_drew (S:=fun W':World=>W'.cell? ⟨w.heap.size,0,none⟩=some (.int .i64 N)∧W'.cell? ⟨w.heap.size,1,none⟩=some (.slice p ls cs)∧W'.cell? ⟨w.heap.size,2,none⟩=some (.slice q la ca)∧W'.cell? ⟨lb,0,none⟩=some (.slice (some ⟨g0,0,none⟩) (ls+8) (ls+8))∧W'.cell? ⟨lb,3,none⟩=some (.slice (some ⟨g3,0,none⟩) (la+8) (la+8))) (by kernel_rfl) hS0 (fun _=>?_)
 refine tkH (v:=?_) 0 5 hS0 ?_ ?_; rotate_left 1
 ·(rintro w ⟨e0,e1,e2,e3,e4⟩; go_simp; try with_reducible rfl)
 simp only [Act.put,Jh,Ji,Jj]
 refine tkH (v:=?_) 1 6 hS0 ?_ ?_; rotate_left 1
 ·(rintro w ⟨e0,e1,e2,e3,e4⟩; go_simp; try with_reducible rfl)
 simp only [Act.put,Jh,Ji,Jj]
 refine tkH (v:=?_) 2 7 hS0 ?_ ?_; rotate_left 1
 ·(rintro w ⟨e0,e1,e2,e3,e4⟩; go_simp; try with_reducible rfl)
 simp only [Act.put,Jh,Ji,Jj]
 refine tkH (v:=?_) 3 8 hS0 ?_ ?_; rotate_left 1
 ·(rintro w ⟨e0,e1,e2,e3,e4⟩; go_simp; try with_reducible rfl)
 simp only [Act.put,Jh,Ji,Jj]
 refine tkH (v:=?_) 4 9 hS0 ?_ ?_; rotate_left 1
 ·(rintro w ⟨e0,e1,e2,e3,e4⟩; go_simp; try with_reducible rfl)
 simp only [Act.put,Jh,Ji,Jj]
 refine tkH (v:=?_) 5 10 hS0 ?_ ?_; rotate_left 1
 ·(rintro w ⟨e0,e1,e2,e3,e4⟩; go_simp; try with_reducible rfl)
 simp only [Act.put,Jh,Ji,Jj]
 refine tkH (v:=?_) 6 11 hS0 ?_ ?_; rotate_left 1
 ·(rintro w ⟨e0,e1,e2,e3,e4⟩; go_simp; try with_reducible rfl)
 simp only [Act.put,Jh,Ji,Jj]
 refine tkH (v:=?_) 7 12 hS0 ?_ ?_; rotate_left 1
 ·(rintro w ⟨e0,e1,e2,e3,e4⟩; go_simp; try with_reducible rfl)
 simp only [Act.put,Jh,Ji,Jj]
 refine tkH (v:=?_) 8 13 hS0 ?_ ?_; rotate_left 1
 ·(rintro w ⟨e0,e1,e2,e3,e4⟩; go_simp; try with_reducible rfl)
 simp only [Act.put,Jh,Ji,Jj]
 refine tkH (v:=?_) 9 14 hS0 ?_ ?_; rotate_left 1
 ·(rintro w ⟨e0,e1,e2,e3,e4⟩; go_simp; try with_reducible rfl)
 simp only [Act.put,Jh,Ji,Jj]
 refine tkH (v:=?_) 10 15 hS0 ?_ ?_; rotate_left 1
 ·(rintro w ⟨e0,e1,e2,e3,e4⟩; go_simp; try with_reducible rfl)
 simp only [Act.put,Jh,Ji,Jj]
 refine tkH (v:=?_) 11 16 hS0 ?_ ?_; rotate_left 1
 ·(rintro w ⟨e0,e1,e2,e3,e4⟩; go_simp; try with_reducible rfl)
 simp only [Act.put,Jh,Ji,Jj]
 refine tkH (v:=?_) 12 17 hS0 ?_ ?_; rotate_left 1
 ·(rintro w ⟨e0,e1,e2,e3,e4⟩; go_simp; try with_reducible rfl)
 simp only [Act.put,Jh,Ji,Jj]
 refine tkH (v:=?_) 13 18 hS0 ?_ ?_; rotate_left 1
 ·(rintro w ⟨e0,e1,e2,e3,e4⟩; go_simp; try with_reducible rfl)
 simp only [Act.put,Jh,Ji,Jj]
 refine tkH (v:=?_) 14 19 hS0 ?_ ?_; rotate_left 1
 ·(rintro w ⟨e0,e1,e2,e3,e4⟩; go_simp; try with_reducible rfl)
 simp only [Act.put,Jh,Ji,Jj]
 refine tkH (v:=?_) 15 20 hS0 ?_ ?_; rotate_left 1
 ·(rintro w ⟨e0,e1,e2,e3,e4⟩; go_simp; try with_reducible rfl)
 simp only [Act.put,Jh,Ji,Jj]
 refine tkH (v:=?_) 16 21 hS0 ?_ ?_; rotate_left 1
 ·(rintro w ⟨e0,e1,e2,e3,e4⟩; go_simp; try with_reducible rfl)
 simp only [Act.put,Jh,Ji,Jj]
 refine tkH (v:=?_) 17 22 hS0 ?_ ?_; rotate_left 1
 ·(rintro w ⟨e0,e1,e2,e3,e4⟩; go_simp; try with_reducible rfl)
 simp only [Act.put,Jh,Ji,Jj]
 refine tkH (v:=?_) 18 23 hS0 ?_ ?_; rotate_left 1
 ·(rintro w ⟨e0,e1,e2,e3,e4⟩; go_simp; try with_reducible rfl)
 simp only [Act.put,Jh,Ji,Jj]
 refine wpAnyH_ready (rs:=[19]) (by kernel_rfl) (by simp) ?_
 refine AllReadyH.cons rfl (fun K hK=>?_) AllReadyH.nil
 go_simp
 obtain ⟨Z,hZ⟩:∃ Z,(((W1.setCell ⟨w.heap.size+1,0,none⟩ (.int .i64 N)).setCell ⟨w.heap.size+1,1,none⟩ (.slice (some ⟨g0,0,none⟩) ls (ls+8))).setCell ⟨w.heap.size+1,2,none⟩ (.slice (some ⟨g3,0,none⟩) la (la+8))).drew=Z:=⟨_,rfl⟩
 have hzc:Z.heap[w.heap.size+1]?=some (.cells #[.int .i64 N,.slice (some ⟨g0,0,none⟩) ls (ls+8),.slice (some ⟨g3,0,none⟩) la (la+8)] 35):=by
  rw [← hZ]
  show (((W1.setCell _ _).setCell _ _).setCell _ _).heap[w.heap.size+1]?=_
  simp [World.setCell,Array.getElem?_modify,H1.out.2.2.2.1]
 have mvZ:∀ b,b≠w.heap.size+1→Z.heap[b]?=W1.heap[b]?:=fun b hb=>by
  rw [← hZ]
  show (((W1.setCell _ _).setCell _ _).setCell _ _).heap[b]?=_
  rw [Below.heap_setCell _ ⟨w.heap.size+1,2,none⟩ _ b (by simpa using hb),Below.heap_setCell _ ⟨w.heap.size+1,1,none⟩ _ b (by simpa using hb),Below.heap_setCell _ ⟨w.heap.size+1,0,none⟩ _ b (by simpa using hb)]
 have hbZ:Below w.heap.size w Z:=by
  rw [← hZ]
  exact (((H1.out.2.1.setCell (p:=⟨w.heap.size+1,0,none⟩) (by simp) _).setCell (p:=⟨w.heap.size+1,1,none⟩) (by simp) _).setCell (p:=⟨w.heap.size+1,2,none⟩) (by simp) _).drew
 have mc:∀ b o,b≠w.heap.size+1→Z.cell? ⟨b,o,none⟩=W1.drew.cell? ⟨b,o,none⟩:=fun b o hb=>by
  show Z.cell? _=W1.cell? _
  simp only [World.cell?,mvZ b hb]
 have hS5:(fun W':World=>W'.cell? ⟨w.heap.size,0,none⟩=some (.int .i64 N)∧W'.cell? ⟨w.heap.size,1,none⟩=some (.slice p ls cs)∧W'.cell? ⟨w.heap.size,2,none⟩=some (.slice q la ca)∧W'.cell? ⟨lb,0,none⟩=some (.slice (some ⟨g0,0,none⟩) (ls+8) (ls+8))∧W'.cell? ⟨lb,3,none⟩=some (.slice (some ⟨g3,0,none⟩) (la+8) (la+8))) Z:=⟨(mc _ _ (by omega)).trans hS0.1,(mc _ _ (by omega)).trans hS0.2.1,(mc _ _ (by omega)).trans hS0.2.2.1,(mc _ _ (by omega)).trans hS0.2.2.2.1,(mc _ _ (by omega)).trans hS0.2.2.2.2⟩
 have z0:Z.cell? ⟨w.heap.size+1,0,none⟩=some (.int .i64 N):=by simp [World.cell?,hzc]
 have z1:Z.cell? ⟨w.heap.size+1,1,none⟩=some (.slice (some ⟨g0,0,none⟩) ls (ls+8)):=by simp [World.cell?,hzc]
 have z2:Z.cell? ⟨w.heap.size+1,2,none⟩=some (.slice (some ⟨g3,0,none⟩) la (la+8)):=by simp [World.cell?,hzc]
 rw [hZ]
 refine hK.out _ _ hS5 (fun _=>?_)
 clear hK K hZ mc mvZ hS0 hS5 r0 r1 r2 f0 f1 f2
 refine wpAnyH_done (by kernel_rfl) ?_ _
 go_wp2_with fail
 exact bodyPost_ret (v:=.agg #[.int .i64 N,.slice (some ⟨g0,0,none⟩) ls (ls+8),.slice (some ⟨g3,0,none⟩) la (la+8)]) (by simp [results,Tryz.f23,go_sem,z0,z1,z2]) rfl ⟨rfl,hbZ⟩
end
section
open Go.RowKit
section
variable {w W W':World}{lb g0 g1 g2 g3 ls lf lp la:Nat}{S F P:Nat→Int}{A:Nat→Ar}{cs:Array Value}
theorem Loan.lt (h:Loan w W lb g0 g1 g2 g3 ls lf lp la S F P A cs):lb<W.heap.size:=(Ja.1 h.cells).1
theorem Loan.keep (h:Loan w W lb g0 g1 g2 g3 ls lf lp la S F P A cs)(hb:Below W.heap.size W W'):Loan w W' lb g0 g1 g2 g3 ls lf lp la S F P A cs :=
 ⟨Zal h.below hb,(hb.block _ h.lt).trans h.cells,h.supply.below hb,h.flow.below hb,h.prices.below hb,h.arcs.move (hb.block _ h.arcs.lt),h.ord⟩
theorem Loan.c0 (h:Loan w W lb g0 g1 g2 g3 ls lf lp la S F P A cs):W.cell? ⟨lb,0,none⟩=some (.slice (some ⟨g0,0,none⟩) (ls+8) (ls+8)):=by simp [World.cell?,h.cells]
theorem Loan.c1 (h:Loan w W lb g0 g1 g2 g3 ls lf lp la S F P A cs):W.cell? ⟨lb,1,none⟩=some (.slice (some ⟨g1,0,none⟩) (lf+8) (lf+8)):=by simp [World.cell?,h.cells]
theorem Loan.c2 (h:Loan w W lb g0 g1 g2 g3 ls lf lp la S F P A cs):W.cell? ⟨lb,2,none⟩=some (.slice (some ⟨g2,0,none⟩) (lp+8) (lp+8)):=by simp [World.cell?,h.cells]
theorem Loan.c3 (h:Loan w W lb g0 g1 g2 g3 ls lf lp la S F P A cs):W.cell? ⟨lb,3,none⟩=some (.slice (some ⟨g3,0,none⟩) (la+8) (la+8)):=by simp [World.cell?,h.cells]
end
theorem Zhd (w0 w:World)(N:Int)(p q r s:Option Addr)(ls cs la ca lf cf lp cp lb g0 g1 g2 g3:Nat)(S F P:Nat→Int)(A:Nat→Ar)(cs':Array Value)(L:Loan w0 w lb g0 g1 g2 g3 ls lf lp la S F P A cs')(hS:Ints w p ls S)(hA:Arcs w q la A)(hF:Ints w r lf F)(hP:Ints w s lp P)
  (hl0:ls*8≤140737488351232) (hl1:lf*8≤140737488351232) (hl2:lp*8≤140737488351232) (hl3:la*32≤140737488351232) :
  Calls Tryz.prog 24 #[.pointer (some ⟨lb,0,none⟩),.agg #[.int .i64 N,.slice p ls cs,.slice q la ca],.slice r lf cf,.slice s lp cp] w fun e w'=>e=.returned (.bool true)∧Below w.heap.size w w':=by
 obtain ⟨W1,hW1⟩:∃ W1,w.alloc (.cells #[.int .i64 N,.slice p ls cs,.slice q la ca] 35)=W1:=⟨_,rfl⟩
 have b1:Below w.heap.size w W1:=by rw [← hW1]; exact (Jd _ _).alloc (Jb _) _
 have X1:W1.heap[w.heap.size]?=some (.cells #[.int .i64 N,.slice p ls cs,.slice q la ca] 35):=by rw [← hW1]; exact heap_alloc_new w _
 have Z1:w.heap.size<W1.heap.size:=(Ja.1 X1).1
 have L1:=L.keep b1
 have H1:=Zan hW1
 clear hW1
 go_enter Tryz.func24,Tryz.ntmps24
 go_wp2_with fail
 rw [H1.out]
 have L1a:Loan w0 W1.drew lb g0 g1 g2 g3 ls lf lp la S F P A cs':=L1.keep (Jd _ _).drew
 have X1a:W1.drew.heap[w.heap.size]?=some (.cells #[.int .i64 N,.slice p ls cs,.slice q la ca] 35):=X1
 have x1a:W1.cell? ⟨w.heap.size,1,none⟩=some (.slice p ls cs):=by simp [World.cell?,X1]
 have hS1a:(fun W':World=>W'.cell? ⟨lb,0,none⟩=some (.slice (some ⟨g0,0,none⟩) (ls+8) (ls+8))∧W'.cell? ⟨lb,1,none⟩=some (.slice (some ⟨g1,0,none⟩) (lf+8) (lf+8))∧W'.cell? ⟨lb,2,none⟩=some (.slice (some ⟨g2,0,none⟩) (lp+8) (lp+8))∧W'.cell? ⟨w.heap.size,1,none⟩=some (.slice p ls cs)) W1.drew:=⟨L1a.c0,L1a.c1,L1a.c2,x1a⟩
 refine wp_region_held_drew (S:=fun W':World=>W'.cell? ⟨lb,0,none⟩=some (.slice (some ⟨g0,0,none⟩) (ls+8) (ls+8))∧W'.cell? ⟨lb,1,none⟩=some (.slice (some ⟨g1,0,none⟩) (lf+8) (lf+8))∧W'.cell? ⟨lb,2,none⟩=some (.slice (some ⟨g2,0,none⟩) (lp+8) (lp+8))∧W'.cell? ⟨w.heap.size,1,none⟩=some (.slice p ls cs)) (by kernel_rfl) hS1a (fun _=>?_)
 refine tkH (v:=?_) 0 14 hS1a ?_ ?_; rotate_left 1
 ·(rintro w ⟨e0,e1,e2,e3⟩; go_simp; try with_reducible rfl)
 simp only [Act.put,Jh,Ji,Jj]
 refine tkH (v:=?_) 1 15 hS1a ?_ ?_; rotate_left 1
 ·(rintro w ⟨e0,e1,e2,e3⟩; go_simp; try with_reducible rfl)
 simp only [Act.put,Jh,Ji,Jj]
 refine tkH (v:=?_) 2 16 hS1a ?_ ?_; rotate_left 1
 ·(rintro w ⟨e0,e1,e2,e3⟩; go_simp; try with_reducible rfl)
 simp only [Act.put,Jh,Ji,Jj]
 refine tkH (v:=?_) 3 17 hS1a ?_ ?_; rotate_left 1
 ·(rintro w ⟨e0,e1,e2,e3⟩; go_simp; try with_reducible rfl)
 simp only [Act.put,Jh,Ji,Jj]
 refine tkH (v:=?_) 4 18 hS1a ?_ ?_; rotate_left 1
 ·(rintro w ⟨e0,e1,e2,e3⟩; go_simp; try with_reducible rfl)
 simp only [Act.put,Jh,Ji,Jj]
 refine tkH (v:=?_) 5 19 hS1a ?_ ?_; rotate_left 1
 ·(rintro w ⟨e0,e1,e2,e3⟩; go_simp; try with_reducible rfl)
 simp only [Act.put,Jh,Ji,Jj]
 refine wpAnyH_ready (rs:=[6]) (by kernel_rfl) (by simp) ?_
 refine AllReadyH.cons rfl (fun K hK=>?_) AllReadyH.nil
 go_simp
 refine (Zbl _ p ls cs S (hS.below (Zal b1 (Jd _ _).drew)) hl0).mono ?_
 rintro e wa ⟨rfl,h1,b1b⟩
 have L1b:=L1a.keep b1b
 have X1b:=(b1b.block _ (show w.heap.size<W1.drew.heap.size from Z1)).trans X1a
 have Z1b:w.heap.size<wa.heap.size:=(Ja.1 X1b).1
 have x1b:wa.cell? ⟨w.heap.size,1,none⟩=some (.slice p ls cs):=by simp [World.cell?,X1b]
 have hS1b:(fun W':World=>W'.cell? ⟨lb,0,none⟩=some (.slice (some ⟨g0,0,none⟩) (ls+8) (ls+8))∧W'.cell? ⟨lb,1,none⟩=some (.slice (some ⟨g1,0,none⟩) (lf+8) (lf+8))∧W'.cell? ⟨lb,2,none⟩=some (.slice (some ⟨g2,0,none⟩) (lp+8) (lp+8))∧W'.cell? ⟨w.heap.size,1,none⟩=some (.slice p ls cs)) wa:=⟨L1b.c0,L1b.c1,L1b.c2,x1b⟩
 refine hK.out _ _ hS1b (fun _=>?_)
 clear hK K
 refine wpAnyH_ready (rs:=[7]) (by kernel_rfl) (by simp) ?_
 refine AllReadyH.cons rfl (fun K hK=>?_) AllReadyH.nil
 go_simp
 refine (ZbP _ _ _ _ _ _ (lentF ls S) L1b.supply.ints h1.ints (by omega)).mono ?_
 rintro e w2 ⟨rfl,b1c⟩
 have L2:=L1b.keep b1c
 have X2:=(b1c.block _ Z1b).trans X1b
 have Z2:w.heap.size<w2.heap.size:=(Ja.1 X2).1
 have x1c:w2.cell? ⟨w.heap.size,1,none⟩=some (.slice p ls cs):=by simp [World.cell?,X2]
 have hS1c:(fun W':World=>W'.cell? ⟨lb,0,none⟩=some (.slice (some ⟨g0,0,none⟩) (ls+8) (ls+8))∧W'.cell? ⟨lb,1,none⟩=some (.slice (some ⟨g1,0,none⟩) (lf+8) (lf+8))∧W'.cell? ⟨lb,2,none⟩=some (.slice (some ⟨g2,0,none⟩) (lp+8) (lp+8))∧W'.cell? ⟨w.heap.size,1,none⟩=some (.slice p ls cs)) w2:=⟨L2.c0,L2.c1,L2.c2,x1c⟩
 refine hK.out _ _ hS1c (fun _=>?_)
 clear hK K
 refine tkH (v:=?_) 8 9 hS1c ?_ ?_; rotate_left 1
 ·(rintro w ⟨e0,e1,e2,e3⟩; go_simp; try with_reducible rfl)
 simp only [Act.put,Jh,Ji,Jj]
 refine wpAnyH_done (by kernel_rfl) ?_ _
 have b2:Below w.heap.size w w2:=Zal (Zal (Zal b1 (Jd _ _).drew) b1b) b1c
 clear hS1a hS1b hS1c x1a x1b x1c X1a X1b L1a L1b h1 b1b b1c Z1b
 go_upto_region 2 with fail
 have L2a:Loan w0 w2.drew lb g0 g1 g2 g3 ls lf lp la S F P A cs':=L2.keep (Jd _ _).drew
 have X2a:w2.drew.heap[w.heap.size]?=some (.cells #[.int .i64 N,.slice p ls cs,.slice q la ca] 35):=X2
 have x2a:w2.cell? ⟨w.heap.size,1,none⟩=some (.slice p ls cs):=by simp [World.cell?,X2]
 have hS2a:(fun W':World=>W'.cell? ⟨lb,0,none⟩=some (.slice (some ⟨g0,0,none⟩) (ls+8) (ls+8))∧W'.cell? ⟨lb,1,none⟩=some (.slice (some ⟨g1,0,none⟩) (lf+8) (lf+8))∧W'.cell? ⟨lb,2,none⟩=some (.slice (some ⟨g2,0,none⟩) (lp+8) (lp+8))∧W'.cell? ⟨w.heap.size,1,none⟩=some (.slice p ls cs)) w2.drew:=⟨L2a.c0,L2a.c1,L2a.c2,x2a⟩
 refine wp_region_held_drew (S:=fun W':World=>W'.cell? ⟨lb,0,none⟩=some (.slice (some ⟨g0,0,none⟩) (ls+8) (ls+8))∧W'.cell? ⟨lb,1,none⟩=some (.slice (some ⟨g1,0,none⟩) (lf+8) (lf+8))∧W'.cell? ⟨lb,2,none⟩=some (.slice (some ⟨g2,0,none⟩) (lp+8) (lp+8))∧W'.cell? ⟨w.heap.size,1,none⟩=some (.slice p ls cs)) (by kernel_rfl) hS2a (fun _=>?_)
 refine tkH (v:=?_) 0 22 hS2a ?_ ?_; rotate_left 1
 ·(rintro w ⟨e0,e1,e2,e3⟩; go_simp; try with_reducible rfl)
 simp only [Act.put,Jh,Ji,Jj]
 refine tkH (v:=?_) 1 23 hS2a ?_ ?_; rotate_left 1
 ·(rintro w ⟨e0,e1,e2,e3⟩; go_simp; try with_reducible rfl)
 simp only [Act.put,Jh,Ji,Jj]
 refine tkH (v:=?_) 2 24 hS2a ?_ ?_; rotate_left 1
 ·(rintro w ⟨e0,e1,e2,e3⟩; go_simp; try with_reducible rfl)
 simp only [Act.put,Jh,Ji,Jj]
 refine tkH (v:=?_) 3 25 hS2a ?_ ?_; rotate_left 1
 ·(rintro w ⟨e0,e1,e2,e3⟩; go_simp; try with_reducible rfl)
 simp only [Act.put,Jh,Ji,Jj]
 refine tkH (v:=?_) 4 26 hS2a ?_ ?_; rotate_left 1
 ·(rintro w ⟨e0,e1,e2,e3⟩; go_simp; try with_reducible rfl)
 simp only [Act.put,Jh,Ji,Jj]
 refine wpAnyH_ready (rs:=[5]) (by kernel_rfl) (by simp) ?_
 refine AllReadyH.cons rfl (fun K hK=>?_) AllReadyH.nil
 go_simp
 refine (Zbl _ r lf cf F (hF.below (Zal b2 (Jd _ _).drew)) hl1).mono ?_
 rintro e wa ⟨rfl,h2,b2b⟩
 have L2b:=L2a.keep b2b
 have X2b:=(b2b.block _ (show w.heap.size<w2.drew.heap.size from Z2)).trans X2a
 have Z2b:w.heap.size<wa.heap.size:=(Ja.1 X2b).1
 have x2b:wa.cell? ⟨w.heap.size,1,none⟩=some (.slice p ls cs):=by simp [World.cell?,X2b]
 have hS2b:(fun W':World=>W'.cell? ⟨lb,0,none⟩=some (.slice (some ⟨g0,0,none⟩) (ls+8) (ls+8))∧W'.cell? ⟨lb,1,none⟩=some (.slice (some ⟨g1,0,none⟩) (lf+8) (lf+8))∧W'.cell? ⟨lb,2,none⟩=some (.slice (some ⟨g2,0,none⟩) (lp+8) (lp+8))∧W'.cell? ⟨w.heap.size,1,none⟩=some (.slice p ls cs)) wa:=⟨L2b.c0,L2b.c1,L2b.c2,x2b⟩
 refine hK.out _ _ hS2b (fun _=>?_)
 clear hK K
 refine wpAnyH_ready (rs:=[6]) (by kernel_rfl) (by simp) ?_
 refine AllReadyH.cons rfl (fun K hK=>?_) AllReadyH.nil
 go_simp
 refine (ZbP _ _ _ _ _ _ (lentF lf F) L2b.flow.ints h2.ints (by omega)).mono ?_
 rintro e w3 ⟨rfl,b2c⟩
 have L3:=L2b.keep b2c
 have X3:=(b2c.block _ Z2b).trans X2b
 have Z3:w.heap.size<w3.heap.size:=(Ja.1 X3).1
 have x2c:w3.cell? ⟨w.heap.size,1,none⟩=some (.slice p ls cs):=by simp [World.cell?,X3]
 have hS2c:(fun W':World=>W'.cell? ⟨lb,0,none⟩=some (.slice (some ⟨g0,0,none⟩) (ls+8) (ls+8))∧W'.cell? ⟨lb,1,none⟩=some (.slice (some ⟨g1,0,none⟩) (lf+8) (lf+8))∧W'.cell? ⟨lb,2,none⟩=some (.slice (some ⟨g2,0,none⟩) (lp+8) (lp+8))∧W'.cell? ⟨w.heap.size,1,none⟩=some (.slice p ls cs)) w3:=⟨L3.c0,L3.c1,L3.c2,x2c⟩
 refine hK.out _ _ hS2c (fun _=>?_)
 clear hK K
 refine tkH (v:=?_) 7 10 hS2c ?_ ?_; rotate_left 1
 ·(rintro w ⟨e0,e1,e2,e3⟩; go_simp; try with_reducible rfl)
 simp only [Act.put,Jh,Ji,Jj]
 refine wpAnyH_done (by kernel_rfl) ?_ _
 have b3:Below w.heap.size w w3:=Zal (Zal (Zal b2 (Jd _ _).drew) b2b) b2c
 clear hS2a hS2b hS2c x2a x2b x2c X2a X2b L2a L2b h2 b2b b2c Z2b
 go_upto_region 3 with fail
 have L3a:Loan w0 w3.drew lb g0 g1 g2 g3 ls lf lp la S F P A cs':=L3.keep (Jd _ _).drew
 have X3a:w3.drew.heap[w.heap.size]?=some (.cells #[.int .i64 N,.slice p ls cs,.slice q la ca] 35):=X3
 have x3a:w3.cell? ⟨w.heap.size,1,none⟩=some (.slice p ls cs):=by simp [World.cell?,X3]
 have hS3a:(fun W':World=>W'.cell? ⟨lb,0,none⟩=some (.slice (some ⟨g0,0,none⟩) (ls+8) (ls+8))∧W'.cell? ⟨lb,1,none⟩=some (.slice (some ⟨g1,0,none⟩) (lf+8) (lf+8))∧W'.cell? ⟨lb,2,none⟩=some (.slice (some ⟨g2,0,none⟩) (lp+8) (lp+8))∧W'.cell? ⟨w.heap.size,1,none⟩=some (.slice p ls cs)) w3.drew:=⟨L3a.c0,L3a.c1,L3a.c2,x3a⟩
 refine wp_region_held_drew (S:=fun W':World=>W'.cell? ⟨lb,0,none⟩=some (.slice (some ⟨g0,0,none⟩) (ls+8) (ls+8))∧W'.cell? ⟨lb,1,none⟩=some (.slice (some ⟨g1,0,none⟩) (lf+8) (lf+8))∧W'.cell? ⟨lb,2,none⟩=some (.slice (some ⟨g2,0,none⟩) (lp+8) (lp+8))∧W'.cell? ⟨w.heap.size,1,none⟩=some (.slice p ls cs)) (by kernel_rfl) hS3a (fun _=>?_)
 refine tkH (v:=?_) 0 29 hS3a ?_ ?_; rotate_left 1
 ·(rintro w ⟨e0,e1,e2,e3⟩; go_simp; try with_reducible rfl)
 simp only [Act.put,Jh,Ji,Jj]
 refine tkH (v:=?_) 1 30 hS3a ?_ ?_; rotate_left 1
 ·(rintro w ⟨e0,e1,e2,e3⟩; go_simp; try with_reducible rfl)
 simp only [Act.put,Jh,Ji,Jj]
 refine tkH (v:=?_) 2 31 hS3a ?_ ?_; rotate_left 1
 ·(rintro w ⟨e0,e1,e2,e3⟩; go_simp; try with_reducible rfl)
 simp only [Act.put,Jh,Ji,Jj]
 refine tkH (v:=?_) 3 32 hS3a ?_ ?_; rotate_left 1
 ·(rintro w ⟨e0,e1,e2,e3⟩; go_simp; try with_reducible rfl)
 simp only [Act.put,Jh,Ji,Jj]
 refine tkH (v:=?_) 4 33 hS3a ?_ ?_; rotate_left 1
 ·(rintro w ⟨e0,e1,e2,e3⟩; go_simp; try with_reducible rfl)
 simp only [Act.put,Jh,Ji,Jj]
 refine wpAnyH_ready (rs:=[5]) (by kernel_rfl) (by simp) ?_
 refine AllReadyH.cons rfl (fun K hK=>?_) AllReadyH.nil
 go_simp
 refine (Zbl _ s lp cp P (hP.below (Zal b3 (Jd _ _).drew)) hl2).mono ?_
 rintro e wa ⟨rfl,h3,b3b⟩
 have L3b:=L3a.keep b3b
 have X3b:=(b3b.block _ (show w.heap.size<w3.drew.heap.size from Z3)).trans X3a
 have Z3b:w.heap.size<wa.heap.size:=(Ja.1 X3b).1
 have x3b:wa.cell? ⟨w.heap.size,1,none⟩=some (.slice p ls cs):=by simp [World.cell?,X3b]
 have hS3b:(fun W':World=>W'.cell? ⟨lb,0,none⟩=some (.slice (some ⟨g0,0,none⟩) (ls+8) (ls+8))∧W'.cell? ⟨lb,1,none⟩=some (.slice (some ⟨g1,0,none⟩) (lf+8) (lf+8))∧W'.cell? ⟨lb,2,none⟩=some (.slice (some ⟨g2,0,none⟩) (lp+8) (lp+8))∧W'.cell? ⟨w.heap.size,1,none⟩=some (.slice p ls cs)) wa:=⟨L3b.c0,L3b.c1,L3b.c2,x3b⟩
 refine hK.out _ _ hS3b (fun _=>?_)
 clear hK K
 refine wpAnyH_ready (rs:=[6]) (by kernel_rfl) (by simp) ?_
 refine AllReadyH.cons rfl (fun K hK=>?_) AllReadyH.nil
 go_simp
 refine (ZbP _ _ _ _ _ _ (lentF lp P) L3b.prices.ints h3.ints (by omega)).mono ?_
 rintro e w4 ⟨rfl,b3c⟩
 have L4:=L3b.keep b3c
 have X4:=(b3c.block _ Z3b).trans X3b
 have Z4:w.heap.size<w4.heap.size:=(Ja.1 X4).1
 have x3c:w4.cell? ⟨w.heap.size,1,none⟩=some (.slice p ls cs):=by simp [World.cell?,X4]
 have hS3c:(fun W':World=>W'.cell? ⟨lb,0,none⟩=some (.slice (some ⟨g0,0,none⟩) (ls+8) (ls+8))∧W'.cell? ⟨lb,1,none⟩=some (.slice (some ⟨g1,0,none⟩) (lf+8) (lf+8))∧W'.cell? ⟨lb,2,none⟩=some (.slice (some ⟨g2,0,none⟩) (lp+8) (lp+8))∧W'.cell? ⟨w.heap.size,1,none⟩=some (.slice p ls cs)) w4:=⟨L4.c0,L4.c1,L4.c2,x3c⟩
 refine hK.out _ _ hS3c (fun _=>?_)
 clear hK K
 refine tkH (v:=?_) 7 11 hS3c ?_ ?_; rotate_left 1
 ·(rintro w ⟨e0,e1,e2,e3⟩; go_simp; try with_reducible rfl)
 simp only [Act.put,Jh,Ji,Jj]
 refine wpAnyH_done (by kernel_rfl) ?_ _
 have b4:Below w.heap.size w w4:=Zal (Zal (Zal b3 (Jd _ _).drew) b3b) b3c
 clear hS3a hS3b hS3c x3a x3b x3c X3a X3b L3a L3b h3 b3b b3c Z3b
 have x4:w4.cell? ⟨w.heap.size,2,none⟩=some (.slice q la ca):=by simp [World.cell?,X4]
 have hA4:=hA.below b4
 go_wp2_with (go_at_call 50; refine (Zdf _ q la ca A hA4 hl3).mono ?_; rintro e w5 ⟨rfl,⟨csb,hB⟩,b5⟩)
 have L5:=L4.keep b5
 go_loopg [13] (la+8) (fun gk iv wr=>∃ i:Nat,i≤la+8∧la+8 - i≤gk∧iv=.int .i64 i∧Below w5.heap.size w5 wr)
 case atStart=>exact ⟨0,Jq _,Jb _,rfl,Jd _ _⟩
 case' round=>skip
 obtain ⟨i,hi,hgk,rfl,hb⟩:=hrel
 by_cases hlt:i<la+8
 ·have L6:=L5.keep hb
  have hB6:ArcB wr w4.heap.size (la+8) (lentG la A) csb:=hB.move (hb.block _ hB.lt)
  have c3:=L6.c3
  obtain ⟨u0,u1,u2,u3⟩:=L6.arcs.at hlt
  obtain ⟨v0,v1,v2,v3⟩:=hB6.at hlt
  have gl:=L6.arcs.lt
  have gm:=hB6.lt
  have gn:=L6.lt
  have hiI:(i:Int)<(la:Int)+8:=by omega
  have Hb:=Zan hb
  clear hb L6 hB6 L5 hB L4 L3 L2 L1 L
  go_wp2_with fail
  go_quiet (fail)
  go_wp2_with fail
  go_roundg (la+8 - (i+1))
  case measure=>omega
  case rel=>exact ⟨i+1,by omega,Jb _,by go_num,ZaB Hb.out⟩
 ·obtain rfl:i=la+8:=by omega
  go_wp2_with fail
  go_ret
  exact ⟨rfl,Zal (Zal b4 b5) hb⟩
end
section
open Go.RowKit
structure HoldOk (w:World)(hb:Nat)(m:Int)(p q:Option Addr)(n cn k ck:Nat):Prop where
 cells:w.heap[hb]?=some (.cells #[.slice p n cn,.slice q k ck,.int .i64 m] 91)
 ints:∀ i,i<n→∃ sb off p' l c,p=some ⟨sb,off,none⟩∧sb<w.heap.size∧w.cell? ⟨sb,off+i,none⟩=some (.slice p' l c)∧l≤1000000000000000∧Ints w p' l (fun _=>m)
 arcs:∀ i,i<k→∃ sb off p' l c,q=some ⟨sb,off,none⟩∧sb<w.heap.size∧w.cell? ⟨sb,off+i,none⟩=some (.slice p' l c)∧l≤1000000000000000∧Arcs w p' l (fun _=>⟨0,0,0,m⟩)
section
variable {w w':World}{hb n cn k ck:Nat}{m:Int}{p q:Option Addr}
theorem HoldOk.lt (h:HoldOk w hb m p q n cn k ck):hb<w.heap.size:=(Ja.1 h.cells).1
theorem HoldOk.below (h:HoldOk w hb m p q n cn k ck)(hw:Below w.heap.size w w'):HoldOk w' hb m p q n cn k ck:=by
 refine ⟨(hw.block _ h.lt).trans h.cells,fun i hi=>?_,fun i hi=>?_⟩
 ·obtain ⟨sb,off,p',l,c,e,hs,hc,hl,hi'⟩:=h.ints i hi
  exact ⟨sb,off,p',l,c,e,Jm hs hw.size,(hw.cell (p:=⟨sb,off+i,none⟩) hs).trans hc,hl,hi'.below hw⟩
 ·obtain ⟨sb,off,p',l,c,e,hs,hc,hl,hi'⟩:=h.arcs i hi
  exact ⟨sb,off,p',l,c,e,Jm hs hw.size,(hw.cell (p:=⟨sb,off+i,none⟩) hs).trans hc,hl,hi'.below hw⟩
theorem HoldOk.c0 (h:HoldOk w hb m p q n cn k ck):w.cell? ⟨hb,0,none⟩=some (.slice p n cn):=by simp [World.cell?,h.cells]
theorem HoldOk.c1 (h:HoldOk w hb m p q n cn k ck):w.cell? ⟨hb,1,none⟩=some (.slice q k ck):=by simp [World.cell?,h.cells]
theorem HoldOk.c2 (h:HoldOk w hb m p q n cn k ck):w.cell? ⟨hb,2,none⟩=some (.int .i64 m):=by simp [World.cell?,h.cells]
end
theorem ZgP (w:World)(hb n cn k ck:Nat)(m:Int)(p q:Option Addr)(H:HoldOk w hb m p q n cn k ck)(hn:n≤1000000000000000)(hk:k≤1000000000000000) :
  Calls Tryz.prog 20 #[.pointer (some ⟨hb,0,none⟩)] w fun e w'=>e=.returned (.bool true)∧Below w.heap.size w w':=by
 go_enter Tryz.func20,Tryz.ntmps20
 go_wp2_with fail
 go_loopg [3] n (fun gk iv wr=>∃ i:Nat,i≤n∧n - i≤gk∧iv=.int .i64 i∧Below w.heap.size w wr)
 case atStart=>exact ⟨0,Jq _,Jb _,rfl,Jd _ _⟩
 case' round=>skip
 obtain ⟨i,hi,hgk,rfl,hb0⟩:=hrel
 rename World=>W0
 have H0:=H.below hb0
 have z0:=H0.c0
 have z9:=H0.lt
 by_cases hlt:i<n
 ·have hiI:(i:Int)<(n:Int):=by omega
  obtain ⟨sb,off,p',l,c,rfl,hs,hc,hl,hI⟩:=H0.ints i hlt
  have Hb:=Zan hb0
  clear hb0
  go_wp2_with fail
  go_loopg [4] l (fun gk iv wr'=>∃ j:Nat,j≤l∧l - j≤gk∧iv=.int .i64 j∧Below W0.heap.size W0 wr')
  case atStart=>exact ⟨0,Jq _,Jb _,rfl,Jd _ _⟩
  case' round=>skip
  obtain ⟨j,hj,hgk',rfl,hb1⟩:=hrel
  rename World=>W1
  have H1:=H0.below hb1
  have y0:=H1.c0
  have y2:=H1.c2
  have y9:=H1.lt
  have hs1:sb<W1.heap.size:=Jm hs hb1.size
  have hc1:=(hb1.cell (p:=⟨sb,off+i,none⟩) hs).trans hc
  by_cases hlt':j<l
  ·have hjI:(j:Int)<(l:Int):=by omega
   obtain ⟨tb,off',rfl,ht,hcell⟩:=(hI.below hb1).at hlt'
   have Hb1:=Zan hb1
   clear hb1 H1 H0 H hc z0 hI
   go_wp2_with fail
   go_quiet (fail)
   go_wp2_with fail
   go_roundg (l - (j+1))
   case measure=>omega
   case rel=>exact ⟨j+1,by omega,Jb _,by go_num,ZaB Hb1.out⟩
  ·obtain rfl:j=l:=by omega
   have Hb1:=Zan hb1
   clear hb1 H1 H0 H hc z0 hI
   go_wp2_with fail
   go_roundg (n - (i+1))
   case measure=>omega
   case rel=>exact ⟨i+1,by omega,Jb _,by go_num,Zal Hb.out Hb1.out⟩
 ·obtain rfl:i=n:=by omega
  go_wp2_with fail
  go_loopg [5] k (fun gk iv wr=>∃ i:Nat,i≤k∧k - i≤gk∧iv=.int .i64 i∧Below w.heap.size w wr)
  case atStart=>exact ⟨0,Jq _,Jb _,rfl,hb0⟩
  case' round=>skip
  clear z0 z9 H0 hb0 hi hgk hlt
  obtain ⟨i,hi,hgk,rfl,hb0⟩:=hrel
  rename World=>W0
  have H0:=H.below hb0
  have z0:=H0.c1
  have z9:=H0.lt
  by_cases hlt:i<k
  ·have hiI:(i:Int)<(k:Int):=by omega
   obtain ⟨sb,off,p',l,c,rfl,hs,hc,hl,hI⟩:=H0.arcs i hlt
   have Hb:=Zan hb0
   clear hb0
   go_wp2_with fail
   go_loopg [6] l (fun gk iv wr'=>∃ j:Nat,j≤l∧l - j≤gk∧iv=.int .i64 j∧Below W0.heap.size W0 wr')
   case atStart=>exact ⟨0,Jq _,Jb _,rfl,Jd _ _⟩
   case' round=>skip
   obtain ⟨j,hj,hgk',rfl,hb1⟩:=hrel
   rename World=>W1
   have H1:=H0.below hb1
   have y0:=H1.c1
   have y2:=H1.c2
   have y9:=H1.lt
   have hs1:sb<W1.heap.size:=Jm hs hb1.size
   have hc1:=(hb1.cell (p:=⟨sb,off+i,none⟩) hs).trans hc
   by_cases hlt':j<l
   ·have hjI:(j:Int)<(l:Int):=by omega
    obtain ⟨tb,off',rfl,ht,u0,u1,u2,u3⟩:=(hI.below hb1).at hlt'
    have Hb1:=Zan hb1
    clear hb1 H1 H0 H hc z0 hI
    go_wp2_with fail
    go_quiet (fail)
    go_wp2_with fail
    go_roundg (l - (j+1))
    case measure=>omega
    case rel=>exact ⟨j+1,by omega,Jb _,by go_num,ZaB Hb1.out⟩
   ·obtain rfl:j=l:=by omega
    have Hb1:=Zan hb1
    clear hb1 H1 H0 H hc z0 hI
    go_wp2_with fail
    go_roundg (k - (i+1))
    case measure=>omega
    case rel=>exact ⟨i+1,by omega,Jb _,by go_num,Zal Hb.out Hb1.out⟩
  ·obtain rfl:i=k:=by omega
   go_wp2_with fail
   go_ret
   exact ⟨rfl,hb0⟩
end
section
open Go.RowKit
def Held (w:World)(hb:Nat):Prop:=∃ m p q n cn k ck,HoldOk w hb m p q n cn k ck∧n≤1000000000000000∧k≤1000000000000000
theorem Held.below {w w':World}{hb:Nat}(h:Held w hb)(hw:Below w.heap.size w w'):Held w' hb:=by
 obtain ⟨m,p,q,n,cn,k,ck,h,h1,h2⟩:=h
 exact ⟨m,p,q,n,cn,k,ck,h.below hw,h1,h2⟩
def Holds (w:World)(p:Option Addr)(n:Nat):Prop:=∀ i,i<n→∃ sb off hb,p=some ⟨sb,off,none⟩∧sb<w.heap.size∧w.cell? ⟨sb,off+i,none⟩=some (.pointer (some ⟨hb,0,none⟩))∧Held w hb
theorem Holds.below {w w':World}{p:Option Addr}{n:Nat}(h:Holds w p n)(hw:Below w.heap.size w w'):Holds w' p n:=fun i hi=>by
 obtain ⟨sb,off,hb,e,hs,hc,hh⟩:=h i hi
 exact ⟨sb,off,hb,e,Jm hs hw.size,(hw.cell (p:=⟨sb,off+i,none⟩) hs).trans hc,hh.below hw⟩
theorem ZhL (w:World)(wb n cn:Nat)(v:Value)(p:Option Addr)(h:w.heap[wb]?=some (.cells #[v,.slice p n cn] 29))(H:Holds w p n)(hn:n≤1000000000000000) :
  Calls Tryz.prog 12 #[.pointer (some ⟨wb,0,none⟩)] w fun e w'=>e=.returned (.bool true)∧Below w.heap.size w w':=by
 have hl:wb<w.heap.size:=(Ja.1 h).1
 go_enter Tryz.func12,Tryz.ntmps12
 go_wp2_with fail
 go_loopg [3] n (fun gk iv wr=>∃ i:Nat,i≤n∧n - i≤gk∧iv=.int .i64 i∧Below w.heap.size w wr)
 case atStart=>exact ⟨0,Jq _,Jb _,rfl,Jd _ _⟩
 case' round=>skip
 obtain ⟨i,hi,hgk,rfl,hb0⟩:=hrel
 rename World=>W0
 have x0:W0.heap[wb]?=some (.cells #[v,.slice p n cn] 29):=(hb0.block _ hl).trans h
 have x1:W0.cell? ⟨wb,1,none⟩=some (.slice p n cn):=by simp [World.cell?,x0]
 have x9:wb<W0.heap.size:=(Ja.1 x0).1
 by_cases hlt:i<n
 ·have hiI:(i:Int)<(n:Int):=by omega
  obtain ⟨sb,off,hb,rfl,hs,hc,m,p',q',n',cn',k',ck',hh,hn',hk'⟩:=H.below hb0 i hlt
  have Hb:=Zan hb0
  clear hb0
  go_wp2_with (go_at_call 20; refine (ZgP _ _ _ _ _ _ _ _ _ hh hn' hk').mono ?_; rintro e W1 ⟨rfl,hb1⟩)
  go_roundg (n - (i+1))
  case measure=>omega
  case rel=>exact ⟨i+1,by omega,Jb _,by go_num,Zal Hb.out hb1⟩
 ·obtain rfl:i=n:=by omega
  go_wp2_with fail
  go_ret
  exact ⟨rfl,hb0⟩
theorem Zgd (w:World)(wb n cn:Nat)(v:Value)(p:Option Addr)(h:w.heap[wb]?=some (.cells #[v,.slice p n cn] 29))(hn:n≤1000000000000000) :
  Calls Tryz.prog 78 #[.pointer (some ⟨wb,0,none⟩)] w fun e w'=>e=.returned (.int .i64 (-10000000 - (n:Int)))∧w'=w:=by
 have hl:wb<w.heap.size:=(Ja.1 h).1
 have x1:w.cell? ⟨wb,1,none⟩=some (.slice p n cn):=by simp [World.cell?,h]
 go_enter Tryz.func78,Tryz.ntmps78
 go_wp2_with fail
 go_ret
 refine ⟨?_,rfl⟩
 go_num
end
end Go.Proofs.YtjdindfjfpdikaaGreat
