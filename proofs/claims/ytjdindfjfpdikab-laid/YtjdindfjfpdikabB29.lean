import Derived.Test.YtjdindfjfpdikabB20
import Derived.Test.YtjdindfjfpdikabB28
import Derived.Test.YtjdindfjfpdikabPre
set_option maxRecDepth 100000
set_option maxHeartbeats 8000000
namespace Go.Proofs.Ytjdindfjfpdikab
section
open Go.RowKit
theorem flat_numL (n:Nat)(f:Nat→Int):(intL n f).flatMap cellsI=numL n f:=by
 have:∀ l:List Nat,(l.map f).flatMap cellsI=l.map (fun i=>Value.int .i64 (f i)):=fun l=>by
  induction l with
  | nil=>rfl
  | cons a l ih=>rw [List.map_cons,List.flatMap_cons,ih]; rfl
 exact this _
theorem Nums.row {w:World}{g n:Nat}{C:Nat→Int}(h:Nums w g n C)(hn:n≤1000):NRow 0 w (.slice (some ⟨g,0,none⟩) n n) (intL n C):=by
 refine ⟨by rw [flat_numL,numL_length,intL_length,Nat.mul_one],Js ⟨g,n,_,by rw [intL_length],Jq _,h,by rw [intL_length]; exact Jb _,by unfold maxLen; omega,by simp [numL_length],?_⟩⟩
 rw [flat_numL,intL_length]
 simp [numL_length,List.take_of_length_le]
theorem intL_getD {n i:Nat}(f:Nat→Int)(h:i<n):(intL n f).getD i 0=f i:=by rw [getD_at (by rw [intL_length]; exact h),intL_get]
def shB (vs va vf:Value)(g:Nat)(x10 x11:Value):List Nat:=g :: [vs,va,vf,x10,x11].filterMap Value.ownBlock
theorem mem_shB {vs va vf x10 x11:Value}{g b:Nat}:b∈shB vs va vf g x10 x11↔b=g∨∃ v∈[vs,va,vf,x10,x11],v.ownBlock=some b:=by
 unfold shB
 rw [List.mem_cons,List.mem_filterMap]
theorem SPost.show {w w':World}{pb b0 b1 b2 b3:Nat}{l0:Things}{l3:Prefs}{R:RSt}{P:Nat→Nat}{q:Nat→Int}{m1:Runs}{m2:Waits}{vs va vf:Value}{g:Nat}{fl:List Int}{C:Nat→Int}
  (h:SPost w pb b0 b1 b2 b3 l0 l3 R w' P q m1 m2 vs va vf g fl C) (hf:Fits R) (h0:R.t0.length≤4):ShowOk (nodesR R) (pcost (cR R) P R.t3.length) (intL (nodesR R) (supN R)) (netR R) fl (intL (nodesR R) C):=by
 obtain ⟨hN,hl,hla,hS,hA⟩:=net_ok hf h0
 have L:=h.last
 have gs:∀ i,i<nodesR R→(intL (nodesR R) (supN R)).getD i 0=supN R i:=fun i hi=>intL_getD _ hi
 have gc:∀ i,i<nodesR R→(intL (nodesR R) C).getD i 0=C i:=fun i hi=>intL_getD _ hi
 refine ⟨by have:=(nodesR_eq R).2; omega,⟨hN,by rw [intL_length],hla,fun i hi=>?_,hA⟩,⟨L.len,L.net.caps,fun v hv=>?_⟩,⟨by rw [intL_length],fun i hi=>?_,fun i hi=>?_⟩,h.found.cost⟩
 ·rw [intL_length] at hi
  simp only [gs i hi]
  exact hS i hi
 ·rw [intL_length] at hv
  show (intL (nodesR R) (supN R)).getD v 0+_=_
  rw [gs v hv]
  exact L.net.bal v hv
 ·rw [intL_length] at hi
  simp only [gc i hi]
  have:=L.bnd i hi
  omega
 ·have h1:=L.pair i hi
  have h2:=hA i hi
  have h3:((netR R).getD i ⟨0,0,0,0⟩).f.toNat<nodesR R:=by have:=h2.1; unfold arcN at this; omega
  have h4:((netR R).getD i ⟨0,0,0,0⟩).t.toNat<nodesR R:=by have:=h2.2.1; unfold arcN at this; omega
  have e:dd (fun i=>(intL (nodesR R) C).getD i 0) ((netR R).getD i ⟨0,0,0,0⟩)=dd C (arcN R i):=by
   show _+(intL (nodesR R) C).getD _ 0 - (intL (nodesR R) C).getD _ 0=_
   rw [gc _ h3,gc _ h4]
   rfl
  unfold PairOk
  rw [e]
  exact h1
end
end Go.Proofs.Ytjdindfjfpdikab
