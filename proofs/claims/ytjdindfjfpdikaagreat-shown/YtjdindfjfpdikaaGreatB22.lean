import Derived.Test.YtjdindfjfpdikaaGreatB18
import Derived.Test.YtjdindfjfpdikaaGreatPre
set_option maxRecDepth 100000
set_option maxHeartbeats 8000000
namespace Go.Proofs.YtjdindfjfpdikaaGreat
section
open Go.RowKit
def onId (R:RSt)(P:Nat→Nat):Nat→Int:=fun i=>if P i<R.t1.length then (R.t1.getD (P i) (0,0,0)).1 else -1
theorem Zhu {P:Nat→Nat}{x i T:Nat}(hi:i<T)(e:P i=x):cnt P x i<cnt P x T:=by
 induction T with
 | zero=>omega
 | succ n ih =>
  simp only [cnt]
  by_cases q:i=n
  ·subst q
   rw [if_pos e]
   omega
  ·have:=ih (by omega)
   omega
section
variable {w:World}{rb:Nat}{V:RVs}{x7 x8 x9 x10 x11:Value}{R:RSt}
theorem Zfb (h:RefAt w rb V x7 x8 x9 x10 x11 R)(hf:RunFit R)(P:Nat→Nat)(i:Nat)(hi:i<R.t3.length)(hP:P i≤R.t1.length) :
  Calls Tryz.prog 68 #[.pointer (some ⟨rb,0,none⟩),.int .i64 i,.int .i64 (onId R P i)] w fun e w'=>e=.returned (.int .i64 (cR R i (P i)))∧Below w.heap.size w w':=by
 have hio:i<R.on.length:=by rw [hf.lo]; exact hi
 have hit:i<R.wt.length:=by rw [hf.wl]; exact hi
 by_cases e:P i<R.t1.length
 ·have e1:onId R P i=R.t1[P i].1:=by unfold onId; rw [if_pos e,Zac e]
  rw [e1]
  have A1:=Zcn h i (P i) R.t1[P i].1 (hf.id1 _ (Jl e)).1 hi hio (by have:=hf.len1; omega) e (hf.at1 _ e) (by have:=hf.lw; omega) (hf.n3 _ (Jl hi)) hf.ws
  have ec:cR R i (P i)=minW R.t3[i].1 R.t1[P i].1 R.t1[P i].2.1 R.t3[i].2.2 R.ws+mvR R.on[i] R.t1[P i].1:=by
   unfold cR
   rw [if_pos e,Zac hi,Zac e,Zac hio]
  rw [← ec] at A1
  exact A1
 ·have e0:P i=R.t1.length:=by omega
  have e1:onId R P i=-1:=by unfold onId; rw [if_neg e]
  rw [e1,e0]
  obtain ⟨j,hj,ej⟩:=hf.job i hi
  have A1:=ZbA h i j hi hio hit (by have:=hf.len2; omega) hj ej (hf.n2 _ (Jl hj)).1 (hf.n2 _ (Jl hj)).2 (hf.wt _ (Jl hit)).1 (hf.wt _ (Jl hit)).2
  have ec:cR R i R.t1.length=R.t2[j].2.2+R.wt[i]+mvR R.on[i] (-1):=by
   unfold cR
   rw [if_neg (by omega),Zac hi,ej,Jn,Zac hj,Zac hit,Zac hio]
  rw [← ec] at A1
  exact A1
end
end
section
open Go.RowKit
section
variable {w:World}{rb:Nat}{V:RVs}{x7 x8 x9 x10 x11:Value}{R:RSt}
theorem RefAt.rowne (h:RefAt w rb V x7 x8 x9 x10 x11 R) {α:Type}{e size:Nat}{enc:α→List Value}{v:Value}{xs:List α}(hr:RowAt w e size enc v xs)(he:e≠45):v.ownBlock≠some rb:=fun q=>by
 obtain ⟨cur,h1⟩:=hr.elem q
 rw [h.cells] at h1
 simp at h1
 exact he h1.2.symm
theorem RefAt.setx (h:RefAt w rb V x7 x8 x9 x10 x11 R)(i:Nat)(v y7 y8 y9 y10 y11:Value)(he:(#[V.v0,V.v1,V.v2,V.v3,V.vw,V.vo,V.vt,x7,x8,x9,x10,x11]:Array Value).setIfInBounds i v=#[V.v0,V.v1,V.v2,V.v3,V.vw,V.vo,V.vt,y7,y8,y9,y10,y11]):RefAt (w.setCell ⟨rb,i,none⟩ v) rb V y7 y8 y9 y10 y11 R:=by
 have g:=Zaa w ⟨rb,i,none⟩ v
 have k:∀ {α:Type} {e size:Nat} {enc:α→List Value} {u:Value} {xs:List α},RowAt w e size enc u xs→e≠45→RowAt (w.setCell ⟨rb,i,none⟩ v) e size enc u xs:=fun hr hne=>hr.kept g (Js (h.rowne hr hne))
 refine ⟨?_,k h.r0 (by decide),k h.r1 (by decide),k h.r2 (by decide),k h.r3 (by decide),k h.rw (by decide),k h.ro (by decide),k h.rt (by decide),h.apart⟩
 rw [heap_setCell h.cells i v,he]
end
end
end Go.Proofs.YtjdindfjfpdikaaGreat
