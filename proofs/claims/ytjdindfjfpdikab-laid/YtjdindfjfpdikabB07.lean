import Derived.WalkKit
import Derived.Below
import Derived.Test.YtjdindfjfpdikabProg
import Derived.Deep.LoopGhost
import Derived.BigRegion
import Derived.BigQuiet
import Derived.Deep.QuietTactic
import Derived.OpenShut
import Derived.Laws.CopyOwn
import Derived.OwnWalk
import Derived.Deep.DeepCutAuto
import Derived.Deep.RegionLaw
import Derived.Test.YtjdindfjfpdikabPre
set_option maxRecDepth 100000
set_option maxHeartbeats 8000000
namespace Go.Proofs.Ytjdindfjfpdikab
section
structure Ar where
 f:Int
 t:Int
 c:Int
 k:Int
def ArcOk (N:Int)(a:Ar):Prop:=(0≤a.f∧a.f<N)∧(0≤a.t∧a.t<N)∧(0≤a.c∧a.c≤1000)∧(-10000≤a.k∧a.k≤10000)
def NetOk (N:Int)(ls:Nat)(S:Nat→Int)(la:Nat)(A:Nat→Ar):Prop :=
 (0≤N∧N≤60)∧(ls:Int)=N∧la≤600∧(∀ i,i<ls→-1000≤S i∧S i≤1000)∧∀ i,i<la→ArcOk N (A i)
def inn (A:Nat→Ar)(F:Nat→Int)(v:Nat):Nat→Int
 | 0=>0
 | n+1=>inn A F v n+(if (A n).t=(v:Int) then F n else 0)
def out (A:Nat→Ar)(F:Nat→Int)(v:Nat):Nat→Int
 | 0=>0
 | n+1=>out A F v n+(if (A n).f=(v:Int) then F n else 0)
def Caps (la:Nat)(A:Nat→Ar)(F:Nat→Int):Prop:=∀ i,i<la→0≤F i∧F i≤(A i).c
def Bal (ls:Nat)(S:Nat→Int)(la:Nat)(A:Nat→Ar)(F:Nat→Int):Prop:=∀ v,v<ls→S v+inn A F v la=out A F v la
def FlowOk (ls:Nat)(S:Nat→Int)(la:Nat)(A:Nat→Ar)(lf:Nat)(F:Nat→Int):Prop :=
 lf=la∧Caps la A F∧Bal ls S la A F
def dd (P:Nat→Int)(a:Ar):Int:=a.k+P a.f.toNat - P a.t.toNat
def PairOk (P:Nat→Int)(a:Ar)(x:Int):Prop:=¬ (dd P a<0∧x<a.c)∧¬ (0<dd P a∧0<x)
def PriceOk (N:Int)(la:Nat)(A:Nat→Ar)(F:Nat→Int)(lp:Nat)(P:Nat→Int):Prop :=
 (lp:Int)=N∧(∀ i,i<lp→-1000000≤P i∧P i≤1000000)∧∀ i,i<la→PairOk P (A i) (F i)
theorem inn_bound {A:Nat→Ar}{F:Nat→Int}{v la:Nat}(h:∀ i,i<la→0≤F i∧F i≤1000):0≤inn A F v la∧inn A F v la≤1000*la:=by
 induction la with
 | zero=>simp [inn]
 | succ n ih =>
  have h1:=ih (fun i hi=>h i (by omega))
  have h2:=h n (by omega)
  simp only [inn]
  split <;> omega
def sumN (g:Nat→Int):Nat→Int
 | 0=>0
 | n+1=>sumN g n+g n
theorem sumN_add (g h:Nat→Int)(n:Nat):sumN (fun i=>g i+h i) n=sumN g n+sumN h n:=by
 induction n with
 | zero=>rfl
 | succ n ih=>simp only [sumN,ih]; omega
theorem sumN_sub (g h:Nat→Int)(n:Nat):sumN (fun i=>g i - h i) n=sumN g n - sumN h n:=by
 induction n with
 | zero=>rfl
 | succ n ih=>simp only [sumN,ih]; omega
theorem sumN_congr {g h:Nat→Int}{n:Nat}(e:∀ i,i<n→g i=h i):sumN g n=sumN h n:=by
 induction n with
 | zero=>rfl
 | succ n ih=>simp only [sumN]; rw [ih (fun i hi=>e i (by omega)),e n (by omega)]
theorem sumN_zero (n:Nat):sumN (fun _=>0) n=0:=by
 induction n with
 | zero=>rfl
 | succ n ih=>simp only [sumN,ih]; rfl
theorem sumN_one (p:Nat→Int)(x:Int)(f N:Nat)(hf:f<N):sumN (fun v=>p v*(if (f:Int)=(v:Int) then x else 0)) N=p f*x:=by
 induction N with
 | zero=>omega
 | succ n ih =>
  simp only [sumN]
  by_cases e:f=n
  ·subst e
   rw [sumN_congr (h:=fun _=>0) (fun i hi=>by rw [if_neg (by omega)]; simp),sumN_zero]
   simp
  ·rw [ih (by omega),if_neg (by omega)]
   simp
theorem sumN_le {g h:Nat→Int}{n:Nat}(e:∀ i,i<n→g i≤h i):sumN g n≤sumN h n:=by
 induction n with
 | zero=>exact Int.le_refl _
 | succ n ih =>
  have h1:=ih (fun i hi=>e i (by omega))
  have h2:=e n (by omega)
  simp only [sumN]
  omega
def cost (A:Nat→Ar)(F:Nat→Int)(la:Nat):Int:=sumN (fun i=>F i*(A i).k) la
end
section
open Go.RowKit
def Ints (w:World)(p:Option Addr)(len:Nat)(F:Nat→Int):Prop :=
 len=0∨∃ sb off,p=some ⟨sb,off,none⟩∧sb<w.heap.size∧∀ i,i<len→w.cell? ⟨sb,off+i,none⟩=some (.int .i64 (F i))
def Arcs (w:World)(p:Option Addr)(len:Nat)(A:Nat→Ar):Prop :=
 len=0∨∃ sb off,p=some ⟨sb,off,none⟩∧sb<w.heap.size∧∀ i,i<len→w.cell? ⟨sb,off+i*4,none⟩=some (.int .i64 (A i).f)∧w.cell? ⟨sb,off+i*4+1,none⟩=some (.int .i64 (A i).t)∧w.cell? ⟨sb,off+i*4+2,none⟩=some (.int .i64 (A i).c)∧w.cell? ⟨sb,off+i*4+3,none⟩=some (.int .i64 (A i).k)
section
variable {w w':World}{p:Option Addr}{len n:Nat}{F:Nat→Int}{A:Nat→Ar}
theorem Ints.below (h:Ints w p len F)(hb:Below w.heap.size w w'):Ints w' p len F:=by
 rcases h with h | ⟨sb,off,hp,hs,hc⟩
 ·exact Jr h
 ·exact Js ⟨sb,off,hp,Jm hs hb.size,fun i hi=>(hb.cell (p:=⟨sb,off+i,none⟩) hs).trans (hc i hi)⟩
theorem Arcs.below (h:Arcs w p len A)(hb:Below w.heap.size w w'):Arcs w' p len A:=by
 rcases h with h | ⟨sb,off,hp,hs,hc⟩
 ·exact Jr h
 ·refine Js ⟨sb,off,hp,Jm hs hb.size,fun i hi=>?_⟩
  have mv:∀ o,w'.cell? ⟨sb,o,none⟩=w.cell? ⟨sb,o,none⟩:=fun o=>hb.cell (p:=⟨sb,o,none⟩) hs
  obtain ⟨h0,h1,h2,h3⟩:=hc i hi
  exact ⟨(mv _).trans h0,(mv _).trans h1,(mv _).trans h2,(mv _).trans h3⟩
theorem Ints.at (h:Ints w p len F){i:Nat}(hi:i<len):∃ sb off,p=some ⟨sb,off,none⟩∧sb<w.heap.size∧w.cell? ⟨sb,off+i,none⟩=some (.int .i64 (F i)):=by
 rcases h with h | ⟨sb,off,hp,hs,hc⟩
 ·omega
 ·exact ⟨sb,off,hp,hs,hc i hi⟩
theorem Arcs.at (h:Arcs w p len A){i:Nat}(hi:i<len):∃ sb off,p=some ⟨sb,off,none⟩∧sb<w.heap.size∧w.cell? ⟨sb,off+i*4,none⟩=some (.int .i64 (A i).f)∧w.cell? ⟨sb,off+i*4+1,none⟩=some (.int .i64 (A i).t)∧w.cell? ⟨sb,off+i*4+2,none⟩=some (.int .i64 (A i).c)∧w.cell? ⟨sb,off+i*4+3,none⟩=some (.int .i64 (A i).k):=by
 rcases h with h | ⟨sb,off,hp,hs,hc⟩
 ·omega
 ·exact ⟨sb,off,hp,hs,hc i hi⟩
end
end
section
open Go.RowKit
theorem veil {p:Prop}(h:p):Hid p:=h
end
section
open Go.RowKit
theorem beyond {w w1 w2:World}(h1:Below w.heap.size w w1)(h2:Below w1.heap.size w1 w2):Below w.heap.size w w2:=h1.trans (h2.mono h1.size)
theorem at_cells {w:World}{b:Nat}{cs:Array Value}{t:TypeId}(h:w.heap[b]?=some (.cells cs t))(i:Nat):w.cell? ⟨b,i,none⟩=cs[i]?:=by simp [World.cell?,h]
end
section
open Go.RowKit
theorem infoI:(Try.prog.info? 3).map (fun i=>(i.zero,i.size,i.bytes))=some (some (.int .i64 0),1,8):=by kernel_rfl
def numL (n:Nat)(G:Nat→Int):List Value:=(List.range n).map (fun i=>Value.int .i64 (G i))
def Nums (w:World)(g n:Nat)(G:Nat→Int):Prop:=w.heap[g]?=some (.cells (numL n G).toArray 3)
def setN (G:Nat→Int)(k:Nat)(x:Int):Nat→Int:=fun i=>if i=k then x else G i
theorem numL_length (n:Nat)(G:Nat→Int):(numL n G).length=n:=by simp [numL]
theorem numL_at {n i:Nat}(G:Nat→Int)(h:i<n):(numL n G)[i]?=some (.int .i64 (G i)):=by simp [numL,h]
theorem numL_set (n k:Nat)(G:Nat→Int)(x:Int):(numL n G).set k (.int .i64 x)=numL n (setN G k x):=by
 refine List.ext_getElem? (fun i=>?_)
 by_cases hi:i<n
 ·rw [numL_at _ hi,List.getElem?_set]
  by_cases e:k=i
  ·subst e; simp [numL_length,hi,setN]
  ·rw [if_neg e,numL_at _ hi]; simp [setN,Ne.symm e]
 ·rw [List.getElem?_eq_none (by rw [List.length_set,numL_length]; omega),List.getElem?_eq_none (by rw [numL_length]; omega)]
section
variable {w w':World}{g n:Nat}{G H:Nat→Int}
theorem Nums.lt (h:Nums w g n G):g<w.heap.size:=(Ja.1 h).1
theorem Nums.cell (h:Nums w g n G){i:Nat}(hi:i<n):w.cell? ⟨g,i,none⟩=some (.int .i64 (G i)):=by rw [at_cells h,Jg,numL_at G hi]
theorem Nums.frozen (h:Nums w g n G)(i:Nat):w.frozen? ⟨g,i,none⟩=false:=by unfold Nums at h; simp [World.frozen?,h]
theorem Nums.move (h:Nums w g n G)(hb:w'.heap[g]?=w.heap[g]?):Nums w' g n G:=hb.trans h
theorem Nums.below (h:Nums w g n G)(hb:Below w.heap.size w w'):Nums w' g n G:=h.move (hb.block g h.lt)
theorem Nums.set (h:Nums w g n G)(k:Nat)(x:Int):Nums (w.setCell ⟨g,k,none⟩ (.int .i64 x)) g n (setN G k x):=by
 unfold Nums at h ⊢
 have:(w.setCell ⟨g,k,none⟩ (.int .i64 x)).heap[g]?=some (.cells ((numL n G).toArray.setIfInBounds k (.int .i64 x)) 3):=by
  simp [World.setCell,Array.getElem?_modify,h]
 rw [this,Jh,numL_set]
theorem nums_made {base:Nat}{v:Value}(h:w.ownsRow base 3 1 v n (madeCells (Value.cells (.int .i64 0)) (n*1)).toList)(hv:v=.slice (some ⟨g,0,none⟩) n n):Nums w g n (fun _=>0):=by
 obtain ⟨hl,hr⟩:=h
 rcases hr with ⟨e,_⟩ | ⟨g',cap,cur,e,_,hg,_,_,hs,ht⟩
 ·rw [e] at hv; cases hv
 ·rw [e] at hv
  cases hv
  unfold Nums
  rw [hg]
  congr 2
  have e1:cur.toList=(madeCells (Value.cells (.int .i64 0)) (n*1)).toList:=by
   rw [← ht]
   exact (List.take_of_length_le (by simp [hs])).symm
  have e2:cur=(madeCells (Value.cells (.int .i64 0)) (n*1)):=by
   apply Array.ext'
   exact e1
  rw [e2]
  apply Array.ext'
  refine List.ext_getElem? (fun i=>?_)
  have hlen:(madeCells (Value.cells (.int .i64 0)) (n*1)).toList.length=n:=by rw [← e1]; simpa using hs
  by_cases hi:i<n
  ·have:(madeCells (Value.cells (.int .i64 0)) (n*1)).toList[i]?=some (.int .i64 0):=by
    simp [madeCells,Value.cells,hi,Nat.mod_one]
   rw [this]
   exact (numL_at (fun _=>0) hi).symm
  ·rw [List.getElem?_eq_none (by omega),List.getElem?_eq_none (by simp [numL]; omega)]
end
end
end Go.Proofs.Ytjdindfjfpdikab
