import Derived.Deep.LoopGhost
import Derived.Test.YtjdindfjfpdikabB03
import Derived.Test.YtjdindfjfpdikabB08
import Derived.Test.YtjdindfjfpdikabB09
import Derived.Test.YtjdindfjfpdikabPre
set_option maxRecDepth 100000
set_option maxHeartbeats 8000000
namespace Go.Proofs.Ytjdindfjfpdikab
section
open Go.RowKit
def cellsO (x:Opn):List Value:=[.int .i64 x.f,.int .i64 x.t,.int .i64 x.k,.int .i64 x.a,.int .i64 x.b]
def ORow (b0:Nat)(w:World)(v:Value)(xs:List Opn):Prop:=w.ownsRow b0 99 5 v xs.length (xs.flatMap cellsO)
theorem ORow.nil (b0:Nat)(w:World):ORow b0 w (.slice none 0 0) []:=World.ownsRow_nil _ _ _ _
theorem ORow.kept {b0:Nat}{w w':World}{v:Value}{xs:List Opn}{row:Option Nat}(h:ORow b0 w v xs)(hg:w.grownBy w' row)(hne:v.ownBlock=none∨v.ownBlock≠row):ORow b0 w' v xs:=World.ownsRow.kept h hg hne
theorem ORow.below {b0:Nat}{w w':World}{v:Value}{xs:List Opn}(h:ORow b0 w v xs)(hb:Below w.heap.size w w'):ORow b0 w' v xs:=h.kept (grown_of_below hb none) (by cases v.ownBlock <;> simp)
theorem ORow.lt {b0:Nat}{w:World}{v:Value}{xs:List Opn}(h:ORow b0 w v xs):∀ b,v.ownBlock=some b→b0≤b∧b<w.heap.size:=fun b e=>World.ownsRow.lt h b e
theorem ORow.sl {b0:Nat}{w:World}{v:Value}{xs:List Opn}(h:ORow b0 w v xs):∃ p c,v=.slice p xs.length c:=by
 rcases h.2 with ⟨e1,e2⟩ | ⟨g,cap,cur,e1,_⟩
 ·exact ⟨none,0,by rw [e1,e2]⟩
 ·exact ⟨_,_,e1⟩
theorem infoO:(Try.prog.info? 99).map (fun i=>(i.zero,i.size,i.bytes))=some (some (.agg #[.int .i64 0,.int .i64 0,.int .i64 0,.int .i64 0,.int .i64 0]),5,40):=by kernel_rfl
theorem wpList_pushO {ops:Array Oper}{rest:List Oper}{o:Oper}{a:Act}{Q:Exit→Act→World→Prop}(W:World)(b0:Nat)(x:Opn)(v:Value)(xs:List Opn)(hgd:o.guard=none)(sO xO:Operand)
  (hop:o.op=Op.call { callee:=Callee.builtin Builtin.append,args:=#[sO,xO],argTypes:=#[95,95] }) (hs:a.eval sO=v) (hr:ORow b0 W v xs) (ad:Nat) (had:a.eval xO=.slice (some ⟨ad,0,none⟩) 1 1)
  (hc:W.heap[ad]?=some (.cells #[.int .i64 x.f,.int .i64 x.t,.int .i64 x.k,.int .i64 x.a,.int .i64 x.b] 99)) (hb:b0≤W.heap.size) (hl:xs.length≤1000000)
  (hK:∀ (v':Value) (w':World),ORow b0 w' v' (xs ++ [x])→W.grownBy w' v.ownBlock→(v'.ownBlock=v.ownBlock∨v'.ownBlock=some W.heap.size)→wpList Try.prog ops Q rest (a.put o.dst v') w') :
  wpList Try.prog ops Q (o :: rest) a W:=by
 obtain ⟨i3,hi3,hy0,hy1,hy2⟩:=info_parts infoO
 refine wpList_append_own_at W hgd sO xO 95 hop b0 99 i3 (.agg #[.int .i64 0,.int .i64 0,.int .i64 0,.int .i64 0,.int .i64 0]) 5 40 Try.underlying95 hi3 hy0 hy1 hy2 rfl (by decide) v xs.length (xs.flatMap cellsO) hs hr ⟨ad,0,none⟩ 1 1 [.int .i64 x.f,.int .i64 x.t,.int .i64 x.k,.int .i64 x.a,.int .i64 x.b] had rfl ?_ ?_ (by unfold maxLen; omega) (by omega) hb ?_
 ·intro j u hj
  rw [Addr.add_lit,Nat.zero_add]
  have e:W.cell? ⟨ad,j,none⟩=(#[Value.int .i64 x.f,.int .i64 x.t,.int .i64 x.k,.int .i64 x.a,.int .i64 x.b]:Array Value)[j]?:=by simp [World.cell?,hc]
  rw [e]
  simpa using hj
 ·intro u hu
  simp at hu
  rcases hu with rfl | rfl | rfl | rfl | rfl <;> rfl
 ·intro u w' hrow hg _ hloc
  refine hK u w' ?_ hg hloc
  unfold ORow
  simpa [cellsO] using hrow
def lastOf (L:Nat→Option Opn)(v:Nat):Int×Int×Int×Int×Int:=match L v with
 | some o=>((o.f:Int),(o.t:Int),o.k,(o.a:Int),o.b)
 | none=>(-1,0,0,0,0)
structure LAt (w:World)(g N:Nat)(L:Nat→Option Opn):Prop where
 lt:g<w.heap.size
 cells:∀ v,v<N→w.cell? ⟨g,v*5,none⟩=some (.int .i64 (lastOf L v).1)∧w.cell? ⟨g,v*5+1,none⟩=some (.int .i64 (lastOf L v).2.1)∧w.cell? ⟨g,v*5+2,none⟩=some (.int .i64 (lastOf L v).2.2.1)∧w.cell? ⟨g,v*5+3,none⟩=some (.int .i64 (lastOf L v).2.2.2.1)∧w.cell? ⟨g,v*5+4,none⟩=some (.int .i64 (lastOf L v).2.2.2.2)
theorem LAt.below {w w':World}{g N:Nat}{L:Nat→Option Opn}(h:LAt w g N L)(hb:Below w.heap.size w w'):LAt w' g N L :=
 ⟨Jm h.lt hb.size,fun v hv=>by
  obtain ⟨h0,h1,h2,h3,h4⟩:=h.cells v hv
  exact ⟨(hb.cell (p:=⟨g,v*5,none⟩) h.lt).trans h0,(hb.cell (p:=⟨g,v*5+1,none⟩) h.lt).trans h1,(hb.cell (p:=⟨g,v*5+2,none⟩) h.lt).trans h2,(hb.cell (p:=⟨g,v*5+3,none⟩) h.lt).trans h3,(hb.cell (p:=⟨g,v*5+4,none⟩) h.lt).trans h4⟩⟩
theorem LAt.grown {w w':World}{g N:Nat}{L:Nat→Option Opn}{row:Option Nat}(h:LAt w g N L)(hg:w.grownBy w' row)(hne:some g≠row):LAt w' g N L :=
 ⟨Jm h.lt hg.size,fun v hv=>by
  obtain ⟨h0,h1,h2,h3,h4⟩:=h.cells v hv
  exact ⟨hg.cell h0 hne,hg.cell h1 hne,hg.cell h2 hne,hg.cell h3 hne,hg.cell h4 hne⟩⟩
def atv (node:Nat)(l:List Opn)(j:Nat):Nat:=match j with
 | 0=>node
 | i+1=>(l.getD i ⟨0,0,0,0,0⟩).f
structure Back (N:Nat)(L:Nat→Option Opn)(node:Nat)(l:List Opn):Prop where
 step:∀ j,(hj:j<l.length)→L (atv node l j)=some l[j]∧atv node l j<N
 off:∀ j,0<j→j<l.length→atv node l j≠node
 fin:atv node l l.length=node∨(atv node l l.length≠node∧L (atv node l l.length)=none∧atv node l l.length<N)
theorem back_any {w:World}{g N cap node:Nat}{L:Nat→Option Opn}{l:List Opn}(hL:LAt w g N L)(hB:Back N L node l)(hl:0<l.length)(hl2:l.length≤1000) :
  Calls Try.prog 58 #[.slice (some ⟨g,0,none⟩) N cap,.int .i64 node] w fun e w'=>∃ v,e=.returned v∧Below w.heap.size w w'∧((atv node l l.length=node∧ORow w.heap.size w' v l)∨(atv node l l.length≠node∧v=.slice none 0 0)):=by
 have hgl:=hL.lt
 go_enter Try.func58,Try.ntmps58
 go_wp2_with fail
 go_loopg [5,6] l.length (fun gk v iv wr=>∃ j:Nat,j≤l.length∧l.length - j≤gk∧iv=.int .i64 (atv node l j)∧Hid (ORow w.heap.size wr v (l.take j)∧Below w.heap.size w wr∧(0<j→atv node l j≠node)))
 case atStart=>exact ⟨0,Jq _,by omega,rfl,ORow.nil _ _,Jd _ _,fun q=>by omega⟩
 case' round=>skip
 obtain ⟨j,hj,hgk,rfl,H⟩:=hrel
 rename World=>Z
 obtain ⟨hrow,hb,hne⟩:=H.out
 have hLZ:=hL.below hb
 by_cases hlt:j<l.length
 ·obtain ⟨e1,hat⟩:=hB.step j hlt
  obtain ⟨k0,k1,k2,k3,k4⟩:=hLZ.cells _ hat
  have hgz:=hLZ.lt
  obtain ⟨x,hx⟩:∃ x,l[j]=x:=⟨_,rfl⟩
  rw [hx] at e1
  have ea:(lastOf L (atv node l j))=((x.f:Int),(x.t:Int),x.k,(x.a:Int),x.b):=by unfold lastOf; rw [e1]
  simp only [ea] at k0 k1 k2 k3 k4
  have HX:=hid (show (lastOf L (atv node l j)).1=(x.f:Int) from by rw [ea])
  have hnx:atv node l (j+1)=x.f:=by
   show (l.getD j _).f=_
   rw [List.getD_eq_getElem?_getD,List.getElem?_eq_getElem hlt]
   show l[j].f=_
   rw [hx]
  have htk:l.take (j+1)=l.take j ++ [x]:=by rw [List.take_succ_eq_append_getElem hlt,hx]
  obtain ⟨at',hat'⟩:∃ a,atv node l j=a:=⟨_,rfl⟩
  rw [hat'] at k0 k1 k2 k3 k4 hat
  have hatI:(at':Int)<(N:Int):=by omega
  have bA:Below Z.heap.size Z (Z.alloc (.cells #[.int .i64 x.f,.int .i64 x.t,.int .i64 x.k,.int .i64 x.a,.int .i64 x.b] 99)):=(Jd _ _).alloc (Jb _) _
  have hrA:=hrow.below bA
  have hws:=hb.size
  have d0:((x.f:Int) != -1)=true:=by simp
  have hlen:(l.take j).length≤1000:=by rw [List.length_take]; omega
  have hLA:=hid (hLZ.below bA)
  have Hx:=hid (Jc hnx (Jc htk (Jc hb bA)))
  rw [hat']
  obtain ⟨pv,cv,hv⟩:=hrow.sl
  subst hv
  clear hrow hb hLZ H ea e1 hx hnx htk bA
  go_upto_region 5 with (first
   | (at_builtin; refine wpList_pushO _ w.heap.size x _ _ rfl _ _ rfl rfl hrA Z.heap.size rfl (heap_alloc_new Z _) (by simp; omega) (by omega) ?_; intro v2 Z2 hrow2 hg2 hloc)
   | fail)
  have hL2:=hLA.out.grown hg2 (fun e=>by have:=(hrA.lt g e.symm).1; omega)
  have r0:=(hL2.cells at' hat).1
  rw [show (lastOf L at').1=(x.f:Int) from by rw [← hat',HX.out]] at r0
  have r1:=hL2.lt
  have hb2:Below w.heap.size w Z2:=(next2 Hx.out.2.2.1 Hx.out.2.2.2).grown hg2 (by have:=(next2 Hx.out.2.2.1 Hx.out.2.2.2).size; exact this) (fun b e=>(hrA.lt b e).1)
  have H2:=hid (Jc hrow2 hb2)
  obtain ⟨pu,cu,hu⟩:=hrow2.sl
  subst hu
  clear hrow2 hb2 hL2 hg2 hloc hLA
  by_cases hq:x.f=node
  ·have hqb:((x.f:Int) == (node:Int))=true:=by simp [hq]
   have hjl:j+1=l.length:=Classical.byContradiction fun q=>hB.off (j+1) (by omega) (by omega) (by rw [Hx.out.1,hq])
   have Hq:=hid (Jc hq hjl)
   clear hq hjl
   go_wp2_with fail
   go_ret
   refine ⟨_,rfl,H2.out.2,Jr ⟨by rw [← Hq.out.2,Hx.out.1,Hq.out.1],?_⟩⟩
   show ORow w.heap.size Z2 (.slice pu (List.take j l ++ [x]).length cu) l
   have t:=H2.out.1
   revert t
   generalize Value.slice pu (List.take j l ++ [x]).length cu=vv
   intro t
   rw [← Hx.out.2.1,Hq.out.2,List.take_length] at t
   exact t
  ·have hqb:((x.f:Int) == (node:Int))=false:=by simp; omega
   have Hq:=hid hq
   clear hq
   go_wp2_with fail
   go_roundg (l.length - (j+1))
   case measure=>omega
   case rel=>exact ⟨j+1,by omega,Jb _,by rw [Hx.out.1],by rw [Hx.out.2.1]; exact ⟨H2.out.1,H2.out.2,fun _=>by rw [Hx.out.1]; exact Hq.out⟩⟩
 ·obtain rfl:j=l.length:=by omega
  have hn:=hne hl
  obtain ⟨_,h0,hat⟩:=hB.fin.resolve_left hn
  obtain ⟨k0,_⟩:=hLZ.cells _ hat
  have hgz:=hLZ.lt
  rw [show (lastOf L (atv node l l.length)).1=-1 from by unfold lastOf; rw [h0]] at k0
  have H3:=hid (Jc hb hn)
  obtain ⟨at',hat'⟩:∃ a,atv node l l.length=a:=⟨_,rfl⟩
  rw [hat'] at k0 hat ⊢
  have hatI:(at':Int)<(N:Int):=by omega
  clear hrow hb hLZ H h0 hn hne
  go_wp2_with fail
  go_ret
  exact ⟨_,rfl,H3.out.1,Js ⟨H3.out.2,rfl⟩⟩
end
section
theorem Back.same {N M:Nat}{L:Nat→Option Opn}{node:Nat}{l l':List Opn}(h:Back N L node l)(h':Back M L node l')(hl:0<l.length)(hl':0<l'.length):l=l':=by
 have key:∀ n,n≤l.length→n≤l'.length→l.take n=l'.take n:=fun n=>by
  induction n with
  | zero=>intro _ _; simp
  | succ n ih =>
   intro h1 h2
   have e:=ih (by omega) (by omega)
   have ea:atv node l n=atv node l' n:=by
    cases n with
    | zero=>rfl
    | succ m =>
     show (l.getD m _).f=(l'.getD m _).f
     have e1:l[m]'(by omega)=l'[m]'(by omega):=by
      have:=congrArg (fun x=>x[m]?) e
      simpa [List.getElem?_take,show m<l.length by omega,show m<l'.length by omega] using this
     rw [List.getD_eq_getElem?_getD,List.getD_eq_getElem?_getD,List.getElem?_eq_getElem (show m<l.length by omega),List.getElem?_eq_getElem (show m<l'.length by omega)]
     show (l[m]'(by omega)).f=(l'[m]'(by omega)).f
     rw [e1]
   have s1:=(h.step n (by omega)).1
   have s2:=(h'.step n (by omega)).1
   rw [ea,s2] at s1
   have e2:l'[n]'(by omega)=l[n]'(by omega):=Option.some.inj s1
   rw [List.take_succ_eq_append_getElem (by omega),List.take_succ_eq_append_getElem (by omega),e,e2]
 have atE:∀ n,0<n→n≤l.length→n≤l'.length→atv node l n=atv node l' n:=fun n h0 h1 h2=>by
  cases n with
  | zero=>omega
  | succ m =>
   have e:=key (m+1) h1 h2
   have e1:l[m]'(by omega)=l'[m]'(by omega):=by
    have:=congrArg (fun x=>x[m]?) e
    simpa [List.getElem?_take,show m<l.length by omega,show m<l'.length by omega] using this
   show (l.getD m _).f=(l'.getD m _).f
   rw [List.getD_eq_getElem?_getD,List.getD_eq_getElem?_getD,List.getElem?_eq_getElem (show m<l.length by omega),List.getElem?_eq_getElem (show m<l'.length by omega)]
   show (l[m]'(by omega)).f=(l'[m]'(by omega)).f
   rw [e1]
 have noend:∀ {N M:Nat} {l l':List Opn},Back N L node l→Back M L node l'→0<l.length→l.length<l'.length→atv node l l.length=atv node l' l.length→False:=fun {N M l l'} h h' h0 hlt e=>by
  rcases h.fin with q | ⟨q1,q2,_⟩
  ·exact h'.off l.length h0 hlt (e ▸ q)
  ·have:=(h'.step l.length hlt).1
   rw [← e,q2] at this
   cases this
 rcases Nat.lt_trichotomy l.length l'.length with q | q | q
 ·exact (noend h h' hl q (atE _ hl (Jb _) (by omega))).elim
 ·have:=key l.length (Jb _) (by omega)
  rw [List.take_length,q,List.take_length] at this
  exact this
 ·exact (noend h' h hl' q (atE _ hl' (by omega) (Jb _)).symm).elim
abbrev CSt:=(Nat→Int)×(Nat→Option Opn)
def imp (s:CSt)(o:Opn):Prop:=s.1 o.f+o.k<s.1 o.t
instance (s:CSt) (o:Opn):Decidable (imp s o):=by unfold imp; infer_instance
def stepS (s:CSt)(o:Opn):CSt:=if imp s o then (updI s.1 o.t (s.1 o.f+o.k),updO s.2 o.t o) else s
def runS (s:CSt)(pre:List Opn):CSt:=pre.foldl stepS s
theorem runS_snoc (s:CSt)(pre:List Opn)(o:Opn):runS s (pre ++ [o])=stepS (runS s pre) o:=by unfold runS; rw [List.foldl_append]; rfl
def IsCirc (s:CSt)(o:Opn)(l:List Opn):Prop:=∃ N,Back N (updO s.2 o.t o) o.t l∧0<l.length∧atv o.t l l.length=o.t
def NoStop (s:CSt)(pre:List Opn):Prop:=∀ p o r,pre=p ++ o :: r→imp (runS s p) o→∀ l,¬ IsCirc (runS s p) o l
def Quiet (s:CSt)(pre:List Opn):Prop:=∀ p o r,pre=p ++ o :: r→¬ imp (runS s p) o
def Stops (s:CSt)(ops:List Opn)(l:List Opn):Prop:=∃ p o r,ops=p ++ o :: r∧NoStop s p∧imp (runS s p) o∧IsCirc (runS s p) o l
theorem snoc_split {α:Type}{pre p r:List α}{x o:α}(h:pre ++ [x]=p ++ o :: r):(r=[]∧p=pre∧o=x)∨∃ r',r=r' ++ [x]∧pre=p ++ o :: r':=by
 rcases List.eq_nil_or_concat r with rfl | ⟨r',y,rfl⟩
 ·have h1:pre ++ [x]=p ++ [o]:=h
  have h2:=List.append_inj' h1 rfl
  exact Jr ⟨rfl,h2.1.symm,by simpa using h2.2.symm⟩
 ·have h1:pre ++ [x]=(p ++ o :: r') ++ [y]:=by rw [h]; simp
  have h2:=List.append_inj' h1 rfl
  have e:x=y:=by simpa using h2.2
  subst e
  exact Js ⟨r',by simp,h2.1⟩
theorem NoStop.nil (s:CSt):NoStop s []:=fun p o r h=>by simp at h
theorem Quiet.nil (s:CSt):Quiet s []:=fun p o r h=>by simp at h
theorem NoStop.snoc {s:CSt}{pre:List Opn}{x:Opn}(h:NoStop s pre)(hx:imp (runS s pre) x→∀ l,¬ IsCirc (runS s pre) x l):NoStop s (pre ++ [x]):=fun p o r e=>by
 rcases snoc_split e with ⟨rfl,rfl,rfl⟩ | ⟨r',_,e'⟩
 ·exact hx
 ·exact h p o r' e'
theorem Quiet.snoc {s:CSt}{pre:List Opn}{x:Opn}(h:Quiet s pre)(hx:¬ imp (runS s pre) x):Quiet s (pre ++ [x]):=fun p o r e=>by
 rcases snoc_split e with ⟨rfl,rfl,rfl⟩ | ⟨r',_,e'⟩
 ·exact hx
 ·exact h p o r' e'
def stR (ops:List Opn):Nat→CSt
 | 0=>(fun _=>0,fun _=>none)
 | n+1=>runS (stR ops n) ops
def Went (ops:List Opn)(r:Nat):Prop:=NoStop (stR ops r) ops∧¬ Quiet (stR ops r) ops
def CircR (ops:List Opn)(res:Option (List Opn)):Prop:=∃ r,(∀ i,i<r→Went ops i)∧((∃ l,Stops (stR ops r) ops l∧res=some l)∨(NoStop (stR ops r) ops∧Quiet (stR ops r) ops∧res=none))
abbrev Op5:=Int×Int×Int×Int×Int
def foL (A:Nat→Ar)(F:Nat→Int)(i:Nat):List Op5:=if F i<(A i).c then [((A i).f,(A i).t,(A i).k,(i:Int),1)] else []
def baL (A:Nat→Ar)(F:Nat→Int)(i:Nat):List Op5:=if 0<F i then [((A i).t,(A i).f,-(A i).k,(i:Int),-1)] else []
def opL (A:Nat→Ar)(F:Nat→Int):Nat→List Op5
 | 0=>[]
 | i+1=>opL A F i ++ foL A F i ++ baL A F i
theorem opL_pre (A:Nat→Ar)(F:Nat→Int){i n:Nat}(h:i≤n):opL A F i <+: opL A F n:=by
 induction n with
 | zero =>
  obtain rfl:i=0:=by omega
  exact List.prefix_refl _
 | succ n ih =>
  by_cases e:i=n+1
  ·subst e; exact List.prefix_refl _
  ·refine (ih (by omega)).trans ?_
   show opL A F n <+: opL A F n ++ foL A F n ++ baL A F n
   rw [List.append_assoc]
   exact List.prefix_append _ _
theorem opL_half (A:Nat→Ar)(F:Nat→Int){i n:Nat}(h:i<n):opL A F i ++ foL A F i <+: opL A F n:=(List.prefix_append _ (baL A F i)).trans (opL_pre A F (show i+1≤n by omega))
def toOpn (x:Op5):Opn:=⟨x.1.toNat,x.2.1.toNat,x.2.2.1,x.2.2.2.1.toNat,x.2.2.2.2⟩
def opsR (A:Nat→Ar)(F:Nat→Int)(la:Nat):List Opn:=(opL A F la).map toOpn
inductive LeastR (A:Nat→Ar)(la:Nat):(Nat→Int)→(Nat→Int)→Prop where
 | done {F:Nat→Int} (h:CircR (opsR A F la) none):LeastR A la F F
 | step {F F':Nat→Int} {l:List Opn} (h:CircR (opsR A F la) (some l)) (hr:LeastR A la (turned F l) F'):LeastR A la F F'
inductive TurnR (A:Nat→Ar)(la:Nat):(Nat→Int)→(Nat→Int)→Prop where
 | refl {F:Nat→Int}:TurnR A la F F
 | snoc {F G:Nat→Int} {l:List Opn} (h:TurnR A la F G) (hc:CircR (opsR A G la) (some l)):TurnR A la F (turned G l)
theorem TurnR.least {A:Nat→Ar}{la:Nat}{F G:Nat→Int}(h:TurnR A la F G):∀ {G':Nat→Int},LeastR A la G G'→LeastR A la F G':=by
 induction h with
 | refl=>exact fun h=>h
 | snoc _ hc ih=>exact fun h=>ih (LeastR.step hc h)
structure RTr (C0:Nat→Int)(L0:Nat→Option Opn)(pre:List Opn)(C:Nat→Int)(L:Nat→Option Opn)(chp:Bool):Prop where
 st:runS (C0,L0) pre=(C,L)
 ns:NoStop (C0,L0) pre
 qu:chp=false→Quiet (C0,L0) pre
 im:chp=true→¬ Quiet (C0,L0) pre
theorem RTr.nil (C0:Nat→Int)(L0:Nat→Option Opn):RTr C0 L0 [] C0 L0 false:=⟨rfl,NoStop.nil _,fun _=>Quiet.nil _,(fun e=>by cases e)⟩
theorem RTr.skip {C0:Nat→Int}{L0:Nat→Option Opn}{pre:List Opn}{C:Nat→Int}{L:Nat→Option Opn}{chp:Bool}{o:Opn}(h:RTr C0 L0 pre C L chp)(hs:C o.t≤C o.f+o.k):RTr C0 L0 (pre ++ [o]) C L chp:=by
 have hn:¬ imp (runS (C0,L0) pre) o:=by rw [h.st]; show ¬ (C o.f+o.k<C o.t); omega
 refine ⟨?_,h.ns.snoc (fun q=>absurd q hn),fun e=>(h.qu e).snoc hn,fun e q=>h.im e (fun p x r e2=>q p x (r ++ [o]) (by rw [e2]; simp))⟩
 rw [runS_snoc]
 unfold stepS
 rw [if_neg hn,h.st]
theorem RTr.upd {C0:Nat→Int}{L0:Nat→Option Opn}{pre:List Opn}{C:Nat→Int}{L:Nat→Option Opn}{chp:Bool}{o:Opn}(h:RTr C0 L0 pre C L chp)(hs:C o.f+o.k<C o.t){N:Nat}{l:List Opn}(hB:Back N (updO L o.t o) o.t l)(hl:0<l.length)(hne:atv o.t l l.length≠o.t):RTr C0 L0 (pre ++ [o]) (updI C o.t (C o.f+o.k)) (updO L o.t o) true:=by
 have hn:imp (runS (C0,L0) pre) o:=by rw [h.st]; exact hs
 refine ⟨?_,h.ns.snoc (fun _ l' ⟨M,h1,h2,h3⟩=>?_),(fun e=>by cases e),fun _ q=>q pre o [] rfl hn⟩
 ·rw [runS_snoc]
  unfold stepS
  rw [if_pos hn,h.st]
 ·rw [h.st] at h1
  have:=hB.same h1 hl h2
  subst this
  exact hne h3
theorem RTr.stops {C0:Nat→Int}{L0:Nat→Option Opn}{pre:List Opn}{C:Nat→Int}{L:Nat→Option Opn}{chp:Bool}{o:Opn}(h:RTr C0 L0 pre C L chp)(hs:C o.f+o.k<C o.t){N:Nat}{l:List Opn}(hB:Back N (updO L o.t o) o.t l)(hl:0<l.length)(he:atv o.t l l.length=o.t):∀ ops,pre ++ [o] <+: ops→Stops (C0,L0) ops l:=by
 rintro ops ⟨r,rfl⟩
 refine ⟨pre,o,r,by simp,h.ns,by rw [h.st]; exact hs,N,by rw [h.st]; exact hB,hl,he⟩
def Rnds (ops:List Opn)(C:Nat→Int)(L:Nat→Option Opn)(chp:Bool):Prop:=(chp=true→∃ r,stR ops r=(C,L)∧∀ i,i<r→Went ops i)∧(chp=false→CircR ops none)
theorem Rnds.start (ops:List Opn):Rnds ops (fun _=>0) (fun _=>none) true:=⟨fun _=>⟨0,rfl,fun i hi=>by omega⟩,(fun e=>by cases e)⟩
theorem Rnds.next {ops:List Opn}{C0:Nat→Int}{L0:Nat→Option Opn}(h:Rnds ops C0 L0 true){C:Nat→Int}{L:Nat→Option Opn}{chp:Bool}(hr:RTr C0 L0 ops C L chp):Rnds ops C L chp:=by
 obtain ⟨r,e,hw⟩:=h.1 rfl
 refine ⟨fun q=>⟨r+1,?_,fun i hi=>?_⟩,fun q=>⟨r,hw,Js ⟨by rw [e]; exact hr.ns,by rw [e]; exact hr.qu q,rfl⟩⟩⟩
 ·show runS (stR ops r) ops=_
  rw [e,hr.st]
 ·by_cases hi':i<r
  ·exact hw i hi'
  ·obtain rfl:i=r:=by omega
   exact ⟨by rw [e]; exact hr.ns,by rw [e]; exact hr.im q⟩
theorem Rnds.found {ops l:List Opn}{C0:Nat→Int}{L0:Nat→Option Opn}(h:Rnds ops C0 L0 true)(hs:Stops (C0,L0) ops l):CircR ops (some l):=by
 obtain ⟨r,e,hw⟩:=h.1 rfl
 exact ⟨r,hw,Jr ⟨l,by rw [e]; exact hs,rfl⟩⟩
end
section
open Go.RowKit Go.Shelf
attribute [local go_sem] Oper.semAt_some
structure Kx (S:List Nat)(W W':World):Prop where
 size:W.heap.size≤W'.heap.size
 same:∀ (b:Nat) (cs:Array Value) (t:TypeId) (f:Nat×Nat),b∉S→W.heap[b]?=some (.cells cs t f)→W'.heap[b]?=some (.cells cs t f)
theorem Kx.trans {S:List Nat}{A B C:World}(h:Kx S A B)(k:Kx S B C):Kx S A C:=⟨Nat.le_trans h.size k.size,fun b cs t f n e=>k.same b cs t f n (h.same b cs t f n e)⟩
theorem Kx.of_below {S:List Nat}{A B:World}(h:Below A.heap.size A B):Kx S A B:=⟨h.size,fun b _ _ _ _ e=>(h.block b (Ja.1 e).1).trans e⟩
theorem Kx.put {S:List Nat}{w:World}(W:World)(l:Nat)(o o':Obj)(_:w.heap.size≤l)(h:W.heap[l]?=some o)(hc:o.isCells=false)(_:o.isWalk=false):Kx S W (W.putObj l o'):=by
 have hg:=grownBy_putObj' W l o'
 refine ⟨hg.size,fun b cs t f _ e=>(hg.block b (Ja.1 e).1 (fun q=>?_)).trans e⟩
 cases q
 rw [e] at h
 cases h
 cases hc
theorem Kx.cell {S:List Nat}{A B:World}(h:Kx S A B){p:Addr}{v:Value}(hp:p.block∉S)(e:A.cell? p=some v):B.cell? p=some v:=by
 unfold World.cell? at e ⊢
 cases hb:A.heap[p.block]? with
 | none=>rw [hb] at e; simp at e
 | some o =>
  rw [hb] at e
  cases o with
  | cells cs t f=>rw [h.same _ _ _ _ hp hb]; exact e
  | _=>simp at e
theorem Ints.kx {S:List Nat}{w w':World}{p:Option Addr}{len:Nat}{F:Nat→Int}(h:Ints w p len F)(hb:Kx S w w')(hp:∀ a,p=some a→a.block∉S):Ints w' p len F:=by
 rcases h with h | ⟨sb,off,hq,hs,hc⟩
 ·exact Jr h
 ·exact Js ⟨sb,off,hq,Jm hs hb.size,fun i hi=>hb.cell (by have:=hp _ hq; exact this) (hc i hi)⟩
theorem Arcs.kx {S:List Nat}{w w':World}{p:Option Addr}{len:Nat}{A:Nat→Ar}(h:Arcs w p len A)(hb:Kx S w w')(hp:∀ a,p=some a→a.block∉S):Arcs w' p len A:=by
 rcases h with h | ⟨sb,off,hq,hs,hc⟩
 ·exact Jr h
 ·refine Js ⟨sb,off,hq,Jm hs hb.size,fun i hi=>?_⟩
  have hn:sb∉S:=hp _ hq
  obtain ⟨h0,h1,h2,h3⟩:=hc i hi
  exact ⟨hb.cell hn h0,hb.cell hn h1,hb.cell hn h2,hb.cell hn h3⟩
theorem opens1_x (X:List Nat)(n:Nat)(hn:1≤n)(l Bn Bf:Nat)(W0:World)(p q r:Option Addr)(ls cs la ca cf:Nat)(S:Nat→Int)(A:Nat→Ar)(F:Nat→Int)
  (hok:NetOk ls ls S la A) (hA:Arcs W0 q la A) (hF:Ints W0 r la F) (hBn:W0.heap[Bn]?=some (.cells #[.int .i64 ls,.slice p ls cs,.slice q la ca] 39)) (hBf:W0.heap[Bf]?=some (.cells #[.slice r la cf] 22)) (nA:∀ a,q=some a→a.block∉X) (nF:∀ a,r=some a→a.block∉X) (nBn:Bn∉X) (nBf:Bf∉X) (hX:∀ b∈X,b<W0.heap.size)
  (J Jx:List (Op3 ls)→World→Prop) (W:World) (hW:Kx X W0 W) (hJ:AbidesFrom W.heap.size J)
  (hY:∀ pre (x:Op3 ls) W1,J pre W1→pre.length<2*la→IsOpen la A F x.1→YieldAt Fence.wide (n - 1) Try.prog l (encO x) W1 fun e W' =>
   (e=.returned (.bool true)∧J (pre ++ [x]) W'∧Kx X W1 W')∨(e=.returned (.bool false)∧Jx (pre ++ [x]) W'))
  (h0:J [] W) :
  CallsIn Fence.wide n Try.prog 70 #[.func (.yield l) #[] #[],.pointer (some ⟨Bn,0,none⟩),.pointer (some ⟨Bf,0,none⟩)] W fun e W'=>(∃ v,e=.returned v) ∧
   ((∃ ys:List (Op3 ls),AllOpen la A F ys∧ys.map (·.1)=opL A F la∧J ys W')∨(∃ pre:List (Op3 ls),pre.map (·.1) <+: opL A F la∧Jx pre W')):=by
 have hbn2:=at_cells (hW.same Bn _ _ _ nBn hBn) 2
 simp only [Jg,Jf,Je] at hbn2
 have hBnW:Bn<W.heap.size:=(Ja.1 (hW.same Bn _ _ _ nBn hBn)).1
 have h600:la≤600:=hok.2.2.1
 have Hok:=veil hok
 have HW:=veil hW
 have hm:Try.prog.follows .mixedOrders=true:=by kernel_rfl
 clear hok hW
 refine callsIn_of_wp Try.func70 rfl trivial ?_ rfl
 simp only [Try.ntmps70,List.size_toArray,List.length_cons,List.length_nil,Nat.reduceAdd,Nat.reduceSub,Array.replicate_succ,Array.replicate_zero,List.push_toArray,List.append_toArray,List.nil_append,List.cons_append]
 gi_wp2
 gi_loopw [9] (fun iv wr=>∃ (i:Nat) (pre:List (Op3 ls)),i≤la∧iv=.int .i64 i∧Kx X W0 wr∧J pre wr∧Hid (AllOpen i A F pre∧AreOpen la A F pre∧pre.length≤2*i∧pre.map (·.1)=opL A F i)) (fun iv _=>la - (intOf iv).toNat)
 case atStart=>exact ⟨0,[],Jq _,rfl,HW.out,h0,⟨fun i hi=>by omega,(fun y hy=>by cases hy),Jq _,rfl⟩⟩
 case' round=>skip
 obtain ⟨i,pre,hi,rfl,hb,hJs,hall⟩:=hrel
 by_cases hlt:i<la
 ·obtain ⟨sb,off,rfl,hsb,g0,g1,g2,g3⟩:=(hA.kx hb nA).at hlt
  obtain ⟨sf,of',rfl,hsf,gf⟩:=(hF.kx hb nF).at hlt
  have hiI:(i:Int)<(la:Int):=by omega
  have nw:wr.heap.size∉X:=fun q=>by have:=hX _ q; have:=hb.size; omega
  have nsf:sf∉X:=nF _ rfl
  have hac:=veil (Hok.out.2.2.2.2 i hlt)
  obtain ⟨u0,hu0⟩:∃ u0,wr.alloc (.cells #[.int .i64 (A i).f,.int .i64 (A i).t,.int .i64 (A i).c,.int .i64 (A i).k] 50)=u0:=⟨_,rfl⟩
  have hbu:Below wr.heap.size wr u0:=by rw [← hu0]; exact (Jd _ _).alloc (Jb _) _
  have hub:u0.heap[wr.heap.size]?=some (.cells #[.int .i64 (A i).f,.int .i64 (A i).t,.int .i64 (A i).c,.int .i64 (A i).k] 50):=by rw [← hu0]; exact heap_alloc_new wr _
  have hku:Kx X W0 u0:=hb.trans (Kx.of_below hbu)
  have hfu:=hku.same Bf _ _ _ nBf hBf
  have k0:=at_cells hub 0
  have k1:=at_cells hub 1
  have k2:=at_cells hub 2
  have k3:=at_cells hub 3
  have hbfu:=at_cells hfu 0
  simp only [Jg,Jf,Je] at k0 k1 k2 k3 hbfu
  have gfu:=(hbu.cell (p:=⟨sf,of'+i,none⟩) hsf).trans gf
  have y0:wr.heap.size<u0.heap.size:=(Ja.1 hub).1
  have y1:Bf<u0.heap.size:=(Ja.1 hfu).1
  have y2:sf<u0.heap.size:=by omega
  have Hu:=veil (Jc hu0 (Jc hbu (Jc hub (Jc hfu hku))))
  clear hu0 hbu hub hfu hku
  have hJu:J pre u0.drew:=hJ _ _ _ none hJs (grown_of_below' Hu.out.2.1.drew) (fun r e=>by cases e)
  gi_wp2
  rw [Hu.out.1]
  gi_cut [33] from 14 (fun v wx=>∃ (b:Bool) (pre':List (Op3 ls)),v=.bool (!b)∧Hid ((b=true→J pre' wx∧Kx X u0 wx∧AllOpen i A F pre'∧(F i<(A i).c→∃ y∈pre',y.1=((A i).f,(A i).t,(A i).k,(i:Int),1)))∧(b=false→Jx pre' wx)∧AreOpen la A F pre'∧pre'.length≤2*i+1∧pre'.map (·.1)=opL A F i ++ foL A F i))
  case first =>
   by_cases hc:F i<(A i).c
   ·obtain ⟨fn,tmps,assign,body,hy,hR0⟩:=hY pre (forth (A i) i hac.out) u0.drew hJu (by have:=hall.out.2.2.1; omega) ⟨i,hlt,Jr ⟨hc,rfl⟩⟩
    simp only [encO,forth] at hy
    have hR:=hR0.mono (fun e W' h=>Said2.of (p:=fun W'=>J (pre ++ [_]) W'∧Kx X _ W') (q:=Jx _) h)
    clear hR0
    have mk:∀ (b:Bool) (W3:World),Hid ((b=true→(J (pre ++ [forth (A i) i hac.out]) W3∧Kx X u0.drew W3))∧(b=false→Jx (pre ++ [forth (A i) i hac.out]) W3))→∃ (b':Bool) (pre':List (Op3 ls)),Value.bool (!b)=.bool (!b')∧Hid ((b'=true→J pre' W3∧Kx X u0 W3∧AllOpen i A F pre'∧(F i<(A i).c→∃ y∈pre',y.1=((A i).f,(A i).t,(A i).k,(i:Int),1)))∧(b'=false→Jx pre' W3)∧AreOpen la A F pre'∧pre'.length≤2*i+1∧pre'.map (·.1)=opL A F i ++ foL A F i):=fun b W3 hp =>
     ⟨b,_,rfl,fun e=>⟨(hp.out.1 e).1,(Kx.of_below (Jd _ _).drew).trans (hp.out.1 e).2,hall.out.1.more _,fun _=>⟨_,Jt _ (List.mem_singleton.2 rfl),rfl⟩⟩,fun e=>hp.out.2 e,hall.out.2.1.more ⟨i,hlt,Jr ⟨hc,rfl⟩⟩,by rw [Jo]; have:=hall.out.2.2.1; simp only [List.length_singleton]; omega,by rw [List.map_append,hall.out.2.2.2]; unfold foL; rw [if_pos hc]; rfl⟩
    gi_region_with_o ((with_reducible refine hR.mono ?_); rintro e W3 ⟨b,rfl,hp⟩)
    all_goals (gi_wp2_with fail; gi_meet; exact mk b _ hp)
   ·have mk:∃ (b':Bool) (pre':List (Op3 ls)),Value.bool false=.bool (!b')∧Hid ((b'=true→J pre' u0.drew∧Kx X u0 u0.drew∧AllOpen i A F pre'∧(F i<(A i).c→∃ y∈pre',y.1=((A i).f,(A i).t,(A i).k,(i:Int),1)))∧(b'=false→Jx pre' u0.drew)∧AreOpen la A F pre'∧pre'.length≤2*i+1∧pre'.map (·.1)=opL A F i ++ foL A F i) :=
     ⟨true,pre,rfl,fun _=>⟨hJu,Kx.of_below (Jd _ _).drew,hall.out.1,fun h=>absurd h hc⟩,(fun e=>by cases e),hall.out.2.1,by have:=hall.out.2.2.1; omega,by rw [hall.out.2.2.2]; unfold foL; rw [if_neg hc]; simp⟩
    refine wpIn_region_any hm ?_
    change wpAnyIn _ _ _ _ _ _ _ _ _ (World.drew _)
    refine wpAnyIn_take (i:=1) (v:=?_) rfl rfl (by kernel_rfl) (by kernel_rfl) (by kernel_rfl) (fun _ _ _ h=>h) ⟨Jr ⟨by rfl,?_⟩,fun _=>rfl⟩ ?_
    rotate_left 1
    ·(intro w; go_simp; try with_reducible rfl)
    change wpAnyIn _ _ _ _ _ _ _ _ (Act.put _ (some 15) _) _
    refine wpAnyIn_take (i:=4) (v:=?_) rfl rfl (by kernel_rfl) (by kernel_rfl) (by kernel_rfl) (fun _ _ _ h=>h) ⟨Jr ⟨by rfl,?_⟩,fun _=>rfl⟩ ?_
    rotate_left 1
    ·(intro w; go_simp; try with_reducible rfl)
    change wpAnyIn _ _ _ _ _ _ _ _ (Act.put _ (some 18) _) _
    refine wpAnyIn_ready (rs:=[0,5]) (by kernel_rfl) (by simp) ?_
    refine (AllReadyIn.cons rfl (fun K hK=>?_) (AllReadyIn.cons rfl (fun K hK=>?_) AllReadyIn.nil))
    ·go_simp
     refine hK _ _ ?_
     clear hK K
     refine wpAnyIn_take (i:=2) (v:=?_) rfl rfl (by kernel_rfl) (by kernel_rfl) (by kernel_rfl) (fun _ _ _ h=>h) ⟨Jr ⟨by rfl,?_⟩,fun _=>rfl⟩ ?_
     rotate_left 1
     ·(intro w; go_simp; try with_reducible rfl)
     change wpAnyIn _ _ _ _ _ _ _ _ (Act.put _ (some 16) _) _
     refine wpAnyIn_ready (rs:=[3,5]) (by kernel_rfl) (by simp) ?_
     refine (AllReadyIn.cons rfl (fun K hK=>?_) (AllReadyIn.cons rfl (fun K hK=>?_) AllReadyIn.nil))
     ·go_simp
      refine hK _ _ ?_
      clear hK K
      refine wpAnyIn_ready (rs:=[5]) (by kernel_rfl) (by simp) ?_
      refine (AllReadyIn.cons rfl (fun K hK=>?_) AllReadyIn.nil)
      go_simp
      refine hK _ _ ?_
      clear hK K
      refine wpAnyIn_take (i:=6) (v:=?_) rfl rfl (by kernel_rfl) (by kernel_rfl) (by kernel_rfl) (fun _ _ _ h=>h) ⟨Jr ⟨by rfl,?_⟩,fun _=>rfl⟩ ?_
      rotate_left 1
      ·(intro w; go_simp; try with_reducible rfl)
      change wpAnyIn _ _ _ _ _ _ _ _ (Act.put _ (some 20) _) _
      refine wpAnyIn_take (i:=7) (v:=?_) rfl rfl (by kernel_rfl) (by kernel_rfl) (by kernel_rfl) (fun _ _ _ h=>h) ⟨Jr ⟨by rfl,?_⟩,fun _=>rfl⟩ ?_
      rotate_left 1
      ·(intro w; go_simp; try with_reducible rfl)
      change wpAnyIn _ _ _ _ _ _ _ _ (Act.put _ (some 21) _) _
      refine wpAnyIn_take (i:=8) (v:=undef) rfl rfl (by kernel_rfl) (by kernel_rfl) (by kernel_rfl) (fun _ _ _ h=>h) ⟨Js ⟨by kernel_rfl,rfl⟩,fun _=>by kernel_rfl⟩ ?_
      change wpAnyIn _ _ _ _ _ _ _ _ (Act.put _ (some 22) undef) _
      refine wpAnyIn_take (i:=9) (v:=undef) rfl rfl (by kernel_rfl) (by kernel_rfl) (by kernel_rfl) (fun _ _ _ h=>h) ⟨Js ⟨by kernel_rfl,rfl⟩,fun _=>by kernel_rfl⟩ ?_
      change wpAnyIn _ _ _ _ _ _ _ _ (Act.put _ (some 23) undef) _
      refine wpAnyIn_take (i:=11) (v:=undef) rfl rfl (by kernel_rfl) (by kernel_rfl) (by kernel_rfl) (fun _ _ _ h=>h) ⟨Js ⟨by kernel_rfl,rfl⟩,fun _=>by kernel_rfl⟩ ?_
      change wpAnyIn _ _ _ _ _ _ _ _ (Act.put _ (some 25) undef) _
      refine wpAnyIn_take (i:=13) (v:=undef) rfl rfl (by kernel_rfl) (by kernel_rfl) (by kernel_rfl) (fun _ _ _ h=>h) ⟨Js ⟨by kernel_rfl,rfl⟩,fun _=>by kernel_rfl⟩ ?_
      change wpAnyIn _ _ _ _ _ _ _ _ (Act.put _ (some 27) undef) _
      refine wpAnyIn_take (i:=10) (v:=undef) rfl rfl (by kernel_rfl) (by kernel_rfl) (by kernel_rfl) (fun _ _ _ h=>h) ⟨Js ⟨by kernel_rfl,rfl⟩,fun _=>by kernel_rfl⟩ ?_
      change wpAnyIn _ _ _ _ _ _ _ _ (Act.put _ (some 24) undef) _
      refine wpAnyIn_take (i:=12) (v:=undef) rfl rfl (by kernel_rfl) (by kernel_rfl) (by kernel_rfl) (fun _ _ _ h=>h) ⟨Js ⟨by kernel_rfl,rfl⟩,fun _=>by kernel_rfl⟩ ?_
      change wpAnyIn _ _ _ _ _ _ _ _ (Act.put _ (some 26) undef) _
      refine wpAnyIn_take (i:=14) (v:=undef) rfl rfl (by kernel_rfl) (by kernel_rfl) (by kernel_rfl) (fun _ _ _ h=>h) ⟨Js ⟨by kernel_rfl,rfl⟩,fun _=>by kernel_rfl⟩ ?_
      change wpAnyIn _ _ _ _ _ _ _ _ (Act.put _ (some 28) undef) _
      refine wpAnyIn_take (i:=15) (v:=undef) rfl rfl (by kernel_rfl) (by kernel_rfl) (by kernel_rfl) (fun _ _ _ h=>h) ⟨Js ⟨by kernel_rfl,rfl⟩,fun _=>by kernel_rfl⟩ ?_
      change wpAnyIn _ _ _ _ _ _ _ _ (Act.put _ (some 29) undef) _
      refine wpAnyIn_take (i:=16) (v:=undef) rfl rfl (by kernel_rfl) (by kernel_rfl) (by kernel_rfl) (fun _ _ _ h=>h) ⟨Js ⟨by kernel_rfl,rfl⟩,fun _=>by kernel_rfl⟩ ?_
      change wpAnyIn _ _ _ _ _ _ _ _ (Act.put _ (some 30) undef) _
      refine wpAnyIn_take (i:=17) (v:=undef) rfl rfl (by kernel_rfl) (by kernel_rfl) (by kernel_rfl) (fun _ _ _ h=>h) ⟨Js ⟨by kernel_rfl,rfl⟩,fun _=>by kernel_rfl⟩ ?_
      change wpAnyIn _ _ _ _ _ _ _ _ (Act.put _ (some 31) undef) _
      refine wpAnyIn_take (i:=18) (v:=undef) rfl rfl (by kernel_rfl) (by kernel_rfl) (by kernel_rfl) (fun _ _ _ h=>h) ⟨Js ⟨by kernel_rfl,rfl⟩,fun _=>by kernel_rfl⟩ ?_
      change wpAnyIn _ _ _ _ _ _ _ _ (Act.put _ (some 32) undef) _
      refine wpAnyIn_take (i:=19) (v:=?_) rfl rfl (by kernel_rfl) (by kernel_rfl) (by kernel_rfl) (fun _ _ _ h=>h) ⟨Jr ⟨by rfl,?_⟩,fun _=>rfl⟩ ?_
      rotate_left 1
      ·(intro w; go_simp; try with_reducible rfl)
      change wpAnyIn _ _ _ _ _ _ _ _ (Act.put _ (some 33) _) _
      refine wpAnyIn_done (by kernel_rfl) ?_ _
      simp only [Act.put,Jh,Ji,Jj]
      gi_wp2_with fail
      gi_meet
      exact mk
     ·go_simp
      refine hK _ _ ?_
      clear hK K
      refine wpAnyIn_ready (rs:=[3]) (by kernel_rfl) (by simp) ?_
      refine (AllReadyIn.cons rfl (fun K hK=>?_) AllReadyIn.nil)
      go_simp
      refine hK _ _ ?_
      clear hK K
      refine wpAnyIn_take (i:=6) (v:=?_) rfl rfl (by kernel_rfl) (by kernel_rfl) (by kernel_rfl) (fun _ _ _ h=>h) ⟨Jr ⟨by rfl,?_⟩,fun _=>rfl⟩ ?_
      rotate_left 1
      ·(intro w; go_simp; try with_reducible rfl)
      change wpAnyIn _ _ _ _ _ _ _ _ (Act.put _ (some 20) _) _
      refine wpAnyIn_take (i:=7) (v:=?_) rfl rfl (by kernel_rfl) (by kernel_rfl) (by kernel_rfl) (fun _ _ _ h=>h) ⟨Jr ⟨by rfl,?_⟩,fun _=>rfl⟩ ?_
      rotate_left 1
      ·(intro w; go_simp; try with_reducible rfl)
      change wpAnyIn _ _ _ _ _ _ _ _ (Act.put _ (some 21) _) _
      refine wpAnyIn_take (i:=8) (v:=undef) rfl rfl (by kernel_rfl) (by kernel_rfl) (by kernel_rfl) (fun _ _ _ h=>h) ⟨Js ⟨by kernel_rfl,rfl⟩,fun _=>by kernel_rfl⟩ ?_
      change wpAnyIn _ _ _ _ _ _ _ _ (Act.put _ (some 22) undef) _
      refine wpAnyIn_take (i:=9) (v:=undef) rfl rfl (by kernel_rfl) (by kernel_rfl) (by kernel_rfl) (fun _ _ _ h=>h) ⟨Js ⟨by kernel_rfl,rfl⟩,fun _=>by kernel_rfl⟩ ?_
      change wpAnyIn _ _ _ _ _ _ _ _ (Act.put _ (some 23) undef) _
      refine wpAnyIn_take (i:=11) (v:=undef) rfl rfl (by kernel_rfl) (by kernel_rfl) (by kernel_rfl) (fun _ _ _ h=>h) ⟨Js ⟨by kernel_rfl,rfl⟩,fun _=>by kernel_rfl⟩ ?_
      change wpAnyIn _ _ _ _ _ _ _ _ (Act.put _ (some 25) undef) _
      refine wpAnyIn_take (i:=13) (v:=undef) rfl rfl (by kernel_rfl) (by kernel_rfl) (by kernel_rfl) (fun _ _ _ h=>h) ⟨Js ⟨by kernel_rfl,rfl⟩,fun _=>by kernel_rfl⟩ ?_
      change wpAnyIn _ _ _ _ _ _ _ _ (Act.put _ (some 27) undef) _
      refine wpAnyIn_take (i:=10) (v:=undef) rfl rfl (by kernel_rfl) (by kernel_rfl) (by kernel_rfl) (fun _ _ _ h=>h) ⟨Js ⟨by kernel_rfl,rfl⟩,fun _=>by kernel_rfl⟩ ?_
      change wpAnyIn _ _ _ _ _ _ _ _ (Act.put _ (some 24) undef) _
      refine wpAnyIn_take (i:=12) (v:=undef) rfl rfl (by kernel_rfl) (by kernel_rfl) (by kernel_rfl) (fun _ _ _ h=>h) ⟨Js ⟨by kernel_rfl,rfl⟩,fun _=>by kernel_rfl⟩ ?_
      change wpAnyIn _ _ _ _ _ _ _ _ (Act.put _ (some 26) undef) _
      refine wpAnyIn_take (i:=14) (v:=undef) rfl rfl (by kernel_rfl) (by kernel_rfl) (by kernel_rfl) (fun _ _ _ h=>h) ⟨Js ⟨by kernel_rfl,rfl⟩,fun _=>by kernel_rfl⟩ ?_
      change wpAnyIn _ _ _ _ _ _ _ _ (Act.put _ (some 28) undef) _
      refine wpAnyIn_take (i:=15) (v:=undef) rfl rfl (by kernel_rfl) (by kernel_rfl) (by kernel_rfl) (fun _ _ _ h=>h) ⟨Js ⟨by kernel_rfl,rfl⟩,fun _=>by kernel_rfl⟩ ?_
      change wpAnyIn _ _ _ _ _ _ _ _ (Act.put _ (some 29) undef) _
      refine wpAnyIn_take (i:=16) (v:=undef) rfl rfl (by kernel_rfl) (by kernel_rfl) (by kernel_rfl) (fun _ _ _ h=>h) ⟨Js ⟨by kernel_rfl,rfl⟩,fun _=>by kernel_rfl⟩ ?_
      change wpAnyIn _ _ _ _ _ _ _ _ (Act.put _ (some 30) undef) _
      refine wpAnyIn_take (i:=17) (v:=undef) rfl rfl (by kernel_rfl) (by kernel_rfl) (by kernel_rfl) (fun _ _ _ h=>h) ⟨Js ⟨by kernel_rfl,rfl⟩,fun _=>by kernel_rfl⟩ ?_
      change wpAnyIn _ _ _ _ _ _ _ _ (Act.put _ (some 31) undef) _
      refine wpAnyIn_take (i:=18) (v:=undef) rfl rfl (by kernel_rfl) (by kernel_rfl) (by kernel_rfl) (fun _ _ _ h=>h) ⟨Js ⟨by kernel_rfl,rfl⟩,fun _=>by kernel_rfl⟩ ?_
      change wpAnyIn _ _ _ _ _ _ _ _ (Act.put _ (some 32) undef) _
      refine wpAnyIn_take (i:=19) (v:=?_) rfl rfl (by kernel_rfl) (by kernel_rfl) (by kernel_rfl) (fun _ _ _ h=>h) ⟨Jr ⟨by rfl,?_⟩,fun _=>rfl⟩ ?_
      rotate_left 1
      ·(intro w; go_simp; try with_reducible rfl)
      change wpAnyIn _ _ _ _ _ _ _ _ (Act.put _ (some 33) _) _
      refine wpAnyIn_done (by kernel_rfl) ?_ _
      simp only [Act.put,Jh,Ji,Jj]
      gi_wp2_with fail
      gi_meet
      exact mk
    ·go_simp
     refine hK _ _ ?_
     clear hK K
     refine wpAnyIn_ready (rs:=[0]) (by kernel_rfl) (by simp) ?_
     refine (AllReadyIn.cons rfl (fun K hK=>?_) AllReadyIn.nil)
     go_simp
     refine hK _ _ ?_
     clear hK K
     refine wpAnyIn_take (i:=2) (v:=?_) rfl rfl (by kernel_rfl) (by kernel_rfl) (by kernel_rfl) (fun _ _ _ h=>h) ⟨Jr ⟨by rfl,?_⟩,fun _=>rfl⟩ ?_
     rotate_left 1
     ·(intro w; go_simp; try with_reducible rfl)
     change wpAnyIn _ _ _ _ _ _ _ _ (Act.put _ (some 16) _) _
     refine wpAnyIn_ready (rs:=[3]) (by kernel_rfl) (by simp) ?_
     refine (AllReadyIn.cons rfl (fun K hK=>?_) AllReadyIn.nil)
     go_simp
     refine hK _ _ ?_
     clear hK K
     refine wpAnyIn_take (i:=6) (v:=?_) rfl rfl (by kernel_rfl) (by kernel_rfl) (by kernel_rfl) (fun _ _ _ h=>h) ⟨Jr ⟨by rfl,?_⟩,fun _=>rfl⟩ ?_
     rotate_left 1
     ·(intro w; go_simp; try with_reducible rfl)
     change wpAnyIn _ _ _ _ _ _ _ _ (Act.put _ (some 20) _) _
     refine wpAnyIn_take (i:=7) (v:=?_) rfl rfl (by kernel_rfl) (by kernel_rfl) (by kernel_rfl) (fun _ _ _ h=>h) ⟨Jr ⟨by rfl,?_⟩,fun _=>rfl⟩ ?_
     rotate_left 1
     ·(intro w; go_simp; try with_reducible rfl)
     change wpAnyIn _ _ _ _ _ _ _ _ (Act.put _ (some 21) _) _
     refine wpAnyIn_take (i:=8) (v:=undef) rfl rfl (by kernel_rfl) (by kernel_rfl) (by kernel_rfl) (fun _ _ _ h=>h) ⟨Js ⟨by kernel_rfl,rfl⟩,fun _=>by kernel_rfl⟩ ?_
     change wpAnyIn _ _ _ _ _ _ _ _ (Act.put _ (some 22) undef) _
     refine wpAnyIn_take (i:=9) (v:=undef) rfl rfl (by kernel_rfl) (by kernel_rfl) (by kernel_rfl) (fun _ _ _ h=>h) ⟨Js ⟨by kernel_rfl,rfl⟩,fun _=>by kernel_rfl⟩ ?_
     change wpAnyIn _ _ _ _ _ _ _ _ (Act.put _ (some 23) undef) _
     refine wpAnyIn_take (i:=11) (v:=undef) rfl rfl (by kernel_rfl) (by kernel_rfl) (by kernel_rfl) (fun _ _ _ h=>h) ⟨Js ⟨by kernel_rfl,rfl⟩,fun _=>by kernel_rfl⟩ ?_
     change wpAnyIn _ _ _ _ _ _ _ _ (Act.put _ (some 25) undef) _
     refine wpAnyIn_take (i:=13) (v:=undef) rfl rfl (by kernel_rfl) (by kernel_rfl) (by kernel_rfl) (fun _ _ _ h=>h) ⟨Js ⟨by kernel_rfl,rfl⟩,fun _=>by kernel_rfl⟩ ?_
     change wpAnyIn _ _ _ _ _ _ _ _ (Act.put _ (some 27) undef) _
     refine wpAnyIn_take (i:=10) (v:=undef) rfl rfl (by kernel_rfl) (by kernel_rfl) (by kernel_rfl) (fun _ _ _ h=>h) ⟨Js ⟨by kernel_rfl,rfl⟩,fun _=>by kernel_rfl⟩ ?_
     change wpAnyIn _ _ _ _ _ _ _ _ (Act.put _ (some 24) undef) _
     refine wpAnyIn_take (i:=12) (v:=undef) rfl rfl (by kernel_rfl) (by kernel_rfl) (by kernel_rfl) (fun _ _ _ h=>h) ⟨Js ⟨by kernel_rfl,rfl⟩,fun _=>by kernel_rfl⟩ ?_
     change wpAnyIn _ _ _ _ _ _ _ _ (Act.put _ (some 26) undef) _
     refine wpAnyIn_take (i:=14) (v:=undef) rfl rfl (by kernel_rfl) (by kernel_rfl) (by kernel_rfl) (fun _ _ _ h=>h) ⟨Js ⟨by kernel_rfl,rfl⟩,fun _=>by kernel_rfl⟩ ?_
     change wpAnyIn _ _ _ _ _ _ _ _ (Act.put _ (some 28) undef) _
     refine wpAnyIn_take (i:=15) (v:=undef) rfl rfl (by kernel_rfl) (by kernel_rfl) (by kernel_rfl) (fun _ _ _ h=>h) ⟨Js ⟨by kernel_rfl,rfl⟩,fun _=>by kernel_rfl⟩ ?_
     change wpAnyIn _ _ _ _ _ _ _ _ (Act.put _ (some 29) undef) _
     refine wpAnyIn_take (i:=16) (v:=undef) rfl rfl (by kernel_rfl) (by kernel_rfl) (by kernel_rfl) (fun _ _ _ h=>h) ⟨Js ⟨by kernel_rfl,rfl⟩,fun _=>by kernel_rfl⟩ ?_
     change wpAnyIn _ _ _ _ _ _ _ _ (Act.put _ (some 30) undef) _
     refine wpAnyIn_take (i:=17) (v:=undef) rfl rfl (by kernel_rfl) (by kernel_rfl) (by kernel_rfl) (fun _ _ _ h=>h) ⟨Js ⟨by kernel_rfl,rfl⟩,fun _=>by kernel_rfl⟩ ?_
     change wpAnyIn _ _ _ _ _ _ _ _ (Act.put _ (some 31) undef) _
     refine wpAnyIn_take (i:=18) (v:=undef) rfl rfl (by kernel_rfl) (by kernel_rfl) (by kernel_rfl) (fun _ _ _ h=>h) ⟨Js ⟨by kernel_rfl,rfl⟩,fun _=>by kernel_rfl⟩ ?_
     change wpAnyIn _ _ _ _ _ _ _ _ (Act.put _ (some 32) undef) _
     refine wpAnyIn_take (i:=19) (v:=?_) rfl rfl (by kernel_rfl) (by kernel_rfl) (by kernel_rfl) (fun _ _ _ h=>h) ⟨Jr ⟨by rfl,?_⟩,fun _=>rfl⟩ ?_
     rotate_left 1
     ·(intro w; go_simp; try with_reducible rfl)
     change wpAnyIn _ _ _ _ _ _ _ _ (Act.put _ (some 33) _) _
     refine wpAnyIn_done (by kernel_rfl) ?_ _
     simp only [Act.put,Jh,Ji,Jj]
     gi_wp2_with fail
     gi_meet
     exact mk
  case rest =>
   obtain ⟨b,pre',rfl,hp⟩:=hcut
   clear hJu
   cases b with
   | false =>
    have H5:=veil (Jc hp.out.2.2.2.2 (hp.out.2.1 rfl))
    clear k0 k1 k2 k3 hbfu gfu y0 y1 y2 hp
    gi_wp2
    refine bodyPost_ret (results_none rfl _ _ _) rfl ?_
    exact ⟨⟨_,rfl⟩,.inr ⟨pre',by rw [H5.out.1]; exact opL_half A F hlt,H5.out.2⟩⟩
   | true =>
    have hJp:=(hp.out.1 rfl).1
    have hkc:=(hp.out.1 rfl).2.1
    have H5:=veil (Jc (hp.out.1 rfl).2.2 (Jc hp.out.2.2.1 hp.out.2.2.2))
    clear hp
    replace k0:=hkc.cell nw k0
    replace k1:=hkc.cell nw k1
    replace k3:=hkc.cell nw k3
    replace hbfu:=hkc.cell nBf hbfu
    replace gfu:=hkc.cell nsf gfu
    have hkz:=hkc.size
    replace y0:wr.heap.size<wc.heap.size:=by omega
    replace y1:Bf<wc.heap.size:=by omega
    replace y2:sf<wc.heap.size:=by omega
    clear k2 hkz
    have hk0:=hac.out.2.2.2.1
    have hk1:=hac.out.2.2.2.2
    by_cases hpos:0<F i
    ·obtain ⟨fn,tmps,assign,body,hy,hR⟩:=hY pre' (back (A i) i hac.out) wc hJp (by have:=H5.out.2.2.1; omega) ⟨i,hlt,Js ⟨hpos,rfl⟩⟩
     simp only [encO,back] at hy
     gi_wp2
     refine hR.mono ?_
     rintro e W3 (⟨rfl,hJ3,hk3⟩ | ⟨rfl,hJx3⟩)
     ·gi_wp2
      go_roundw
      case rel =>
       refine ⟨i+1,_,by omega,by go_num,(Hu.out.2.2.2.2.trans hkc).trans hk3,hJ3,fun m hm=>?_,H5.out.2.1.more ⟨i,hlt,Js ⟨hpos,rfl⟩⟩,by rw [Jo]; have:=H5.out.2.2.1; simp only [List.length_singleton]; omega,by rw [List.map_append,H5.out.2.2.2]; show _=opL A F i ++ foL A F i ++ baL A F i; unfold baL; rw [if_pos hpos]; rfl⟩
       by_cases h1:m<i
       ·exact H5.out.1.1.more _ m h1
       ·obtain rfl:m=i:=by omega
        exact ⟨fun h2=>by obtain ⟨z,hz,e⟩:=H5.out.1.2 h2; exact ⟨z,Ju _ hz,e⟩,fun _=>⟨_,Jt _ (List.mem_singleton.2 rfl),rfl⟩⟩
      case measure=>simp [intOf]; omega
     ·gi_wp2
      refine bodyPost_ret (results_none rfl _ _ _) rfl ?_
      exact ⟨⟨_,rfl⟩,.inr ⟨_,by rw [List.map_append,H5.out.2.2.2]; refine List.IsPrefix.trans ?_ (opL_pre A F (show i+1≤la by omega)); show _ <+: opL A F i ++ foL A F i ++ baL A F i; unfold baL; rw [if_pos hpos]; exact List.prefix_refl _,hJx3⟩⟩
    ·gi_wp2
     refine ⟨fun _ h=>(by cases h),?_⟩
     gi_wp2
     go_roundw
     case rel =>
      refine ⟨i+1,_,by omega,by go_num,Hu.out.2.2.2.2.trans hkc,hJp,fun m hm=>?_,H5.out.2.1,by have:=H5.out.2.2.1; omega,by rw [H5.out.2.2.2]; show _=opL A F i ++ foL A F i ++ baL A F i; unfold baL; rw [if_neg (show ¬ 0<F i by omega)]; simp⟩
      by_cases h1:m<i
      ·exact H5.out.1.1 m h1
      ·obtain rfl:m=i:=by omega
       exact ⟨H5.out.1.2,fun h2=>absurd h2 (by omega)⟩
     case measure=>simp [intOf]; omega
 ·obtain rfl:i=la:=by omega
  gi_wp2
  go_end0
  exact ⟨⟨_,rfl⟩,.inl ⟨_,hall.out.1,hall.out.2.2.2,hJs⟩⟩
end
end Go.Proofs.Ytjdindfjfpdikab
