import Derived.ArgAppend
import Derived.Test.YtjdindfjfpdikaaGreatB03
import Derived.Test.YtjdindfjfpdikaaGreatB13
import Derived.Test.YtjdindfjfpdikaaGreatPre
set_option maxRecDepth 100000
set_option maxHeartbeats 8000000
namespace Go.Proofs.YtjdindfjfpdikaaGreat
section
open Go.RowKit
theorem Zj8:(Tryz.prog.info? 3).map (fun i=>(i.zero,i.size,i.bytes))=some (some (.int .i64 0),1,8):=by kernel_rfl
theorem ZkK:(Tryz.prog.info? 32).map (fun i=>(i.zero,i.size,i.bytes))=some (some (.slice none 0 0),1,24):=by kernel_rfl
def MarkL (w:World)(g hb:Nat)(m:Int)(len:Nat)(y:Value):Prop:=(y=.slice none 0 0∧len=0)∨∃ b c cs,y=.slice (some ⟨b,0,none⟩) len c∧w.heap[b]?=some (.cells cs 3)∧cs.size=c∧(b=g∨hb<b)∧len≤c∧∀ i,i<len→cs[i]?=some (.int .i64 m)
structure Kept (w0 W:World)(g hb:Nat)(m:Int)(len j:Nat)(x hv:Value)(vals:List Value):Prop where
 hold:W.heap[hb]?=some (.cells #[hv,.slice none 0 0,.int .i64 m] 91)
 row:W.ownsRow (hb+1) 32 1 hv (j+1) vals
 lists:∀ y∈vals,∃ l,l≤len+j∧MarkL W g hb m l y
 cur:MarkL W g hb m (len+j) x
 only:Only [g] w0 W
theorem Za0 (W:World)(b i:Nat)(v:Value):W.grownBy (W.setCell ⟨b,i,none⟩ v) (some b) :=
 ⟨rfl,rfl,rfl,by simp [World.setCell],fun k _ hn=>by
  have:¬ b=k:=fun e=>hn (by simp [e])
  simp [World.setCell,Array.getElem?_modify,this]⟩
theorem MarkL.move {w w':World}{g hb len:Nat}{m:Int}{y:Value}(h:MarkL w g hb m len y)(hm:∀ b cs,w.heap[b]?=some (.cells cs 3)→(b=g∨hb<b)→w'.heap[b]?=w.heap[b]?):MarkL w' g hb m len y:=by
 rcases h with h | ⟨b,c,cs,e,hh,hs,hb',hl,hi⟩
 ·exact Jr h
 ·exact Js ⟨b,c,cs,e,(hm b cs hh hb').trans hh,hs,hb',hl,hi⟩
def MarkP (w:World)(g:Nat)(p:Option Addr)(cap i:Nat)(m:Int):Prop:=(p=none∧cap=0)∨(p=some ⟨g,0,none⟩∧∃ cs,w.heap[g]?=some (.cells cs 3)∧cs.size=cap∧∀ k,k<i→cs[k]?=some (.int .i64 m))
theorem MarkP.mark {w:World}{g hb cap len:Nat}{p:Option Addr}{m:Int}(h:MarkP w g p cap len m)(hl:len≤cap):MarkL w g hb m len (.slice p len cap):=by
 rcases h with ⟨rfl,rfl⟩ | ⟨rfl,cs,hh,hs,hi⟩
 ·obtain rfl:len=0:=by omega
  exact Jr ⟨rfl,rfl⟩
 ·exact Js ⟨g,cap,cs,rfl,hh,hs,Jr rfl,hl,hi⟩
theorem MarkP.move {w w':World}{g cap i:Nat}{p:Option Addr}{m:Int}(h:MarkP w g p cap i m)(hm:g<w.heap.size→w'.heap[g]?=w.heap[g]?):MarkP w' g p cap i m:=by
 rcases h with h | ⟨e,cs,hh,hr⟩
 ·exact Jr h
 ·exact Js ⟨e,cs,(hm (Ja.1 hh).1).trans hh,hr⟩
def NumP (w:World)(g:Nat)(p:Option Addr)(len cap:Nat):Prop:=len≤cap∧((p=none∧cap=0∧g=w.heap.size+1)∨(p=some ⟨g,0,none⟩∧∃ cs,w.heap[g]?=some (.cells cs 3)∧cs.size=cap))
theorem Nums.numP {w:World}{g len:Nat}{G:Nat→Int}(h:Nums w g len G):NumP w g (some ⟨g,0,none⟩) len len:=⟨Jb _,Js ⟨rfl,_,h,by simp [ZaC]⟩⟩
theorem ZcU {ops:Array Oper}{rest:List Oper}{o:Oper}{a:Act}{Q:Exit→Act→World→Prop}(A:World)(g hb n:Nat)(m:Int)(x:Value)(hgd:o.guard=none)(sO xO:Operand)
  (hop:o.op=Op.call { callee:=Callee.builtin Builtin.append,args:=#[sO,xO],argTypes:=#[32,32] }) (hs:a.eval sO=x) (hx:MarkL A g hb m n x) (ad:Nat) (had:a.eval xO=.slice (some ⟨ad,0,none⟩) 1 1)
  (hc:A.cell? ⟨ad,0,none⟩=some (.int .i64 m)) (hA:hb<A.heap.size) (hn:(n+1)*8≤140737488355328)
  (hK:∀ (v':Value) (w':World),MarkL w' g hb m (n+1) v'→(∀ l y,MarkL A g hb m l y→MarkL w' g hb m l y)→(∀ (k:Nat) (cs:Array Value) (T:TypeId),T≠3→A.heap[k]?=some (.cells cs T)→w'.heap[k]?=some (.cells cs T))→(∃ b,(b=g∨hb<b)∧Only [b] A w')→wpList Tryz.prog ops Q rest (a.put o.dst v') w') :
  wpList Tryz.prog ops Q (o :: rest) a A:=by
 obtain ⟨i3,hi3,hy0,hy1,hy2⟩:=info_parts Zj8
 rcases hx with ⟨rfl,rfl⟩ | ⟨b,c,cs,rfl,hh,hsz,hb',hl,hi⟩
 ·refine wpList_append_own_at A hgd sO xO 32 hop (hb+1) 3 i3 (.int .i64 0) 1 8 Tryz.underlying32 hi3 hy0 hy1 hy2 rfl (by decide) (.slice none 0 0) 0 [] hs (World.ownsRow_nil _ (hb+1) 3 1) ⟨ad,0,none⟩ 1 1 [.int .i64 m] had rfl (fun j u hj=>?_) (fun u hu=>by simp at hu; subst hu; rfl) (by unfold maxLen; omega) (by omega) hA ?_
  ·have:j=0:=by
    have:=(List.getElem?_eq_some_iff.1 hj).1
    simp at this; exact this
   subst this
   simp at hj
   subst hj
   exact hc
  ·intro v' w' hrow hg _ _
   rcases hrow.2 with ⟨_,e⟩ | ⟨b2,c2,cs2,rfl,hb2,hh2,hl2,_,hs2,ht2⟩
   ·omega
   have hold:∀ k ob,A.heap[k]?=some ob→w'.heap[k]?=some ob:=fun k ob hk=>(hg.block k (Ja.1 hk).1 (by simp [Value.ownBlock])).trans hk
   refine hK _ _ (Js ⟨b2,c2,cs2,rfl,hh2,by simpa using hs2,Js (by omega),hl2,fun i hi'=>?_⟩) (fun l y hy=>hy.move fun b1 cs1 h1 _=>(hold b1 _ h1).trans h1.symm) (fun k cs' T hT hk=>hold k _ hk) ⟨g,Jr rfl,Only.of_grown' hg (fun b e=>by simp [Value.ownBlock] at e)⟩
   obtain rfl:i=0:=by omega
   have hx:(cs2.toList.take ((0+1)*1))[0]?=some (.int .i64 m):=by rw [ht2]; rfl
   rw [List.getElem?_take_of_lt (by omega)] at hx
   simpa using hx
 have hlen:(cs.toList.take n).length=n:=by simp; omega
 have hat:∀ j u,(cs.toList.take n)[j]?=some u→cs[j]?=some u∧j<n:=fun j u h=>by
  have hj:j<n:=by
   have:=(List.getElem?_eq_some_iff.1 h).1
   omega
  rw [List.getElem?_take_of_lt hj] at h
  exact ⟨by simpa using h,hj⟩
 refine wpList_append_arg A hgd sO xO 32 hop 3 i3 (.int .i64 0) 1 8 Tryz.underlying32 hi3 hy0 hy1 hy2 rfl (by decide) b 0 n c (cs.toList.take n) hs (by omega) ?_ ⟨ad,0,none⟩ 1 1 [.int .i64 m] had rfl ?_ ?_ ?_ (by unfold maxLen; omega) (by omega) ?_ ?_
 ·intro j u hj
  rw [Nat.zero_add,Zaf hh]
  exact (hat j u hj).1
 ·intro j u hj
  have:j=0:=by
   have:=(List.getElem?_eq_some_iff.1 hj).1
   simp at this; exact this
  subst this
  simp at hj
  subst hj
  exact hc
 ·intro u hu
  simp at hu; subst hu; rfl
 ·intro hr j hj
  have:j=0:=by simp at hj; exact hj
  subst this
  refine ⟨?_,by simp [World.frozen?,hh]⟩
  rw [Zaf hh,Array.getElem?_eq_getElem (by omega)]
  rfl
 ·intro hr
  have e:A.setCells b (0+n*1) [.int .i64 m]=A.setCell ⟨b,n,none⟩ (.int .i64 m):=by simp [World.setCells]
  rw [e]
  have hB:(A.setCell ⟨b,n,none⟩ (.int .i64 m)).heap[b]?=some (.cells (cs.setIfInBounds n (.int .i64 m)) 3):=by simp [World.setCell,Array.getElem?_modify,hh]
  have gs:=Za0 A b n (.int .i64 m)
  refine hK _ _ (Js ⟨b,c,_,rfl,hB,by simp [hsz],hb',hr,fun i hi'=>?_⟩) (fun l y hy=>?_) (fun k cs' T hT hk=>?_) ⟨b,hb',Only.of_grown gs (by simp)⟩
  ·rw [Array.getElem?_setIfInBounds]
   by_cases e:n=i
   ·rw [if_pos e,if_pos (by omega)]
   ·rw [if_neg e]; exact hi i (by omega)
  ·rcases hy with hy | ⟨b1,c1,cs1,rfl,hh1,hsz1,hb1,hl1,hi1⟩
   ·exact Jr hy
   by_cases eb:b1=b
   ·subst eb
    rw [hh] at hh1
    cases hh1
    refine Js ⟨b1,c1,_,rfl,hB,by simp [hsz1],hb1,hl1,fun i hi'=>?_⟩
    rw [Array.getElem?_setIfInBounds]
    by_cases e:n=i
    ·rw [if_pos e,if_pos (by omega)]
    ·rw [if_neg e]; exact hi1 i hi'
   ·exact Js ⟨b1,c1,cs1,rfl,(gs.block b1 (Ja.1 hh1).1 (by simpa using eb)).trans hh1,hsz1,hb1,hl1,hi1⟩
  ·refine (gs.block k (Ja.1 hk).1 ?_).trans hk
   intro e
   have e':k=b:=by simpa using e
   subst e'
   rw [hh] at hk
   cases hk
   exact hT rfl
 ·intro hr v' w' hrow hg
  rcases hrow.2 with ⟨_,e⟩ | ⟨b2,c2,cs2,rfl,hb2,hh2,hl2,_,hs2,ht2⟩
  ·omega
  have hold:∀ k ob,A.heap[k]?=some ob→w'.heap[k]?=some ob:=fun k ob hk=>(hg.block k (Ja.1 hk).1 (by simp)).trans hk
  refine hK _ _ (Js ⟨b2,c2,cs2,rfl,hh2,by simpa using hs2,Js (by omega),hl2,fun i hi'=>?_⟩) (fun l y hy=>hy.move fun b1 cs1 h1 _=>(hold b1 _ h1).trans h1.symm) (fun k cs' T hT hk=>hold k _ hk) ⟨b,hb',Only.of_grown' hg (fun b e=>by cases e)⟩
  have hx:(cs2.toList.take ((n+1)*1))[i]?=some (.int .i64 m):=by
   rw [ht2,List.getElem?_append]
   by_cases e:i<n
   ·rw [if_pos (by omega),List.getElem?_take_of_lt e]
    simpa using hi i e
   ·have e':i=n:=by omega
    subst e'
    rw [if_neg (by omega),hlen]
    simp
  rw [List.getElem?_take_of_lt (by omega)] at hx
  simpa using hx
end
section
open Go.RowKit
theorem Zbu {w w':World}{base size n:Nat}{e:TypeId}{v:Value}{xs:List Value}(h:w.ownsRow base e size v n xs)(hk:∀ (k:Nat)(cs:Array Value),w.heap[k]?=some (.cells cs e)→w'.heap[k]?=some (.cells cs e)):w'.ownsRow base e size v n xs:=by
 refine ⟨h.1,?_⟩
 rcases h.2 with hn | ⟨g,cap,cur,hv,hb,hg,rest⟩
 ·exact .inl hn
 ·exact .inr ⟨g,cap,cur,hv,hb,hk g cur hg,rest⟩
theorem Kept.next {w1 wr w9 w10:World}{g hb len j cu:Nat}{m:Int}{x x' hv:Value}{vals:List Value}{pu:Option Addr}(K:Kept w1 wr g hb m len j x hv vals)(hw1:w1.heap.size=hb)(hg:g≠hb)
  (hM9:MarkL w9 g hb m (len+j+1) x') (hAll9:∀ l y,MarkL (wr.alloc (.cells #[.int .i64 m] 3)) g hb m l y→MarkL w9 g hb m l y)
  (hT9:∀ (k:Nat) (cs:Array Value) (T:TypeId),T≠3→(wr.alloc (.cells #[.int .i64 m] 3)).heap[k]?=some (.cells cs T)→w9.heap[k]?=some (.cells cs T)) (hO9:∃ b,(b=g∨hb<b)∧Only [b] (wr.alloc (.cells #[.int .i64 m] 3)) w9)
  (hrow:w10.ownsRow (hb+1) 32 1 (.slice pu (j+1+1) cu) (j+1+1) (vals ++ [x'])) (hg10:(w9.alloc (.cells #[x'] 32)).grownBy w10 hv.ownBlock) :
  Kept w1 (w10.setCell ⟨hb,0,none⟩ (.slice pu (j+1+1) cu)) g hb m len (j+1) x' (.slice pu (j+1+1) cu) (vals ++ [x']):=by
 have o1:∀ (k:Nat) (ob:Obj),wr.heap[k]?=some ob→(wr.alloc (.cells #[.int .i64 m] 3)).heap[k]?=some ob:=fun k ob hk=>(heap_alloc_old wr _ (Ja.1 hk).1).trans hk
 have t9:∀ (k:Nat) (cs:Array Value) (T:TypeId),T≠3→wr.heap[k]?=some (.cells cs T)→w9.heap[k]?=some (.cells cs T):=fun k cs T hT hk=>hT9 k cs T hT (o1 k _ hk)
 obtain ⟨gi,hgi,hgb,cg,hg9⟩:∃ gi,hv.ownBlock=some gi∧hb+1≤gi∧∃ cg,w9.heap[gi]?=some (.cells cg 32):=by
  rcases K.row.2 with ⟨_,e⟩ | ⟨gi,cap,cur,e,hb',hgg,_⟩
  ·omega
  ·exact ⟨gi,by rw [e]; rfl,hb',cur,t9 gi cur 32 (by decide) hgg⟩
 rw [hgi] at hg10
 have gs:=Za0 w10 hb 0 (.slice pu (j+1+1) cu)
 have o10:∀ (k:Nat) (ob:Obj),k≠gi→w9.heap[k]?=some ob→w10.heap[k]?=some ob:=fun k ob hne hk=>by
  have hlt:=(Ja.1 hk).1
  exact (hg10.block k (by simp; omega) (by simpa using hne)).trans ((heap_alloc_old w9 _ hlt).trans hk)
 have m10:∀ l y,MarkL w9 g hb m l y→MarkL (w10.setCell ⟨hb,0,none⟩ (.slice pu (j+1+1) cu)) g hb m l y:=fun l y hy=>by
  refine hy.move (fun b cs h hb'=>?_)
  have h10:=o10 b _ (fun e=>by subst e; rw [hg9] at h; cases h) h
  have hne:¬ b=hb:=by rcases hb' with rfl | h; exact hg; omega
  exact ((gs.block b (Ja.1 h10).1 (by simpa using hne)).trans h10).trans h.symm
 have H9:=t9 hb _ 91 (by decide) K.hold
 have H10:=o10 hb _ (by omega) H9
 refine ⟨?_,hrow.kept gs (Js ?_),?_,m10 _ _ hM9,?_⟩
 ·simp [World.setCell,Array.getElem?_modify,H10]
 ·intro e
  have:=(hrow.lt hb e).1
  omega
 ·intro y hy
  rcases List.mem_append.1 hy with hy | hy
  ·obtain ⟨l,hl,hy⟩:=K.lists y hy
   exact ⟨l,by omega,m10 _ _ (hAll9 _ _ (hy.move (fun b cs h _=>(o1 b _ h).trans h.symm)))⟩
  ·obtain rfl:y=x':=by simpa using hy
   exact ⟨_,Jb _,m10 _ _ hM9⟩
 ·obtain ⟨b,hb',hO⟩:=hO9
  have c1:Only [g] w1 (wr.alloc (.cells #[.int .i64 m] 3)):=K.only.trans (Only.of_below ((Jd _ _).alloc (Jb _) _))
  have c2:Only [g] w1 w9:=c1.chain hO (fun y hy=>by
   obtain rfl:y=b:=by simpa using hy
   rcases hb' with h | h
   ·exact Jr (by simp [h])
   ·exact Js (by omega))
  have c3:Only [g] w1 (w9.alloc (.cells #[x'] 32)):=c2.trans (Only.of_below ((Jd _ _).alloc (Jb _) _))
  have c4:Only [g] w1 w10:=c3.chain (Only.of_grown hg10 (S:=[gi]) (by simp)) (fun y hy=>Js (by simp at hy; omega))
  exact c4.chain (Only.of_grown gs (S:=[hb]) (by simp)) (fun y hy=>Js (by simp at hy; omega))
end
section
open Go.RowKit
def HeldBy (w:World)(hb:Nat)(F:List Nat):Prop:=(∀ b∈F,b<w.heap.size)∧∀ w':World,(∀ b∈F,w'.heap[b]?=w.heap[b]?)→Held w' hb
theorem HeldBy.held {w:World}{hb:Nat}{F:List Nat}(h:HeldBy w hb F):Held w hb:=h.2 w (fun _ _=>rfl)
theorem HeldBy.move {w w':World}{hb:Nat}{F:List Nat}(h:HeldBy w hb F)(hm:∀ b∈F,w'.heap[b]?=w.heap[b]?):HeldBy w' hb F:=by
 refine ⟨fun b hb'=>?_,fun w'' h''=>h.2 w'' (fun b hb'=>(h'' b hb').trans (hm b hb'))⟩
 have h1:=h.1 b hb'
 have h2:=hm b hb'
 rw [Array.getElem?_eq_getElem h1] at h2
 exact (Ja.1 h2).1
theorem HeldBy.only {w w':World}{hb:Nat}{F S:List Nat}(h:HeldBy w hb F)(ho:Only S w w')(hd:∀ b∈F,b∉S):HeldBy w' hb F:=h.move (fun b hb'=>ho.block b (h.1 b hb') (hd b hb'))
theorem Zcz {o:Option Nat}{b:Nat}:b∈o.toList↔o=some b:=by cases o <;> simp [eq_comm]
def footH (hb:Nat)(hv:Value)(vals:List Value):List Nat:=hb :: (hv.ownBlock.toList ++ vals.filterMap Value.ownBlock)
theorem Zbe {hb b:Nat}{hv:Value}{vals:List Value}:b∈footH hb hv vals↔b=hb∨hv.ownBlock=some b∨∃ y∈vals,y.ownBlock=some b:=by
 simp [footH,List.mem_filterMap]
theorem ZfA {W:World}{g hb n L:Nat}{m:Int}{hv:Value}{vals:List Value}(hold:W.heap[hb]?=some (.cells #[hv,.slice none 0 0,.int .i64 m] 91))(row:W.ownsRow (hb+1) 32 1 hv (n+1) vals)(hn:n<1000)
  (lists:∀ y∈vals,∃ l,l≤L∧MarkL W g hb m l y) (hL:L≤1000000000000000):HeldBy W hb (footH hb hv vals):=by
 rcases row.2 with ⟨_,e⟩ | ⟨gi,cap,cur,rfl,hbg,hcur,hnc,hcap,hsz,htake⟩
 ·omega
 have hat:∀ i,i<n+1→∃ y,y∈vals∧cur[i]?=some y:=fun i hi=>by
  have hlen:=row.1
  have hi':i<vals.length:=by omega
  obtain ⟨y,hy⟩:∃ y,vals[i]?=some y:=⟨_,List.getElem?_eq_getElem hi'⟩
  refine ⟨y,List.mem_of_getElem? hy,?_⟩
  rw [← htake,List.getElem?_take_of_lt (by omega)] at hy
  simpa using hy
 constructor
 ·intro b hb'
  rcases Zbe.1 hb' with rfl | e | ⟨y,hy,e⟩
  ·exact (Ja.1 hold).1
  ·exact (row.lt b e).2
  ·obtain ⟨l,_,⟨rfl,_⟩ | ⟨b1,c,cs,rfl,hh,_⟩⟩:=lists y hy
   ·simp [Value.ownBlock] at e
   have:b1=b:=by simpa [Value.ownBlock] using e
   subst this
   exact (Ja.1 hh).1
 ·intro w' hm
  refine ⟨m,_,_,_,_,_,_,⟨(hm hb (Zbe.2 (Jr rfl))).trans hold,fun i hi=>?_,fun i hi=>by omega⟩,by omega,by omega⟩
  obtain ⟨y,hy,hc⟩:=hat i hi
  have hg':=(hm gi (Zbe.2 (Js (Jr rfl)))).trans hcur
  obtain ⟨l,hl,⟨rfl,rfl⟩ | ⟨b,c,cs,rfl,hh,hs,_,hlc,hall⟩⟩:=lists y hy
  ·exact ⟨gi,0,none,0,0,rfl,(Ja.1 hg').1,by rw [Nat.zero_add,Zaf hg',hc],by omega,Jr rfl⟩
  have hb':=(hm b (Zbe.2 (Js (Js ⟨_,hy,rfl⟩)))).trans hh
  refine ⟨gi,0,_,l,c,rfl,(Ja.1 hg').1,?_,by omega,Js ⟨b,0,rfl,(Ja.1 hb').1,fun k hk=>?_⟩⟩
  ·rw [Nat.zero_add,Zaf hg',hc]
  ·rw [Nat.zero_add,Zaf hb']
   exact hall k hk
def encH (x:Nat×List Nat):List Value:=[.pointer (some ⟨x.1,0,none⟩)]
structure HoldsAt (w:World)(wb:Nat)(vh:Value)(hs:List (Nat×List Nat)):Prop where
 row:RowAt w 53 1 encH vh hs
 held:∀ x∈hs,HeldBy w x.1 x.2
 ne:∀ x∈hs,∀ b∈x.2,b≠wb∧vh.ownBlock≠some b
theorem HoldsAt.holds {w:World}{wb:Nat}{vh:Value}{hs:List (Nat×List Nat)}(h:HoldsAt w wb vh hs):∃ p cap,vh=.slice p hs.length cap∧Holds w p hs.length:=by
 rcases h.row.2 with ⟨rfl,e⟩ | ⟨g,cap,cur,rfl,_,hcur,hnc,_,_,htake⟩
 ·exact ⟨none,0,by rw [e],fun i hi=>by omega⟩
 ·refine ⟨_,cap,rfl,fun i hi=>?_⟩
  have e:hs.flatMap encH=hs.map (fun x=>Value.pointer (some ⟨x.1,0,none⟩)):=by
   have:∀ l:List (Nat×List Nat),l.flatMap encH=l.map (fun x=>Value.pointer (some ⟨x.1,0,none⟩)):=fun l=>by
    induction l with
    | nil=>rfl
    | cons a l ih=>rw [List.flatMap_cons,ih]; rfl
   exact this hs
  have h1:(hs.flatMap encH)[i]?=some (.pointer (some ⟨(hs[i]).1,0,none⟩)):=by rw [e]; simp [hi]
  rw [← htake,List.getElem?_take_of_lt (by omega)] at h1
  refine ⟨g,0,(hs[i]).1,rfl,(Ja.1 hcur).1,?_,(h.held _ (Jl hi)).held⟩
  rw [Nat.zero_add,Zaf hcur]
  simpa using h1
structure KeptOne (w:World)(wb g:Nat)(v vh:Value)(hs:List (Nat×List Nat))(w':World)(vh':Value)(x:Nat×List Nat):Prop where
 cells:w'.heap[wb]?=some (.cells #[v,vh'] 29)
 holds:HoldsAt w' wb vh' (hs ++ [x])
 new:∀ b∈x.2,b=g∨w.heap.size≤b
 only:Only (g :: wb :: vh.ownBlock.toList) w w'
 loc:∀ b,vh'.ownBlock=some b→vh.ownBlock=some b∨w.heap.size≤b
theorem Only.sub {S T:List Nat}{w w':World}(h:Only S w w')(hs:∀ b∈S,b∈T):Only T w w':=⟨h.os,h.tape,h.output,h.size,fun k hk hn=>h.block k hk (fun hm=>hn (hs k hm))⟩
theorem RowAt.mv {α:Type}{w w':World}{e size:Nat}{enc:α→List Value}{v:Value}{xs:List α}(h:RowAt w e size enc v xs)(hb:∀ b,v.ownBlock=some b→w'.heap[b]?=w.heap[b]?):RowAt w' e size enc v xs:=by
 refine ⟨h.1,?_⟩
 rcases h.2 with h2 | ⟨g,cap,cur,hv,h0,hg,hr⟩
 ·exact Jr h2
 ·exact Js ⟨g,cap,cur,hv,h0,(hb g (by rw [hv]; rfl)).trans hg,hr⟩
theorem Zga {w W3 w11:World}{wb g hb:Nat}{v vh u:Value}{hs:List (Nat×List Nat)}{F:List Nat}(h:w.heap[wb]?=some (.cells #[v,vh] 29))(H:HoldsAt w wb vh hs)(hgF:∀ x∈hs,g∉x.2)(hgwb:¬ wb=g)(hgvh:vh.ownBlock≠some g)(hvwb:vh.ownBlock≠some wb)
  (hO:Only [g] w W3) (hF:HeldBy W3 hb F) (hnew:∀ b∈F,b=g∨w.heap.size≤b) (o:Obj)
  (hg11:(W3.alloc o).grownBy w11 vh.ownBlock) (hrow11:w11.ownsRow 0 53 1 u (hs.length+1) (hs.flatMap encH ++ [.pointer (some ⟨hb,0,none⟩)])) (hloc11:u.ownBlock=vh.ownBlock∨u.ownBlock=some (W3.alloc o).heap.size) :
  KeptOne w wb g v vh hs (w11.setCell ⟨wb,1,none⟩ u) u (hb,F):=by
 have hl:wb<w.heap.size:=(Ja.1 h).1
 have hs3:=hO.size
 have hz:(W3.alloc o).heap.size=W3.heap.size+1:=by simp
 have hvl:∀ b,vh.ownBlock=some b→b<w.heap.size:=fun b e=>H.row.lt e
 have hFl:∀ b∈F,b<W3.heap.size:=hF.1
 have hFv:∀ b∈F,vh.ownBlock≠some b:=fun b hb' e=>by
  rcases hnew b hb' with rfl | h1
  ·exact hgvh e
  ·have:=hvl b e; omega
 have hFw:∀ b∈F,b≠wb:=fun b hb' e=>by
  subst e
  rcases hnew b hb' with h1 | h1
  ·exact hgwb h1
  ·omega
 have gs:=Za0 w11 wb 1 u
 have go11:∀ b,b<W3.heap.size→vh.ownBlock≠some b→w11.heap[b]?=W3.heap[b]?:=fun b hb' hne=>(hg11.block b (by omega) (fun e=>hne e.symm)).trans (heap_alloc_old W3 _ hb')
 have h11:w11.heap[wb]?=some (.cells #[v,vh] 29):=(go11 wb (by omega) hvwb).trans ((hO.block wb hl (by simpa using hgwb)).trans h)
 have hl11:W3.heap.size≤w11.heap.size:=by have:=hg11.size; omega
 have last:∀ b,b<W3.heap.size→vh.ownBlock≠some b→b≠wb→(w11.setCell ⟨wb,1,none⟩ u).heap[b]?=W3.heap[b]?:=fun b hb' hne hnw=>(gs.block b (by omega) (by simpa using hnw)).trans (go11 b hb' hne)
 have huw:u.ownBlock≠some wb:=by
  rcases hloc11 with e | e
  ·rw [e]; exact hvwb
  ·rw [e]; simp; omega
 have hub:∀ b,u.ownBlock=some b→vh.ownBlock=some b∨W3.heap.size≤b:=fun b e=>by
  rcases hloc11 with e' | e'
  ·left; rw [← e']; exact e
  ·right; rw [e'] at e; cases e; omega
 refine ⟨?_,⟨?_,fun x hx=>?_,fun x hx b hb'=>?_⟩,hnew,?_,fun b e=>(hub b e).imp_right (fun q=>by omega)⟩
 ·simp [World.setCell,Array.getElem?_modify,h11]
 ·have hk:=hrow11.kept gs (Js huw)
  unfold RowAt
  simpa [encH,List.flatMap_append] using hk
 ·rcases List.mem_append.1 hx with hx | hx
  ·have h1:=H.held x hx
   refine h1.move (fun b hb'=>?_)
   have hne:=H.ne x hx b hb'
   have hbg:b≠g:=fun e=>hgF x hx (e ▸ hb')
   exact (last b (by have:=h1.1 b hb'; omega) hne.2 hne.1).trans (hO.block b (h1.1 b hb') (by simpa using hbg))
  ·obtain rfl:=List.mem_singleton.1 hx
   exact hF.move (fun b hb'=>last b (hFl b hb') (hFv b hb') (hFw b hb'))
 ·rcases List.mem_append.1 hx with hx | hx
  ·refine ⟨(H.ne x hx b hb').1,fun e=>?_⟩
   rcases hub b e with h1 | h1
   ·exact (H.ne x hx b hb').2 h1
   ·have:=(H.held x hx).1 b hb'; omega
  ·obtain rfl:=List.mem_singleton.1 hx
   refine ⟨hFw b hb',fun e=>?_⟩
   rcases hub b e with h1 | h1
   ·exact hFv b hb' h1
   ·have:=hFl b hb'; omega
 ·refine (hO.sub (fun b hb'=>?_)).trans ((Only.of_below ((Jd _ _).alloc (Jb _) o)).trans ((Only.of_grown' hg11 (fun b e=>?_)).trans (Only.of_grown gs ?_)))
  ·rw [List.mem_singleton.1 hb']; exact Jp
  ·exact Jk _ (Jk _ (Zcz.2 e))
  ·exact Jk _ Jp
end
section
open Go.RowKit
theorem ZhE:(Tryz.prog.info? 53).map (fun i=>(i.zero,i.size,i.bytes))=some (some (.pointer none),1,8):=by kernel_rfl
theorem ZaT {w:World}{b:Nat}{cs:Array Value}{t:TypeId}(h:w.heap[b]?=some (.cells cs t))(i:Nat):w.cell? ⟨b,i,none⟩=cs[i]?:=by simp [World.cell?,h]
theorem ZaF {w:World}{b:Nat}{cs:Array Value}{t:TypeId}(h:w.heap[b]?=some (.cells cs t))(i:Nat):w.frozen? ⟨b,i,none⟩=false:=by simp [World.frozen?,h]
theorem Zdd (w:World)(wb g len cap:Nat)(p0:Option Addr)(v vh:Value)(hs:List (Nat×List Nat))(h:w.heap[wb]?=some (.cells #[v,vh] 29))(H:HoldsAt w wb vh hs)(hn:hs.length≤10000000000000)(hg:NumP w g p0 len cap)(hlen:len*8≤140737488355000)(hgF:∀ x∈hs,g∉x.2) :
  Calls Tryz.prog 47 #[.pointer (some ⟨wb,0,none⟩),.slice p0 len cap] w fun e w'=>e=.returned (.tuple #[])∧∃ vh' x,KeptOne w wb g v vh hs w' vh' x:=by
 obtain ⟨p,cn,rfl⟩:=Zah H.row
 obtain ⟨n,hnn⟩:∃ n,hs.length=n:=⟨_,rfl⟩
 rw [hnn] at h hn
 have hlwb:wb<w.heap.size:=(Ja.1 h).1
 obtain ⟨hlc,hgg⟩:=hg
 have hgwb:¬ wb=g:=fun e=>by
  rcases hgg with ⟨_,_,e'⟩ | ⟨_,cs,hg',_⟩
  ·omega
  ·subst e; rw [h] at hg'; simp at hg'
 have hgvh:(Value.slice p hs.length cn).ownBlock≠some g:=fun e=>by
  obtain ⟨cur,hc⟩:=H.row.elem e
  rcases hgg with ⟨_,_,e'⟩ | ⟨_,cs,hg',_⟩
  ·have:=(Ja.1 hc).1; omega
  ·rw [hg'] at hc; simp at hc
 have hvwb:(Value.slice p hs.length cn).ownBlock≠some wb:=fun e=>by
  obtain ⟨cur,hc⟩:=H.row.elem e
  rw [h] at hc; simp at hc
 have hgs:g≠w.heap.size:=fun e=>by
  rcases hgg with ⟨_,_,e'⟩ | ⟨_,cs,hg',_⟩
  ·omega
  ·have:=(Ja.1 hg').1; omega
 have M0:∀ m,MarkP w g p0 cap 0 m:=fun m=>by
  rcases hgg with ⟨e1,e2,_⟩ | ⟨e1,cs,h1,h2⟩
  ·exact Jr ⟨e1,e2⟩
  ·exact Js ⟨e1,cs,h1,h2,fun k hk=>by omega⟩
 clear hgg
 have HH:=Zan (Jc H (Jc hgF (Jc hgvh hvwb)))
 clear H hgF hgvh hvwb
 obtain ⟨i5,hi5,hz0,hz1,hz2⟩:=info_parts ZhE
 obtain ⟨i3,hi3,hy0,hy1,hy2⟩:=info_parts Zj8
 obtain ⟨i4,hi4,hx0,hx1,hx2⟩:=info_parts ZkK
 go_enter Tryz.func47,Tryz.ntmps47
 go_wp2_with (go_at_call 78; refine (Zgd _ _ _ _ _ _ h (by omega)).mono ?_; rintro e w1 ⟨rfl,rfl⟩)
 obtain ⟨m,hm⟩:∃ m,(-10000000 - (n:Int))=m:=⟨_,rfl⟩
 simp only [hm]
 have Hm:=Zan hm
 clear hm
 obtain ⟨hb,hhb⟩:∃ hb,w1.heap.size=hb:=⟨_,rfl⟩
 simp only [hhb]
 obtain ⟨W1,hW1⟩:∃ W1,w1.alloc (.cells #[.slice none 0 0,.slice none 0 0,.int .i64 m] 91)=W1:=⟨_,rfl⟩
 have X1:W1.heap[hb]?=some (.cells #[.slice none 0 0,.slice none 0 0,.int .i64 m] 91):=by rw [← hW1,← hhb]; exact heap_alloc_new w1 _
 have O1:Below w1.heap.size w1 W1:=by rw [← hW1]; exact (Jd _ _).alloc (Jb _) _
 rw [hW1]
 clear hW1
 go_loopg [5] len (fun gk iv wr=>∃ (i:Nat),i≤len∧len - i≤gk∧iv=.int .i64 i∧MarkP wr g p0 cap i m∧wr.heap[hb]?=some (.cells #[.slice none 0 0,.slice none 0 0,.int .i64 m] 91)∧Only [g] w1 wr)
 case atStart=>exact ⟨0,Jq _,Jb _,rfl,(M0 m).move (fun hl=>O1.block _ hl),X1,Only.of_below O1⟩
 case' round=>skip
 clear X1 O1
 obtain ⟨i,hi,hgk,rfl,hN,X,O⟩:=hrel
 rename World=>W2
 have hne:¬ g=hb:=by omega
 have y9:hb<W2.heap.size:=(Ja.1 X).1
 have y2:W2.cell? ⟨hb,2,none⟩=some (.int .i64 m):=by simp [World.cell?,X]
 by_cases hlt:i<len
 ·have hiI:(i:Int)<(len:Int):=by omega
  obtain ⟨rfl,cs,hcs,hsz,hall⟩:p0=some ⟨g,0,none⟩∧∃ cs,W2.heap[g]?=some (.cells cs 3)∧cs.size=cap∧∀ k,k<i→cs[k]?=some (.int .i64 m):=by
   rcases hN with ⟨_,e⟩ | h'
   ·omega
   ·exact h'
  have c0:W2.cell? ⟨g,i,none⟩=some (cs[i]'(by omega)):=by rw [ZaT hcs]; exact Array.getElem?_eq_getElem (by omega)
  have c1:=ZaF hcs i
  have c2:=(Ja.1 hcs).1
  have Hb:=Zan (Jc hcs (Jc X (Jc O hall)))
  clear hN X O hcs hall
  go_wp2_with fail
  go_roundg (len - (i+1))
  case measure=>omega
  case rel =>
   refine ⟨i+1,by omega,Jb _,by go_num,Js ⟨rfl,cs.setIfInBounds i (.int .i64 m),?_,by simp [hsz],fun k hk=>?_⟩,?_,?_⟩
   ·simp [World.setCell,Array.getElem?_modify,Hb.out.1]
   ·rw [Array.getElem?_setIfInBounds]
    by_cases e:i=k
    ·rw [if_pos e,if_pos (by omega)]
    ·rw [if_neg e]; exact Hb.out.2.2.2 k (by omega)
   ·simp [World.setCell,Array.getElem?_modify,hne,Hb.out.2.1]
   ·exact Hb.out.2.2.1.trans (Only.of_grown (Za0 _ _ _ _) (by simp))
 ·obtain rfl:i=len:=by omega
  have N2:MarkL W2 g hb m i (.slice p0 i cap):=hN.mark hlc
  clear hN
  have z0:W2.cell? ⟨hb,0,none⟩=some (.slice none 0 0):=by simp [World.cell?,X]
  have Hb:=Zan (Jc N2 (Jc X O))
  clear N2 X O
  go_upto_region 6 with (first
   | (at_builtin; refine wpList_append_own_at _ rfl _ _ 88 rfl (hb+1) 32 i4 (.slice none 0 0) 1 24 Tryz.underlying88 hi4 hx0 hx1 hx2 rfl (by decide) (.slice none 0 0) 0 [] rfl (World.ownsRow_nil _ (hb+1) 32 1) ⟨W2.heap.size,0,none⟩ 1 1 [.slice p0 i cap] rfl rfl (cell_one_new _ _ _) (by intro u hu; simp at hu; subst hu; rfl) (by unfold maxLen; omega) (by omega) (by simp; omega) ?_; intro u w5 hrow5 hg5 _ hloc5; obtain ⟨pu,cu,rfl⟩:=Zae hrow5; have h5:=(hg5.block hb (by simp; omega) (by simp [Value.ownBlock])).trans (heap_alloc_old W2 _ y9); rw [Hb.out.2.1] at h5; have q0:=ZaT h5 0; simp only [Jg,Je] at q0; have q1:w5.frozen? ⟨hb,0,none⟩=false:=by simp [World.frozen?,h5])
   | fail)
  have hbg5:∀ b,b<W2.heap.size→w5.heap[b]?=W2.heap[b]?:=fun b hb'=>(hg5.block b (by simp; omega) (by simp [Value.ownBlock])).trans (heap_alloc_old W2 _ hb')
  have gs:=Za0 w5 hb 0 (.slice pu (0+1) cu)
  have hb5:hb<w5.heap.size:=(Ja.1 h5).1
  have K0:Kept w1 (w5.setCell ⟨hb,0,none⟩ (.slice pu (0+1) cu)) g hb m i 0 (.slice p0 i cap) (.slice pu (0+1) cu) [.slice p0 i cap]:=by
   have hM:MarkL (w5.setCell ⟨hb,0,none⟩ (.slice pu (0+1) cu)) g hb m i (.slice p0 i cap):=by
    refine Hb.out.1.move (fun b cs hk hbg=>?_)
    have hlt':=(Ja.1 hk).1
    have hnb:¬ b=hb:=by rcases hbg with rfl | h'; exact hne; omega
    have a2:=hg5.size
    simp at a2
    exact (gs.block b (by omega) (by simpa using hnb)).trans (hbg5 b hlt')
   refine ⟨?_,hrow5.kept gs (Js ?_),?_,hM,?_⟩
   ·simp [World.setCell,Array.getElem?_modify,h5]
   ·intro e
    have:=(hrow5.lt hb e).1
    omega
   ·intro y hy
    obtain rfl:y=.slice p0 i cap:=by simpa using hy
    exact ⟨i,Jb _,hM⟩
   ·refine Hb.out.2.2.chain (S':=[hb]) ⟨(gs.os).trans hg5.os,(gs.tape).trans hg5.tape,(gs.output).trans hg5.output,?_,fun k hk hn=>?_⟩ (fun x hx=>Js (by simp at hx; omega))
    ·have a1:=gs.size; have a2:=hg5.size; simp at a2; omega
    ·exact (gs.block k (by have a2:=hg5.size; simp at a2; omega) (fun e=>hn (by simpa using e))).trans (hbg5 k hk)
  have HK:=Zan K0
  clear K0 Hb hrow5 hg5 hloc5 h5 q0 q1 z0 y2 hbg5 gs
  go_wp2_with fail
  go_loopg [1,6] 8 (fun gk x jv wr=>∃ (j:Nat) (hv:Value) (vals:List Value),j≤8∧8 - j≤gk∧jv=.int .i64 j∧Kept w1 wr g hb m i j x hv vals)
  case atStart=>exact ⟨0,_,_,Jq _,Jb _,rfl,HK.out⟩
  case' round=>skip
  obtain ⟨j,hv,vals,hj,hgk',rfl,K⟩:=hrel
  rename World=>W3
  clear HK
  by_cases hlt2:j<8
  ·have hjI:(j:Int)<8:=by omega
   have y9':hb<W3.heap.size:=(Ja.1 K.hold).1
   have y2':W3.cell? ⟨hb,2,none⟩=some (.int .i64 m):=by simp [World.cell?,K.hold]
   have hxA:MarkL (W3.alloc (.cells #[.int .i64 m] 3)) g hb m (i+j) u1:=K.cur.move (fun b cs h _=>heap_alloc_old W3 _ (Ja.1 h).1)
   have hghb:g≠hb:=hne
   have HKK:=Zan K
   clear K
   go_upto_region 10 with (first
    | (at_builtin; refine ZcU _ g hb (i+j) m u1 rfl _ _ rfl rfl hxA W3.heap.size rfl (by simp) (by simp; omega) (by omega) ?_; intro x' w9 hM9 hAll9 hT9 hO9)
    | fail)
   have H9:w9.heap[hb]?=some (.cells #[hv,.slice none 0 0,.int .i64 m] 91):=hT9 hb _ 91 (by decide) ((heap_alloc_old W3 _ y9').trans HKK.out.hold)
   have y9'':hb<w9.heap.size:=(Ja.1 H9).1
   have z0:w9.cell? ⟨hb,0,none⟩=some hv:=by simp [World.cell?,H9]
   have hrA:(w9.alloc (.cells #[x'] 32)).ownsRow (hb+1) 32 1 hv (j+1) vals:=by
    refine Zbu (Zbu (w':=w9) HKK.out.row (fun k cs hk=>hT9 k cs 32 (by decide) ((heap_alloc_old W3 _ (Ja.1 hk).1).trans hk))) (fun k cs hk=>?_)
    exact (heap_alloc_old w9 _ (Ja.1 hk).1).trans hk
   obtain ⟨px,lx,cx,rfl⟩:∃ px lx cx,x'=.slice px lx cx:=by rcases hM9 with ⟨rfl,_⟩ | ⟨b,c,cs,rfl,_⟩ <;> exact ⟨_,_,_,rfl⟩
   have hone:(Value.slice px lx cx).oneCell'=true:=rfl
   have hvn:∀ b,hv.ownBlock=some b→hb+1≤b:=fun b e=>(hrA.lt b e).1
   have H3:=Zan (Jc hM9 (Jc hAll9 (Jc hT9 hO9)))
   clear hM9 hAll9 hT9 hO9 hxA
   go_upto_region 8 with (first
    | (at_builtin; refine wpList_append_own_at _ rfl _ _ 88 rfl (hb+1) 32 i4 (.slice none 0 0) 1 24 Tryz.underlying88 hi4 hx0 hx1 hx2 rfl (by decide) hv (j+1) vals rfl hrA ⟨w9.heap.size,0,none⟩ 1 1 [.slice px lx cx] rfl rfl (cell_one_new _ _ _) (fun u hu=>(List.mem_singleton.1 hu) ▸ hone) (by unfold maxLen; omega) (by omega) (Nat.le_trans (Nat.succ_le_of_lt y9'') (by simp)) ?_; intro u w10 hrow10 hg10 _ hloc10; obtain ⟨pu,cu,rfl⟩:=Zae hrow10; have h10:=((hg10.block hb (Jm y9'' (by simp)) (fun e=>absurd (hvn hb e.symm) (by omega))).trans (heap_alloc_old w9 _ y9'')).trans H9; have q0:=ZaT h10 0; simp only [Jg,Je] at q0; have q1:=ZaF h10 0; have q2:=(Ja.1 h10).1)
    | fail)
   go_wp2_with fail
   go_roundg (8 - (j+1))
   case measure=>omega
   case rel=>exact ⟨j+1,_,_,by omega,Jb _,by go_num,HKK.out.next hhb hghb H3.out.1 H3.out.2.1 H3.out.2.2.1 H3.out.2.2.2 hrow10 hg10⟩
  ·obtain rfl:j=8:=by omega
   have hX:W3.heap[wb]?=some (.cells #[v,.slice p n cn] 29):=(K.only.block wb hlwb (by simpa using hgwb)).trans h
   have hR:RowAt W3 53 1 encH (.slice p n cn) hs:=by
    have:=HH.out.1.row.mv (w':=W3) (fun b e=>K.only.block b (HH.out.1.row.lt e) (fun hm=>HH.out.2.2.1 (by rw [e]; simpa using hm)))
    rwa [hnn] at this
   have hRn:hs.length=n:=hnn
   have hA:(W3.alloc (.cells #[.pointer (some ⟨hb,0,none⟩)] 53)).ownsRow 0 53 1 (.slice p n cn) n (hs.flatMap encH):=by
    have:=Zbu (w':=W3.alloc (.cells #[.pointer (some ⟨hb,0,none⟩)] 53)) hR (fun k cs hk=>(heap_alloc_old W3 _ (Ja.1 hk).1).trans hk)
    rwa [hnn] at this
   have z9:wb<W3.heap.size:=(Ja.1 hX).1
   have z1:=ZaT hX 1
   simp only [Jg,Jf,Je] at z1
   have hvw:¬ (Value.slice p n cn).ownBlock=some wb:=by rw [← hnn]; exact HH.out.2.2.2
   have HKK:=Zan (Jc K hR)
   clear K hR
   go_wp2_with (first
    | (at_builtin; refine wpList_append_own_at _ rfl _ _ 27 rfl 0 53 i5 (.pointer none) 1 8 Tryz.underlying27 hi5 hz0 hz1 hz2 rfl (by decide) (.slice p n cn) n (hs.flatMap encH) rfl hA ⟨W3.heap.size,0,none⟩ 1 1 [.pointer (some ⟨hb,0,none⟩)] rfl rfl (cell_one_new _ _ _) (by intro u hu; simp at hu; subst hu; rfl) (by unfold maxLen; omega) (by omega) (Jq _) ?_; intro u w11 hrow11 hg11 _ hloc11; obtain ⟨pu,cu,rfl⟩:=Zae hrow11; have h11:=((hg11.block wb (Jm z9 (by simp)) (fun e=>hvw e.symm)).trans (heap_alloc_old W3 _ z9)).trans hX; have q0:=ZaT h11 1; simp only [Jg,Jf,Je] at q0; have q1:=ZaF h11 1; have q2:=(Ja.1 h11).1)
    | fail)
   have hF:HeldBy W3 hb (footH hb hv vals):=ZfA (L:=i+8) HKK.out.1.hold HKK.out.1.row (by decide) HKK.out.1.lists (by omega)
   have hnew:∀ b∈footH hb hv vals,b=g∨w1.heap.size≤b:=fun b hb'=>by
    rcases Zbe.1 hb' with e | e | ⟨y,hy,e⟩
    ·right; omega
    ·right; have:=(HKK.out.1.row.lt b e).1; omega
    ·obtain ⟨l,_,⟨rfl,_⟩ | ⟨b1,c,cs,rfl,_,_,hbb,_⟩⟩:=HKK.out.1.lists y hy
     ·simp [Value.ownBlock] at e
     have:b1=b:=by simpa [Value.ownBlock] using e
     subst this
     rcases hbb with h1 | h1
     ·exact Jr h1
     ·right; omega
   have hfin:=Zga (u:=.slice pu (n+1) cu) (F:=footH hb hv vals) (by rw [hnn]; exact h) HH.out.1 HH.out.2.1 hgwb HH.out.2.2.1 HH.out.2.2.2 HKK.out.1.only hF hnew (.cells #[.pointer (some ⟨hb,0,none⟩)] 53) (by rw [hnn]; exact hg11) (by rw [hnn]; exact hrow11) (by rw [hnn]; exact hloc11)
   go_end0
   exact ⟨rfl,_,_,hfin⟩
theorem Zce (w:World)(wb g len:Nat)(G:Nat→Int)(v vh:Value)(hs:List (Nat×List Nat))(h:w.heap[wb]?=some (.cells #[v,vh] 29))(H:HoldsAt w wb vh hs)(hn:hs.length≤10000000000000)(hg:Nums w g len G)(hlen:len*8≤140737488355000)(hgF:∀ x∈hs,g∉x.2) :
  Calls Tryz.prog 47 #[.pointer (some ⟨wb,0,none⟩),.slice (some ⟨g,0,none⟩) len len] w fun e w'=>e=.returned (.tuple #[])∧∃ vh' x,KeptOne w wb g v vh hs w' vh' x:=Zdd w wb g len len _ v vh hs h H hn hg.numP hlen hgF
end
section
open Go.RowKit
theorem ZkL:(Tryz.prog.info? 33).map (fun i=>(i.zero,i.size,i.bytes))=some (some (.slice none 0 0),1,24):=by kernel_rfl
def patA (m:Int)(i:Nat):Value:=.int .i64 (if i % 4=3 then m else 0)
theorem Zh1 {m:Int}{n i:Nat}(h:n*4≤i)(h':i<n*4+4):[Value.int .i64 0,.int .i64 0,.int .i64 0,.int .i64 m][i - n*4]?=some (patA m i):=by
 have:i=n*4∨i=n*4+1∨i=n*4+2∨i=n*4+3:=by omega
 rcases this with rfl | rfl | rfl | rfl
 ·simp [patA]
 ·simp [patA]
 ·simp [patA]
 ·simp [patA,show (n*4+3) % 4=3 by omega]
def MarkA (w:World)(g hb:Nat)(m:Int)(len:Nat)(y:Value):Prop:=(y=.slice none 0 0∧len=0)∨∃ b c cs,y=.slice (some ⟨b,0,none⟩) len c∧w.heap[b]?=some (.cells cs 93)∧cs.size=c*4∧(b=g∨hb<b)∧len≤c∧∀ i,i<len*4→cs[i]?=some (patA m i)
structure KeptA (w0 W:World)(g hb:Nat)(m:Int)(len j:Nat)(x hv:Value)(vals:List Value):Prop where
 hold:W.heap[hb]?=some (.cells #[.slice none 0 0,hv,.int .i64 m] 91)
 row:W.ownsRow (hb+1) 33 1 hv (j+1) vals
 lists:∀ y∈vals,∃ l,l≤len+j∧MarkA W g hb m l y
 cur:MarkA W g hb m (len+j) x
 only:Only [g] w0 W
theorem MarkA.move {w w':World}{g hb len:Nat}{m:Int}{y:Value}(h:MarkA w g hb m len y)(hm:∀ b cs,w.heap[b]?=some (.cells cs 93)→(b=g∨hb<b)→w'.heap[b]?=w.heap[b]?):MarkA w' g hb m len y:=by
 rcases h with h | ⟨b,c,cs,e,hh,hs,hb',hl,hi⟩
 ·exact Jr h
 ·exact Js ⟨b,c,cs,e,(hm b cs hh hb').trans hh,hs,hb',hl,hi⟩
def MarkQ (w:World)(g:Nat)(p:Option Addr)(cap i:Nat)(m:Int):Prop:=(p=none∧cap=0)∨(p=some ⟨g,0,none⟩∧∃ cs,w.heap[g]?=some (.cells cs 93)∧cs.size=cap*4∧∀ k,k<i*4→cs[k]?=some (patA m k))
theorem MarkQ.mark {w:World}{g hb cap len:Nat}{p:Option Addr}{m:Int}(h:MarkQ w g p cap len m)(hl:len≤cap):MarkA w g hb m len (.slice p len cap):=by
 rcases h with ⟨rfl,rfl⟩ | ⟨rfl,cs,hh,hs,hi⟩
 ·obtain rfl:len=0:=by omega
  exact Jr ⟨rfl,rfl⟩
 ·exact Js ⟨g,cap,cs,rfl,hh,hs,Jr rfl,hl,hi⟩
theorem MarkQ.move {w w':World}{g cap i:Nat}{p:Option Addr}{m:Int}(h:MarkQ w g p cap i m)(hm:g<w.heap.size→w'.heap[g]?=w.heap[g]?):MarkQ w' g p cap i m:=by
 rcases h with h | ⟨e,cs,hh,hr⟩
 ·exact Jr h
 ·exact Js ⟨e,cs,(hm (Ja.1 hh).1).trans hh,hr⟩
def ArcQ (w:World)(g:Nat)(p:Option Addr)(len cap:Nat):Prop:=len≤cap∧((p=none∧cap=0∧g=w.heap.size+1)∨(p=some ⟨g,0,none⟩∧∃ cs,w.heap[g]?=some (.cells cs 93)∧cs.size=cap*4))
theorem ArcB.arcQ {w:World}{g len:Nat}{G:Nat→Ar}{cs:Array Value}(h:ArcB w g len G cs):ArcQ w g (some ⟨g,0,none⟩) len len:=⟨Jb _,Js ⟨rfl,_,h.heap,h.size⟩⟩
theorem MarkA.arcs {w:World}{b l:Nat}{m:Int}{cs:Array Value}(hh:w.heap[b]?=some (.cells cs 93))(h:∀ i,i<l*4→cs[i]?=some (patA m i)):Arcs w (some ⟨b,0,none⟩) l (fun _=>⟨0,0,0,m⟩) :=
 Js ⟨b,0,rfl,(Ja.1 hh).1,fun k hk=>by
  simp only [Nat.zero_add]
  rw [Zaf hh,Zaf hh,Zaf hh,Zaf hh,h _ (by omega),h _ (by omega),h _ (by omega),h _ (by omega)]
  simp [patA,show (k*4+3) % 4=3 by omega]⟩
theorem set4 (W:World)(b i:Nat)(x0 x1 x2 x3:Value){cs:Array Value}{T:TypeId}(h:W.heap[b]?=some (.cells cs T)) :
  (W.setCells b i [x0,x1,x2,x3]).heap[b]?=some (.cells ((((cs.setIfInBounds i x0).setIfInBounds (i+1) x1).setIfInBounds (i+2) x2).setIfInBounds (i+3) x3) T)∧W.grownBy (W.setCells b i [x0,x1,x2,x3]) (some b):=by
 have e:W.setCells b i [x0,x1,x2,x3]=(((W.setCell ⟨b,i,none⟩ x0).setCell ⟨b,i+1,none⟩ x1).setCell ⟨b,i+2,none⟩ x2).setCell ⟨b,i+3,none⟩ x3:=by simp [World.setCells,Nat.add_assoc]
 rw [e]
 refine ⟨by simp [World.setCell,Array.getElem?_modify,h],rfl,rfl,rfl,by simp [World.setCell],fun k _ hn=>?_⟩
 have:¬ b=k:=fun e=>hn (by simp [e])
 simp [World.setCell,Array.getElem?_modify,this]
theorem ZfW {cs:Array Value}{n i:Nat}{m:Int}(h:n*4+4≤cs.size):((((cs.setIfInBounds (n*4) (.int .i64 0)).setIfInBounds (n*4+1) (.int .i64 0)).setIfInBounds (n*4+2) (.int .i64 0)).setIfInBounds (n*4+3) (.int .i64 m))[i]?=if n*4≤i∧i<n*4+4 then some (patA m i) else cs[i]?:=by
 simp only [Array.getElem?_setIfInBounds,Array.size_setIfInBounds]
 by_cases h3:n*4+3=i
 ·subst h3
  rw [if_pos rfl,if_pos (by omega),if_pos (by omega)]
  simp [patA,show (n*4+3) % 4=3 by omega]
 by_cases h2:n*4+2=i
 ·subst h2
  rw [if_neg h3,if_pos rfl,if_pos (by omega),if_pos (by omega)]
  simp [patA]
 by_cases h1:n*4+1=i
 ·subst h1
  rw [if_neg h3,if_neg h2,if_pos rfl,if_pos (by omega),if_pos (by omega)]
  simp [patA]
 by_cases h0:n*4=i
 ·subst h0
  rw [if_neg h3,if_neg h2,if_neg h1,if_pos rfl,if_pos (by omega),if_pos (by omega)]
  simp [patA]
 rw [if_neg h3,if_neg h2,if_neg h1,if_neg h0,if_neg (by omega)]
theorem ZcB {ops:Array Oper}{rest:List Oper}{o:Oper}{a:Act}{Q:Exit→Act→World→Prop}(A:World)(g hb n:Nat)(m:Int)(x:Value)(hgd:o.guard=none)(sO xO:Operand)
  (hop:o.op=Op.call { callee:=Callee.builtin Builtin.append,args:=#[sO,xO],argTypes:=#[33,33] }) (hs:a.eval sO=x) (hx:MarkA A g hb m n x) (ad:Nat) (had:a.eval xO=.slice (some ⟨ad,0,none⟩) 1 1)
  (hc:A.heap[ad]?=some (.cells #[.int .i64 0,.int .i64 0,.int .i64 0,.int .i64 m] 93)) (hA:hb<A.heap.size) (hn:(n+1)*32≤140737488355328)
  (hK:∀ (v':Value) (w':World),MarkA w' g hb m (n+1) v'→(∀ l y,MarkA A g hb m l y→MarkA w' g hb m l y)→(∀ (k:Nat) (cs:Array Value) (T:TypeId),T≠93→A.heap[k]?=some (.cells cs T)→w'.heap[k]?=some (.cells cs T))→(∃ b,(b=g∨hb<b)∧Only [b] A w')→wpList Tryz.prog ops Q rest (a.put o.dst v') w') :
  wpList Tryz.prog ops Q (o :: rest) a A:=by
 obtain ⟨i3,hi3,hy0,hy1,hy2⟩:=info_parts ZhD
 rcases hx with ⟨rfl,rfl⟩ | ⟨b,c,cs,rfl,hh,hsz,hb',hl,hi⟩
 ·refine wpList_append_own_at A hgd sO xO 33 hop (hb+1) 93 i3 (.agg #[.int .i64 0,.int .i64 0,.int .i64 0,.int .i64 0]) 4 32 Tryz.underlying33 hi3 hy0 hy1 hy2 rfl (by decide) (.slice none 0 0) 0 [] hs (World.ownsRow_nil _ (hb+1) 93 4) ⟨ad,0,none⟩ 1 1 [.int .i64 0,.int .i64 0,.int .i64 0,.int .i64 m] had rfl (fun j u hj=>by rw [Addr.add_lit,Zaf hc,Nat.zero_add]; simpa using hj) (fun u hu=>by simp at hu; rcases hu with rfl | rfl | rfl | rfl <;> rfl) (by unfold maxLen; omega) (by omega) hA ?_
  intro v' w' hrow hg _ _
  rcases hrow.2 with ⟨_,e⟩ | ⟨b2,c2,cs2,rfl,hb2,hh2,hl2,_,hs2,ht2⟩
  ·omega
  have hold:∀ k ob,A.heap[k]?=some ob→w'.heap[k]?=some ob:=fun k ob hk=>(hg.block k (Ja.1 hk).1 (by simp [Value.ownBlock])).trans hk
  refine hK _ _ (Js ⟨b2,c2,cs2,rfl,hh2,hs2,Js (by omega),hl2,fun i hi'=>?_⟩) (fun l y hy=>hy.move fun b1 cs1 h1 _=>(hold b1 _ h1).trans h1.symm) (fun k cs' T hT hk=>hold k _ hk) ⟨g,Jr rfl,Only.of_grown' hg (fun b e=>by simp [Value.ownBlock] at e)⟩
  have hx:(cs2.toList.take ((0+1)*4))[i]?=some (patA m i):=by
   rw [ht2]
   have:=Zh1 (m:=m) (n:=0) (i:=i) (by omega) (by omega)
   simpa using this
  rw [List.getElem?_take_of_lt (by omega)] at hx
  simpa using hx
 have hlen:(cs.toList.take (n*4)).length=n*4:=by simp; omega
 have hat:∀ j u,(cs.toList.take (n*4))[j]?=some u→cs[j]?=some u∧j<n*4:=fun j u h=>by
  have hj:j<n*4:=by
   have:=(List.getElem?_eq_some_iff.1 h).1
   omega
  rw [List.getElem?_take_of_lt hj] at h
  exact ⟨by simpa using h,hj⟩
 refine wpList_append_arg A hgd sO xO 33 hop 93 i3 (.agg #[.int .i64 0,.int .i64 0,.int .i64 0,.int .i64 0]) 4 32 Tryz.underlying33 hi3 hy0 hy1 hy2 rfl (by decide) b 0 n c (cs.toList.take (n*4)) hs (by omega) ?_ ⟨ad,0,none⟩ 1 1 [.int .i64 0,.int .i64 0,.int .i64 0,.int .i64 m] had rfl ?_ ?_ ?_ (by unfold maxLen; omega) (by omega) ?_ ?_
 ·intro j u hj
  rw [Nat.zero_add,Zaf hh]
  exact (hat j u hj).1
 ·intro j u hj
  rw [Addr.add_lit,Zaf hc,Nat.zero_add]
  simpa using hj
 ·intro u hu
  simp at hu
  rcases hu with rfl | rfl | rfl | rfl <;> rfl
 ·intro hr j hj
  have hj4:j<4:=by simpa using hj
  refine ⟨?_,by simp [World.frozen?,hh]⟩
  rw [Zaf hh,Array.getElem?_eq_getElem (by omega)]
  rfl
 ·intro hr
  rw [Nat.zero_add]
  obtain ⟨hB,gs⟩:=set4 A b (n*4) (.int .i64 0) (.int .i64 0) (.int .i64 0) (.int .i64 m) hh
  refine hK _ _ (Js ⟨b,c,_,rfl,hB,by simp [hsz],hb',hr,fun i hi'=>?_⟩) (fun l y hy=>?_) (fun k cs' T hT hk=>?_) ⟨b,hb',Only.of_grown gs (by simp)⟩
  ·rw [ZfW (by omega)]
   by_cases e:n*4≤i∧i<n*4+4
   ·rw [if_pos e]
   ·rw [if_neg e]; exact hi i (by omega)
  ·rcases hy with hy | ⟨b1,c1,cs1,rfl,hh1,hsz1,hb1,hl1,hi1⟩
   ·exact Jr hy
   by_cases eb:b1=b
   ·subst eb
    rw [hh] at hh1
    cases hh1
    refine Js ⟨b1,c1,_,rfl,hB,by simp [hsz1],hb1,hl1,fun i hi'=>?_⟩
    rw [ZfW (by omega)]
    by_cases e:n*4≤i∧i<n*4+4
    ·rw [if_pos e]
    ·rw [if_neg e]; exact hi1 i hi'
   ·exact Js ⟨b1,c1,cs1,rfl,(gs.block b1 (Ja.1 hh1).1 (by simpa using eb)).trans hh1,hsz1,hb1,hl1,hi1⟩
  ·refine (gs.block k (Ja.1 hk).1 ?_).trans hk
   intro e
   have e':k=b:=by simpa using e
   subst e'
   rw [hh] at hk
   cases hk
   exact hT rfl
 ·intro hr v' w' hrow hg
  rcases hrow.2 with ⟨_,e⟩ | ⟨b2,c2,cs2,rfl,hb2,hh2,hl2,_,hs2,ht2⟩
  ·omega
  have hold:∀ k ob,A.heap[k]?=some ob→w'.heap[k]?=some ob:=fun k ob hk=>(hg.block k (Ja.1 hk).1 (by simp)).trans hk
  refine hK _ _ (Js ⟨b2,c2,cs2,rfl,hh2,hs2,Js (by omega),hl2,fun i hi'=>?_⟩) (fun l y hy=>hy.move fun b1 cs1 h1 _=>(hold b1 _ h1).trans h1.symm) (fun k cs' T hT hk=>hold k _ hk) ⟨b,hb',Only.of_grown' hg (fun b e=>by cases e)⟩
  have hx:(cs2.toList.take ((n+1)*4))[i]?=some (patA m i):=by
   rw [ht2,List.getElem?_append]
   by_cases e:i<n*4
   ·rw [if_pos (by omega),List.getElem?_take_of_lt e]
    simpa using hi i e
   ·rw [if_neg (by omega),hlen]
    exact Zh1 (by omega) (by omega)
  rw [List.getElem?_take_of_lt (by omega)] at hx
  simpa using hx
theorem KeptA.next {w1 wr w9 w10:World}{g hb len j cu:Nat}{m:Int}{x x' hv:Value}{vals:List Value}{pu:Option Addr}(K:KeptA w1 wr g hb m len j x hv vals)(hw1:w1.heap.size=hb)(hg:g≠hb)
  (hM9:MarkA w9 g hb m (len+j+1) x') (hAll9:∀ l y,MarkA (wr.alloc (.cells #[.int .i64 0,.int .i64 0,.int .i64 0,.int .i64 m] 93)) g hb m l y→MarkA w9 g hb m l y)
  (hT9:∀ (k:Nat) (cs:Array Value) (T:TypeId),T≠93→(wr.alloc (.cells #[.int .i64 0,.int .i64 0,.int .i64 0,.int .i64 m] 93)).heap[k]?=some (.cells cs T)→w9.heap[k]?=some (.cells cs T)) (hO9:∃ b,(b=g∨hb<b)∧Only [b] (wr.alloc (.cells #[.int .i64 0,.int .i64 0,.int .i64 0,.int .i64 m] 93)) w9)
  (hrow:w10.ownsRow (hb+1) 33 1 (.slice pu (j+1+1) cu) (j+1+1) (vals ++ [x'])) (hg10:(w9.alloc (.cells #[x'] 33)).grownBy w10 hv.ownBlock) :
  KeptA w1 (w10.setCell ⟨hb,1,none⟩ (.slice pu (j+1+1) cu)) g hb m len (j+1) x' (.slice pu (j+1+1) cu) (vals ++ [x']):=by
 have o1:∀ (k:Nat) (ob:Obj),wr.heap[k]?=some ob→(wr.alloc (.cells #[.int .i64 0,.int .i64 0,.int .i64 0,.int .i64 m] 93)).heap[k]?=some ob:=fun k ob hk=>(heap_alloc_old wr _ (Ja.1 hk).1).trans hk
 have t9:∀ (k:Nat) (cs:Array Value) (T:TypeId),T≠93→wr.heap[k]?=some (.cells cs T)→w9.heap[k]?=some (.cells cs T):=fun k cs T hT hk=>hT9 k cs T hT (o1 k _ hk)
 obtain ⟨gi,hgi,hgb,cg,hg9⟩:∃ gi,hv.ownBlock=some gi∧hb+1≤gi∧∃ cg,w9.heap[gi]?=some (.cells cg 33):=by
  rcases K.row.2 with ⟨_,e⟩ | ⟨gi,cap,cur,e,hb',hgg,_⟩
  ·omega
  ·exact ⟨gi,by rw [e]; rfl,hb',cur,t9 gi cur 33 (by decide) hgg⟩
 rw [hgi] at hg10
 have gs:=Za0 w10 hb 1 (.slice pu (j+1+1) cu)
 have o10:∀ (k:Nat) (ob:Obj),k≠gi→w9.heap[k]?=some ob→w10.heap[k]?=some ob:=fun k ob hne hk=>by
  have hlt:=(Ja.1 hk).1
  exact (hg10.block k (by simp; omega) (by simpa using hne)).trans ((heap_alloc_old w9 _ hlt).trans hk)
 have m10:∀ l y,MarkA w9 g hb m l y→MarkA (w10.setCell ⟨hb,1,none⟩ (.slice pu (j+1+1) cu)) g hb m l y:=fun l y hy=>by
  refine hy.move (fun b cs h hb'=>?_)
  have h10:=o10 b _ (fun e=>by subst e; rw [hg9] at h; cases h) h
  have hne:¬ b=hb:=by rcases hb' with rfl | h; exact hg; omega
  exact ((gs.block b (Ja.1 h10).1 (by simpa using hne)).trans h10).trans h.symm
 have H9:=t9 hb _ 91 (by decide) K.hold
 have H10:=o10 hb _ (by omega) H9
 refine ⟨?_,hrow.kept gs (Js ?_),?_,m10 _ _ hM9,?_⟩
 ·simp [World.setCell,Array.getElem?_modify,H10]
 ·intro e
  have:=(hrow.lt hb e).1
  omega
 ·intro y hy
  rcases List.mem_append.1 hy with hy | hy
  ·obtain ⟨l,hl,hy⟩:=K.lists y hy
   exact ⟨l,by omega,m10 _ _ (hAll9 _ _ (hy.move (fun b cs h _=>(o1 b _ h).trans h.symm)))⟩
  ·obtain rfl:y=x':=by simpa using hy
   exact ⟨_,Jb _,m10 _ _ hM9⟩
 ·obtain ⟨b,hb',hO⟩:=hO9
  have c1:Only [g] w1 (wr.alloc (.cells #[.int .i64 0,.int .i64 0,.int .i64 0,.int .i64 m] 93)):=K.only.trans (Only.of_below ((Jd _ _).alloc (Jb _) _))
  have c2:Only [g] w1 w9:=c1.chain hO (fun y hy=>by
   obtain rfl:y=b:=by simpa using hy
   rcases hb' with h | h
   ·exact Jr (by simp [h])
   ·exact Js (by omega))
  have c3:Only [g] w1 (w9.alloc (.cells #[x'] 33)):=c2.trans (Only.of_below ((Jd _ _).alloc (Jb _) _))
  have c4:Only [g] w1 w10:=c3.chain (Only.of_grown hg10 (S:=[gi]) (by simp)) (fun y hy=>Js (by simp at hy; omega))
  exact c4.chain (Only.of_grown gs (S:=[hb]) (by simp)) (fun y hy=>Js (by simp at hy; omega))
theorem Zfz {W:World}{g hb n L:Nat}{m:Int}{hv:Value}{vals:List Value}(hold:W.heap[hb]?=some (.cells #[.slice none 0 0,hv,.int .i64 m] 91))(row:W.ownsRow (hb+1) 33 1 hv (n+1) vals)(hn:n<1000)
  (lists:∀ y∈vals,∃ l,l≤L∧MarkA W g hb m l y) (hL:L≤1000000000000000):HeldBy W hb (footH hb hv vals):=by
 rcases row.2 with ⟨_,e⟩ | ⟨gi,cap,cur,rfl,hbg,hcur,hnc,hcap,hsz,htake⟩
 ·omega
 have hat:∀ i,i<n+1→∃ y,y∈vals∧cur[i]?=some y:=fun i hi=>by
  have hlen:=row.1
  have hi':i<vals.length:=by omega
  obtain ⟨y,hy⟩:∃ y,vals[i]?=some y:=⟨_,List.getElem?_eq_getElem hi'⟩
  refine ⟨y,List.mem_of_getElem? hy,?_⟩
  rw [← htake,List.getElem?_take_of_lt (by omega)] at hy
  simpa using hy
 constructor
 ·intro b hb'
  rcases Zbe.1 hb' with rfl | e | ⟨y,hy,e⟩
  ·exact (Ja.1 hold).1
  ·exact (row.lt b e).2
  ·obtain ⟨l,_,⟨rfl,_⟩ | ⟨b1,c,cs,rfl,hh,_⟩⟩:=lists y hy
   ·simp [Value.ownBlock] at e
   have:b1=b:=by simpa [Value.ownBlock] using e
   subst this
   exact (Ja.1 hh).1
 ·intro w' hm
  refine ⟨m,_,_,_,_,_,_,⟨(hm hb (Zbe.2 (Jr rfl))).trans hold,fun i hi=>by omega,fun i hi=>?_⟩,by omega,by omega⟩
  obtain ⟨y,hy,hc⟩:=hat i hi
  have hg':=(hm gi (Zbe.2 (Js (Jr rfl)))).trans hcur
  obtain ⟨l,hl,⟨rfl,rfl⟩ | ⟨b,c,cs,rfl,hh,hs,_,hlc,hall⟩⟩:=lists y hy
  ·exact ⟨gi,0,none,0,0,rfl,(Ja.1 hg').1,by rw [Nat.zero_add,Zaf hg',hc],by omega,Jr rfl⟩
  have hb':=(hm b (Zbe.2 (Js (Js ⟨_,hy,rfl⟩)))).trans hh
  refine ⟨gi,0,_,l,c,rfl,(Ja.1 hg').1,?_,by omega,MarkA.arcs hb' hall⟩
  rw [Nat.zero_add,Zaf hg',hc]
end
section
open Go.RowKit
theorem ZgJ (W:World)(b i:Nat)(x0 x1 x2 x3:Value):W.grownBy ((((W.setCell ⟨b,i,none⟩ x0).setCell ⟨b,i+1,none⟩ x1).setCell ⟨b,i+2,none⟩ x2).setCell ⟨b,i+3,none⟩ x3) (some b) :=
 ⟨rfl,rfl,rfl,by simp [World.setCell],fun k _ hn=>by
  have:¬ b=k:=fun e=>hn (by simp [e])
  simp [World.setCell,Array.getElem?_modify,this]⟩
theorem Zdc (w:World)(wb g len cap:Nat)(p0:Option Addr)(v vh:Value)(hs:List (Nat×List Nat))(h:w.heap[wb]?=some (.cells #[v,vh] 29))(H:HoldsAt w wb vh hs)(hn:hs.length≤10000000000000)(hg:ArcQ w g p0 len cap)(hlen:len*32≤140737488355000)(hgF:∀ x∈hs,g∉x.2) :
  Calls Tryz.prog 48 #[.pointer (some ⟨wb,0,none⟩),.slice p0 len cap] w fun e w'=>e=.returned (.tuple #[])∧∃ vh' x,KeptOne w wb g v vh hs w' vh' x:=by
 obtain ⟨p,cn,rfl⟩:=Zah H.row
 obtain ⟨n,hnn⟩:∃ n,hs.length=n:=⟨_,rfl⟩
 rw [hnn] at h hn
 have hlwb:wb<w.heap.size:=(Ja.1 h).1
 obtain ⟨hlc,hgg⟩:=hg
 have hgwb:¬ wb=g:=fun e=>by
  rcases hgg with ⟨_,_,e'⟩ | ⟨_,cs,hg',_⟩
  ·omega
  ·subst e; rw [h] at hg'; simp at hg'
 have hgvh:(Value.slice p hs.length cn).ownBlock≠some g:=fun e=>by
  obtain ⟨cur,hc⟩:=H.row.elem e
  rcases hgg with ⟨_,_,e'⟩ | ⟨_,cs,hg',_⟩
  ·have:=(Ja.1 hc).1; omega
  ·rw [hg'] at hc; simp at hc
 have hvwb:(Value.slice p hs.length cn).ownBlock≠some wb:=fun e=>by
  obtain ⟨cur,hc⟩:=H.row.elem e
  rw [h] at hc; simp at hc
 have hgs:g≠w.heap.size:=fun e=>by
  rcases hgg with ⟨_,_,e'⟩ | ⟨_,cs,hg',_⟩
  ·omega
  ·have:=(Ja.1 hg').1; omega
 have M0:∀ m,MarkQ w g p0 cap 0 m:=fun m=>by
  rcases hgg with ⟨e1,e2,_⟩ | ⟨e1,cs,h1,h2⟩
  ·exact Jr ⟨e1,e2⟩
  ·exact Js ⟨e1,cs,h1,h2,fun k hk=>by omega⟩
 clear hgg
 have HH:=Zan (Jc H (Jc hgF (Jc hgvh hvwb)))
 clear H hgF hgvh hvwb
 obtain ⟨i5,hi5,hz0,hz1,hz2⟩:=info_parts ZhE
 obtain ⟨i4,hi4,hx0,hx1,hx2⟩:=info_parts ZkL
 go_enter Tryz.func48,Tryz.ntmps48
 go_wp2_with (go_at_call 78; refine (Zgd _ _ _ _ _ _ h (by omega)).mono ?_; rintro e w1 ⟨rfl,rfl⟩)
 obtain ⟨m,hm⟩:∃ m,(-10000000 - (n:Int))=m:=⟨_,rfl⟩
 simp only [hm]
 have Hm:=Zan hm
 clear hm
 obtain ⟨hb,hhb⟩:∃ hb,w1.heap.size=hb:=⟨_,rfl⟩
 simp only [hhb]
 obtain ⟨W1,hW1⟩:∃ W1,w1.alloc (.cells #[.slice none 0 0,.slice none 0 0,.int .i64 m] 91)=W1:=⟨_,rfl⟩
 have X1:W1.heap[hb]?=some (.cells #[.slice none 0 0,.slice none 0 0,.int .i64 m] 91):=by rw [← hW1,← hhb]; exact heap_alloc_new w1 _
 have O1:Below w1.heap.size w1 W1:=by rw [← hW1]; exact (Jd _ _).alloc (Jb _) _
 rw [hW1]
 clear hW1
 go_loopg [5] len (fun gk iv wr=>∃ (i:Nat),i≤len∧len - i≤gk∧iv=.int .i64 i∧MarkQ wr g p0 cap i m∧wr.heap[hb]?=some (.cells #[.slice none 0 0,.slice none 0 0,.int .i64 m] 91)∧Only [g] w1 wr)
 case atStart=>exact ⟨0,Jq _,Jb _,rfl,(M0 m).move (fun hl=>O1.block _ hl),X1,Only.of_below O1⟩
 case' round=>skip
 clear X1 O1
 obtain ⟨i,hi,hgk,rfl,hN,X,O⟩:=hrel
 rename World=>W2
 have hne:¬ g=hb:=by omega
 have y9:hb<W2.heap.size:=(Ja.1 X).1
 have y2:W2.cell? ⟨hb,2,none⟩=some (.int .i64 m):=by simp [World.cell?,X]
 by_cases hlt:i<len
 ·have hiI:(i:Int)<(len:Int):=by omega
  obtain ⟨rfl,cs,hcs,hsz,hall⟩:p0=some ⟨g,0,none⟩∧∃ cs,W2.heap[g]?=some (.cells cs 93)∧cs.size=cap*4∧∀ k,k<i*4→cs[k]?=some (patA m k):=by
   rcases hN with ⟨_,e⟩ | h'
   ·omega
   ·exact h'
  have v0:W2.cell? ⟨g,i*4,none⟩=some (cs[i*4]'(by omega)):=by rw [ZaT hcs]; exact Array.getElem?_eq_getElem (by omega)
  have v1:W2.cell? ⟨g,i*4+1,none⟩=some (cs[i*4+1]'(by omega)):=by rw [ZaT hcs]; exact Array.getElem?_eq_getElem (by omega)
  have v2:W2.cell? ⟨g,i*4+2,none⟩=some (cs[i*4+2]'(by omega)):=by rw [ZaT hcs]; exact Array.getElem?_eq_getElem (by omega)
  have v3:W2.cell? ⟨g,i*4+3,none⟩=some (cs[i*4+3]'(by omega)):=by rw [ZaT hcs]; exact Array.getElem?_eq_getElem (by omega)
  have f0:=ZaF hcs (i*4)
  have f1:=ZaF hcs (i*4+1)
  have f2:=ZaF hcs (i*4+2)
  have f3:=ZaF hcs (i*4+3)
  have c2:=(Ja.1 hcs).1
  have Hb:=Zan (Jc hcs (Jc X (Jc O hall)))
  clear hN X O hcs hall
  go_wp2_with fail
  go_roundg (len - (i+1))
  case measure=>omega
  case rel =>
   refine ⟨i+1,by omega,Jb _,by go_num,Js ⟨rfl,(((cs.setIfInBounds (i*4) (.int .i64 0)).setIfInBounds (i*4+1) (.int .i64 0)).setIfInBounds (i*4+2) (.int .i64 0)).setIfInBounds (i*4+3) (.int .i64 m),by simp [World.setCell,Array.getElem?_modify,Hb.out.1],by simp [hsz],fun k hk=>?_⟩,?_,?_⟩
   ·rw [ZfW (by omega)]
    by_cases e:i*4≤k∧k<i*4+4
    ·rw [if_pos e]
    ·rw [if_neg e]; exact Hb.out.2.2.2 k (by omega)
   ·simp [World.setCell,Array.getElem?_modify,hne,Hb.out.2.1]
   ·exact Hb.out.2.2.1.trans (Only.of_grown (ZgJ _ _ _ _ _ _ _) (by simp))
 ·obtain rfl:i=len:=by omega
  have N2:MarkA W2 g hb m i (.slice p0 i cap):=hN.mark hlc
  clear hN
  have z0:W2.cell? ⟨hb,1,none⟩=some (.slice none 0 0):=by simp [World.cell?,X]
  have Hb:=Zan (Jc N2 (Jc X O))
  clear N2 X O
  go_upto_region 6 with (first
   | (at_builtin; refine wpList_append_own_at _ rfl _ _ 89 rfl (hb+1) 33 i4 (.slice none 0 0) 1 24 Tryz.underlying89 hi4 hx0 hx1 hx2 rfl (by decide) (.slice none 0 0) 0 [] rfl (World.ownsRow_nil _ (hb+1) 33 1) ⟨W2.heap.size,0,none⟩ 1 1 [.slice p0 i cap] rfl rfl (cell_one_new _ _ _) (by intro u hu; simp at hu; subst hu; rfl) (by unfold maxLen; omega) (by omega) (by simp; omega) ?_; intro u w5 hrow5 hg5 _ hloc5; obtain ⟨pu,cu,rfl⟩:=Zae hrow5; have h5:=(hg5.block hb (by simp; omega) (by simp [Value.ownBlock])).trans (heap_alloc_old W2 _ y9); rw [Hb.out.2.1] at h5; have q0:=ZaT h5 1; simp only [Jg,Jf,Je] at q0; have q1:w5.frozen? ⟨hb,1,none⟩=false:=by simp [World.frozen?,h5])
   | fail)
  have hbg5:∀ b,b<W2.heap.size→w5.heap[b]?=W2.heap[b]?:=fun b hb'=>(hg5.block b (by simp; omega) (by simp [Value.ownBlock])).trans (heap_alloc_old W2 _ hb')
  have gs:=Za0 w5 hb 1 (.slice pu (0+1) cu)
  have hb5:hb<w5.heap.size:=(Ja.1 h5).1
  have K0:KeptA w1 (w5.setCell ⟨hb,1,none⟩ (.slice pu (0+1) cu)) g hb m i 0 (.slice p0 i cap) (.slice pu (0+1) cu) [.slice p0 i cap]:=by
   have hM:MarkA (w5.setCell ⟨hb,1,none⟩ (.slice pu (0+1) cu)) g hb m i (.slice p0 i cap):=by
    refine Hb.out.1.move (fun b cs hk hbg=>?_)
    have hlt':=(Ja.1 hk).1
    have hnb:¬ b=hb:=by rcases hbg with rfl | h'; exact hne; omega
    have a2:=hg5.size
    simp at a2
    exact (gs.block b (by omega) (by simpa using hnb)).trans (hbg5 b hlt')
   refine ⟨?_,hrow5.kept gs (Js ?_),?_,hM,?_⟩
   ·simp [World.setCell,Array.getElem?_modify,h5]
   ·intro e
    have:=(hrow5.lt hb e).1
    omega
   ·intro y hy
    obtain rfl:y=.slice p0 i cap:=by simpa using hy
    exact ⟨i,Jb _,hM⟩
   ·refine Hb.out.2.2.chain (S':=[hb]) ⟨(gs.os).trans hg5.os,(gs.tape).trans hg5.tape,(gs.output).trans hg5.output,?_,fun k hk hn=>?_⟩ (fun x hx=>Js (by simp at hx; omega))
    ·have a1:=gs.size; have a2:=hg5.size; simp at a2; omega
    ·exact (gs.block k (by have a2:=hg5.size; simp at a2; omega) (fun e=>hn (by simpa using e))).trans (hbg5 k hk)
  have HK:=Zan K0
  clear K0 Hb hrow5 hg5 hloc5 h5 q0 q1 z0 y2 hbg5 gs
  go_wp2_with fail
  go_loopg [1,6] 8 (fun gk x jv wr=>∃ (j:Nat) (hv:Value) (vals:List Value),j≤8∧8 - j≤gk∧jv=.int .i64 j∧KeptA w1 wr g hb m i j x hv vals)
  case atStart=>exact ⟨0,_,_,Jq _,Jb _,rfl,HK.out⟩
  case' round=>skip
  obtain ⟨j,hv,vals,hj,hgk',rfl,K⟩:=hrel
  rename World=>W3
  clear HK
  by_cases hlt2:j<8
  ·have hjI:(j:Int)<8:=by omega
   have y9':hb<W3.heap.size:=(Ja.1 K.hold).1
   have y2':W3.cell? ⟨hb,2,none⟩=some (.int .i64 m):=by simp [World.cell?,K.hold]
   have hxA:MarkA (W3.alloc (.cells #[.int .i64 0,.int .i64 0,.int .i64 0,.int .i64 m] 93)) g hb m (i+j) u1:=K.cur.move (fun b cs h _=>heap_alloc_old W3 _ (Ja.1 h).1)
   have hghb:g≠hb:=hne
   have HKK:=Zan K
   clear K
   go_upto_region 10 with (first
    | (at_builtin; refine ZcB _ g hb (i+j) m u1 rfl _ _ rfl rfl hxA W3.heap.size rfl (heap_alloc_new W3 _) (by simp; omega) (by omega) ?_; intro x' w9 hM9 hAll9 hT9 hO9)
    | fail)
   have H9:w9.heap[hb]?=some (.cells #[.slice none 0 0,hv,.int .i64 m] 91):=hT9 hb _ 91 (by decide) ((heap_alloc_old W3 _ y9').trans HKK.out.hold)
   have y9'':hb<w9.heap.size:=(Ja.1 H9).1
   have z0:w9.cell? ⟨hb,1,none⟩=some hv:=by simp [World.cell?,H9]
   have hrA:(w9.alloc (.cells #[x'] 33)).ownsRow (hb+1) 33 1 hv (j+1) vals:=by
    refine Zbu (Zbu (w':=w9) HKK.out.row (fun k cs hk=>hT9 k cs 33 (by decide) ((heap_alloc_old W3 _ (Ja.1 hk).1).trans hk))) (fun k cs hk=>?_)
    exact (heap_alloc_old w9 _ (Ja.1 hk).1).trans hk
   obtain ⟨px,lx,cx,rfl⟩:∃ px lx cx,x'=.slice px lx cx:=by rcases hM9 with ⟨rfl,_⟩ | ⟨b,c,cs,rfl,_⟩ <;> exact ⟨_,_,_,rfl⟩
   have hone:(Value.slice px lx cx).oneCell'=true:=rfl
   have hvn:∀ b,hv.ownBlock=some b→hb+1≤b:=fun b e=>(hrA.lt b e).1
   have H3:=Zan (Jc hM9 (Jc hAll9 (Jc hT9 hO9)))
   clear hM9 hAll9 hT9 hO9 hxA
   go_upto_region 8 with (first
    | (at_builtin; refine wpList_append_own_at _ rfl _ _ 89 rfl (hb+1) 33 i4 (.slice none 0 0) 1 24 Tryz.underlying89 hi4 hx0 hx1 hx2 rfl (by decide) hv (j+1) vals rfl hrA ⟨w9.heap.size,0,none⟩ 1 1 [.slice px lx cx] rfl rfl (cell_one_new _ _ _) (fun u hu=>(List.mem_singleton.1 hu) ▸ hone) (by unfold maxLen; omega) (by omega) (Nat.le_trans (Nat.succ_le_of_lt y9'') (by simp)) ?_; intro u w10 hrow10 hg10 _ hloc10; obtain ⟨pu,cu,rfl⟩:=Zae hrow10; have h10:=((hg10.block hb (Jm y9'' (by simp)) (fun e=>absurd (hvn hb e.symm) (by omega))).trans (heap_alloc_old w9 _ y9'')).trans H9; have q0:=ZaT h10 1; simp only [Jg,Jf,Je] at q0; have q1:=ZaF h10 1; have q2:=(Ja.1 h10).1)
    | fail)
   go_wp2_with fail
   go_roundg (8 - (j+1))
   case measure=>omega
   case rel=>exact ⟨j+1,_,_,by omega,Jb _,by go_num,HKK.out.next hhb hghb H3.out.1 H3.out.2.1 H3.out.2.2.1 H3.out.2.2.2 hrow10 hg10⟩
  ·obtain rfl:j=8:=by omega
   have hX:W3.heap[wb]?=some (.cells #[v,.slice p n cn] 29):=(K.only.block wb hlwb (by simpa using hgwb)).trans h
   have hR:RowAt W3 53 1 encH (.slice p n cn) hs:=by
    have:=HH.out.1.row.mv (w':=W3) (fun b e=>K.only.block b (HH.out.1.row.lt e) (fun hm=>HH.out.2.2.1 (by rw [e]; simpa using hm)))
    rwa [hnn] at this
   have hRn:hs.length=n:=hnn
   have hA:(W3.alloc (.cells #[.pointer (some ⟨hb,0,none⟩)] 53)).ownsRow 0 53 1 (.slice p n cn) n (hs.flatMap encH):=by
    have:=Zbu (w':=W3.alloc (.cells #[.pointer (some ⟨hb,0,none⟩)] 53)) hR (fun k cs hk=>(heap_alloc_old W3 _ (Ja.1 hk).1).trans hk)
    rwa [hnn] at this
   have z9:wb<W3.heap.size:=(Ja.1 hX).1
   have z1:=ZaT hX 1
   simp only [Jg,Jf,Je] at z1
   have hvw:¬ (Value.slice p n cn).ownBlock=some wb:=by rw [← hnn]; exact HH.out.2.2.2
   have HKK:=Zan (Jc K hR)
   clear K hR
   go_wp2_with (first
    | (at_builtin; refine wpList_append_own_at _ rfl _ _ 27 rfl 0 53 i5 (.pointer none) 1 8 Tryz.underlying27 hi5 hz0 hz1 hz2 rfl (by decide) (.slice p n cn) n (hs.flatMap encH) rfl hA ⟨W3.heap.size,0,none⟩ 1 1 [.pointer (some ⟨hb,0,none⟩)] rfl rfl (cell_one_new _ _ _) (by intro u hu; simp at hu; subst hu; rfl) (by unfold maxLen; omega) (by omega) (Jq _) ?_; intro u w11 hrow11 hg11 _ hloc11; obtain ⟨pu,cu,rfl⟩:=Zae hrow11; have h11:=((hg11.block wb (Jm z9 (by simp)) (fun e=>hvw e.symm)).trans (heap_alloc_old W3 _ z9)).trans hX; have q0:=ZaT h11 1; simp only [Jg,Jf,Je] at q0; have q1:=ZaF h11 1; have q2:=(Ja.1 h11).1)
    | fail)
   have hF:HeldBy W3 hb (footH hb hv vals):=Zfz (L:=i+8) HKK.out.1.hold HKK.out.1.row (by decide) HKK.out.1.lists (by omega)
   have hnew:∀ b∈footH hb hv vals,b=g∨w1.heap.size≤b:=fun b hb'=>by
    rcases Zbe.1 hb' with e | e | ⟨y,hy,e⟩
    ·right; omega
    ·right; have:=(HKK.out.1.row.lt b e).1; omega
    ·obtain ⟨l,_,⟨rfl,_⟩ | ⟨b1,c,cs,rfl,_,_,hbb,_⟩⟩:=HKK.out.1.lists y hy
     ·simp [Value.ownBlock] at e
     have:b1=b:=by simpa [Value.ownBlock] using e
     subst this
     rcases hbb with h1 | h1
     ·exact Jr h1
     ·right; omega
   have hfin:=Zga (u:=.slice pu (n+1) cu) (F:=footH hb hv vals) (by rw [hnn]; exact h) HH.out.1 HH.out.2.1 hgwb HH.out.2.2.1 HH.out.2.2.2 HKK.out.1.only hF hnew (.cells #[.pointer (some ⟨hb,0,none⟩)] 53) (by rw [hnn]; exact hg11) (by rw [hnn]; exact hrow11) (by rw [hnn]; exact hloc11)
   go_end0
   exact ⟨rfl,_,_,hfin⟩
theorem Ze3 (w:World)(wb g len:Nat)(G:Nat→Ar)(cs0:Array Value)(v vh:Value)(hs:List (Nat×List Nat))(h:w.heap[wb]?=some (.cells #[v,vh] 29))(H:HoldsAt w wb vh hs)(hn:hs.length≤10000000000000)(hg:ArcB w g len G cs0)(hlen:len*32≤140737488355000)(hgF:∀ x∈hs,g∉x.2) :
  Calls Tryz.prog 48 #[.pointer (some ⟨wb,0,none⟩),.slice (some ⟨g,0,none⟩) len len] w fun e w'=>e=.returned (.tuple #[])∧∃ vh' x,KeptOne w wb g v vh hs w' vh' x:=Zdc w wb g len len _ v vh hs h H hn hg.arcQ hlen hgF
end
end Go.Proofs.YtjdindfjfpdikaaGreat
