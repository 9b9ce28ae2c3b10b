import Derived.ArgAppend
import Derived.Test.YtjdindfjfpdikaaGreatB03
import Derived.Test.YtjdindfjfpdikaaGreatB13
import Derived.Test.YtjdindfjfpdikaaGreatPre
set_option maxRecDepth 100000
set_option maxHeartbeats 8000000
namespace Go.Proofs.YtjdindfjfpdikaaGreat
section
open Go.RowKit
theorem infoK3:(Tryz.prog.info? 3).map (fun i=>(i.zero,i.size,i.bytes))=some (some (.int .i64 0),1,8):=by kernel_rfl
theorem infoK32:(Tryz.prog.info? 32).map (fun i=>(i.zero,i.size,i.bytes))=some (some (.slice none 0 0),1,24):=by kernel_rfl
def MarkL (w:World)(g hb:Nat)(m:Int)(len:Nat)(y:Value):Prop:=∃ b c cs,y=.slice (some ⟨b,0,none⟩) len c∧w.heap[b]?=some (.cells cs 3)∧cs.size=c∧(b=g∨hb<b)∧len≤c∧∀ i,i<len→cs[i]?=some (.int .i64 m)
structure Kept (w0 W:World)(g hb:Nat)(m:Int)(len j:Nat)(x hv:Value)(vals:List Value):Prop where
 hold:W.heap[hb]?=some (.cells #[hv,.slice none 0 0,.int .i64 m] 91)
 row:W.ownsRow (hb+1) 32 1 hv (j+1) vals
 lists:∀ y∈vals,∃ l,l≤len+j∧MarkL W g hb m l y
 cur:MarkL W g hb m (len+j) x
 only:Only [g] w0 W
theorem grown_set (W:World)(b i:Nat)(v:Value):W.grownBy (W.setCell ⟨b,i,none⟩ v) (some b) :=
 ⟨rfl,rfl,rfl,by simp [World.setCell],fun k _ hn=>by
  have:¬ b=k:=fun e=>hn (by simp [e])
  simp [World.setCell,Array.getElem?_modify,this]⟩
theorem MarkL.move {w w':World}{g hb len:Nat}{m:Int}{y:Value}(h:MarkL w g hb m len y)(hm:∀ b cs,w.heap[b]?=some (.cells cs 3)→(b=g∨hb<b)→w'.heap[b]?=w.heap[b]?):MarkL w' g hb m len y:=by
 obtain ⟨b,c,cs,e,hh,hs,hb',hl,hi⟩:=h
 exact ⟨b,c,cs,e,(hm b cs hh hb').trans hh,hs,hb',hl,hi⟩
theorem markL_of_nums {w:World}{g hb len:Nat}{m:Int}(h:Nums w g len (fun _=>m)):MarkL w g hb m len (.slice (some ⟨g,0,none⟩) len len) :=
 ⟨g,len,_,rfl,h,by simp [numL_length],Or.inl rfl,nL _,fun i hi=>by rw [l2,numL_at _ hi]⟩
theorem wpList_append_mark {ops:Array Oper}{rest:List Oper}{o:Oper}{a:Act}{Q:Exit→Act→World→Prop}(A:World)(g hb n:Nat)(m:Int)(x:Value)(hgd:o.guard=none)(sO xO:Operand)
  (hop:o.op=Op.call { callee:=Callee.builtin Builtin.append,args:=#[sO,xO],argTypes:=#[32,32] }) (hs:a.eval sO=x) (hx:MarkL A g hb m n x) (ad:Nat) (had:a.eval xO=.slice (some ⟨ad,0,none⟩) 1 1)
  (hc:A.cell? ⟨ad,0,none⟩=some (.int .i64 m)) (hA:hb<A.heap.size) (hn:(n+1)*8≤140737488355328)
  (hK:∀ (v':Value) (w':World),MarkL w' g hb m (n+1) v'→(∀ l y,MarkL A g hb m l y→MarkL w' g hb m l y)→(∀ (k:Nat) (cs:Array Value) (T:TypeId),T≠3→A.heap[k]?=some (.cells cs T)→w'.heap[k]?=some (.cells cs T))→(∃ b,(b=g∨hb<b)∧Only [b] A w')→wpList Tryz.prog ops Q rest (a.put o.dst v') w') :
  wpList Tryz.prog ops Q (o :: rest) a A:=by
 obtain ⟨i3,hi3,hy0,hy1,hy2⟩:=info_parts infoK3
 obtain ⟨b,c,cs,rfl,hh,hsz,hb',hl,hi⟩:=hx
 have hlen:(cs.toList.take n).length=n:=by simp; omega
 have hat:∀ j u,(cs.toList.take n)[j]?=some u→cs[j]?=some u∧j<n:=fun j u h=>by
  have hj:j<n:=by
   have:=(List.getElem?_eq_some_iff.1 h).1
   omega
  rw [List.getElem?_take_of_lt hj] at h
  exact ⟨by simpa using h,hj⟩
 refine wpList_append_arg A hgd sO xO 32 hop 3 i3 (.int .i64 0) 1 8 Tryz.underlying32 hi3 hy0 hy1 hy2 rfl (by decide) b 0 n c (cs.toList.take n) hs (by omega) ?_ ⟨ad,0,none⟩ 1 1 [.int .i64 m] had rfl ?_ ?_ ?_ (by unfold maxLen; omega) (by omega) ?_ ?_
 ·intro j u hj
  rw [Nat.zero_add,at_cells hh]
  exact (hat j u hj).1
 ·intro j u hj
  have:j=0:=by
   have:=(List.getElem?_eq_some_iff.1 hj).1
   simp at this; exact this
  subst this
  simp at hj
  subst hj
  exact hc
 ·intro u hu
  simp at hu; subst hu; rfl
 ·intro hr j hj
  have:j=0:=by simp at hj; exact hj
  subst this
  refine ⟨?_,by simp [World.frozen?,hh]⟩
  rw [at_cells hh,Array.getElem?_eq_getElem (by omega)]
  rfl
 ·intro hr
  have e:A.setCells b (0+n*1) [.int .i64 m]=A.setCell ⟨b,n,none⟩ (.int .i64 m):=by simp [World.setCells]
  rw [e]
  have hB:(A.setCell ⟨b,n,none⟩ (.int .i64 m)).heap[b]?=some (.cells (cs.setIfInBounds n (.int .i64 m)) 3):=by simp [World.setCell,Array.getElem?_modify,hh]
  have gs:=grown_set A b n (.int .i64 m)
  refine hK _ _ ⟨b,c,_,rfl,hB,by simp [hsz],hb',hr,fun i hi'=>?_⟩ (fun l y hy=>?_) (fun k cs' T hT hk=>?_) ⟨b,hb',Only.of_grown gs (by simp)⟩
  ·rw [Array.getElem?_setIfInBounds]
   by_cases e:n=i
   ·rw [if_pos e,if_pos (by omega)]
   ·rw [if_neg e]; exact hi i (by omega)
  ·obtain ⟨b1,c1,cs1,rfl,hh1,hsz1,hb1,hl1,hi1⟩:=hy
   by_cases eb:b1=b
   ·subst eb
    rw [hh] at hh1
    cases hh1
    refine ⟨b1,c1,_,rfl,hB,by simp [hsz1],hb1,hl1,fun i hi'=>?_⟩
    rw [Array.getElem?_setIfInBounds]
    by_cases e:n=i
    ·rw [if_pos e,if_pos (by omega)]
    ·rw [if_neg e]; exact hi1 i hi'
   ·exact ⟨b1,c1,cs1,rfl,(gs.block b1 (gE.1 hh1).1 (by simpa using eb)).trans hh1,hsz1,hb1,hl1,hi1⟩
  ·refine (gs.block k (gE.1 hk).1 ?_).trans hk
   intro e
   have e':k=b:=by simpa using e
   subst e'
   rw [hh] at hk
   cases hk
   exact hT rfl
 ·intro hr v' w' hrow hg
  rcases hrow.2 with ⟨_,e⟩ | ⟨b2,c2,cs2,rfl,hb2,hh2,hl2,_,hs2,ht2⟩
  ·omega
  have hold:∀ k ob,A.heap[k]?=some ob→w'.heap[k]?=some ob:=fun k ob hk=>(hg.block k (gE.1 hk).1 (by simp)).trans hk
  refine hK _ _ ⟨b2,c2,cs2,rfl,hh2,by simpa using hs2,Or.inr (by omega),hl2,fun i hi'=>?_⟩ (fun l y hy=>hy.move fun b1 cs1 h1 _=>(hold b1 _ h1).trans h1.symm) (fun k cs' T hT hk=>hold k _ hk) ⟨b,hb',Only.of_grown' hg (fun b e=>by cases e)⟩
  have hx:(cs2.toList.take ((n+1)*1))[i]?=some (.int .i64 m):=by
   rw [ht2,List.getElem?_append]
   by_cases e:i<n
   ·rw [if_pos (by omega),List.getElem?_take_of_lt e]
    simpa using hi i e
   ·have e':i=n:=by omega
    subst e'
    rw [if_neg (by omega),hlen]
    simp
  rw [List.getElem?_take_of_lt (by omega)] at hx
  simpa using hx
end
section
open Go.RowKit
theorem ownsRow_tag {w w':World}{base size n:Nat}{e:TypeId}{v:Value}{xs:List Value}(h:w.ownsRow base e size v n xs)(hk:∀ (k:Nat)(cs:Array Value),w.heap[k]?=some (.cells cs e)→w'.heap[k]?=some (.cells cs e)):w'.ownsRow base e size v n xs:=by
 refine ⟨h.1,?_⟩
 rcases h.2 with hn | ⟨g,cap,cur,hv,hb,hg,rest⟩
 ·exact .inl hn
 ·exact .inr ⟨g,cap,cur,hv,hb,hk g cur hg,rest⟩
theorem Kept.next {w1 wr w9 w10:World}{g hb len j cu:Nat}{m:Int}{x x' hv:Value}{vals:List Value}{pu:Option Addr}(K:Kept w1 wr g hb m len j x hv vals)(hw1:w1.heap.size=hb)(hg:g<hb)
  (hM9:MarkL w9 g hb m (len+j+1) x') (hAll9:∀ l y,MarkL (wr.alloc (.cells #[.int .i64 m] 3)) g hb m l y→MarkL w9 g hb m l y)
  (hT9:∀ (k:Nat) (cs:Array Value) (T:TypeId),T≠3→(wr.alloc (.cells #[.int .i64 m] 3)).heap[k]?=some (.cells cs T)→w9.heap[k]?=some (.cells cs T)) (hO9:∃ b,(b=g∨hb<b)∧Only [b] (wr.alloc (.cells #[.int .i64 m] 3)) w9)
  (hrow:w10.ownsRow (hb+1) 32 1 (.slice pu (j+1+1) cu) (j+1+1) (vals ++ [x'])) (hg10:(w9.alloc (.cells #[x'] 32)).grownBy w10 hv.ownBlock) :
  Kept w1 (w10.setCell ⟨hb,0,none⟩ (.slice pu (j+1+1) cu)) g hb m len (j+1) x' (.slice pu (j+1+1) cu) (vals ++ [x']):=by
 have o1:∀ (k:Nat) (ob:Obj),wr.heap[k]?=some ob→(wr.alloc (.cells #[.int .i64 m] 3)).heap[k]?=some ob:=fun k ob hk=>(heap_alloc_old wr _ (gE.1 hk).1).trans hk
 have t9:∀ (k:Nat) (cs:Array Value) (T:TypeId),T≠3→wr.heap[k]?=some (.cells cs T)→w9.heap[k]?=some (.cells cs T):=fun k cs T hT hk=>hT9 k cs T hT (o1 k _ hk)
 obtain ⟨gi,hgi,hgb,cg,hg9⟩:∃ gi,hv.ownBlock=some gi∧hb+1≤gi∧∃ cg,w9.heap[gi]?=some (.cells cg 32):=by
  rcases K.row.2 with ⟨_,e⟩ | ⟨gi,cap,cur,e,hb',hgg,_⟩
  ·omega
  ·exact ⟨gi,by rw [e]; rfl,hb',cur,t9 gi cur 32 (by decide) hgg⟩
 rw [hgi] at hg10
 have gs:=grown_set w10 hb 0 (.slice pu (j+1+1) cu)
 have o10:∀ (k:Nat) (ob:Obj),k≠gi→w9.heap[k]?=some ob→w10.heap[k]?=some ob:=fun k ob hne hk=>by
  have hlt:=(gE.1 hk).1
  exact (hg10.block k (by simp; omega) (by simpa using hne)).trans ((heap_alloc_old w9 _ hlt).trans hk)
 have m10:∀ l y,MarkL w9 g hb m l y→MarkL (w10.setCell ⟨hb,0,none⟩ (.slice pu (j+1+1) cu)) g hb m l y:=fun l y hy=>by
  refine hy.move (fun b cs h hb'=>?_)
  have h10:=o10 b _ (fun e=>by subst e; rw [hg9] at h; cases h) h
  have hne:¬ b=hb:=by rcases hb' with rfl | h <;> omega
  exact ((gs.block b (gE.1 h10).1 (by simpa using hne)).trans h10).trans h.symm
 have H9:=t9 hb _ 91 (by decide) K.hold
 have H10:=o10 hb _ (by omega) H9
 refine ⟨?_,hrow.kept gs (Or.inr ?_),?_,m10 _ _ hM9,?_⟩
 ·simp [World.setCell,Array.getElem?_modify,H10]
 ·intro e
  have:=(hrow.lt hb e).1
  omega
 ·intro y hy
  rcases List.mem_append.1 hy with hy | hy
  ·obtain ⟨l,hl,hy⟩:=K.lists y hy
   exact ⟨l,by omega,m10 _ _ (hAll9 _ _ (hy.move (fun b cs h _=>(o1 b _ h).trans h.symm)))⟩
  ·obtain rfl:y=x':=by simpa using hy
   exact ⟨_,nL _,m10 _ _ hM9⟩
 ·obtain ⟨b,hb',hO⟩:=hO9
  have c1:Only [g] w1 (wr.alloc (.cells #[.int .i64 m] 3)):=K.only.trans (Only.of_below ((bR _ _).alloc (nL _) _))
  have c2:Only [g] w1 w9:=c1.chain hO (fun y hy=>by
   obtain rfl:y=b:=by simpa using hy
   rcases hb' with h | h
   ·exact Or.inl (by simp [h])
   ·exact Or.inr (by omega))
  have c3:Only [g] w1 (w9.alloc (.cells #[x'] 32)):=c2.trans (Only.of_below ((bR _ _).alloc (nL _) _))
  have c4:Only [g] w1 w10:=c3.chain (Only.of_grown hg10 (S:=[gi]) (by simp)) (fun y hy=>Or.inr (by simp at hy; omega))
  exact c4.chain (Only.of_grown gs (S:=[hb]) (by simp)) (fun y hy=>Or.inr (by simp at hy; omega))
end
section
open Go.RowKit
def HeldBy (w:World)(hb:Nat)(F:List Nat):Prop:=(∀ b∈F,b<w.heap.size)∧∀ w':World,(∀ b∈F,w'.heap[b]?=w.heap[b]?)→Held w' hb
theorem HeldBy.held {w:World}{hb:Nat}{F:List Nat}(h:HeldBy w hb F):Held w hb:=h.2 w (fun _ _=>rfl)
theorem HeldBy.move {w w':World}{hb:Nat}{F:List Nat}(h:HeldBy w hb F)(hm:∀ b∈F,w'.heap[b]?=w.heap[b]?):HeldBy w' hb F:=by
 refine ⟨fun b hb'=>?_,fun w'' h''=>h.2 w'' (fun b hb'=>(h'' b hb').trans (hm b hb'))⟩
 have h1:=h.1 b hb'
 have h2:=hm b hb'
 rw [Array.getElem?_eq_getElem h1] at h2
 exact (gE.1 h2).1
theorem HeldBy.only {w w':World}{hb:Nat}{F S:List Nat}(h:HeldBy w hb F)(ho:Only S w w')(hd:∀ b∈F,b∉S):HeldBy w' hb F:=h.move (fun b hb'=>ho.block b (h.1 b hb') (hd b hb'))
theorem mem_optList {o:Option Nat}{b:Nat}:b∈o.toList↔o=some b:=by cases o <;> simp [eq_comm]
def footH (hb:Nat)(hv:Value)(vals:List Value):List Nat:=hb :: (hv.ownBlock.toList ++ vals.filterMap Value.ownBlock)
theorem mem_footH {hb b:Nat}{hv:Value}{vals:List Value}:b∈footH hb hv vals↔b=hb∨hv.ownBlock=some b∨∃ y∈vals,y.ownBlock=some b:=by
 simp [footH,List.mem_filterMap]
theorem heldBy_ints {W:World}{g hb n L:Nat}{m:Int}{hv:Value}{vals:List Value}(hold:W.heap[hb]?=some (.cells #[hv,.slice none 0 0,.int .i64 m] 91))(row:W.ownsRow (hb+1) 32 1 hv (n+1) vals)(hn:n<1000)
  (lists:∀ y∈vals,∃ l,l≤L∧MarkL W g hb m l y) (hL:L≤1000000000000000):HeldBy W hb (footH hb hv vals):=by
 rcases row.2 with ⟨_,e⟩ | ⟨gi,cap,cur,rfl,hbg,hcur,hnc,hcap,hsz,htake⟩
 ·omega
 have hat:∀ i,i<n+1→∃ y,y∈vals∧cur[i]?=some y:=fun i hi=>by
  have hlen:=row.1
  have hi':i<vals.length:=by omega
  obtain ⟨y,hy⟩:∃ y,vals[i]?=some y:=⟨_,List.getElem?_eq_getElem hi'⟩
  refine ⟨y,List.mem_of_getElem? hy,?_⟩
  rw [← htake,List.getElem?_take_of_lt (by omega)] at hy
  simpa using hy
 constructor
 ·intro b hb'
  rcases mem_footH.1 hb' with rfl | e | ⟨y,hy,e⟩
  ·exact (gE.1 hold).1
  ·exact (row.lt b e).2
  ·obtain ⟨l,_,b1,c,cs,rfl,hh,_⟩:=lists y hy
   have:b1=b:=by simpa [Value.ownBlock] using e
   subst this
   exact (gE.1 hh).1
 ·intro w' hm
  refine ⟨m,_,_,_,_,_,_,⟨(hm hb (mem_footH.2 (Or.inl rfl))).trans hold,fun i hi=>?_,fun i hi=>by omega⟩,by omega,by omega⟩
  obtain ⟨y,hy,hc⟩:=hat i hi
  obtain ⟨l,hl,b,c,cs,rfl,hh,hs,_,hlc,hall⟩:=lists y hy
  have hg':=(hm gi (mem_footH.2 (Or.inr (Or.inl rfl)))).trans hcur
  have hb':=(hm b (mem_footH.2 (Or.inr (Or.inr ⟨_,hy,rfl⟩)))).trans hh
  refine ⟨gi,0,_,l,c,rfl,(gE.1 hg').1,?_,by omega,Or.inr ⟨b,0,rfl,(gE.1 hb').1,fun k hk=>?_⟩⟩
  ·rw [Nat.zero_add,at_cells hg',hc]
  ·rw [Nat.zero_add,at_cells hb']
   exact hall k hk
def encH (x:Nat×List Nat):List Value:=[.pointer (some ⟨x.1,0,none⟩)]
structure HoldsAt (w:World)(wb:Nat)(vh:Value)(hs:List (Nat×List Nat)):Prop where
 row:RowAt w 53 1 encH vh hs
 held:∀ x∈hs,HeldBy w x.1 x.2
 ne:∀ x∈hs,∀ b∈x.2,b≠wb∧vh.ownBlock≠some b
theorem HoldsAt.holds {w:World}{wb:Nat}{vh:Value}{hs:List (Nat×List Nat)}(h:HoldsAt w wb vh hs):∃ p cap,vh=.slice p hs.length cap∧Holds w p hs.length:=by
 rcases h.row.2 with ⟨rfl,e⟩ | ⟨g,cap,cur,rfl,_,hcur,hnc,_,_,htake⟩
 ·exact ⟨none,0,by rw [e],fun i hi=>by omega⟩
 ·refine ⟨_,cap,rfl,fun i hi=>?_⟩
  have e:hs.flatMap encH=hs.map (fun x=>Value.pointer (some ⟨x.1,0,none⟩)):=by
   have:∀ l:List (Nat×List Nat),l.flatMap encH=l.map (fun x=>Value.pointer (some ⟨x.1,0,none⟩)):=fun l=>by
    induction l with
    | nil=>rfl
    | cons a l ih=>rw [List.flatMap_cons,ih]; rfl
   exact this hs
  have h1:(hs.flatMap encH)[i]?=some (.pointer (some ⟨(hs[i]).1,0,none⟩)):=by rw [e]; simp [hi]
  rw [← htake,List.getElem?_take_of_lt (by omega)] at h1
  refine ⟨g,0,(hs[i]).1,rfl,(gE.1 hcur).1,?_,(h.held _ (gM hi)).held⟩
  rw [Nat.zero_add,at_cells hcur]
  simpa using h1
structure KeptOne (w:World)(wb g:Nat)(v vh:Value)(hs:List (Nat×List Nat))(w':World)(vh':Value)(x:Nat×List Nat):Prop where
 cells:w'.heap[wb]?=some (.cells #[v,vh'] 29)
 holds:HoldsAt w' wb vh' (hs ++ [x])
 new:∀ b∈x.2,b=g∨w.heap.size≤b
 only:Only (g :: wb :: vh.ownBlock.toList) w w'
 loc:∀ b,vh'.ownBlock=some b→vh.ownBlock=some b∨w.heap.size≤b
theorem Only.sub {S T:List Nat}{w w':World}(h:Only S w w')(hs:∀ b∈S,b∈T):Only T w w':=⟨h.os,h.tape,h.output,h.size,fun k hk hn=>h.block k hk (fun hm=>hn (hs k hm))⟩
theorem RowAt.mv {α:Type}{w w':World}{e size:Nat}{enc:α→List Value}{v:Value}{xs:List α}(h:RowAt w e size enc v xs)(hb:∀ b,v.ownBlock=some b→w'.heap[b]?=w.heap[b]?):RowAt w' e size enc v xs:=by
 refine ⟨h.1,?_⟩
 rcases h.2 with h2 | ⟨g,cap,cur,hv,h0,hg,hr⟩
 ·exact Or.inl h2
 ·exact Or.inr ⟨g,cap,cur,hv,h0,(hb g (by rw [hv]; rfl)).trans hg,hr⟩
theorem kept_one {w W3 w11:World}{wb g hb:Nat}{v vh u:Value}{hs:List (Nat×List Nat)}{F:List Nat}(h:w.heap[wb]?=some (.cells #[v,vh] 29))(H:HoldsAt w wb vh hs)(hgF:∀ x∈hs,g∉x.2)(hgwb:¬ wb=g)(hgvh:vh.ownBlock≠some g)(hvwb:vh.ownBlock≠some wb)
  (hO:Only [g] w W3) (hF:HeldBy W3 hb F) (hnew:∀ b∈F,b=g∨w.heap.size≤b) (o:Obj)
  (hg11:(W3.alloc o).grownBy w11 vh.ownBlock) (hrow11:w11.ownsRow 0 53 1 u (hs.length+1) (hs.flatMap encH ++ [.pointer (some ⟨hb,0,none⟩)])) (hloc11:u.ownBlock=vh.ownBlock∨u.ownBlock=some (W3.alloc o).heap.size) :
  KeptOne w wb g v vh hs (w11.setCell ⟨wb,1,none⟩ u) u (hb,F):=by
 have hl:wb<w.heap.size:=(gE.1 h).1
 have hs3:=hO.size
 have hz:(W3.alloc o).heap.size=W3.heap.size+1:=by simp
 have hvl:∀ b,vh.ownBlock=some b→b<w.heap.size:=fun b e=>H.row.lt e
 have hFl:∀ b∈F,b<W3.heap.size:=hF.1
 have hFv:∀ b∈F,vh.ownBlock≠some b:=fun b hb' e=>by
  rcases hnew b hb' with rfl | h1
  ·exact hgvh e
  ·have:=hvl b e; omega
 have hFw:∀ b∈F,b≠wb:=fun b hb' e=>by
  subst e
  rcases hnew b hb' with h1 | h1
  ·exact hgwb h1
  ·omega
 have gs:=grown_set w11 wb 1 u
 have go11:∀ b,b<W3.heap.size→vh.ownBlock≠some b→w11.heap[b]?=W3.heap[b]?:=fun b hb' hne=>(hg11.block b (by omega) (fun e=>hne e.symm)).trans (heap_alloc_old W3 _ hb')
 have h11:w11.heap[wb]?=some (.cells #[v,vh] 29):=(go11 wb (by omega) hvwb).trans ((hO.block wb hl (by simpa using hgwb)).trans h)
 have hl11:W3.heap.size≤w11.heap.size:=by have:=hg11.size; omega
 have last:∀ b,b<W3.heap.size→vh.ownBlock≠some b→b≠wb→(w11.setCell ⟨wb,1,none⟩ u).heap[b]?=W3.heap[b]?:=fun b hb' hne hnw=>(gs.block b (by omega) (by simpa using hnw)).trans (go11 b hb' hne)
 have huw:u.ownBlock≠some wb:=by
  rcases hloc11 with e | e
  ·rw [e]; exact hvwb
  ·rw [e]; simp; omega
 have hub:∀ b,u.ownBlock=some b→vh.ownBlock=some b∨W3.heap.size≤b:=fun b e=>by
  rcases hloc11 with e' | e'
  ·left; rw [← e']; exact e
  ·right; rw [e'] at e; cases e; omega
 refine ⟨?_,⟨?_,fun x hx=>?_,fun x hx b hb'=>?_⟩,hnew,?_,fun b e=>(hub b e).imp_right (fun q=>by omega)⟩
 ·simp [World.setCell,Array.getElem?_modify,h11]
 ·have hk:=hrow11.kept gs (Or.inr huw)
  unfold RowAt
  simpa [encH,List.flatMap_append] using hk
 ·rcases List.mem_append.1 hx with hx | hx
  ·have h1:=H.held x hx
   refine h1.move (fun b hb'=>?_)
   have hne:=H.ne x hx b hb'
   have hbg:b≠g:=fun e=>hgF x hx (e ▸ hb')
   exact (last b (by have:=h1.1 b hb'; omega) hne.2 hne.1).trans (hO.block b (h1.1 b hb') (by simpa using hbg))
  ·obtain rfl:=List.mem_singleton.1 hx
   exact hF.move (fun b hb'=>last b (hFl b hb') (hFv b hb') (hFw b hb'))
 ·rcases List.mem_append.1 hx with hx | hx
  ·refine ⟨(H.ne x hx b hb').1,fun e=>?_⟩
   rcases hub b e with h1 | h1
   ·exact (H.ne x hx b hb').2 h1
   ·have:=(H.held x hx).1 b hb'; omega
  ·obtain rfl:=List.mem_singleton.1 hx
   refine ⟨hFw b hb',fun e=>?_⟩
   rcases hub b e with h1 | h1
   ·exact hFv b hb' h1
   ·have:=hFl b hb'; omega
 ·refine (hO.sub (fun b hb'=>?_)).trans ((Only.of_below ((bR _ _).alloc (nL _) o)).trans ((Only.of_grown' hg11 (fun b e=>?_)).trans (Only.of_grown gs ?_)))
  ·rw [List.mem_singleton.1 hb']; exact List.mem_cons_self
  ·exact mC _ (mC _ (mem_optList.2 e))
  ·exact mC _ List.mem_cons_self
end
section
open Go.RowKit
theorem infoK53:(Tryz.prog.info? 53).map (fun i=>(i.zero,i.size,i.bytes))=some (some (.pointer none),1,8):=by kernel_rfl
theorem cell_of' {w:World}{b:Nat}{cs:Array Value}{t:TypeId}(h:w.heap[b]?=some (.cells cs t))(i:Nat):w.cell? ⟨b,i,none⟩=cs[i]?:=by simp [World.cell?,h]
theorem frozen_of' {w:World}{b:Nat}{cs:Array Value}{t:TypeId}(h:w.heap[b]?=some (.cells cs t))(i:Nat):w.frozen? ⟨b,i,none⟩=false:=by simp [World.frozen?,h]
theorem keepInts_any (w:World)(wb g len:Nat)(G:Nat→Int)(v vh:Value)(hs:List (Nat×List Nat))(h:w.heap[wb]?=some (.cells #[v,vh] 29))(H:HoldsAt w wb vh hs)(hn:hs.length≤10000000000000)(hg:Nums w g len G)(hlen:len*8≤140737488355000)(hgF:∀ x∈hs,g∉x.2) :
  Calls Tryz.prog 47 #[.pointer (some ⟨wb,0,none⟩),.slice (some ⟨g,0,none⟩) len len] w fun e w'=>e=.returned (.tuple #[])∧∃ vh' x,KeptOne w wb g v vh hs w' vh' x:=by
 obtain ⟨p,cn,rfl⟩:=slice_of H.row
 obtain ⟨n,hnn⟩:∃ n,hs.length=n:=⟨_,rfl⟩
 rw [hnn] at h hn
 have hgwb:¬ wb=g:=fun e=>by subst e; have hg':w.heap[wb]?=_:=hg; rw [h] at hg'; simp at hg'
 have hgvh:(Value.slice p hs.length cn).ownBlock≠some g:=fun e=>by
  obtain ⟨cur,hc⟩:=H.row.elem e
  have hg':w.heap[g]?=_:=hg; rw [hg'] at hc; simp at hc
 have hvwb:(Value.slice p hs.length cn).ownBlock≠some wb:=fun e=>by
  obtain ⟨cur,hc⟩:=H.row.elem e
  rw [h] at hc; simp at hc
 have hgw:=hg.lt
 have hlwb:wb<w.heap.size:=(gE.1 h).1
 have HH:=veil (aI H (aI hgF (aI hgvh hvwb)))
 clear H hgF hgvh hvwb
 obtain ⟨i5,hi5,hz0,hz1,hz2⟩:=info_parts infoK53
 obtain ⟨i3,hi3,hy0,hy1,hy2⟩:=info_parts infoK3
 obtain ⟨i4,hi4,hx0,hx1,hx2⟩:=info_parts infoK32
 go_enter Tryz.func47,Tryz.ntmps47
 go_wp2_with (go_at_call 78; refine (mark_any _ _ _ _ _ _ h (by omega)).mono ?_; rintro e w1 ⟨rfl,rfl⟩)
 obtain ⟨m,hm⟩:∃ m,(-10000000 - (n:Int))=m:=⟨_,rfl⟩
 simp only [hm]
 have Hm:=veil hm
 clear hm
 obtain ⟨hb,hhb⟩:∃ hb,w1.heap.size=hb:=⟨_,rfl⟩
 simp only [hhb]
 obtain ⟨W1,hW1⟩:∃ W1,w1.alloc (.cells #[.slice none 0 0,.slice none 0 0,.int .i64 m] 91)=W1:=⟨_,rfl⟩
 have X1:W1.heap[hb]?=some (.cells #[.slice none 0 0,.slice none 0 0,.int .i64 m] 91):=by rw [← hW1,← hhb]; exact heap_alloc_new w1 _
 have O1:Below w1.heap.size w1 W1:=by rw [← hW1]; exact (bR _ _).alloc (nL _) _
 rw [hW1]
 clear hW1
 go_loopg [5] len (fun gk iv wr=>∃ (i:Nat) (G:Nat→Int),i≤len∧len - i≤gk∧iv=.int .i64 i∧Nums wr g len G∧Hid (∀ k,k<i→G k=m)∧wr.heap[hb]?=some (.cells #[.slice none 0 0,.slice none 0 0,.int .i64 m] 91)∧Only [g] w1 wr)
 case atStart=>exact ⟨0,G,Nat.zero_le _,nL _,rfl,hg.below O1,fun k hk=>by omega,X1,Only.of_below O1⟩
 case' round=>skip
 clear X1 O1
 obtain ⟨i,G',hi,hgk,rfl,hN,hG,X,O⟩:=hrel
 rename World=>W2
 have hgw:=hg.lt
 have hne:¬ g=hb:=by omega
 have y9:hb<W2.heap.size:=(gE.1 X).1
 have y2:W2.cell? ⟨hb,2,none⟩=some (.int .i64 m):=by simp [World.cell?,X]
 by_cases hlt:i<len
 ·have hiI:(i:Int)<(len:Int):=by omega
  have c0:=hN.cell hlt
  have c1:=hN.frozen i
  have c2:=hN.lt
  have Hb:=veil (aI hN (aI X O))
  clear hN X O
  go_wp2_with fail
  go_roundg (len - (i+1))
  case measure=>omega
  case rel =>
   refine ⟨i+1,setN G' i m,by omega,nL _,by go_num,Hb.out.1.set i m,fun k hk=>?_,?_,?_⟩
   ·by_cases e:k=i
    ·simp [setN,e]
    ·simp only [setN,if_neg e]; exact hG.out k (by omega)
   ·simp [World.setCell,Array.getElem?_modify,hne,Hb.out.2.1]
   ·refine Hb.out.2.2.trans ⟨rfl,rfl,rfl,by simp [World.setCell],fun k hk hn=>?_⟩
    have:¬ g=k:=fun e=>hn (by simp [e])
    simp [World.setCell,Array.getElem?_modify,this]
 ·obtain rfl:i=len:=by omega
  have N2:Nums W2 g i (fun _=>m):=hN.congr hG.out
  clear hN hG
  have z0:W2.cell? ⟨hb,0,none⟩=some (.slice none 0 0):=by simp [World.cell?,X]
  have Hb:=veil (aI N2 (aI X O))
  clear N2 X O
  go_upto_region 6 with (first
   | (at_builtin; refine wpList_append_own_at _ rfl _ _ 88 rfl (hb+1) 32 i4 (.slice none 0 0) 1 24 Tryz.underlying88 hi4 hx0 hx1 hx2 rfl (by decide) (.slice none 0 0) 0 [] rfl (World.ownsRow_nil _ (hb+1) 32 1) ⟨W2.heap.size,0,none⟩ 1 1 [.slice (some ⟨g,0,none⟩) i i] rfl rfl (cell_one_new _ _ _) (by intro u hu; simp at hu; subst hu; rfl) (by unfold maxLen; omega) (by omega) (by simp; omega) ?_; intro u w5 hrow5 hg5 _ hloc5; obtain ⟨pu,cu,rfl⟩:=ownsRow_shape hrow5; have h5:=(hg5.block hb (by simp; omega) (by simp [Value.ownBlock])).trans (heap_alloc_old W2 _ y9); rw [Hb.out.2.1] at h5; have q0:=cell_of' h5 0; simp only [l2,l0] at q0; have q1:w5.frozen? ⟨hb,0,none⟩=false:=by simp [World.frozen?,h5])
   | fail)
  have hbg5:∀ b,b<W2.heap.size→w5.heap[b]?=W2.heap[b]?:=fun b hb'=>(hg5.block b (by simp; omega) (by simp [Value.ownBlock])).trans (heap_alloc_old W2 _ hb')
  have gs:=grown_set w5 hb 0 (.slice pu (0+1) cu)
  have hb5:hb<w5.heap.size:=(gE.1 h5).1
  have K0:Kept w1 (w5.setCell ⟨hb,0,none⟩ (.slice pu (0+1) cu)) g hb m i 0 (.slice (some ⟨g,0,none⟩) i i) (.slice pu (0+1) cu) [.slice (some ⟨g,0,none⟩) i i]:=by
   have hM:MarkL (w5.setCell ⟨hb,0,none⟩ (.slice pu (0+1) cu)) g hb m i (.slice (some ⟨g,0,none⟩) i i):=by
    refine markL_of_nums (Hb.out.1.move ?_)
    exact (gs.block g (nT hgw (by omega)) (by simpa using hne)).trans (hbg5 g Hb.out.1.lt)
   refine ⟨?_,hrow5.kept gs (Or.inr ?_),?_,hM,?_⟩
   ·simp [World.setCell,Array.getElem?_modify,h5]
   ·intro e
    have:=(hrow5.lt hb e).1
    omega
   ·intro y hy
    obtain rfl:y=.slice (some ⟨g,0,none⟩) i i:=by simpa using hy
    exact ⟨i,nL _,hM⟩
   ·refine Hb.out.2.2.chain (S':=[hb]) ⟨(gs.os).trans hg5.os,(gs.tape).trans hg5.tape,(gs.output).trans hg5.output,?_,fun k hk hn=>?_⟩ (fun x hx=>Or.inr (by simp at hx; omega))
    ·have a1:=gs.size; have a2:=hg5.size; simp at a2; omega
    ·exact (gs.block k (by have a2:=hg5.size; simp at a2; omega) (fun e=>hn (by simpa using e))).trans (hbg5 k hk)
  have HK:=veil K0
  clear K0 Hb hrow5 hg5 hloc5 h5 q0 q1 z0 y2 hbg5 gs
  go_wp2_with fail
  go_loopg [1,6] 8 (fun gk x jv wr=>∃ (j:Nat) (hv:Value) (vals:List Value),j≤8∧8 - j≤gk∧jv=.int .i64 j∧Kept w1 wr g hb m i j x hv vals)
  case atStart=>exact ⟨0,_,_,Nat.zero_le _,nL _,rfl,HK.out⟩
  case' round=>skip
  obtain ⟨j,hv,vals,hj,hgk',rfl,K⟩:=hrel
  rename World=>W3
  clear HK
  by_cases hlt2:j<8
  ·have hjI:(j:Int)<8:=by omega
   have y9':hb<W3.heap.size:=(gE.1 K.hold).1
   have y2':W3.cell? ⟨hb,2,none⟩=some (.int .i64 m):=by simp [World.cell?,K.hold]
   have hxA:MarkL (W3.alloc (.cells #[.int .i64 m] 3)) g hb m (i+j) u1:=K.cur.move (fun b cs h _=>heap_alloc_old W3 _ (gE.1 h).1)
   have hghb:g<hb:=by omega
   have HKK:=veil K
   clear K
   go_upto_region 10 with (first
    | (at_builtin; refine wpList_append_mark _ g hb (i+j) m u1 rfl _ _ rfl rfl hxA W3.heap.size rfl (by simp) (by simp; omega) (by omega) ?_; intro x' w9 hM9 hAll9 hT9 hO9)
    | fail)
   have H9:w9.heap[hb]?=some (.cells #[hv,.slice none 0 0,.int .i64 m] 91):=hT9 hb _ 91 (by decide) ((heap_alloc_old W3 _ y9').trans HKK.out.hold)
   have y9'':hb<w9.heap.size:=(gE.1 H9).1
   have z0:w9.cell? ⟨hb,0,none⟩=some hv:=by simp [World.cell?,H9]
   have hrA:(w9.alloc (.cells #[x'] 32)).ownsRow (hb+1) 32 1 hv (j+1) vals:=by
    refine ownsRow_tag (ownsRow_tag (w':=w9) HKK.out.row (fun k cs hk=>hT9 k cs 32 (by decide) ((heap_alloc_old W3 _ (gE.1 hk).1).trans hk))) (fun k cs hk=>?_)
    exact (heap_alloc_old w9 _ (gE.1 hk).1).trans hk
   obtain ⟨px,lx,cx,rfl⟩:∃ px lx cx,x'=.slice px lx cx:=by obtain ⟨b,c,cs,rfl,_⟩:=hM9; exact ⟨_,_,_,rfl⟩
   have hone:(Value.slice px lx cx).oneCell'=true:=rfl
   have hvn:∀ b,hv.ownBlock=some b→hb+1≤b:=fun b e=>(hrA.lt b e).1
   have H3:=veil (aI hM9 (aI hAll9 (aI hT9 hO9)))
   clear hM9 hAll9 hT9 hO9 hxA
   go_upto_region 8 with (first
    | (at_builtin; refine wpList_append_own_at _ rfl _ _ 88 rfl (hb+1) 32 i4 (.slice none 0 0) 1 24 Tryz.underlying88 hi4 hx0 hx1 hx2 rfl (by decide) hv (j+1) vals rfl hrA ⟨w9.heap.size,0,none⟩ 1 1 [.slice px lx cx] rfl rfl (cell_one_new _ _ _) (fun u hu=>(List.mem_singleton.1 hu) ▸ hone) (by unfold maxLen; omega) (by omega) (Nat.le_trans (Nat.succ_le_of_lt y9'') (by simp)) ?_; intro u w10 hrow10 hg10 _ hloc10; obtain ⟨pu,cu,rfl⟩:=ownsRow_shape hrow10; have h10:=((hg10.block hb (nT y9'' (by simp)) (fun e=>absurd (hvn hb e.symm) (by omega))).trans (heap_alloc_old w9 _ y9'')).trans H9; have q0:=cell_of' h10 0; simp only [l2,l0] at q0; have q1:=frozen_of' h10 0; have q2:=(gE.1 h10).1)
    | fail)
   go_wp2_with fail
   go_roundg (8 - (j+1))
   case measure=>omega
   case rel=>exact ⟨j+1,_,_,by omega,nL _,by go_num,HKK.out.next hhb hghb H3.out.1 H3.out.2.1 H3.out.2.2.1 H3.out.2.2.2 hrow10 hg10⟩
  ·obtain rfl:j=8:=by omega
   have hX:W3.heap[wb]?=some (.cells #[v,.slice p n cn] 29):=(K.only.block wb hlwb (by simpa using hgwb)).trans h
   have hR:RowAt W3 53 1 encH (.slice p n cn) hs:=by
    have:=HH.out.1.row.mv (w':=W3) (fun b e=>K.only.block b (HH.out.1.row.lt e) (fun hm=>HH.out.2.2.1 (by rw [e]; simpa using hm)))
    rwa [hnn] at this
   have hRn:hs.length=n:=hnn
   have hA:(W3.alloc (.cells #[.pointer (some ⟨hb,0,none⟩)] 53)).ownsRow 0 53 1 (.slice p n cn) n (hs.flatMap encH):=by
    have:=ownsRow_tag (w':=W3.alloc (.cells #[.pointer (some ⟨hb,0,none⟩)] 53)) hR (fun k cs hk=>(heap_alloc_old W3 _ (gE.1 hk).1).trans hk)
    rwa [hnn] at this
   have z9:wb<W3.heap.size:=(gE.1 hX).1
   have z1:=cell_of' hX 1
   simp only [l2,l1,l0] at z1
   have hvw:¬ (Value.slice p n cn).ownBlock=some wb:=by rw [← hnn]; exact HH.out.2.2.2
   have HKK:=veil (aI K hR)
   clear K hR
   go_wp2_with (first
    | (at_builtin; refine wpList_append_own_at _ rfl _ _ 27 rfl 0 53 i5 (.pointer none) 1 8 Tryz.underlying27 hi5 hz0 hz1 hz2 rfl (by decide) (.slice p n cn) n (hs.flatMap encH) rfl hA ⟨W3.heap.size,0,none⟩ 1 1 [.pointer (some ⟨hb,0,none⟩)] rfl rfl (cell_one_new _ _ _) (by intro u hu; simp at hu; subst hu; rfl) (by unfold maxLen; omega) (by omega) (Nat.zero_le _) ?_; intro u w11 hrow11 hg11 _ hloc11; obtain ⟨pu,cu,rfl⟩:=ownsRow_shape hrow11; have h11:=((hg11.block wb (nT z9 (by simp)) (fun e=>hvw e.symm)).trans (heap_alloc_old W3 _ z9)).trans hX; have q0:=cell_of' h11 1; simp only [l2,l1,l0] at q0; have q1:=frozen_of' h11 1; have q2:=(gE.1 h11).1)
    | fail)
   have hF:HeldBy W3 hb (footH hb hv vals):=heldBy_ints (L:=i+8) HKK.out.1.hold HKK.out.1.row (by decide) HKK.out.1.lists (by omega)
   have hnew:∀ b∈footH hb hv vals,b=g∨w1.heap.size≤b:=fun b hb'=>by
    rcases mem_footH.1 hb' with e | e | ⟨y,hy,e⟩
    ·right; omega
    ·right; have:=(HKK.out.1.row.lt b e).1; omega
    ·obtain ⟨l,_,b1,c,cs,rfl,_,_,hbb,_⟩:=HKK.out.1.lists y hy
     have:b1=b:=by simpa [Value.ownBlock] using e
     subst this
     rcases hbb with h1 | h1
     ·exact Or.inl h1
     ·right; omega
   have hfin:=kept_one (u:=.slice pu (n+1) cu) (F:=footH hb hv vals) (by rw [hnn]; exact h) HH.out.1 HH.out.2.1 hgwb HH.out.2.2.1 HH.out.2.2.2 HKK.out.1.only hF hnew (.cells #[.pointer (some ⟨hb,0,none⟩)] 53) (by rw [hnn]; exact hg11) (by rw [hnn]; exact hrow11) (by rw [hnn]; exact hloc11)
   go_end0
   exact ⟨rfl,_,_,hfin⟩
end
section
open Go.RowKit
theorem infoK33:(Tryz.prog.info? 33).map (fun i=>(i.zero,i.size,i.bytes))=some (some (.slice none 0 0),1,24):=by kernel_rfl
def patA (m:Int)(i:Nat):Value:=.int .i64 (if i % 4=3 then m else 0)
theorem patA_at {m:Int}{n i:Nat}(h:n*4≤i)(h':i<n*4+4):[Value.int .i64 0,.int .i64 0,.int .i64 0,.int .i64 m][i - n*4]?=some (patA m i):=by
 have:i=n*4∨i=n*4+1∨i=n*4+2∨i=n*4+3:=by omega
 rcases this with rfl | rfl | rfl | rfl
 ·simp [patA]
 ·simp [patA]
 ·simp [patA]
 ·simp [patA,show (n*4+3) % 4=3 by omega]
def MarkA (w:World)(g hb:Nat)(m:Int)(len:Nat)(y:Value):Prop:=∃ b c cs,y=.slice (some ⟨b,0,none⟩) len c∧w.heap[b]?=some (.cells cs 93)∧cs.size=c*4∧(b=g∨hb<b)∧len≤c∧∀ i,i<len*4→cs[i]?=some (patA m i)
structure KeptA (w0 W:World)(g hb:Nat)(m:Int)(len j:Nat)(x hv:Value)(vals:List Value):Prop where
 hold:W.heap[hb]?=some (.cells #[.slice none 0 0,hv,.int .i64 m] 91)
 row:W.ownsRow (hb+1) 33 1 hv (j+1) vals
 lists:∀ y∈vals,∃ l,l≤len+j∧MarkA W g hb m l y
 cur:MarkA W g hb m (len+j) x
 only:Only [g] w0 W
theorem MarkA.move {w w':World}{g hb len:Nat}{m:Int}{y:Value}(h:MarkA w g hb m len y)(hm:∀ b cs,w.heap[b]?=some (.cells cs 93)→(b=g∨hb<b)→w'.heap[b]?=w.heap[b]?):MarkA w' g hb m len y:=by
 obtain ⟨b,c,cs,e,hh,hs,hb',hl,hi⟩:=h
 exact ⟨b,c,cs,e,(hm b cs hh hb').trans hh,hs,hb',hl,hi⟩
theorem markA_of_arcs {w:World}{g hb len:Nat}{m:Int}{cs:Array Value}(h:ArcB w g len (fun _=>⟨0,0,0,m⟩) cs):MarkA w g hb m len (.slice (some ⟨g,0,none⟩) len len) :=
 ⟨g,len,cs,rfl,h.heap,h.size,Or.inl rfl,nL _,fun i hi=>by
  obtain ⟨h0,h1,h2,h3⟩:=h.cells (i / 4) (by omega)
  have:i=i / 4*4∨i=i / 4*4+1∨i=i / 4*4+2∨i=i / 4*4+3:=by omega
  rcases this with e | e | e | e
  ·rw [e,h0]; simp [patA]
  ·rw [e,h1]; simp [patA]
  ·rw [e,h2]; simp [patA]
  ·rw [e,h3]; simp [patA,show (i / 4*4+3) % 4=3 by omega]⟩
theorem MarkA.arcs {w:World}{b l:Nat}{m:Int}{cs:Array Value}(hh:w.heap[b]?=some (.cells cs 93))(h:∀ i,i<l*4→cs[i]?=some (patA m i)):Arcs w (some ⟨b,0,none⟩) l (fun _=>⟨0,0,0,m⟩) :=
 Or.inr ⟨b,0,rfl,(gE.1 hh).1,fun k hk=>by
  simp only [Nat.zero_add]
  rw [at_cells hh,at_cells hh,at_cells hh,at_cells hh,h _ (by omega),h _ (by omega),h _ (by omega),h _ (by omega)]
  simp [patA,show (k*4+3) % 4=3 by omega]⟩
theorem set4 (W:World)(b i:Nat)(x0 x1 x2 x3:Value){cs:Array Value}{T:TypeId}(h:W.heap[b]?=some (.cells cs T)) :
  (W.setCells b i [x0,x1,x2,x3]).heap[b]?=some (.cells ((((cs.setIfInBounds i x0).setIfInBounds (i+1) x1).setIfInBounds (i+2) x2).setIfInBounds (i+3) x3) T)∧W.grownBy (W.setCells b i [x0,x1,x2,x3]) (some b):=by
 have e:W.setCells b i [x0,x1,x2,x3]=(((W.setCell ⟨b,i,none⟩ x0).setCell ⟨b,i+1,none⟩ x1).setCell ⟨b,i+2,none⟩ x2).setCell ⟨b,i+3,none⟩ x3:=by simp [World.setCells,Nat.add_assoc]
 rw [e]
 refine ⟨by simp [World.setCell,Array.getElem?_modify,h],rfl,rfl,rfl,by simp [World.setCell],fun k _ hn=>?_⟩
 have:¬ b=k:=fun e=>hn (by simp [e])
 simp [World.setCell,Array.getElem?_modify,this]
theorem set4_at {cs:Array Value}{n i:Nat}{m:Int}(h:n*4+4≤cs.size):((((cs.setIfInBounds (n*4) (.int .i64 0)).setIfInBounds (n*4+1) (.int .i64 0)).setIfInBounds (n*4+2) (.int .i64 0)).setIfInBounds (n*4+3) (.int .i64 m))[i]?=if n*4≤i∧i<n*4+4 then some (patA m i) else cs[i]?:=by
 simp only [Array.getElem?_setIfInBounds,Array.size_setIfInBounds]
 by_cases h3:n*4+3=i
 ·subst h3
  rw [if_pos rfl,if_pos (by omega),if_pos (by omega)]
  simp [patA,show (n*4+3) % 4=3 by omega]
 by_cases h2:n*4+2=i
 ·subst h2
  rw [if_neg h3,if_pos rfl,if_pos (by omega),if_pos (by omega)]
  simp [patA]
 by_cases h1:n*4+1=i
 ·subst h1
  rw [if_neg h3,if_neg h2,if_pos rfl,if_pos (by omega),if_pos (by omega)]
  simp [patA]
 by_cases h0:n*4=i
 ·subst h0
  rw [if_neg h3,if_neg h2,if_neg h1,if_pos rfl,if_pos (by omega),if_pos (by omega)]
  simp [patA]
 rw [if_neg h3,if_neg h2,if_neg h1,if_neg h0,if_neg (by omega)]
theorem wpList_append_markA {ops:Array Oper}{rest:List Oper}{o:Oper}{a:Act}{Q:Exit→Act→World→Prop}(A:World)(g hb n:Nat)(m:Int)(x:Value)(hgd:o.guard=none)(sO xO:Operand)
  (hop:o.op=Op.call { callee:=Callee.builtin Builtin.append,args:=#[sO,xO],argTypes:=#[33,33] }) (hs:a.eval sO=x) (hx:MarkA A g hb m n x) (ad:Nat) (had:a.eval xO=.slice (some ⟨ad,0,none⟩) 1 1)
  (hc:A.heap[ad]?=some (.cells #[.int .i64 0,.int .i64 0,.int .i64 0,.int .i64 m] 93)) (hA:hb<A.heap.size) (hn:(n+1)*32≤140737488355328)
  (hK:∀ (v':Value) (w':World),MarkA w' g hb m (n+1) v'→(∀ l y,MarkA A g hb m l y→MarkA w' g hb m l y)→(∀ (k:Nat) (cs:Array Value) (T:TypeId),T≠93→A.heap[k]?=some (.cells cs T)→w'.heap[k]?=some (.cells cs T))→(∃ b,(b=g∨hb<b)∧Only [b] A w')→wpList Tryz.prog ops Q rest (a.put o.dst v') w') :
  wpList Tryz.prog ops Q (o :: rest) a A:=by
 obtain ⟨i3,hi3,hy0,hy1,hy2⟩:=info_parts infoA91
 obtain ⟨b,c,cs,rfl,hh,hsz,hb',hl,hi⟩:=hx
 have hlen:(cs.toList.take (n*4)).length=n*4:=by simp; omega
 have hat:∀ j u,(cs.toList.take (n*4))[j]?=some u→cs[j]?=some u∧j<n*4:=fun j u h=>by
  have hj:j<n*4:=by
   have:=(List.getElem?_eq_some_iff.1 h).1
   omega
  rw [List.getElem?_take_of_lt hj] at h
  exact ⟨by simpa using h,hj⟩
 refine wpList_append_arg A hgd sO xO 33 hop 93 i3 (.agg #[.int .i64 0,.int .i64 0,.int .i64 0,.int .i64 0]) 4 32 Tryz.underlying33 hi3 hy0 hy1 hy2 rfl (by decide) b 0 n c (cs.toList.take (n*4)) hs (by omega) ?_ ⟨ad,0,none⟩ 1 1 [.int .i64 0,.int .i64 0,.int .i64 0,.int .i64 m] had rfl ?_ ?_ ?_ (by unfold maxLen; omega) (by omega) ?_ ?_
 ·intro j u hj
  rw [Nat.zero_add,at_cells hh]
  exact (hat j u hj).1
 ·intro j u hj
  rw [Addr.add_lit,at_cells hc,Nat.zero_add]
  simpa using hj
 ·intro u hu
  simp at hu
  rcases hu with rfl | rfl | rfl | rfl <;> rfl
 ·intro hr j hj
  have hj4:j<4:=by simpa using hj
  refine ⟨?_,by simp [World.frozen?,hh]⟩
  rw [at_cells hh,Array.getElem?_eq_getElem (by omega)]
  rfl
 ·intro hr
  rw [Nat.zero_add]
  obtain ⟨hB,gs⟩:=set4 A b (n*4) (.int .i64 0) (.int .i64 0) (.int .i64 0) (.int .i64 m) hh
  refine hK _ _ ⟨b,c,_,rfl,hB,by simp [hsz],hb',hr,fun i hi'=>?_⟩ (fun l y hy=>?_) (fun k cs' T hT hk=>?_) ⟨b,hb',Only.of_grown gs (by simp)⟩
  ·rw [set4_at (by omega)]
   by_cases e:n*4≤i∧i<n*4+4
   ·rw [if_pos e]
   ·rw [if_neg e]; exact hi i (by omega)
  ·obtain ⟨b1,c1,cs1,rfl,hh1,hsz1,hb1,hl1,hi1⟩:=hy
   by_cases eb:b1=b
   ·subst eb
    rw [hh] at hh1
    cases hh1
    refine ⟨b1,c1,_,rfl,hB,by simp [hsz1],hb1,hl1,fun i hi'=>?_⟩
    rw [set4_at (by omega)]
    by_cases e:n*4≤i∧i<n*4+4
    ·rw [if_pos e]
    ·rw [if_neg e]; exact hi1 i hi'
   ·exact ⟨b1,c1,cs1,rfl,(gs.block b1 (gE.1 hh1).1 (by simpa using eb)).trans hh1,hsz1,hb1,hl1,hi1⟩
  ·refine (gs.block k (gE.1 hk).1 ?_).trans hk
   intro e
   have e':k=b:=by simpa using e
   subst e'
   rw [hh] at hk
   cases hk
   exact hT rfl
 ·intro hr v' w' hrow hg
  rcases hrow.2 with ⟨_,e⟩ | ⟨b2,c2,cs2,rfl,hb2,hh2,hl2,_,hs2,ht2⟩
  ·omega
  have hold:∀ k ob,A.heap[k]?=some ob→w'.heap[k]?=some ob:=fun k ob hk=>(hg.block k (gE.1 hk).1 (by simp)).trans hk
  refine hK _ _ ⟨b2,c2,cs2,rfl,hh2,hs2,Or.inr (by omega),hl2,fun i hi'=>?_⟩ (fun l y hy=>hy.move fun b1 cs1 h1 _=>(hold b1 _ h1).trans h1.symm) (fun k cs' T hT hk=>hold k _ hk) ⟨b,hb',Only.of_grown' hg (fun b e=>by cases e)⟩
  have hx:(cs2.toList.take ((n+1)*4))[i]?=some (patA m i):=by
   rw [ht2,List.getElem?_append]
   by_cases e:i<n*4
   ·rw [if_pos (by omega),List.getElem?_take_of_lt e]
    simpa using hi i e
   ·rw [if_neg (by omega),hlen]
    exact patA_at (by omega) (by omega)
  rw [List.getElem?_take_of_lt (by omega)] at hx
  simpa using hx
theorem KeptA.next {w1 wr w9 w10:World}{g hb len j cu:Nat}{m:Int}{x x' hv:Value}{vals:List Value}{pu:Option Addr}(K:KeptA w1 wr g hb m len j x hv vals)(hw1:w1.heap.size=hb)(hg:g<hb)
  (hM9:MarkA w9 g hb m (len+j+1) x') (hAll9:∀ l y,MarkA (wr.alloc (.cells #[.int .i64 0,.int .i64 0,.int .i64 0,.int .i64 m] 93)) g hb m l y→MarkA w9 g hb m l y)
  (hT9:∀ (k:Nat) (cs:Array Value) (T:TypeId),T≠93→(wr.alloc (.cells #[.int .i64 0,.int .i64 0,.int .i64 0,.int .i64 m] 93)).heap[k]?=some (.cells cs T)→w9.heap[k]?=some (.cells cs T)) (hO9:∃ b,(b=g∨hb<b)∧Only [b] (wr.alloc (.cells #[.int .i64 0,.int .i64 0,.int .i64 0,.int .i64 m] 93)) w9)
  (hrow:w10.ownsRow (hb+1) 33 1 (.slice pu (j+1+1) cu) (j+1+1) (vals ++ [x'])) (hg10:(w9.alloc (.cells #[x'] 33)).grownBy w10 hv.ownBlock) :
  KeptA w1 (w10.setCell ⟨hb,1,none⟩ (.slice pu (j+1+1) cu)) g hb m len (j+1) x' (.slice pu (j+1+1) cu) (vals ++ [x']):=by
 have o1:∀ (k:Nat) (ob:Obj),wr.heap[k]?=some ob→(wr.alloc (.cells #[.int .i64 0,.int .i64 0,.int .i64 0,.int .i64 m] 93)).heap[k]?=some ob:=fun k ob hk=>(heap_alloc_old wr _ (gE.1 hk).1).trans hk
 have t9:∀ (k:Nat) (cs:Array Value) (T:TypeId),T≠93→wr.heap[k]?=some (.cells cs T)→w9.heap[k]?=some (.cells cs T):=fun k cs T hT hk=>hT9 k cs T hT (o1 k _ hk)
 obtain ⟨gi,hgi,hgb,cg,hg9⟩:∃ gi,hv.ownBlock=some gi∧hb+1≤gi∧∃ cg,w9.heap[gi]?=some (.cells cg 33):=by
  rcases K.row.2 with ⟨_,e⟩ | ⟨gi,cap,cur,e,hb',hgg,_⟩
  ·omega
  ·exact ⟨gi,by rw [e]; rfl,hb',cur,t9 gi cur 33 (by decide) hgg⟩
 rw [hgi] at hg10
 have gs:=grown_set w10 hb 1 (.slice pu (j+1+1) cu)
 have o10:∀ (k:Nat) (ob:Obj),k≠gi→w9.heap[k]?=some ob→w10.heap[k]?=some ob:=fun k ob hne hk=>by
  have hlt:=(gE.1 hk).1
  exact (hg10.block k (by simp; omega) (by simpa using hne)).trans ((heap_alloc_old w9 _ hlt).trans hk)
 have m10:∀ l y,MarkA w9 g hb m l y→MarkA (w10.setCell ⟨hb,1,none⟩ (.slice pu (j+1+1) cu)) g hb m l y:=fun l y hy=>by
  refine hy.move (fun b cs h hb'=>?_)
  have h10:=o10 b _ (fun e=>by subst e; rw [hg9] at h; cases h) h
  have hne:¬ b=hb:=by rcases hb' with rfl | h <;> omega
  exact ((gs.block b (gE.1 h10).1 (by simpa using hne)).trans h10).trans h.symm
 have H9:=t9 hb _ 91 (by decide) K.hold
 have H10:=o10 hb _ (by omega) H9
 refine ⟨?_,hrow.kept gs (Or.inr ?_),?_,m10 _ _ hM9,?_⟩
 ·simp [World.setCell,Array.getElem?_modify,H10]
 ·intro e
  have:=(hrow.lt hb e).1
  omega
 ·intro y hy
  rcases List.mem_append.1 hy with hy | hy
  ·obtain ⟨l,hl,hy⟩:=K.lists y hy
   exact ⟨l,by omega,m10 _ _ (hAll9 _ _ (hy.move (fun b cs h _=>(o1 b _ h).trans h.symm)))⟩
  ·obtain rfl:y=x':=by simpa using hy
   exact ⟨_,nL _,m10 _ _ hM9⟩
 ·obtain ⟨b,hb',hO⟩:=hO9
  have c1:Only [g] w1 (wr.alloc (.cells #[.int .i64 0,.int .i64 0,.int .i64 0,.int .i64 m] 93)):=K.only.trans (Only.of_below ((bR _ _).alloc (nL _) _))
  have c2:Only [g] w1 w9:=c1.chain hO (fun y hy=>by
   obtain rfl:y=b:=by simpa using hy
   rcases hb' with h | h
   ·exact Or.inl (by simp [h])
   ·exact Or.inr (by omega))
  have c3:Only [g] w1 (w9.alloc (.cells #[x'] 33)):=c2.trans (Only.of_below ((bR _ _).alloc (nL _) _))
  have c4:Only [g] w1 w10:=c3.chain (Only.of_grown hg10 (S:=[gi]) (by simp)) (fun y hy=>Or.inr (by simp at hy; omega))
  exact c4.chain (Only.of_grown gs (S:=[hb]) (by simp)) (fun y hy=>Or.inr (by simp at hy; omega))
theorem heldBy_arcs {W:World}{g hb n L:Nat}{m:Int}{hv:Value}{vals:List Value}(hold:W.heap[hb]?=some (.cells #[.slice none 0 0,hv,.int .i64 m] 91))(row:W.ownsRow (hb+1) 33 1 hv (n+1) vals)(hn:n<1000)
  (lists:∀ y∈vals,∃ l,l≤L∧MarkA W g hb m l y) (hL:L≤1000000000000000):HeldBy W hb (footH hb hv vals):=by
 rcases row.2 with ⟨_,e⟩ | ⟨gi,cap,cur,rfl,hbg,hcur,hnc,hcap,hsz,htake⟩
 ·omega
 have hat:∀ i,i<n+1→∃ y,y∈vals∧cur[i]?=some y:=fun i hi=>by
  have hlen:=row.1
  have hi':i<vals.length:=by omega
  obtain ⟨y,hy⟩:∃ y,vals[i]?=some y:=⟨_,List.getElem?_eq_getElem hi'⟩
  refine ⟨y,List.mem_of_getElem? hy,?_⟩
  rw [← htake,List.getElem?_take_of_lt (by omega)] at hy
  simpa using hy
 constructor
 ·intro b hb'
  rcases mem_footH.1 hb' with rfl | e | ⟨y,hy,e⟩
  ·exact (gE.1 hold).1
  ·exact (row.lt b e).2
  ·obtain ⟨l,_,b1,c,cs,rfl,hh,_⟩:=lists y hy
   have:b1=b:=by simpa [Value.ownBlock] using e
   subst this
   exact (gE.1 hh).1
 ·intro w' hm
  refine ⟨m,_,_,_,_,_,_,⟨(hm hb (mem_footH.2 (Or.inl rfl))).trans hold,fun i hi=>by omega,fun i hi=>?_⟩,by omega,by omega⟩
  obtain ⟨y,hy,hc⟩:=hat i hi
  obtain ⟨l,hl,b,c,cs,rfl,hh,hs,_,hlc,hall⟩:=lists y hy
  have hg':=(hm gi (mem_footH.2 (Or.inr (Or.inl rfl)))).trans hcur
  have hb':=(hm b (mem_footH.2 (Or.inr (Or.inr ⟨_,hy,rfl⟩)))).trans hh
  refine ⟨gi,0,_,l,c,rfl,(gE.1 hg').1,?_,by omega,MarkA.arcs hb' hall⟩
  rw [Nat.zero_add,at_cells hg',hc]
end
section
open Go.RowKit
theorem grown_set4 (W:World)(b i:Nat)(x0 x1 x2 x3:Value):W.grownBy ((((W.setCell ⟨b,i,none⟩ x0).setCell ⟨b,i+1,none⟩ x1).setCell ⟨b,i+2,none⟩ x2).setCell ⟨b,i+3,none⟩ x3) (some b) :=
 ⟨rfl,rfl,rfl,by simp [World.setCell],fun k _ hn=>by
  have:¬ b=k:=fun e=>hn (by simp [e])
  simp [World.setCell,Array.getElem?_modify,this]⟩
theorem keepArcs_any (w:World)(wb g len:Nat)(G:Nat→Ar)(cs0:Array Value)(v vh:Value)(hs:List (Nat×List Nat))(h:w.heap[wb]?=some (.cells #[v,vh] 29))(H:HoldsAt w wb vh hs)(hn:hs.length≤10000000000000)(hg:ArcB w g len G cs0)(hlen:len*32≤140737488355000)(hgF:∀ x∈hs,g∉x.2) :
  Calls Tryz.prog 48 #[.pointer (some ⟨wb,0,none⟩),.slice (some ⟨g,0,none⟩) len len] w fun e w'=>e=.returned (.tuple #[])∧∃ vh' x,KeptOne w wb g v vh hs w' vh' x:=by
 obtain ⟨p,cn,rfl⟩:=slice_of H.row
 obtain ⟨n,hnn⟩:∃ n,hs.length=n:=⟨_,rfl⟩
 rw [hnn] at h hn
 have hgwb:¬ wb=g:=fun e=>by subst e; have hg':=hg.heap; rw [h] at hg'; simp at hg'
 have hgvh:(Value.slice p hs.length cn).ownBlock≠some g:=fun e=>by
  obtain ⟨cur,hc⟩:=H.row.elem e
  have hg':=hg.heap; rw [hg'] at hc; simp at hc
 have hvwb:(Value.slice p hs.length cn).ownBlock≠some wb:=fun e=>by
  obtain ⟨cur,hc⟩:=H.row.elem e
  rw [h] at hc; simp at hc
 have hgw:=hg.lt
 have hlwb:wb<w.heap.size:=(gE.1 h).1
 have HH:=veil (aI H (aI hgF (aI hgvh hvwb)))
 clear H hgF hgvh hvwb
 obtain ⟨i5,hi5,hz0,hz1,hz2⟩:=info_parts infoK53
 obtain ⟨i4,hi4,hx0,hx1,hx2⟩:=info_parts infoK33
 go_enter Tryz.func48,Tryz.ntmps48
 go_wp2_with (go_at_call 78; refine (mark_any _ _ _ _ _ _ h (by omega)).mono ?_; rintro e w1 ⟨rfl,rfl⟩)
 obtain ⟨m,hm⟩:∃ m,(-10000000 - (n:Int))=m:=⟨_,rfl⟩
 simp only [hm]
 have Hm:=veil hm
 clear hm
 obtain ⟨hb,hhb⟩:∃ hb,w1.heap.size=hb:=⟨_,rfl⟩
 simp only [hhb]
 obtain ⟨W1,hW1⟩:∃ W1,w1.alloc (.cells #[.slice none 0 0,.slice none 0 0,.int .i64 m] 91)=W1:=⟨_,rfl⟩
 have X1:W1.heap[hb]?=some (.cells #[.slice none 0 0,.slice none 0 0,.int .i64 m] 91):=by rw [← hW1,← hhb]; exact heap_alloc_new w1 _
 have O1:Below w1.heap.size w1 W1:=by rw [← hW1]; exact (bR _ _).alloc (nL _) _
 rw [hW1]
 clear hW1
 go_loopg [5] len (fun gk iv wr=>∃ (i:Nat) (G:Nat→Ar) (cs:Array Value),i≤len∧len - i≤gk∧iv=.int .i64 i∧ArcB wr g len G cs∧Hid (∀ k,k<i→G k=⟨0,0,0,m⟩)∧wr.heap[hb]?=some (.cells #[.slice none 0 0,.slice none 0 0,.int .i64 m] 91)∧Only [g] w1 wr)
 case atStart=>exact ⟨0,G,cs0,Nat.zero_le _,nL _,rfl,hg.move (O1.block _ hg.lt),fun k hk=>by omega,X1,Only.of_below O1⟩
 case' round=>skip
 clear X1 O1
 obtain ⟨i,G',cs',hi,hgk,rfl,hN,hG,X,O⟩:=hrel
 rename World=>W2
 have hgw:=hg.lt
 have hne:¬ g=hb:=by omega
 have y9:hb<W2.heap.size:=(gE.1 X).1
 have y2:W2.cell? ⟨hb,2,none⟩=some (.int .i64 m):=by simp [World.cell?,X]
 by_cases hlt:i<len
 ·have hiI:(i:Int)<(len:Int):=by omega
  obtain ⟨v0,v1,v2,v3⟩:=hN.at hlt
  have f0:=hN.frozen (i*4)
  have f1:=hN.frozen (i*4+1)
  have f2:=hN.frozen (i*4+2)
  have f3:=hN.frozen (i*4+3)
  have c2:=hN.lt
  have Hb:=veil (aI hN (aI X O))
  clear hN X O
  go_wp2_with fail
  go_roundg (len - (i+1))
  case measure=>omega
  case rel =>
   refine ⟨i+1,setA G' i ⟨0,0,0,m⟩,_,by omega,nL _,by go_num,Hb.out.1.set hlt ⟨0,0,0,m⟩,fun k hk=>?_,?_,?_⟩
   ·by_cases e:k=i
    ·simp [setA,e]
    ·simp only [setA,if_neg e]; exact hG.out k (by omega)
   ·simp [World.setCell,Array.getElem?_modify,hne,Hb.out.2.1]
   ·exact Hb.out.2.2.trans (Only.of_grown (grown_set4 _ _ _ _ _ _ _) (by simp))
 ·obtain rfl:i=len:=by omega
  have N2:ArcB W2 g i (fun _=>⟨0,0,0,m⟩) cs':=hN.congr hG.out
  clear hN hG
  have z0:W2.cell? ⟨hb,1,none⟩=some (.slice none 0 0):=by simp [World.cell?,X]
  have Hb:=veil (aI N2 (aI X O))
  clear N2 X O
  go_upto_region 6 with (first
   | (at_builtin; refine wpList_append_own_at _ rfl _ _ 89 rfl (hb+1) 33 i4 (.slice none 0 0) 1 24 Tryz.underlying89 hi4 hx0 hx1 hx2 rfl (by decide) (.slice none 0 0) 0 [] rfl (World.ownsRow_nil _ (hb+1) 33 1) ⟨W2.heap.size,0,none⟩ 1 1 [.slice (some ⟨g,0,none⟩) i i] rfl rfl (cell_one_new _ _ _) (by intro u hu; simp at hu; subst hu; rfl) (by unfold maxLen; omega) (by omega) (by simp; omega) ?_; intro u w5 hrow5 hg5 _ hloc5; obtain ⟨pu,cu,rfl⟩:=ownsRow_shape hrow5; have h5:=(hg5.block hb (by simp; omega) (by simp [Value.ownBlock])).trans (heap_alloc_old W2 _ y9); rw [Hb.out.2.1] at h5; have q0:=cell_of' h5 1; simp only [l2,l1,l0] at q0; have q1:w5.frozen? ⟨hb,1,none⟩=false:=by simp [World.frozen?,h5])
   | fail)
  have hbg5:∀ b,b<W2.heap.size→w5.heap[b]?=W2.heap[b]?:=fun b hb'=>(hg5.block b (by simp; omega) (by simp [Value.ownBlock])).trans (heap_alloc_old W2 _ hb')
  have gs:=grown_set w5 hb 1 (.slice pu (0+1) cu)
  have hb5:hb<w5.heap.size:=(gE.1 h5).1
  have K0:KeptA w1 (w5.setCell ⟨hb,1,none⟩ (.slice pu (0+1) cu)) g hb m i 0 (.slice (some ⟨g,0,none⟩) i i) (.slice pu (0+1) cu) [.slice (some ⟨g,0,none⟩) i i]:=by
   have hM:MarkA (w5.setCell ⟨hb,1,none⟩ (.slice pu (0+1) cu)) g hb m i (.slice (some ⟨g,0,none⟩) i i):=by
    refine markA_of_arcs (Hb.out.1.move ?_)
    exact (gs.block g (nT hgw (by omega)) (by simpa using hne)).trans (hbg5 g Hb.out.1.lt)
   refine ⟨?_,hrow5.kept gs (Or.inr ?_),?_,hM,?_⟩
   ·simp [World.setCell,Array.getElem?_modify,h5]
   ·intro e
    have:=(hrow5.lt hb e).1
    omega
   ·intro y hy
    obtain rfl:y=.slice (some ⟨g,0,none⟩) i i:=by simpa using hy
    exact ⟨i,nL _,hM⟩
   ·refine Hb.out.2.2.chain (S':=[hb]) ⟨(gs.os).trans hg5.os,(gs.tape).trans hg5.tape,(gs.output).trans hg5.output,?_,fun k hk hn=>?_⟩ (fun x hx=>Or.inr (by simp at hx; omega))
    ·have a1:=gs.size; have a2:=hg5.size; simp at a2; omega
    ·exact (gs.block k (by have a2:=hg5.size; simp at a2; omega) (fun e=>hn (by simpa using e))).trans (hbg5 k hk)
  have HK:=veil K0
  clear K0 Hb hrow5 hg5 hloc5 h5 q0 q1 z0 y2 hbg5 gs
  go_wp2_with fail
  go_loopg [1,6] 8 (fun gk x jv wr=>∃ (j:Nat) (hv:Value) (vals:List Value),j≤8∧8 - j≤gk∧jv=.int .i64 j∧KeptA w1 wr g hb m i j x hv vals)
  case atStart=>exact ⟨0,_,_,Nat.zero_le _,nL _,rfl,HK.out⟩
  case' round=>skip
  obtain ⟨j,hv,vals,hj,hgk',rfl,K⟩:=hrel
  rename World=>W3
  clear HK
  by_cases hlt2:j<8
  ·have hjI:(j:Int)<8:=by omega
   have y9':hb<W3.heap.size:=(gE.1 K.hold).1
   have y2':W3.cell? ⟨hb,2,none⟩=some (.int .i64 m):=by simp [World.cell?,K.hold]
   have hxA:MarkA (W3.alloc (.cells #[.int .i64 0,.int .i64 0,.int .i64 0,.int .i64 m] 93)) g hb m (i+j) u1:=K.cur.move (fun b cs h _=>heap_alloc_old W3 _ (gE.1 h).1)
   have hghb:g<hb:=by omega
   have HKK:=veil K
   clear K
   go_upto_region 10 with (first
    | (at_builtin; refine wpList_append_markA _ g hb (i+j) m u1 rfl _ _ rfl rfl hxA W3.heap.size rfl (heap_alloc_new W3 _) (by simp; omega) (by omega) ?_; intro x' w9 hM9 hAll9 hT9 hO9)
    | fail)
   have H9:w9.heap[hb]?=some (.cells #[.slice none 0 0,hv,.int .i64 m] 91):=hT9 hb _ 91 (by decide) ((heap_alloc_old W3 _ y9').trans HKK.out.hold)
   have y9'':hb<w9.heap.size:=(gE.1 H9).1
   have z0:w9.cell? ⟨hb,1,none⟩=some hv:=by simp [World.cell?,H9]
   have hrA:(w9.alloc (.cells #[x'] 33)).ownsRow (hb+1) 33 1 hv (j+1) vals:=by
    refine ownsRow_tag (ownsRow_tag (w':=w9) HKK.out.row (fun k cs hk=>hT9 k cs 33 (by decide) ((heap_alloc_old W3 _ (gE.1 hk).1).trans hk))) (fun k cs hk=>?_)
    exact (heap_alloc_old w9 _ (gE.1 hk).1).trans hk
   obtain ⟨px,lx,cx,rfl⟩:∃ px lx cx,x'=.slice px lx cx:=by obtain ⟨b,c,cs,rfl,_⟩:=hM9; exact ⟨_,_,_,rfl⟩
   have hone:(Value.slice px lx cx).oneCell'=true:=rfl
   have hvn:∀ b,hv.ownBlock=some b→hb+1≤b:=fun b e=>(hrA.lt b e).1
   have H3:=veil (aI hM9 (aI hAll9 (aI hT9 hO9)))
   clear hM9 hAll9 hT9 hO9 hxA
   go_upto_region 8 with (first
    | (at_builtin; refine wpList_append_own_at _ rfl _ _ 89 rfl (hb+1) 33 i4 (.slice none 0 0) 1 24 Tryz.underlying89 hi4 hx0 hx1 hx2 rfl (by decide) hv (j+1) vals rfl hrA ⟨w9.heap.size,0,none⟩ 1 1 [.slice px lx cx] rfl rfl (cell_one_new _ _ _) (fun u hu=>(List.mem_singleton.1 hu) ▸ hone) (by unfold maxLen; omega) (by omega) (Nat.le_trans (Nat.succ_le_of_lt y9'') (by simp)) ?_; intro u w10 hrow10 hg10 _ hloc10; obtain ⟨pu,cu,rfl⟩:=ownsRow_shape hrow10; have h10:=((hg10.block hb (nT y9'' (by simp)) (fun e=>absurd (hvn hb e.symm) (by omega))).trans (heap_alloc_old w9 _ y9'')).trans H9; have q0:=cell_of' h10 1; simp only [l2,l1,l0] at q0; have q1:=frozen_of' h10 1; have q2:=(gE.1 h10).1)
    | fail)
   go_wp2_with fail
   go_roundg (8 - (j+1))
   case measure=>omega
   case rel=>exact ⟨j+1,_,_,by omega,nL _,by go_num,HKK.out.next hhb hghb H3.out.1 H3.out.2.1 H3.out.2.2.1 H3.out.2.2.2 hrow10 hg10⟩
  ·obtain rfl:j=8:=by omega
   have hX:W3.heap[wb]?=some (.cells #[v,.slice p n cn] 29):=(K.only.block wb hlwb (by simpa using hgwb)).trans h
   have hR:RowAt W3 53 1 encH (.slice p n cn) hs:=by
    have:=HH.out.1.row.mv (w':=W3) (fun b e=>K.only.block b (HH.out.1.row.lt e) (fun hm=>HH.out.2.2.1 (by rw [e]; simpa using hm)))
    rwa [hnn] at this
   have hRn:hs.length=n:=hnn
   have hA:(W3.alloc (.cells #[.pointer (some ⟨hb,0,none⟩)] 53)).ownsRow 0 53 1 (.slice p n cn) n (hs.flatMap encH):=by
    have:=ownsRow_tag (w':=W3.alloc (.cells #[.pointer (some ⟨hb,0,none⟩)] 53)) hR (fun k cs hk=>(heap_alloc_old W3 _ (gE.1 hk).1).trans hk)
    rwa [hnn] at this
   have z9:wb<W3.heap.size:=(gE.1 hX).1
   have z1:=cell_of' hX 1
   simp only [l2,l1,l0] at z1
   have hvw:¬ (Value.slice p n cn).ownBlock=some wb:=by rw [← hnn]; exact HH.out.2.2.2
   have HKK:=veil (aI K hR)
   clear K hR
   go_wp2_with (first
    | (at_builtin; refine wpList_append_own_at _ rfl _ _ 27 rfl 0 53 i5 (.pointer none) 1 8 Tryz.underlying27 hi5 hz0 hz1 hz2 rfl (by decide) (.slice p n cn) n (hs.flatMap encH) rfl hA ⟨W3.heap.size,0,none⟩ 1 1 [.pointer (some ⟨hb,0,none⟩)] rfl rfl (cell_one_new _ _ _) (by intro u hu; simp at hu; subst hu; rfl) (by unfold maxLen; omega) (by omega) (Nat.zero_le _) ?_; intro u w11 hrow11 hg11 _ hloc11; obtain ⟨pu,cu,rfl⟩:=ownsRow_shape hrow11; have h11:=((hg11.block wb (nT z9 (by simp)) (fun e=>hvw e.symm)).trans (heap_alloc_old W3 _ z9)).trans hX; have q0:=cell_of' h11 1; simp only [l2,l1,l0] at q0; have q1:=frozen_of' h11 1; have q2:=(gE.1 h11).1)
    | fail)
   have hF:HeldBy W3 hb (footH hb hv vals):=heldBy_arcs (L:=i+8) HKK.out.1.hold HKK.out.1.row (by decide) HKK.out.1.lists (by omega)
   have hnew:∀ b∈footH hb hv vals,b=g∨w1.heap.size≤b:=fun b hb'=>by
    rcases mem_footH.1 hb' with e | e | ⟨y,hy,e⟩
    ·right; omega
    ·right; have:=(HKK.out.1.row.lt b e).1; omega
    ·obtain ⟨l,_,b1,c,cs,rfl,_,_,hbb,_⟩:=HKK.out.1.lists y hy
     have:b1=b:=by simpa [Value.ownBlock] using e
     subst this
     rcases hbb with h1 | h1
     ·exact Or.inl h1
     ·right; omega
   have hfin:=kept_one (u:=.slice pu (n+1) cu) (F:=footH hb hv vals) (by rw [hnn]; exact h) HH.out.1 HH.out.2.1 hgwb HH.out.2.2.1 HH.out.2.2.2 HKK.out.1.only hF hnew (.cells #[.pointer (some ⟨hb,0,none⟩)] 53) (by rw [hnn]; exact hg11) (by rw [hnn]; exact hrow11) (by rw [hnn]; exact hloc11)
   go_end0
   exact ⟨rfl,_,_,hfin⟩
end
section
open Go.RowKit
theorem KeptOne.tag {w w':World}{wb g b:Nat}{v vh vh':Value}{hs:List (Nat×List Nat)}{x:Nat×List Nat}{cs:Array Value}{T:TypeId}(K:KeptOne w wb g v vh hs w' vh' x)(h:w.heap[wb]?=some (.cells #[v,vh] 29))(H:HoldsAt w wb vh hs)
  (hb:w.heap[b]?=some (.cells cs T)) (h1:T≠53) (h2:T≠29) (hg:b≠g):w'.heap[b]?=some (.cells cs T):=by
 refine (K.only.block b (gE.1 hb).1 (fun hm=>?_)).trans hb
 rcases List.mem_cons.1 hm with e | hm
 ·exact hg e
 rcases List.mem_cons.1 hm with e | hm
 ·subst e
  rw [h] at hb
  cases hb
  exact h2 rfl
 ·obtain ⟨cur,hc⟩:=H.row.elem (mem_optList.1 hm)
  rw [hb] at hc
  cases hc
  exact h1 rfl
structure KeptMore (w:World)(wb n:Nat)(v vh:Value)(hs:List (Nat×List Nat))(k:Nat)(w':World)(vh':Value)(hs':List (Nat×List Nat)):Prop where
 cells:w'.heap[wb]?=some (.cells #[v,vh'] 29)
 holds:HoldsAt w' wb vh' hs'
 len:hs'.length=hs.length+k
 old:∀ x∈hs',x∈hs∨∀ b∈x.2,n≤b
 only:∀ b,b<n→b≠wb→vh.ownBlock≠some b→w'.heap[b]?=w.heap[b]?
 loc:∀ b,vh'.ownBlock=some b→vh.ownBlock=some b∨n≤b
 size:w.heap.size≤w'.heap.size
 os:w'.os=w.os
 tape:w'.tape=w.tape
 output:w'.output=w.output
theorem KeptMore.zero {w:World}{wb n:Nat}{v vh:Value}{hs:List (Nat×List Nat)}(h:w.heap[wb]?=some (.cells #[v,vh] 29))(H:HoldsAt w wb vh hs):KeptMore w wb n v vh hs 0 w vh hs :=
 ⟨h,H,rfl,fun _ q=>Or.inl q,fun _ _ _ _=>rfl,fun _ q=>Or.inl q,nL _,rfl,rfl,rfl⟩
theorem KeptMore.one {w w1 w2:World}{wb n g k:Nat}{v vh vh1 vh2:Value}{hs hs1:List (Nat×List Nat)}{x:Nat×List Nat}(M:KeptMore w wb n v vh hs k w1 vh1 hs1)(hg:n≤g)(hn:n≤w1.heap.size)(K:KeptOne w1 wb g v vh1 hs1 w2 vh2 x):KeptMore w wb n v vh hs (k+1) w2 vh2 (hs1 ++ [x]):=by
 refine ⟨K.cells,K.holds,by simp [M.len]; omega,fun y hy=>?_,fun b hb h1 h2=>?_,fun b e=>?_,Nat.le_trans M.size K.only.size,K.only.os.trans M.os,K.only.tape.trans M.tape,K.only.output.trans M.output⟩
 ·rcases List.mem_append.1 hy with hy | hy
  ·exact M.old y hy
  ·obtain rfl:=List.mem_singleton.1 hy
   right
   intro b hb
   rcases K.new b hb with rfl | h1
   ·exact hg
   ·omega
 ·refine (K.only.block b (by omega) (fun hm=>?_)).trans (M.only b hb h1 h2)
  rcases List.mem_cons.1 hm with e | hm
  ·omega
  rcases List.mem_cons.1 hm with e | hm
  ·exact h1 e
  ·rcases M.loc b (mem_optList.1 hm) with q | q
   ·exact h2 q
   ·omega
 ·rcases K.loc b e with h1 | h1
  ·exact M.loc b h1
  ·right; omega
theorem spoil_any (w0 w:World)(wb lb g0 g1 g2 g3 ls lf lp la:Nat)(S F P:Nat→Int)(A:Nat→Ar)(cs':Array Value)(v vh:Value)(hs:List (Nat×List Nat))(L:Loan w0 w lb g0 g1 g2 g3 ls lf lp la S F P A cs')(h:w.heap[wb]?=some (.cells #[v,vh] 29))(H:HoldsAt w wb vh hs)(hn:hs.length≤9000000000000)(hy:∀ x∈hs,∀ b∈x.2,b<w0.heap.size)
  (hl0:(ls+8)*8≤140737488355000) (hl1:(lf+8)*8≤140737488355000) (hl2:(lp+8)*8≤140737488355000) (hl3:(la+8)*32≤140737488355000) :
  Calls Tryz.prog 26 #[.pointer (some ⟨wb,0,none⟩),.pointer (some ⟨lb,0,none⟩)] w fun e w'=>e=.returned (.tuple #[])∧∃ vh' hs',KeptMore w wb w0.heap.size v vh hs 4 w' vh' hs':=by
 have ord:=L.ord
 have hlw:w0.heap.size≤w.heap.size:=L.below.size
 have c0:=L.c0
 have hll:=L.lt
 have M0:=KeptMore.zero (n:=w0.heap.size) h H
 have A1:=veil (keepInts_any w wb g0 (ls+8) _ v vh hs h H (by omega) L.supply hl0 (fun x hx hm=>by have:=hy x hx _ hm; omega))
 have HL:=veil (aI L (aI h (aI H M0)))
 clear L h H M0
 go_enter Tryz.func26,Tryz.ntmps26
 go_wp2_with fail
 refine A1.out.mono ?_
 rintro e w1 ⟨rfl,vh1,x1,K1⟩
 have T1:∀ {b:Nat} {cs:Array Value} {T:TypeId},w.heap[b]?=some (.cells cs T)→T≠53→T≠29→b≠g0→w1.heap[b]?=some (.cells cs T):=fun q1 q2 q3 q4=>K1.tag HL.out.2.1 HL.out.2.2.1 q1 q2 q3 q4
 have X1:=T1 HL.out.1.cells (by decide) (by decide) (by omega)
 have c1:=cell_of' X1 1
 simp only [l2,List.getElem?_cons_succ,l0] at c1
 have z1:=(gE.1 X1).1
 have F1:Nums w1 g1 (lf+8) (lentF lf F):=T1 HL.out.1.flow (by decide) (by decide) (by omega)
 have P1:Nums w1 g2 (lp+8) (lentF lp P):=T1 HL.out.1.prices (by decide) (by decide) (by omega)
 have B1:ArcB w1 g3 (la+8) (lentG la A) cs':=⟨T1 HL.out.1.arcs.heap (by decide) (by decide) (by omega),HL.out.1.arcs.size,HL.out.1.arcs.cells⟩
 have M1:=HL.out.2.2.2.one (by omega) hlw K1
 have s1:=K1.only.size
 have y1:∀ x∈hs ++ [x1],g1∉x.2∧g2∉x.2∧g3∉x.2:=fun x hx=>by
  rcases List.mem_append.1 hx with hx | hx
  ·exact ⟨fun hm=>by have:=hy x hx _ hm; omega,fun hm=>by have:=hy x hx _ hm; omega,fun hm=>by have:=hy x hx _ hm; omega⟩
  ·obtain rfl:=List.mem_singleton.1 hx
   have l1:=HL.out.1.arcs.lt
   exact ⟨fun hm=>by have:=K1.new _ hm; omega,fun hm=>by have:=K1.new _ hm; omega,fun hm=>by have:=K1.new _ hm; omega⟩
 have A2:=veil (keepInts_any w1 wb g1 (lf+8) _ v vh1 (hs ++ [x1]) K1.cells K1.holds (by simp; omega) F1 hl1 (fun x hx=>(y1 x hx).1))
 have H1:=veil (aI K1 (aI P1 (aI B1 (aI M1 (aI y1 X1)))))
 clear A1 T1 F1 P1 B1 M1 y1 X1 K1
 go_wp2_with fail
 refine A2.out.mono ?_
 rintro e w2 ⟨rfl,vh2,x2,K2⟩
 have T2:∀ {b:Nat} {cs:Array Value} {T:TypeId},w1.heap[b]?=some (.cells cs T)→T≠53→T≠29→b≠g1→w2.heap[b]?=some (.cells cs T):=fun q1 q2 q3 q4=>K2.tag H1.out.1.cells H1.out.1.holds q1 q2 q3 q4
 have X2:=T2 H1.out.2.2.2.2.2 (by decide) (by decide) (by omega)
 have c2:=cell_of' X2 2
 simp only [l2,List.getElem?_cons_succ,l0] at c2
 have z2:=(gE.1 X2).1
 have P2:Nums w2 g2 (lp+8) (lentF lp P):=T2 H1.out.2.1 (by decide) (by decide) (by omega)
 have B2:ArcB w2 g3 (la+8) (lentG la A) cs':=⟨T2 H1.out.2.2.1.heap (by decide) (by decide) (by omega),HL.out.1.arcs.size,HL.out.1.arcs.cells⟩
 have M2:=H1.out.2.2.2.1.one (by omega) (by omega) K2
 have s2:=K2.only.size
 have y2:∀ x∈hs ++ [x1] ++ [x2],g2∉x.2∧g3∉x.2:=fun x hx=>by
  rcases List.mem_append.1 hx with hx | hx
  ·exact (H1.out.2.2.2.2.1 x hx).2
  ·obtain rfl:=List.mem_singleton.1 hx
   have l1:=HL.out.1.arcs.lt
   exact ⟨fun hm=>by have:=K2.new _ hm; omega,fun hm=>by have:=K2.new _ hm; omega⟩
 have A3:=veil (keepInts_any w2 wb g2 (lp+8) _ v vh2 (hs ++ [x1] ++ [x2]) K2.cells K2.holds (by simp; omega) P2 hl2 (fun x hx=>(y2 x hx).1))
 have H2:=veil (aI K2 (aI B2 (aI M2 (aI y2 X2))))
 clear A2 T2 P2 B2 M2 y2 X2 K2 H1
 go_wp2_with fail
 refine A3.out.mono ?_
 rintro e w3 ⟨rfl,vh3,x3,K3⟩
 have T3:∀ {b:Nat} {cs:Array Value} {T:TypeId},w2.heap[b]?=some (.cells cs T)→T≠53→T≠29→b≠g2→w3.heap[b]?=some (.cells cs T):=fun q1 q2 q3 q4=>K3.tag H2.out.1.cells H2.out.1.holds q1 q2 q3 q4
 have X3:=T3 H2.out.2.2.2.2 (by decide) (by decide) (by omega)
 have c3:=cell_of' X3 3
 simp only [l2,List.getElem?_cons_succ,l0] at c3
 have z3:=(gE.1 X3).1
 have B3:ArcB w3 g3 (la+8) (lentG la A) cs':=⟨T3 H2.out.2.1.heap (by decide) (by decide) (by omega),HL.out.1.arcs.size,HL.out.1.arcs.cells⟩
 have M3:=H2.out.2.2.1.one (by omega) (by omega) K3
 have s3:=K3.only.size
 have y3:∀ x∈hs ++ [x1] ++ [x2] ++ [x3],g3∉x.2:=fun x hx=>by
  rcases List.mem_append.1 hx with hx | hx
  ·exact (H2.out.2.2.2.1 x hx).2
  ·obtain rfl:=List.mem_singleton.1 hx
   have l1:=HL.out.1.arcs.lt
   exact fun hm=>by have:=K3.new _ hm; omega
 have A4:=veil (keepArcs_any w3 wb g3 (la+8) _ _ v vh3 (hs ++ [x1] ++ [x2] ++ [x3]) K3.cells K3.holds (by simp; omega) B3 hl3 y3)
 have H3:=veil M3
 clear A3 T3 B3 M3 y3 X3 K3 H2
 go_wp2_with fail
 refine A4.out.mono ?_
 rintro e w4 ⟨rfl,vh4,x4,K4⟩
 have M4:=H3.out.one (by omega) (by omega) K4
 clear A4
 go_wp2_with fail
 go_end0
 exact ⟨rfl,_,_,M4⟩
end
end Go.Proofs.YtjdindfjfpdikaaGreat
