import Derived.RangeFuncNested
import Derived.RangeFuncBound
import Derived.RangeFuncCalls
import Derived.RangeFuncLeaves
import Derived.Shelf.Abstract
import Derived.Shelf.RegionOpen
import Derived.WalkKit
import Derived.OwnWalkIn
import Derived.TacticsInMore
import Derived.LoopNIn
import Derived.LoopIn
import Derived.Sort.CutIn
import Derived.Sort.QuietIn
import Derived.Test.YtjdindfjfpdikabB07
import Derived.Test.YtjdindfjfpdikabPre
set_option maxRecDepth 100000
set_option maxHeartbeats 8000000
namespace Go.Proofs.Ytjdindfjfpdikab
section
open Go.RowKit Go.Shelf
attribute [local go_sem] Oper.semAt_some
abbrev Op3 (ls:Nat):={ x:Int×Int×Int×Int×Int // (0≤x.1∧x.1<(ls:Int))∧(0≤x.2.1∧x.2.1<(ls:Int))∧(-10000≤x.2.2.1∧x.2.2.1≤10000) }
def encO {ls:Nat}(x:Op3 ls):Array Value:=#[.agg #[.int .i64 x.1.1,.int .i64 x.1.2.1,.int .i64 x.1.2.2.1,.int .i64 x.1.2.2.2.1,.int .i64 x.1.2.2.2.2]]
def forth {ls:Nat}(a:Ar)(i:Nat)(h:ArcOk ls a):Op3 ls:=⟨(a.f,a.t,a.k,(i:Int),1),h.1,h.2.1,h.2.2.2⟩
def back {ls:Nat}(a:Ar)(i:Nat)(h:ArcOk ls a):Op3 ls:=⟨(a.t,a.f,-a.k,(i:Int),-1),h.2.1,h.1,by have:=h.2.2.2; constructor <;> simp only <;> omega⟩
def IsOpen (la:Nat)(A:Nat→Ar)(F:Nat→Int)(x:Int×Int×Int×Int×Int):Prop:=∃ i,i<la∧((F i<(A i).c∧x=((A i).f,(A i).t,(A i).k,(i:Int),1))∨(0<F i∧x=((A i).t,(A i).f,-(A i).k,(i:Int),-1)))
def AllOpen (la:Nat)(A:Nat→Ar)(F:Nat→Int){ls:Nat}(ys:List (Op3 ls)):Prop:=∀ i,i<la→(F i<(A i).c→∃ y∈ys,y.1=((A i).f,(A i).t,(A i).k,(i:Int),1))∧(0<F i→∃ y∈ys,y.1=((A i).t,(A i).f,-(A i).k,(i:Int),-1))
def AreOpen (la:Nat)(A:Nat→Ar)(F:Nat→Int){ls:Nat}(ys:List (Op3 ls)):Prop:=∀ y∈ys,IsOpen la A F y.1
theorem AreOpen.more {la:Nat}{A:Nat→Ar}{F:Nat→Int}{ls:Nat}{ys:List (Op3 ls)}(h:AreOpen la A F ys){y:Op3 ls}(hy:IsOpen la A F y.1):AreOpen la A F (ys ++ [y]):=fun z hz=>(List.mem_append.1 hz).elim (h z) (fun e=>by rw [List.mem_singleton.1 e]; exact hy)
theorem AllOpen.more {la:Nat}{A:Nat→Ar}{F:Nat→Int}{ls:Nat}{ys:List (Op3 ls)}(h:AllOpen la A F ys)(y:Op3 ls):AllOpen la A F (ys ++ [y]):=fun i hi =>
 ⟨fun h1=>by obtain ⟨z,hz,e⟩:=(h i hi).1 h1; exact ⟨z,Ju _ hz,e⟩,fun h1=>by obtain ⟨z,hz,e⟩:=(h i hi).2 h1; exact ⟨z,Ju _ hz,e⟩⟩
def Said2 (e:Ending)(W:World)(p q:World→Prop):Prop:=∃ b,e=.returned (.bool b)∧Hid ((b=true→p W)∧(b=false→q W))
theorem Said2.of {e:Ending}{W:World}{p q:World→Prop}(h:(e=.returned (.bool true)∧p W)∨(e=.returned (.bool false)∧q W)):Said2 e W p q:=by
 rcases h with ⟨h1,h2⟩ | ⟨h1,h2⟩
 ·exact ⟨true,h1,fun _=>h2,fun e=>by cases e⟩
 ·exact ⟨false,h1,(fun e=>by cases e),fun _=>h2⟩
structure Kc (W W':World):Prop where
 size:W.heap.size≤W'.heap.size
 same:∀ (b:Nat) (cs:Array Value) (t:TypeId) (f:Nat×Nat),W.heap[b]?=some (.cells cs t f)→W'.heap[b]?=some (.cells cs t f)
theorem Kc.trans {A B C:World}(h:Kc A B)(k:Kc B C):Kc A C:=⟨Nat.le_trans h.size k.size,fun b cs t f e=>k.same b cs t f (h.same b cs t f e)⟩
theorem Kc.of_below {A B:World}(h:Below A.heap.size A B):Kc A B:=⟨h.size,fun b _ _ _ e=>(h.block b (Ja.1 e).1).trans e⟩
theorem Kc.put {w:World}(W:World)(l:Nat)(o o':Obj)(_:w.heap.size≤l)(h:W.heap[l]?=some o)(hc:o.isCells=false)(_:o.isWalk=false):Kc W (W.putObj l o'):=by
 have hg:=grownBy_putObj' W l o'
 refine ⟨hg.size,fun b cs t f e=>(hg.block b (Ja.1 e).1 (fun q=>?_)).trans e⟩
 cases q
 rw [e] at h
 cases h
 cases hc
theorem Kc.cell {A B:World}(h:Kc A B){p:Addr}{v:Value}(e:A.cell? p=some v):B.cell? p=some v:=by
 unfold World.cell? at e ⊢
 cases hb:A.heap[p.block]? with
 | none=>rw [hb] at e; simp at e
 | some o =>
  rw [hb] at e
  cases o with
  | cells cs t f=>rw [h.same _ _ _ _ hb]; exact e
  | _=>simp at e
theorem Ints.kc {w w':World}{p:Option Addr}{len:Nat}{F:Nat→Int}(h:Ints w p len F)(hb:Kc w w'):Ints w' p len F:=by
 rcases h with h | ⟨sb,off,hp,hs,hc⟩
 ·exact Jr h
 ·exact Js ⟨sb,off,hp,Jm hs hb.size,fun i hi=>hb.cell (hc i hi)⟩
theorem Arcs.kc {w w':World}{p:Option Addr}{len:Nat}{A:Nat→Ar}(h:Arcs w p len A)(hb:Kc w w'):Arcs w' p len A:=by
 rcases h with h | ⟨sb,off,hp,hs,hc⟩
 ·exact Jr h
 ·refine Js ⟨sb,off,hp,Jm hs hb.size,fun i hi=>?_⟩
  obtain ⟨h0,h1,h2,h3⟩:=hc i hi
  exact ⟨hb.cell h0,hb.cell h1,hb.cell h2,hb.cell h3⟩
theorem grown_of_below' {w w':World}{row:Option Nat}(h:Below w.heap.size w w'):w.grownBy w' row:=⟨h.os,h.tape,h.output,h.size,fun k hk _=>h.block k hk⟩
theorem opens_in (n:Nat)(w:World)(N:Int)(p q r:Option Addr)(ls cs la ca lf cf:Nat) :
  CallsIn Fence.wide n Try.prog 57 #[.agg #[.int .i64 N,.slice p ls cs,.slice q la ca],.slice r lf cf] w fun e w'=>e=.returned (.func (.func 70) #[] #[.pointer (some ⟨w.heap.size,0,none⟩),.pointer (some ⟨w.heap.size+1,0,none⟩)])∧w'=(w.alloc (.cells #[.int .i64 N,.slice p ls cs,.slice q la ca] 39)).alloc (.cells #[.slice r lf cf] 22):=by
 refine callsIn_of_wp Try.func57 rfl trivial ?_ rfl
 simp only [Try.ntmps57,List.size_toArray,List.length_cons,List.length_nil,Nat.reduceAdd,Nat.reduceSub,Array.replicate_succ,Array.replicate_zero,List.push_toArray,List.append_toArray,List.nil_append,List.cons_append]
 gi_wp2
 go_ret
 exact ⟨rfl,rfl⟩
theorem opens1_in (n:Nat)(hn:1≤n)(l Bn Bf:Nat)(W0:World)(p q r:Option Addr)(ls cs la ca cf:Nat)(S:Nat→Int)(A:Nat→Ar)(F:Nat→Int)
  (hok:NetOk ls ls S la A) (hA:Arcs W0 q la A) (hF:Ints W0 r la F) (hBn:W0.heap[Bn]?=some (.cells #[.int .i64 ls,.slice p ls cs,.slice q la ca] 39)) (hBf:W0.heap[Bf]?=some (.cells #[.slice r la cf] 22))
  (J Jx:List (Op3 ls)→World→Prop) (W:World) (hW:Kc W0 W) (hJ:AbidesFrom W.heap.size J)
  (hY:∀ pre x W1,J pre W1→pre.length<2*la→YieldAt Fence.wide (n - 1) Try.prog l (encO x) W1 fun e W' =>
   (e=.returned (.bool true)∧J (pre ++ [x]) W'∧Kc W1 W')∨(e=.returned (.bool false)∧Jx (pre ++ [x]) W'))
  (h0:J [] W) :
  CallsIn Fence.wide n Try.prog 70 #[.func (.yield l) #[] #[],.pointer (some ⟨Bn,0,none⟩),.pointer (some ⟨Bf,0,none⟩)] W fun e W'=>(∃ v,e=.returned v) ∧
   ((∃ ys,AllOpen la A F ys∧J ys W')∨(∃ pre,AreOpen la A F pre∧Jx pre W')):=by
 have hbn2:=at_cells (hW.same Bn _ _ _ hBn) 2
 simp only [Jg,Jf,Je] at hbn2
 have hBnW:Bn<W.heap.size:=(Ja.1 (hW.same Bn _ _ _ hBn)).1
 have h600:la≤600:=hok.2.2.1
 have Hok:=veil hok
 have HW:=veil hW
 have hm:Try.prog.follows .mixedOrders=true:=by kernel_rfl
 clear hok hW
 refine callsIn_of_wp Try.func70 rfl trivial ?_ rfl
 simp only [Try.ntmps70,List.size_toArray,List.length_cons,List.length_nil,Nat.reduceAdd,Nat.reduceSub,Array.replicate_succ,Array.replicate_zero,List.push_toArray,List.append_toArray,List.nil_append,List.cons_append]
 gi_wp2
 gi_loopw [9] (fun iv wr=>∃ (i:Nat) (pre:List (Op3 ls)),i≤la∧iv=.int .i64 i∧Kc W0 wr∧J pre wr∧Hid (AllOpen i A F pre∧AreOpen la A F pre∧pre.length≤2*i)) (fun iv _=>la - (intOf iv).toNat)
 case atStart=>exact ⟨0,[],Jq _,rfl,HW.out,h0,⟨fun i hi=>by omega,(fun y hy=>by cases hy),Jq _⟩⟩
 case' round=>skip
 obtain ⟨i,pre,hi,rfl,hb,hJs,hall⟩:=hrel
 by_cases hlt:i<la
 ·obtain ⟨sb,off,rfl,hsb,g0,g1,g2,g3⟩:=(hA.kc hb).at hlt
  obtain ⟨sf,of',rfl,hsf,gf⟩:=(hF.kc hb).at hlt
  have hiI:(i:Int)<(la:Int):=by omega
  have hac:=veil (Hok.out.2.2.2.2 i hlt)
  obtain ⟨u0,hu0⟩:∃ u0,wr.alloc (.cells #[.int .i64 (A i).f,.int .i64 (A i).t,.int .i64 (A i).c,.int .i64 (A i).k] 50)=u0:=⟨_,rfl⟩
  have hbu:Below wr.heap.size wr u0:=by rw [← hu0]; exact (Jd _ _).alloc (Jb _) _
  have hub:u0.heap[wr.heap.size]?=some (.cells #[.int .i64 (A i).f,.int .i64 (A i).t,.int .i64 (A i).c,.int .i64 (A i).k] 50):=by rw [← hu0]; exact heap_alloc_new wr _
  have hku:Kc W0 u0:=hb.trans (Kc.of_below hbu)
  have hfu:=hku.same Bf _ _ _ hBf
  have k0:=at_cells hub 0
  have k1:=at_cells hub 1
  have k2:=at_cells hub 2
  have k3:=at_cells hub 3
  have hbfu:=at_cells hfu 0
  simp only [Jg,Jf,Je] at k0 k1 k2 k3 hbfu
  have gfu:=(hbu.cell (p:=⟨sf,of'+i,none⟩) hsf).trans gf
  have y0:wr.heap.size<u0.heap.size:=(Ja.1 hub).1
  have y1:Bf<u0.heap.size:=(Ja.1 hfu).1
  have y2:sf<u0.heap.size:=by omega
  have Hu:=veil (Jc hu0 (Jc hbu (Jc hub (Jc hfu hku))))
  clear hu0 hbu hub hfu hku
  have hJu:J pre u0.drew:=hJ _ _ _ none hJs (grown_of_below' Hu.out.2.1.drew) (fun r e=>by cases e)
  gi_wp2
  rw [Hu.out.1]
  gi_cut [33] from 14 (fun v wx=>∃ (b:Bool) (pre':List (Op3 ls)),v=.bool (!b)∧Hid ((b=true→J pre' wx∧Kc u0 wx∧AllOpen i A F pre'∧(F i<(A i).c→∃ y∈pre',y.1=((A i).f,(A i).t,(A i).k,(i:Int),1)))∧(b=false→Jx pre' wx)∧AreOpen la A F pre'∧pre'.length≤2*i+1))
  case first =>
   by_cases hc:F i<(A i).c
   ·obtain ⟨fn,tmps,assign,body,hy,hR0⟩:=hY pre (forth (A i) i hac.out) u0.drew hJu (by have:=hall.out.2.2; omega)
    simp only [encO,forth] at hy
    have hR:=hR0.mono (fun e W' h=>Said2.of (p:=fun W'=>J (pre ++ [_]) W'∧Kc _ W') (q:=Jx _) h)
    clear hR0
    have mk:∀ (b:Bool) (W3:World),Hid ((b=true→(J (pre ++ [forth (A i) i hac.out]) W3∧Kc u0.drew W3))∧(b=false→Jx (pre ++ [forth (A i) i hac.out]) W3))→∃ (b':Bool) (pre':List (Op3 ls)),Value.bool (!b)=.bool (!b')∧Hid ((b'=true→J pre' W3∧Kc u0 W3∧AllOpen i A F pre'∧(F i<(A i).c→∃ y∈pre',y.1=((A i).f,(A i).t,(A i).k,(i:Int),1)))∧(b'=false→Jx pre' W3)∧AreOpen la A F pre'∧pre'.length≤2*i+1):=fun b W3 hp =>
     ⟨b,_,rfl,fun e=>⟨(hp.out.1 e).1,(Kc.of_below (Jd _ _).drew).trans (hp.out.1 e).2,hall.out.1.more _,fun _=>⟨_,Jt _ (List.mem_singleton.2 rfl),rfl⟩⟩,fun e=>hp.out.2 e,hall.out.2.1.more ⟨i,hlt,Jr ⟨hc,rfl⟩⟩,by rw [Jo]; have:=hall.out.2.2; simp only [List.length_singleton]; omega⟩
    gi_region_with_o ((with_reducible refine hR.mono ?_); rintro e W3 ⟨b,rfl,hp⟩)
    all_goals (gi_wp2_with fail; gi_meet; exact mk b _ hp)
   ·have mk:∃ (b':Bool) (pre':List (Op3 ls)),Value.bool false=.bool (!b')∧Hid ((b'=true→J pre' u0.drew∧Kc u0 u0.drew∧AllOpen i A F pre'∧(F i<(A i).c→∃ y∈pre',y.1=((A i).f,(A i).t,(A i).k,(i:Int),1)))∧(b'=false→Jx pre' u0.drew)∧AreOpen la A F pre'∧pre'.length≤2*i+1) :=
     ⟨true,pre,rfl,fun _=>⟨hJu,Kc.of_below (Jd _ _).drew,hall.out.1,fun h=>absurd h hc⟩,(fun e=>by cases e),hall.out.2.1,by have:=hall.out.2.2; omega⟩
    refine wpIn_region_any hm ?_
    change wpAnyIn _ _ _ _ _ _ _ _ _ (World.drew _)
    refine wpAnyIn_take (i:=1) (v:=?_) rfl rfl (by kernel_rfl) (by kernel_rfl) (by kernel_rfl) (fun _ _ _ h=>h) ⟨Jr ⟨by rfl,?_⟩,fun _=>rfl⟩ ?_
    rotate_left 1
    ·(intro w; go_simp; try with_reducible rfl)
    change wpAnyIn _ _ _ _ _ _ _ _ (Act.put _ (some 15) _) _
    refine wpAnyIn_take (i:=4) (v:=?_) rfl rfl (by kernel_rfl) (by kernel_rfl) (by kernel_rfl) (fun _ _ _ h=>h) ⟨Jr ⟨by rfl,?_⟩,fun _=>rfl⟩ ?_
    rotate_left 1
    ·(intro w; go_simp; try with_reducible rfl)
    change wpAnyIn _ _ _ _ _ _ _ _ (Act.put _ (some 18) _) _
    refine wpAnyIn_ready (rs:=[0,5]) (by kernel_rfl) (by simp) ?_
    refine (AllReadyIn.cons rfl (fun K hK=>?_) (AllReadyIn.cons rfl (fun K hK=>?_) AllReadyIn.nil))
    ·go_simp
     refine hK _ _ ?_
     clear hK K
     refine wpAnyIn_take (i:=2) (v:=?_) rfl rfl (by kernel_rfl) (by kernel_rfl) (by kernel_rfl) (fun _ _ _ h=>h) ⟨Jr ⟨by rfl,?_⟩,fun _=>rfl⟩ ?_
     rotate_left 1
     ·(intro w; go_simp; try with_reducible rfl)
     change wpAnyIn _ _ _ _ _ _ _ _ (Act.put _ (some 16) _) _
     refine wpAnyIn_ready (rs:=[3,5]) (by kernel_rfl) (by simp) ?_
     refine (AllReadyIn.cons rfl (fun K hK=>?_) (AllReadyIn.cons rfl (fun K hK=>?_) AllReadyIn.nil))
     ·go_simp
      refine hK _ _ ?_
      clear hK K
      refine wpAnyIn_ready (rs:=[5]) (by kernel_rfl) (by simp) ?_
      refine (AllReadyIn.cons rfl (fun K hK=>?_) AllReadyIn.nil)
      go_simp
      refine hK _ _ ?_
      clear hK K
      refine wpAnyIn_take (i:=6) (v:=?_) rfl rfl (by kernel_rfl) (by kernel_rfl) (by kernel_rfl) (fun _ _ _ h=>h) ⟨Jr ⟨by rfl,?_⟩,fun _=>rfl⟩ ?_
      rotate_left 1
      ·(intro w; go_simp; try with_reducible rfl)
      change wpAnyIn _ _ _ _ _ _ _ _ (Act.put _ (some 20) _) _
      refine wpAnyIn_take (i:=7) (v:=?_) rfl rfl (by kernel_rfl) (by kernel_rfl) (by kernel_rfl) (fun _ _ _ h=>h) ⟨Jr ⟨by rfl,?_⟩,fun _=>rfl⟩ ?_
      rotate_left 1
      ·(intro w; go_simp; try with_reducible rfl)
      change wpAnyIn _ _ _ _ _ _ _ _ (Act.put _ (some 21) _) _
      refine wpAnyIn_take (i:=8) (v:=undef) rfl rfl (by kernel_rfl) (by kernel_rfl) (by kernel_rfl) (fun _ _ _ h=>h) ⟨Js ⟨by kernel_rfl,rfl⟩,fun _=>by kernel_rfl⟩ ?_
      change wpAnyIn _ _ _ _ _ _ _ _ (Act.put _ (some 22) undef) _
      refine wpAnyIn_take (i:=9) (v:=undef) rfl rfl (by kernel_rfl) (by kernel_rfl) (by kernel_rfl) (fun _ _ _ h=>h) ⟨Js ⟨by kernel_rfl,rfl⟩,fun _=>by kernel_rfl⟩ ?_
      change wpAnyIn _ _ _ _ _ _ _ _ (Act.put _ (some 23) undef) _
      refine wpAnyIn_take (i:=11) (v:=undef) rfl rfl (by kernel_rfl) (by kernel_rfl) (by kernel_rfl) (fun _ _ _ h=>h) ⟨Js ⟨by kernel_rfl,rfl⟩,fun _=>by kernel_rfl⟩ ?_
      change wpAnyIn _ _ _ _ _ _ _ _ (Act.put _ (some 25) undef) _
      refine wpAnyIn_take (i:=13) (v:=undef) rfl rfl (by kernel_rfl) (by kernel_rfl) (by kernel_rfl) (fun _ _ _ h=>h) ⟨Js ⟨by kernel_rfl,rfl⟩,fun _=>by kernel_rfl⟩ ?_
      change wpAnyIn _ _ _ _ _ _ _ _ (Act.put _ (some 27) undef) _
      refine wpAnyIn_take (i:=10) (v:=undef) rfl rfl (by kernel_rfl) (by kernel_rfl) (by kernel_rfl) (fun _ _ _ h=>h) ⟨Js ⟨by kernel_rfl,rfl⟩,fun _=>by kernel_rfl⟩ ?_
      change wpAnyIn _ _ _ _ _ _ _ _ (Act.put _ (some 24) undef) _
      refine wpAnyIn_take (i:=12) (v:=undef) rfl rfl (by kernel_rfl) (by kernel_rfl) (by kernel_rfl) (fun _ _ _ h=>h) ⟨Js ⟨by kernel_rfl,rfl⟩,fun _=>by kernel_rfl⟩ ?_
      change wpAnyIn _ _ _ _ _ _ _ _ (Act.put _ (some 26) undef) _
      refine wpAnyIn_take (i:=14) (v:=undef) rfl rfl (by kernel_rfl) (by kernel_rfl) (by kernel_rfl) (fun _ _ _ h=>h) ⟨Js ⟨by kernel_rfl,rfl⟩,fun _=>by kernel_rfl⟩ ?_
      change wpAnyIn _ _ _ _ _ _ _ _ (Act.put _ (some 28) undef) _
      refine wpAnyIn_take (i:=15) (v:=undef) rfl rfl (by kernel_rfl) (by kernel_rfl) (by kernel_rfl) (fun _ _ _ h=>h) ⟨Js ⟨by kernel_rfl,rfl⟩,fun _=>by kernel_rfl⟩ ?_
      change wpAnyIn _ _ _ _ _ _ _ _ (Act.put _ (some 29) undef) _
      refine wpAnyIn_take (i:=16) (v:=undef) rfl rfl (by kernel_rfl) (by kernel_rfl) (by kernel_rfl) (fun _ _ _ h=>h) ⟨Js ⟨by kernel_rfl,rfl⟩,fun _=>by kernel_rfl⟩ ?_
      change wpAnyIn _ _ _ _ _ _ _ _ (Act.put _ (some 30) undef) _
      refine wpAnyIn_take (i:=17) (v:=undef) rfl rfl (by kernel_rfl) (by kernel_rfl) (by kernel_rfl) (fun _ _ _ h=>h) ⟨Js ⟨by kernel_rfl,rfl⟩,fun _=>by kernel_rfl⟩ ?_
      change wpAnyIn _ _ _ _ _ _ _ _ (Act.put _ (some 31) undef) _
      refine wpAnyIn_take (i:=18) (v:=undef) rfl rfl (by kernel_rfl) (by kernel_rfl) (by kernel_rfl) (fun _ _ _ h=>h) ⟨Js ⟨by kernel_rfl,rfl⟩,fun _=>by kernel_rfl⟩ ?_
      change wpAnyIn _ _ _ _ _ _ _ _ (Act.put _ (some 32) undef) _
      refine wpAnyIn_take (i:=19) (v:=?_) rfl rfl (by kernel_rfl) (by kernel_rfl) (by kernel_rfl) (fun _ _ _ h=>h) ⟨Jr ⟨by rfl,?_⟩,fun _=>rfl⟩ ?_
      rotate_left 1
      ·(intro w; go_simp; try with_reducible rfl)
      change wpAnyIn _ _ _ _ _ _ _ _ (Act.put _ (some 33) _) _
      refine wpAnyIn_done (by kernel_rfl) ?_ _
      simp only [Act.put,Jh,Ji,Jj]
      gi_wp2_with fail
      gi_meet
      exact mk
     ·go_simp
      refine hK _ _ ?_
      clear hK K
      refine wpAnyIn_ready (rs:=[3]) (by kernel_rfl) (by simp) ?_
      refine (AllReadyIn.cons rfl (fun K hK=>?_) AllReadyIn.nil)
      go_simp
      refine hK _ _ ?_
      clear hK K
      refine wpAnyIn_take (i:=6) (v:=?_) rfl rfl (by kernel_rfl) (by kernel_rfl) (by kernel_rfl) (fun _ _ _ h=>h) ⟨Jr ⟨by rfl,?_⟩,fun _=>rfl⟩ ?_
      rotate_left 1
      ·(intro w; go_simp; try with_reducible rfl)
      change wpAnyIn _ _ _ _ _ _ _ _ (Act.put _ (some 20) _) _
      refine wpAnyIn_take (i:=7) (v:=?_) rfl rfl (by kernel_rfl) (by kernel_rfl) (by kernel_rfl) (fun _ _ _ h=>h) ⟨Jr ⟨by rfl,?_⟩,fun _=>rfl⟩ ?_
      rotate_left 1
      ·(intro w; go_simp; try with_reducible rfl)
      change wpAnyIn _ _ _ _ _ _ _ _ (Act.put _ (some 21) _) _
      refine wpAnyIn_take (i:=8) (v:=undef) rfl rfl (by kernel_rfl) (by kernel_rfl) (by kernel_rfl) (fun _ _ _ h=>h) ⟨Js ⟨by kernel_rfl,rfl⟩,fun _=>by kernel_rfl⟩ ?_
      change wpAnyIn _ _ _ _ _ _ _ _ (Act.put _ (some 22) undef) _
      refine wpAnyIn_take (i:=9) (v:=undef) rfl rfl (by kernel_rfl) (by kernel_rfl) (by kernel_rfl) (fun _ _ _ h=>h) ⟨Js ⟨by kernel_rfl,rfl⟩,fun _=>by kernel_rfl⟩ ?_
      change wpAnyIn _ _ _ _ _ _ _ _ (Act.put _ (some 23) undef) _
      refine wpAnyIn_take (i:=11) (v:=undef) rfl rfl (by kernel_rfl) (by kernel_rfl) (by kernel_rfl) (fun _ _ _ h=>h) ⟨Js ⟨by kernel_rfl,rfl⟩,fun _=>by kernel_rfl⟩ ?_
      change wpAnyIn _ _ _ _ _ _ _ _ (Act.put _ (some 25) undef) _
      refine wpAnyIn_take (i:=13) (v:=undef) rfl rfl (by kernel_rfl) (by kernel_rfl) (by kernel_rfl) (fun _ _ _ h=>h) ⟨Js ⟨by kernel_rfl,rfl⟩,fun _=>by kernel_rfl⟩ ?_
      change wpAnyIn _ _ _ _ _ _ _ _ (Act.put _ (some 27) undef) _
      refine wpAnyIn_take (i:=10) (v:=undef) rfl rfl (by kernel_rfl) (by kernel_rfl) (by kernel_rfl) (fun _ _ _ h=>h) ⟨Js ⟨by kernel_rfl,rfl⟩,fun _=>by kernel_rfl⟩ ?_
      change wpAnyIn _ _ _ _ _ _ _ _ (Act.put _ (some 24) undef) _
      refine wpAnyIn_take (i:=12) (v:=undef) rfl rfl (by kernel_rfl) (by kernel_rfl) (by kernel_rfl) (fun _ _ _ h=>h) ⟨Js ⟨by kernel_rfl,rfl⟩,fun _=>by kernel_rfl⟩ ?_
      change wpAnyIn _ _ _ _ _ _ _ _ (Act.put _ (some 26) undef) _
      refine wpAnyIn_take (i:=14) (v:=undef) rfl rfl (by kernel_rfl) (by kernel_rfl) (by kernel_rfl) (fun _ _ _ h=>h) ⟨Js ⟨by kernel_rfl,rfl⟩,fun _=>by kernel_rfl⟩ ?_
      change wpAnyIn _ _ _ _ _ _ _ _ (Act.put _ (some 28) undef) _
      refine wpAnyIn_take (i:=15) (v:=undef) rfl rfl (by kernel_rfl) (by kernel_rfl) (by kernel_rfl) (fun _ _ _ h=>h) ⟨Js ⟨by kernel_rfl,rfl⟩,fun _=>by kernel_rfl⟩ ?_
      change wpAnyIn _ _ _ _ _ _ _ _ (Act.put _ (some 29) undef) _
      refine wpAnyIn_take (i:=16) (v:=undef) rfl rfl (by kernel_rfl) (by kernel_rfl) (by kernel_rfl) (fun _ _ _ h=>h) ⟨Js ⟨by kernel_rfl,rfl⟩,fun _=>by kernel_rfl⟩ ?_
      change wpAnyIn _ _ _ _ _ _ _ _ (Act.put _ (some 30) undef) _
      refine wpAnyIn_take (i:=17) (v:=undef) rfl rfl (by kernel_rfl) (by kernel_rfl) (by kernel_rfl) (fun _ _ _ h=>h) ⟨Js ⟨by kernel_rfl,rfl⟩,fun _=>by kernel_rfl⟩ ?_
      change wpAnyIn _ _ _ _ _ _ _ _ (Act.put _ (some 31) undef) _
      refine wpAnyIn_take (i:=18) (v:=undef) rfl rfl (by kernel_rfl) (by kernel_rfl) (by kernel_rfl) (fun _ _ _ h=>h) ⟨Js ⟨by kernel_rfl,rfl⟩,fun _=>by kernel_rfl⟩ ?_
      change wpAnyIn _ _ _ _ _ _ _ _ (Act.put _ (some 32) undef) _
      refine wpAnyIn_take (i:=19) (v:=?_) rfl rfl (by kernel_rfl) (by kernel_rfl) (by kernel_rfl) (fun _ _ _ h=>h) ⟨Jr ⟨by rfl,?_⟩,fun _=>rfl⟩ ?_
      rotate_left 1
      ·(intro w; go_simp; try with_reducible rfl)
      change wpAnyIn _ _ _ _ _ _ _ _ (Act.put _ (some 33) _) _
      refine wpAnyIn_done (by kernel_rfl) ?_ _
      simp only [Act.put,Jh,Ji,Jj]
      gi_wp2_with fail
      gi_meet
      exact mk
    ·go_simp
     refine hK _ _ ?_
     clear hK K
     refine wpAnyIn_ready (rs:=[0]) (by kernel_rfl) (by simp) ?_
     refine (AllReadyIn.cons rfl (fun K hK=>?_) AllReadyIn.nil)
     go_simp
     refine hK _ _ ?_
     clear hK K
     refine wpAnyIn_take (i:=2) (v:=?_) rfl rfl (by kernel_rfl) (by kernel_rfl) (by kernel_rfl) (fun _ _ _ h=>h) ⟨Jr ⟨by rfl,?_⟩,fun _=>rfl⟩ ?_
     rotate_left 1
     ·(intro w; go_simp; try with_reducible rfl)
     change wpAnyIn _ _ _ _ _ _ _ _ (Act.put _ (some 16) _) _
     refine wpAnyIn_ready (rs:=[3]) (by kernel_rfl) (by simp) ?_
     refine (AllReadyIn.cons rfl (fun K hK=>?_) AllReadyIn.nil)
     go_simp
     refine hK _ _ ?_
     clear hK K
     refine wpAnyIn_take (i:=6) (v:=?_) rfl rfl (by kernel_rfl) (by kernel_rfl) (by kernel_rfl) (fun _ _ _ h=>h) ⟨Jr ⟨by rfl,?_⟩,fun _=>rfl⟩ ?_
     rotate_left 1
     ·(intro w; go_simp; try with_reducible rfl)
     change wpAnyIn _ _ _ _ _ _ _ _ (Act.put _ (some 20) _) _
     refine wpAnyIn_take (i:=7) (v:=?_) rfl rfl (by kernel_rfl) (by kernel_rfl) (by kernel_rfl) (fun _ _ _ h=>h) ⟨Jr ⟨by rfl,?_⟩,fun _=>rfl⟩ ?_
     rotate_left 1
     ·(intro w; go_simp; try with_reducible rfl)
     change wpAnyIn _ _ _ _ _ _ _ _ (Act.put _ (some 21) _) _
     refine wpAnyIn_take (i:=8) (v:=undef) rfl rfl (by kernel_rfl) (by kernel_rfl) (by kernel_rfl) (fun _ _ _ h=>h) ⟨Js ⟨by kernel_rfl,rfl⟩,fun _=>by kernel_rfl⟩ ?_
     change wpAnyIn _ _ _ _ _ _ _ _ (Act.put _ (some 22) undef) _
     refine wpAnyIn_take (i:=9) (v:=undef) rfl rfl (by kernel_rfl) (by kernel_rfl) (by kernel_rfl) (fun _ _ _ h=>h) ⟨Js ⟨by kernel_rfl,rfl⟩,fun _=>by kernel_rfl⟩ ?_
     change wpAnyIn _ _ _ _ _ _ _ _ (Act.put _ (some 23) undef) _
     refine wpAnyIn_take (i:=11) (v:=undef) rfl rfl (by kernel_rfl) (by kernel_rfl) (by kernel_rfl) (fun _ _ _ h=>h) ⟨Js ⟨by kernel_rfl,rfl⟩,fun _=>by kernel_rfl⟩ ?_
     change wpAnyIn _ _ _ _ _ _ _ _ (Act.put _ (some 25) undef) _
     refine wpAnyIn_take (i:=13) (v:=undef) rfl rfl (by kernel_rfl) (by kernel_rfl) (by kernel_rfl) (fun _ _ _ h=>h) ⟨Js ⟨by kernel_rfl,rfl⟩,fun _=>by kernel_rfl⟩ ?_
     change wpAnyIn _ _ _ _ _ _ _ _ (Act.put _ (some 27) undef) _
     refine wpAnyIn_take (i:=10) (v:=undef) rfl rfl (by kernel_rfl) (by kernel_rfl) (by kernel_rfl) (fun _ _ _ h=>h) ⟨Js ⟨by kernel_rfl,rfl⟩,fun _=>by kernel_rfl⟩ ?_
     change wpAnyIn _ _ _ _ _ _ _ _ (Act.put _ (some 24) undef) _
     refine wpAnyIn_take (i:=12) (v:=undef) rfl rfl (by kernel_rfl) (by kernel_rfl) (by kernel_rfl) (fun _ _ _ h=>h) ⟨Js ⟨by kernel_rfl,rfl⟩,fun _=>by kernel_rfl⟩ ?_
     change wpAnyIn _ _ _ _ _ _ _ _ (Act.put _ (some 26) undef) _
     refine wpAnyIn_take (i:=14) (v:=undef) rfl rfl (by kernel_rfl) (by kernel_rfl) (by kernel_rfl) (fun _ _ _ h=>h) ⟨Js ⟨by kernel_rfl,rfl⟩,fun _=>by kernel_rfl⟩ ?_
     change wpAnyIn _ _ _ _ _ _ _ _ (Act.put _ (some 28) undef) _
     refine wpAnyIn_take (i:=15) (v:=undef) rfl rfl (by kernel_rfl) (by kernel_rfl) (by kernel_rfl) (fun _ _ _ h=>h) ⟨Js ⟨by kernel_rfl,rfl⟩,fun _=>by kernel_rfl⟩ ?_
     change wpAnyIn _ _ _ _ _ _ _ _ (Act.put _ (some 29) undef) _
     refine wpAnyIn_take (i:=16) (v:=undef) rfl rfl (by kernel_rfl) (by kernel_rfl) (by kernel_rfl) (fun _ _ _ h=>h) ⟨Js ⟨by kernel_rfl,rfl⟩,fun _=>by kernel_rfl⟩ ?_
     change wpAnyIn _ _ _ _ _ _ _ _ (Act.put _ (some 30) undef) _
     refine wpAnyIn_take (i:=17) (v:=undef) rfl rfl (by kernel_rfl) (by kernel_rfl) (by kernel_rfl) (fun _ _ _ h=>h) ⟨Js ⟨by kernel_rfl,rfl⟩,fun _=>by kernel_rfl⟩ ?_
     change wpAnyIn _ _ _ _ _ _ _ _ (Act.put _ (some 31) undef) _
     refine wpAnyIn_take (i:=18) (v:=undef) rfl rfl (by kernel_rfl) (by kernel_rfl) (by kernel_rfl) (fun _ _ _ h=>h) ⟨Js ⟨by kernel_rfl,rfl⟩,fun _=>by kernel_rfl⟩ ?_
     change wpAnyIn _ _ _ _ _ _ _ _ (Act.put _ (some 32) undef) _
     refine wpAnyIn_take (i:=19) (v:=?_) rfl rfl (by kernel_rfl) (by kernel_rfl) (by kernel_rfl) (fun _ _ _ h=>h) ⟨Jr ⟨by rfl,?_⟩,fun _=>rfl⟩ ?_
     rotate_left 1
     ·(intro w; go_simp; try with_reducible rfl)
     change wpAnyIn _ _ _ _ _ _ _ _ (Act.put _ (some 33) _) _
     refine wpAnyIn_done (by kernel_rfl) ?_ _
     simp only [Act.put,Jh,Ji,Jj]
     gi_wp2_with fail
     gi_meet
     exact mk
  case rest =>
   obtain ⟨b,pre',rfl,hp⟩:=hcut
   clear hJu
   cases b with
   | false =>
    have H5:=veil (Jc hp.out.2.2.1 (hp.out.2.1 rfl))
    clear k0 k1 k2 k3 hbfu gfu y0 y1 y2 hp
    gi_wp2
    refine bodyPost_ret (results_none rfl _ _ _) rfl ?_
    exact ⟨⟨_,rfl⟩,.inr ⟨pre',H5.out.1,H5.out.2⟩⟩
   | true =>
    have hJp:=(hp.out.1 rfl).1
    have hkc:=(hp.out.1 rfl).2.1
    have H5:=veil (Jc (hp.out.1 rfl).2.2 (Jc hp.out.2.2.1 hp.out.2.2.2))
    clear hp
    replace k0:=hkc.cell k0
    replace k1:=hkc.cell k1
    replace k3:=hkc.cell k3
    replace hbfu:=hkc.cell hbfu
    replace gfu:=hkc.cell gfu
    have hkz:=hkc.size
    replace y0:wr.heap.size<wc.heap.size:=by omega
    replace y1:Bf<wc.heap.size:=by omega
    replace y2:sf<wc.heap.size:=by omega
    clear k2 hkz
    have hk0:=hac.out.2.2.2.1
    have hk1:=hac.out.2.2.2.2
    by_cases hpos:0<F i
    ·obtain ⟨fn,tmps,assign,body,hy,hR⟩:=hY pre' (back (A i) i hac.out) wc hJp (by have:=H5.out.2.2; omega)
     simp only [encO,back] at hy
     gi_wp2
     refine hR.mono ?_
     rintro e W3 (⟨rfl,hJ3,hk3⟩ | ⟨rfl,hJx3⟩)
     ·gi_wp2
      go_roundw
      case rel =>
       refine ⟨i+1,_,by omega,by go_num,(Hu.out.2.2.2.2.trans hkc).trans hk3,hJ3,fun m hm=>?_,H5.out.2.1.more ⟨i,hlt,Js ⟨hpos,rfl⟩⟩,by rw [Jo]; have:=H5.out.2.2; simp only [List.length_singleton]; omega⟩
       by_cases h1:m<i
       ·exact H5.out.1.1.more _ m h1
       ·obtain rfl:m=i:=by omega
        exact ⟨fun h2=>by obtain ⟨z,hz,e⟩:=H5.out.1.2 h2; exact ⟨z,Ju _ hz,e⟩,fun _=>⟨_,Jt _ (List.mem_singleton.2 rfl),rfl⟩⟩
      case measure=>simp [intOf]; omega
     ·gi_wp2
      refine bodyPost_ret (results_none rfl _ _ _) rfl ?_
      exact ⟨⟨_,rfl⟩,.inr ⟨_,H5.out.2.1.more ⟨i,hlt,Js ⟨hpos,rfl⟩⟩,hJx3⟩⟩
    ·gi_wp2
     refine ⟨fun _ h=>(by cases h),?_⟩
     gi_wp2
     go_roundw
     case rel =>
      refine ⟨i+1,_,by omega,by go_num,Hu.out.2.2.2.2.trans hkc,hJp,fun m hm=>?_,H5.out.2.1,by have:=H5.out.2.2; omega⟩
      by_cases h1:m<i
      ·exact H5.out.1.1 m h1
      ·obtain rfl:m=i:=by omega
       exact ⟨H5.out.1.2,fun h2=>absurd h2 (by omega)⟩
     case measure=>simp [intOf]; omega
 ·obtain rfl:i=la:=by omega
  gi_wp2
  go_end0
  exact ⟨⟨_,rfl⟩,.inl ⟨_,hall.out.1,hJs⟩⟩
end
section
open Go.RowKit
def noDefer (o:Oper):Bool:=match o.op with | .defer _=>false | _=>true
theorem uponIn_round (F:Fence)(l n:Nat)(P:Program)(o:Oper)(a:Act)(K:Act→World→Prop)(Q:Exit→Act→World→Prop)(r:Result Next)(h:o.uponIn F n P a K Q r):o.uponIn (F.inRound l) n P a K Q r:=by
 cases r with
 | ok x w=>cases x <;> exact h
 | _=>exact h
theorem wpOpIn_round {F:Fence}{l n:Nat}{P:Program}{ops:Array Oper}{Q:Exit→Act→World→Prop}(hd:ops.all noDefer=true){i:Nat}{K:Act→World→Prop}{a:Act}{w:World}(h:wpOpIn F n P ops Q i K a w):wpOpIn (F.inRound l) n P ops Q i K a w:=by
 unfold wpOpIn at h ⊢
 cases ho:ops[i]? with
 | none=>rw [ho] at h; exact h
 | some o =>
  rw [ho] at h
  simp only at h ⊢
  have hnd:∀ c,o.op≠.defer c:=fun c e=>by
   have h1:o∈ops:=Array.mem_of_getElem? ho
   have h2:=Array.all_eq_true_iff_forall_mem.1 hd o h1
   unfold noDefer at h2
   rw [e] at h2
   cases h2
  split
  ·rename_i hw
   rw [if_pos hw] at h
   refine ⟨h.1,?_⟩
   rw [Oper.semAt_eq _ _ _ hnd]
   have h2:=h.2
   rw [Oper.semAt_eq _ _ _ hnd] at h2
   exact uponIn_round F l n P o a K Q _ h2
  ·rename_i hw
   rw [if_neg hw] at h
   exact h
theorem wpAnyIn_round {F:Fence}{l n:Nat}{P:Program}{md:Region.Mode}{ops:Array Oper}{Q:Exit→Act→World→Prop}(hd:ops.all noDefer=true):∀ (fuel:Nat)(listed:Array Bool)(a:Act)(w:World),wpAnyIn F n P md ops Q fuel listed a w→wpAnyIn (F.inRound l) n P md ops Q fuel listed a w
 | 0,_,_,_,h=>h
 | fuel+1,_,_,_,h=>⟨h.1,fun i hi=>wpOpIn_round hd (wpOpIn_mono (fun a' w' h'=>wpAnyIn_round hd fuel _ a' w' h') (h.2 i hi))⟩
theorem region_round {F:Fence}(hro:F.round=none){r n id:Nat}{P:Program}{Q:Exit→Act→World→Prop}{a:Act}{w:World}{l:List Oper}(hd:l.toArray.all noDefer=true)(hm:P.follows .mixedOrders=true)(hB:Region.lexB .any l.toArray=true)
  (h:wpQuietIn F n P l.toArray (fun w'=>∃ n,w'=w.drewN n) (fun a'=>∀ w',(∃ n,w'=w.drewN n)→Q .normal a' w') l a):(Code.region id l.toArray true).wpIn (F.inRound r) n P Q a w:=by
 simp only [Region.lexB,Bool.and_eq_true] at hB
 refine wpIn_region_any hm (wpAnyIn_round hd _ _ _ _ (wpAnyIn_of_quiet (C:=fun w'=>∃ n,w'=w.drewN n) (Q:=fun a'=>∀ w',(∃ n,w'=w.drewN n)→Q .normal a' w') hro (fun _ w' hw' h=>h w' hw') _ _ _ _ ⟨1,rfl⟩ ?_))
 have:=wpAnyQIn_lex (F:=F) (n:=n) (P:=P) (C:=fun w'=>∃ n,w'=w.drewN n) (md:=.any) hB.1 l.toArray.toList 0 (Array.replicate l.toArray.size false) a (by simp) (by simpa using hB.2) (by simpa using h)
 simpa using this
end
section
open Go.RowKit Go.Shelf
attribute [local go_sem] Oper.semAt_some
theorem opens_stops (n:Nat)(hn:1≤n)(Bn Bf:Nat)(W0:World)(p q r:Option Addr)(ls cs la ca cf:Nat)(S:Nat→Int)(A:Nat→Ar)(F:Nat→Int)
  (hok:NetOk ls ls S la A) (hA:Arcs W0 q la A) (hF:Ints W0 r la F) (hBn:W0.heap[Bn]?=some (.cells #[.int .i64 ls,.slice p ls cs,.slice q la ca] 39)) (hBf:W0.heap[Bf]?=some (.cells #[.slice r la cf] 22)) :
  SeqStopsK Fence.wide n Try.prog 70 #[.pointer (some ⟨Bn,0,none⟩),.pointer (some ⟨Bf,0,none⟩)] (encO (ls:=ls)) Kc (AllOpen la A F) (AreOpen la A F) (2*la) W0:=fun l J Jx W hW hJ _ hY h0 =>
 opens1_in n hn l Bn Bf W0 p q r ls cs la ca cf S A F hok hA hF hBn hBf J Jx W (Kc.of_below hW) hJ hY h0
def saves {ls:Nat}(P:Nat→Int)(x:Op3 ls):Int:=x.1.2.2.1+P x.1.1.toNat - P x.1.2.1.toNat
def NoneSaves {ls:Nat}(P:Nat→Int)(pre:List (Op3 ls)):Prop:=∀ x∈pre,0≤saves P x
def OneSaves {ls:Nat}(P:Nat→Int)(pre:List (Op3 ls)):Prop:=∃ x∈pre,saves P x<0
theorem pairs_of {ls la:Nat}{A:Nat→Ar}{F P:Nat→Int}{ys:List (Op3 ls)}(h:AllOpen la A F ys)(hs:NoneSaves P ys):∀ i,i<la→PairOk P (A i) (F i):=fun i hi=>by
 refine ⟨fun ⟨h1,h2⟩=>?_,fun ⟨h1,h2⟩=>?_⟩
 ·obtain ⟨y,hy,e⟩:=(h i hi).1 h2
  have:=hs y hy
  unfold saves at this
  rw [e] at this
  unfold dd at h1
  simp only at this
  omega
 ·obtain ⟨y,hy,e⟩:=(h i hi).2 h2
  have:=hs y hy
  unfold saves at this
  rw [e] at this
  unfold dd at h1
  simp only at this
  omega
theorem no_pairs {ls la:Nat}{A:Nat→Ar}{F P:Nat→Int}{ys:List (Op3 ls)}(h:AreOpen la A F ys)(hs:OneSaves P ys)(hp:∀ i,i<la→PairOk P (A i) (F i)):False:=by
 obtain ⟨y,hy,h1⟩:=hs
 obtain ⟨i,hi,⟨h2,e⟩ | ⟨h2,e⟩⟩:=h y hy
 ·unfold saves at h1
  rw [e] at h1
  exact (hp i hi).1 ⟨h1,h2⟩
 ·unfold saves at h1
  rw [e] at h1
  refine (hp i hi).2 ⟨?_,h2⟩
  unfold dd
  simp only at h1
  omega
theorem keeps_drewN (W:World)(n:Nat):KeepsOthers W (W.drewN n):=⟨Jb _,fun _ _ h _=>h⟩
theorem below_drewN {B n:Nat}{w W:World}(h:Below B w W):Below B w (W.drewN n):=⟨h.os,h.tape,h.output,h.size,h.block⟩
theorem show_any (w:World)(p q r s:Option Addr)(ls cs la ca cf lp cp:Nat)(S:Nat→Int)(A:Nat→Ar)(F P:Nat→Int)(hn:NetOk ls ls S la A)(hA:Arcs w q la A)(hF:Ints w r la F)(hP:Ints w s lp P) :
  Calls Try.prog 53 #[.agg #[.int .i64 ls,.slice p ls cs,.slice q la ca],.slice r la cf,.slice s lp cp] w fun e w'=>Ans e (PriceOk ls la A F lp P)∧Below w.heap.size w w':=by
 refine (callsIn_wide (n:=5)).1 ?_
 by_cases hl:lp=ls
 case neg =>
  have dl:((lp:Int) == (ls:Int))=false:=by simp; omega
  have H:=veil hl
  clear hl
  refine callsIn_of_wp_marks Try.func53 rfl trivial ?_ rfl
  simp only [Try.ntmps53,List.size_toArray,List.length_cons,List.length_nil,Nat.reduceAdd,Nat.reduceSub,Array.replicate_succ,Array.replicate_zero,List.push_toArray,List.append_toArray,List.nil_append,List.cons_append]
  gi_wp2_with fail
  refine ⟨.bool false,by simp [results,Try.f53,go_sem],⟨⟨_,rfl,⟨(fun h=>by cases h),fun h=>absurd (by have:=h.1; omega) H.out⟩⟩,(((Jd _ _).alloc (Jb _) _).alloc (by simp) _).alloc (by simp; omega) _⟩⟩
 subst hl
 obtain ⟨W1,hW1⟩:∃ W1,((w.alloc (.cells #[.int .i64 lp,.slice p lp cs,.slice q la ca] 39)).alloc (.cells #[.slice s lp cp] 22)).alloc (.cells #[.bool false] 4)=W1:=⟨_,rfl⟩
 have hb1:Below w.heap.size w W1:=by rw [← hW1]; exact (((Jd _ _).alloc (Jb _) _).alloc (by simp) _).alloc (by simp; omega) _
 have hz1:W1.heap.size=w.heap.size+3:=by rw [← hW1]; simp
 have hB0:W1.heap[w.heap.size]?=some (.cells #[.int .i64 lp,.slice p lp cs,.slice q la ca] 39):=by
  rw [← hW1,Below.heap_alloc _ _ _ (by simp; omega),Below.heap_alloc _ _ _ (by simp)]
  exact heap_alloc_new w _
 have hB1:Boxed W1 (w.heap.size+1) 22 (.slice s lp cp):=by
  have:=(Boxed.new (w.alloc (.cells #[.int .i64 lp,.slice p lp cs,.slice q la ca] 39)) 22 (.slice s lp cp)).alloc (.cells #[.bool false] 4)
  rw [hW1] at this
  simpa using this
 have hB2:Boxed W1 (w.heap.size+2) 4 (.bool false):=by
  have:=Boxed.new ((w.alloc (.cells #[.int .i64 lp,.slice p lp cs,.slice q la ca] 39)).alloc (.cells #[.slice s lp cp] 22)) 4 (.bool false)
  rw [hW1] at this
  simpa using this
 have hP1:=hP.below hb1
 have H1:=veil (Jc hW1 (Jc hb1 (Jc hB0 (Jc hB1 hB2))))
 clear hW1 hb1 hB0 hB1 hB2
 refine callsIn_of_wp_marks Try.func53 rfl trivial ?_ rfl
 simp only [Try.ntmps53,List.size_toArray,List.length_cons,List.length_nil,Nat.reduceAdd,Nat.reduceSub,Array.replicate_succ,Array.replicate_zero,List.push_toArray,List.append_toArray,List.nil_append,List.cons_append]
 gi_wp2_with fail
 rw [H1.out.1]
 gi_loopw [17] (fun iv wr=>∃ j:Nat,j≤lp∧iv=.int .i64 j∧wr=W1∧Hid (∀ m,m<j→-1000000≤P m∧P m≤1000000)) (fun iv _=>lp - (intOf iv).toNat)
 case atStart=>exact ⟨0,Jq _,rfl,rfl,fun m hm=>by omega⟩
 case' round=>skip
 obtain ⟨j,hj,rfl,rfl,hno⟩:=hrel
 by_cases hlt:j<lp
 ·obtain ⟨sb,off,rfl,hsb,hc⟩:=hP1.at hlt
  have hjI:(j:Int)<(lp:Int):=by omega
  have h60:lp≤60:=by have:=hn.1.2; omega
  by_cases hs:-1000000≤P j∧P j≤1000000
  ·have ds:inB (-1000000) 1000000 (P j)=true:=inB_iff.2 hs
   have hno':Hid (∀ m,m<j+1→-1000000≤P m∧P m≤1000000):=fun m hm=>by
    by_cases h1:m<j
    ·exact hno.out m h1
    ·obtain rfl:m=j:=by omega
     exact hs
   clear hs
   gi_wp2_with (refine ⟨trivial,?_⟩; gi_at_call 66; refine (callsIn_wide.2 (within_any _ _ _ _)).mono ?_; rintro e w' ⟨rfl,rfl⟩; rw [ds])
   go_roundw
   case rel=>exact ⟨j+1,by omega,by go_num,by first | rfl | trivial,hno'⟩
   case measure=>simp [intOf]; omega
  ·have ds:inB (-1000000) 1000000 (P j)=false:=by rw [Bool.eq_false_iff]; exact fun q=>hs (inB_iff.1 q)
   have H:=veil hs
   have hcb:=H1.out.2.2.2.2.cell
   have hfz:=H1.out.2.2.2.2.frozen
   clear hs
   gi_wp2_with (refine ⟨trivial,?_⟩; gi_at_call 66; refine (callsIn_wide.2 (within_any _ _ _ _)).mono ?_; rintro e w' ⟨rfl,rfl⟩; rw [ds])
   have hcx:=World.cell?_setCell_same' w' ⟨w.heap.size+1+1,0,none⟩ (.bool false) (by rw [hcb]; rfl)
   refine ⟨.bool false,by simp [results,Try.f53,go_sem,hcx],⟨⟨_,rfl,⟨(fun h=>by cases h),fun h=>absurd (h.2.1 j hlt) H.out⟩⟩,H1.out.2.1.setCell (p:=⟨w.heap.size+1+1,0,none⟩) (by show w.heap.size≤w.heap.size+1+1; omega) _⟩⟩
 obtain rfl:j=lp:=by omega
 have c0:=at_cells H1.out.2.2.1 0
 have c1:=at_cells H1.out.2.2.1 1
 have c2:=at_cells H1.out.2.2.1 2
 simp only [Jg,Jf,Je] at c0 c1 c2
 have hwl:w.heap.size<wr.heap.size:=by omega
 clear hlt hj
 gi_wp2_with (refine ⟨trivial,?_⟩; gi_at_call 57; refine (opens_in _ _ _ _ _ _ _ _ _ _ _ _).mono ?_; rintro e w' ⟨rfl,rfl⟩)
 obtain ⟨W2,hW2⟩:∃ W2,(wr.alloc (.cells #[.int .i64 j,.slice p j cs,.slice q la ca] 39)).alloc (.cells #[.slice r la cf] 22)=W2:=⟨_,rfl⟩
 have hb12:Below wr.heap.size wr W2:=by rw [← hW2]; exact ((Jd _ _).alloc (Jb _) _).alloc (by simp) _
 have hb2:Below w.heap.size w W2:=beyond H1.out.2.1 hb12
 have hz2:W2.heap.size=w.heap.size+5:=by rw [← hW2]; simp [hz1]
 have hBn:W2.heap[w.heap.size+3]?=some (.cells #[.int .i64 j,.slice p j cs,.slice q la ca] 39):=by
  rw [← hW2,Below.heap_alloc _ _ _ (by simp; omega),← hz1]
  exact heap_alloc_new wr _
 have hBf:W2.heap[w.heap.size+3+1]?=some (.cells #[.slice r la cf] 22):=by
  have:=heap_alloc_new (wr.alloc (.cells #[.int .i64 j,.slice p j cs,.slice q la ca] 39)) (.cells #[.slice r la cf] 22)
  rw [hW2] at this
  simpa [hz1] using this
 have bP:Boxed W2 (w.heap.size+1) 22 (.slice s j cp):=(hb12.block _ (by omega)).trans H1.out.2.2.2.1
 have bR:Boxed W2 (w.heap.size+1+1) 4 (.bool false):=(hb12.block _ (by omega)).trans H1.out.2.2.2.2
 rw [hW2]
 clear hW2
 refine wpIn_rangeFunc_ownH rfl (by decide) (gf:=70) (lb:=#[.pointer (some ⟨w.heap.size+3,0,none⟩),.pointer (some ⟨w.heap.size+3+1,0,none⟩)]) rfl trivial (enters_of Try.func70 (by kernel_rfl) rfl)
  (opens_stops 4 (by decide) _ _ W2 p q r j cs la ca cf S A F hn (hA.below hb2) (hF.below hb2) hBn hBf) Kc.trans (fun W l o o' h1 h2 h3 h4=>Kc.put (w:=W2) W l o o' h1 h2 h3 h4) (Jd _ _) (fun _=>rfl)
  (fun pre W=>(Boxed W (w.heap.size+1) 22 (.slice s j cp)∧Boxed W (w.heap.size+1+1) 4 (.bool false))∧(Hid (NoneSaves P pre)∧Below w.heap.size w W))
  (fun c pre W=>Boxed W (w.heap.size+1+1) 4 (.bool false)∧(Hid (c=.ret∧OneSaves P pre)∧Below w.heap.size w W))
  (OwnFrom.and (OwnFrom.and (Own.from (boxed_own _ _ (fun _=>_)) _) (Own.from (boxed_own _ _ (fun _=>_)) _)) (OwnFrom.and (fun _ _ _ _ hs _ _=>hs) (ownFrom_below (Jb _) (by omega))))
  (fun c=>OwnFrom.and (Own.from (boxed_own _ _ (fun _=>_)) _) (OwnFrom.and (fun _ _ _ _ hs _ _=>hs) (ownFrom_below (Jb _) (by omega))))
  ⟨⟨bP,bR⟩,(fun x hx=>by cases hx),hb2⟩
  (fun x a' W=>∃ Bx,W.heap[Bx]?=some (.cells #[.int .i64 x.1.1,.int .i64 x.1.2.1,.int .i64 x.1.2.2.1,.int .i64 x.1.2.2.2.1,.int .i64 x.1.2.2.2.2] 99)∧a'={ tmps:=#[.agg #[.int .i64 j,.slice p j cs,.slice q la ca],.slice r la cf,.slice s j cp,.pointer (some ⟨w.heap.size,0,none⟩),undef,.pointer (some ⟨w.heap.size+1,0,none⟩),.pointer (some ⟨w.heap.size+1+1,0,none⟩),undef,u8,.pointer (some ⟨Bx,0,none⟩),.slice s j cp,.int .i64 j,.pointer (some ⟨w.heap.size,0,none⟩),.int .i64 j,.bool false,.slice s j cp,.int .i64 j,.int .i64 j,.bool false,u19,u20,u21,u22,u23,u24,.agg #[.int .i64 j,.slice p j cs,.slice q la ca],.slice r la cf,.func (.func 70) #[] #[.pointer (some ⟨w.heap.size+3,0,none⟩),.pointer (some ⟨w.heap.size+3+1,0,none⟩)],.agg #[.int .i64 x.1.1,.int .i64 x.1.2.1,.int .i64 x.1.2.2.1,.int .i64 x.1.2.2.2.1,.int .i64 x.1.2.2.2.2],undef,undef,undef,undef,undef,undef,undef,undef,undef,undef,undef,undef,undef,undef,undef],defers:=[] })
  (fun x a' _ X Y row hs hg hrow=>by
   obtain ⟨Bx,h1,h2⟩:=hs
   refine ⟨Bx,(hg.block Bx (Ja.1 h1).1 (fun e'=>?_)).trans h1,h2⟩
   obtain ⟨_,o,ho,hc⟩:=hrow Bx e'.symm
   rw [h1] at ho
   cases ho
   cases hc) ?assign ?body ?done ?stop
 case assign =>
  rintro l pre x W K ⟨⟨h1,h2⟩,h3,h4⟩ hK
  simp only [encO]
  gi_wp2
  have hbW:Below W.heap.size W (W.alloc (.cells #[.int .i64 x.1.1,.int .i64 x.1.2.1,.int .i64 x.1.2.2.1,.int .i64 x.1.2.2.2.1,.int .i64 x.1.2.2.2.2] 99)):=(Jd _ _).alloc (Jb _) _
  exact hK _ _ ((KeepsOthers.alloc _ _).from _) (Kc.of_below hbW) ⟨⟨h1.alloc _,h2.alloc _⟩,h3,beyond h4 hbW⟩ ⟨W.heap.size,heap_alloc_new W _,rfl⟩
 case body =>
  rintro l pre ⟨⟨xf,xt,xk,xa,xb⟩,⟨hf0,hf1⟩,⟨ht0,ht1⟩,hk0,hk1⟩ a' W hl ⟨rr,hr⟩ ⟨⟨h1,h2⟩,h3,h4⟩ ⟨Bx,hBx,rfl⟩ hlt
  simp only at hf0 hf1 ht0 ht1 hk0 hk1 hBx
  obtain ⟨f,rfl⟩:∃ f:Nat,xf=(f:Int):=⟨xf.toNat,by omega⟩
  obtain ⟨t,rfl⟩:∃ t:Nat,xt=(t:Int):=⟨xt.toNat,by omega⟩
  have hPW:=hP.below h4
  obtain ⟨sb,off,rfl,hsb,gf⟩:=hPW.at (i:=f) (by omega)
  obtain ⟨sb',off',e',hsb',gt⟩:=hPW.at (i:=t) (by omega)
  cases e'
  have hPf:=hno.out f (by omega)
  have hPt:=hno.out t (by omega)
  have k0:=at_cells hBx 0
  have k1:=at_cells hBx 1
  have k2:=at_cells hBx 2
  simp only [Jg,Jf,Je] at k0 k1 k2
  have hpc:=h1.cell
  have hrc:=h2.cell
  have hrf:=h2.frozen
  have z0:Bx<W.heap.size:=(Ja.1 hBx).1
  have z1:w.heap.size+1<W.heap.size:=h1.lt
  have z2:w.heap.size+1+1<W.heap.size:=h2.lt
  have HI:=veil (Jc h1 (Jc h2 (Jc h3 (Jc h4 (Jc hf0 (Jc ht0 hBx))))))
  clear h1 h2 h3 h4 hBx hr hl hPW
  by_cases hs:xk+P f - P t<0
  ·gi_wp2
   refine region_round rfl (by kernel_rfl) (by kernel_rfl) (by kernel_rfl) ?_
   repeat (gi_big_quiet_step (fail))
   refine wpQuietIn_nil ?_
   rintro _ ⟨nq,rfl⟩
   gi_wp2
   refine ⟨((keeps_drewN W nq).trans (KeepsOthers.setCell _ _ _)).from _,Boxed.set (W:=W.drewN nq) _ HI.out.2.1,⟨rfl,_,Jt _ (List.mem_singleton.2 rfl),?_⟩,(below_drewN HI.out.2.2.2.1).setCell (p:=⟨w.heap.size+1+1,0,none⟩) (by show w.heap.size≤w.heap.size+1+1; omega) _⟩
   show xk+P (f:Int).toNat - P (t:Int).toNat<0
   rw [Jn,Jn]
   exact hs
  ·gi_wp2
   refine region_round rfl (by kernel_rfl) (by kernel_rfl) (by kernel_rfl) ?_
   repeat (gi_big_quiet_step (fail))
   refine wpQuietIn_nil ?_
   rintro _ ⟨nq,rfl⟩
   gi_wp2
   refine ⟨(keeps_drewN W nq).from _,Kc.of_below (below_drewN (Jd _ _)),⟨HI.out.1,HI.out.2.1⟩,fun y hy=>?_,below_drewN HI.out.2.2.2.1⟩
   rcases List.mem_append.1 hy with hy | hy
   ·exact HI.out.2.2.1.out y hy
   ·rw [List.mem_singleton.1 hy]
    show 0≤xk+P (f:Int).toNat - P (t:Int).toNat
    rw [Jn,Jn]
    omega
 case done =>
  rintro D ys W hD hS ⟨⟨h1,h2⟩,h3,h4⟩ hK
  have hcr:=h2.cell
  have hfr:=h2.frozen
  have hrl:=h2.lt
  gi_wp2
  have hK':=(KeepsOthers.setCell W ⟨w.heap.size+1+1,0,none⟩ (.bool true)).same D _ hK rfl
  refine ⟨by simp,.inl ⟨_,_,rfl,run_takeDeferred hK',?_⟩⟩
  have hc5:=cell_kept (World.cell?_setCell_same' W ⟨w.heap.size+1+1,0,none⟩ (.bool true) (by rw [hcr]; rfl)) (grownBy_putObj' _ D (.deferred none)) (fun r e=>by cases e; exact ⟨_,hK',rfl⟩)
  refine ⟨.bool true,?_,⟨_,rfl,⟨fun _=>⟨rfl,hno.out,pairs_of hS h3.out⟩,fun _=>rfl⟩⟩,(h4.setCell (p:=⟨w.heap.size+1+1,0,none⟩) (by show w.heap.size≤w.heap.size+1+1; omega) _).trans (belowK_b (w:=w) (Jb _) _ D _ _ (by omega) hK' rfl rfl)⟩
  simp [results,Try.f53,go_sem,hc5]
 case stop =>
  rintro D c pre W hD hS ⟨h2,h3,h4⟩ hK
  have hcr:=h2.cell
  obtain ⟨rfl,hone⟩:=h3.out
  gi_wp2
  refine ⟨by simp,.inl ⟨_,_,rfl,run_takeDeferred hK,?_⟩⟩
  have hc5:=cell_kept hcr (grownBy_putObj' _ D (.deferred none)) (fun r e=>by cases e; exact ⟨_,hK,rfl⟩)
  refine ⟨.bool false,?_,⟨_,rfl,⟨(fun h=>by cases h),fun h=>(no_pairs hS hone h.2.2).elim⟩⟩,h4.trans (belowK_b (w:=w) (Jb _) W D _ _ (by omega) hK rfl rfl)⟩
  simp [results,Try.f53,go_sem,hc5]
end
section
open Go.RowKit
theorem check0_any (w:World)(N:Int)(p q r s:Option Addr)(ls cs la ca lf cf lp cp:Nat)(S:Nat→Int)(A:Nat→Ar)(F P:Nat→Int)(hS:Ints w p ls S)(hA:Arcs w q la A)(hF:Ints w r lf F)(hP:Ints w s lp P) :
  Calls Try.prog 32 #[.agg #[.int .i64 N,.slice p ls cs,.slice q la ca],.slice r lf cf,.slice s lp cp] w fun e w'=>∃ c,e=.returned (.int .i64 c)∧IsChk c N ls S la A lf F lp P∧Below w.heap.size w w':=by
 have hb0:Below w.heap.size w (w.alloc (.cells #[.int .i64 N,.slice p ls cs,.slice q la ca] 39)):=(Jd _ _).alloc (Jb _) _
 have A1:=veil (mayBe_any _ N p q ls cs la ca S A (hS.below hb0) (hA.below hb0))
 have H0:=veil hb0
 clear hb0
 go_enter Try.func32,Try.ntmps32
 go_wp2_with fail
 refine A1.out.mono ?_
 rintro e w1 ⟨⟨b,rfl,hbn⟩,hb1⟩
 have k:=at_new hb1
 have k0:=at_cells k 0
 have k1:=at_cells k 1
 have k2:=at_cells k 2
 simp only [Jg,Jf,Je] at k0 k1 k2
 have z1:w.heap.size<w1.heap.size:=(Ja.1 k).1
 have H1:=veil (Jc hbn (Jc (beyond H0.out hb1) k))
 clear hbn hb1 k A1
 cases b with
 | false =>
  go_wp2_with fail
  go_ret
  have hnot:¬ NetOk N ls S la A:=fun h=>absurd (H1.out.1.2 h) (by simp)
  exact ⟨8,rfl,⟨fun _=>rfl,fun h=>absurd h hnot,fun h=>absurd h hnot,fun h=>absurd h hnot⟩,H1.out.2.1⟩
 | true =>
  have hnet:NetOk N ls S la A:=H1.out.1.1 rfl
  have hN:=hnet.2.1
  subst hN
  have A2:=veil (isFlow_any w1 p q r ls cs la ca lf cf S A F hnet (hS.below H1.out.2.1) (hA.below H1.out.2.1) (hF.below H1.out.2.1))
  have Hn:=veil hnet
  have Hb1:=veil H1.out.2
  clear hnet H1
  go_wp2_with fail
  refine A2.out.mono ?_
  rintro e w2 ⟨⟨b,rfl,hbf⟩,hb2⟩
  have k:=(hb2.block _ z1).trans Hb1.out.2
  replace k0:=at_cells k 0
  replace k1:=at_cells k 1
  replace k2:=at_cells k 2
  simp only [Jg,Jf,Je] at k0 k1 k2
  have z2:w.heap.size<w2.heap.size:=(Ja.1 k).1
  have H2:=veil (Jc hbf (beyond Hb1.out.1 hb2))
  clear hbf hb2 k A2 Hb1
  cases b with
  | false =>
   go_wp2_with fail
   go_ret
   have hnot:¬ FlowOk ls S la A lf F:=fun h=>absurd (H2.out.1.2 h) (by simp)
   exact ⟨9,rfl,⟨fun h=>absurd Hn.out h,fun _ _=>rfl,fun _ h=>absurd h hnot,fun _ h=>absurd h hnot⟩,H2.out.2⟩
  | true =>
   have hfl:FlowOk ls S la A lf F:=H2.out.1.1 rfl
   have hlf:=hfl.1
   subst hlf
   have A3:=veil (show_any w2 p q r s ls cs lf ca cf lp cp S A F P Hn.out (hA.below H2.out.2) (hF.below H2.out.2) (hP.below H2.out.2))
   have Hf:=veil hfl
   have Hb2:=veil H2.out.2
   clear hfl H2
   go_wp2_with fail
   refine A3.out.mono ?_
   rintro e w3 ⟨⟨b,rfl,hbp⟩,hb3⟩
   have H3:=veil (Jc hbp (beyond Hb2.out hb3))
   clear hbp hb3 A3
   cases b with
   | false =>
    go_wp2_with fail
    go_ret
    have hnot:¬ PriceOk ls lf A F lp P:=fun h=>absurd (H3.out.1.2 h) (by simp)
    exact ⟨10,rfl,⟨fun h=>absurd Hn.out h,fun _ h=>absurd Hf.out h,fun _ _ _=>rfl,fun _ _ h=>absurd h hnot⟩,H3.out.2⟩
   | true =>
    have hpr:PriceOk ls lf A F lp P:=H3.out.1.1 (by simp)
    have Hp:=veil (Jc hpr H3.out.2)
    clear hpr H3
    go_wp2_with fail
    go_ret
    exact ⟨0,rfl,⟨fun h=>absurd Hn.out h,fun _ h=>absurd Hf.out h,fun _ _ h=>absurd Hp.out.1 h,fun _ _ _=>rfl⟩,Hp.out.2⟩
theorem check_any (w:World)(N:Int)(p q r s:Option Addr)(ls cs la ca lf cf lp cp:Nat)(S:Nat→Int)(A:Nat→Ar)(F P:Nat→Int)(hS:Ints w p ls S)(hA:Arcs w q la A)(hF:Ints w r lf F)(hP:Ints w s lp P) :
  Calls Try.prog 12 #[.agg #[.int .i64 N,.slice p ls cs,.slice q la ca],.slice r lf cf,.slice s lp cp] w fun e w'=>∃ c,e=.returned (.int .i64 c)∧IsChk c N ls S la A lf F lp P∧Below w.heap.size w w':=by
 have hb0:Below w.heap.size w (w.alloc (.cells #[.int .i64 N,.slice p ls cs,.slice q la ca] 39)):=(Jd _ _).alloc (Jb _) _
 have A1:=veil (check0_any _ N p q r s ls cs la ca lf cf lp cp S A F P (hS.below hb0) (hA.below hb0) (hF.below hb0) (hP.below hb0))
 have H0:=veil hb0
 clear hb0
 go_enter Try.func12,Try.ntmps12
 go_wp2_with fail
 refine A1.out.mono ?_
 rintro e w1 ⟨c,rfl,hc,hb1⟩
 go_wp2_with fail
 go_ret
 exact ⟨c,rfl,hc,beyond H0.out hb1⟩
end
end Go.Proofs.Ytjdindfjfpdikab
