import Derived.RangeFuncNested
import Derived.RangeFuncBound
import Derived.RangeFuncCalls
import Derived.RangeFuncLeaves
import Derived.Shelf.Abstract
import Derived.Shelf.RegionOpen
import Derived.WalkKit
import Derived.OwnWalkIn
import Derived.TacticsInMore
import Derived.LoopNIn
import Derived.LoopIn
import Derived.Sort.CutIn
import Derived.Sort.QuietIn
import Derived.Test.YtjdindfjfpdikabB07
import Derived.Test.YtjdindfjfpdikabPre
set_option maxRecDepth 100000
set_option maxHeartbeats 8000000
namespace Go.Proofs.Ytjdindfjfpdikab
section
open Go.RowKit Go.Shelf
attribute [local go_sem] Oper.semAt_some
abbrev Op3 (ls:Nat):={ x:Int×Int×Int×Int×Int // (0≤x.1∧x.1<(ls:Int))∧(0≤x.2.1∧x.2.1<(ls:Int))∧(-10000≤x.2.2.1∧x.2.2.1≤10000) }
def encO {ls:Nat}(x:Op3 ls):Array Value:=#[.agg #[.int .i64 x.1.1,.int .i64 x.1.2.1,.int .i64 x.1.2.2.1,.int .i64 x.1.2.2.2.1,.int .i64 x.1.2.2.2.2]]
def forth {ls:Nat}(a:Ar)(i:Nat)(h:ArcOk ls a):Op3 ls:=⟨(a.f,a.t,a.k,(i:Int),1),h.1,h.2.1,h.2.2.2⟩
def back {ls:Nat}(a:Ar)(i:Nat)(h:ArcOk ls a):Op3 ls:=⟨(a.t,a.f,-a.k,(i:Int),-1),h.2.1,h.1,by have:=h.2.2.2; constructor <;> simp only <;> omega⟩
def IsOpen (la:Nat)(A:Nat→Ar)(F:Nat→Int)(x:Int×Int×Int×Int×Int):Prop:=∃ i,i<la∧((F i<(A i).c∧x=((A i).f,(A i).t,(A i).k,(i:Int),1))∨(0<F i∧x=((A i).t,(A i).f,-(A i).k,(i:Int),-1)))
def AllOpen (la:Nat)(A:Nat→Ar)(F:Nat→Int){ls:Nat}(ys:List (Op3 ls)):Prop:=∀ i,i<la→(F i<(A i).c→∃ y∈ys,y.1=((A i).f,(A i).t,(A i).k,(i:Int),1))∧(0<F i→∃ y∈ys,y.1=((A i).t,(A i).f,-(A i).k,(i:Int),-1))
def AreOpen (la:Nat)(A:Nat→Ar)(F:Nat→Int){ls:Nat}(ys:List (Op3 ls)):Prop:=∀ y∈ys,IsOpen la A F y.1
theorem AreOpen.more {la:Nat}{A:Nat→Ar}{F:Nat→Int}{ls:Nat}{ys:List (Op3 ls)}(h:AreOpen la A F ys){y:Op3 ls}(hy:IsOpen la A F y.1):AreOpen la A F (ys ++ [y]):=fun z hz=>(List.mem_append.1 hz).elim (h z) (fun e=>by rw [List.mem_singleton.1 e]; exact hy)
theorem AllOpen.more {la:Nat}{A:Nat→Ar}{F:Nat→Int}{ls:Nat}{ys:List (Op3 ls)}(h:AllOpen la A F ys)(y:Op3 ls):AllOpen la A F (ys ++ [y]):=fun i hi =>
 ⟨fun h1=>by obtain ⟨z,hz,e⟩:=(h i hi).1 h1; exact ⟨z,Ju _ hz,e⟩,fun h1=>by obtain ⟨z,hz,e⟩:=(h i hi).2 h1; exact ⟨z,Ju _ hz,e⟩⟩
def Said2 (e:Ending)(W:World)(p q:World→Prop):Prop:=∃ b,e=.returned (.bool b)∧Hid ((b=true→p W)∧(b=false→q W))
theorem Said2.of {e:Ending}{W:World}{p q:World→Prop}(h:(e=.returned (.bool true)∧p W)∨(e=.returned (.bool false)∧q W)):Said2 e W p q:=by
 rcases h with ⟨h1,h2⟩ | ⟨h1,h2⟩
 ·exact ⟨true,h1,fun _=>h2,fun e=>by cases e⟩
 ·exact ⟨false,h1,(fun e=>by cases e),fun _=>h2⟩
theorem grown_of_below' {w w':World}{row:Option Nat}(h:Below w.heap.size w w'):w.grownBy w' row:=⟨h.os,h.tape,h.output,h.size,fun k hk _=>h.block k hk⟩
theorem opens_in (n:Nat)(w:World)(N:Int)(p q r:Option Addr)(ls cs la ca lf cf:Nat) :
  CallsIn Fence.wide n Try.prog 57 #[.agg #[.int .i64 N,.slice p ls cs,.slice q la ca],.slice r lf cf] w fun e w'=>e=.returned (.func (.func 70) #[] #[.pointer (some ⟨w.heap.size,0,none⟩),.pointer (some ⟨w.heap.size+1,0,none⟩)])∧w'=(w.alloc (.cells #[.int .i64 N,.slice p ls cs,.slice q la ca] 39)).alloc (.cells #[.slice r lf cf] 22):=by
 refine callsIn_of_wp Try.func57 rfl trivial ?_ rfl
 simp only [Try.ntmps57,List.size_toArray,List.length_cons,List.length_nil,Nat.reduceAdd,Nat.reduceSub,Array.replicate_succ,Array.replicate_zero,List.push_toArray,List.append_toArray,List.nil_append,List.cons_append]
 gi_wp2
 go_ret
 exact ⟨rfl,rfl⟩
end
section
open Go.RowKit
def noDefer (o:Oper):Bool:=match o.op with | .defer _=>false | _=>true
theorem uponIn_round (F:Fence)(l n:Nat)(P:Program)(o:Oper)(a:Act)(K:Act→World→Prop)(Q:Exit→Act→World→Prop)(r:Result Next)(h:o.uponIn F n P a K Q r):o.uponIn (F.inRound l) n P a K Q r:=by
 cases r with
 | ok x w=>cases x <;> exact h
 | _=>exact h
theorem wpOpIn_round {F:Fence}{l n:Nat}{P:Program}{ops:Array Oper}{Q:Exit→Act→World→Prop}(hd:ops.all noDefer=true){i:Nat}{K:Act→World→Prop}{a:Act}{w:World}(h:wpOpIn F n P ops Q i K a w):wpOpIn (F.inRound l) n P ops Q i K a w:=by
 unfold wpOpIn at h ⊢
 cases ho:ops[i]? with
 | none=>rw [ho] at h; exact h
 | some o =>
  rw [ho] at h
  simp only at h ⊢
  have hnd:∀ c,o.op≠.defer c:=fun c e=>by
   have h1:o∈ops:=Array.mem_of_getElem? ho
   have h2:=Array.all_eq_true_iff_forall_mem.1 hd o h1
   unfold noDefer at h2
   rw [e] at h2
   cases h2
  split
  ·rename_i hw
   rw [if_pos hw] at h
   refine ⟨h.1,?_⟩
   rw [Oper.semAt_eq _ _ _ hnd]
   have h2:=h.2
   rw [Oper.semAt_eq _ _ _ hnd] at h2
   exact uponIn_round F l n P o a K Q _ h2
  ·rename_i hw
   rw [if_neg hw] at h
   exact h
theorem wpAnyIn_round {F:Fence}{l n:Nat}{P:Program}{md:Region.Mode}{ops:Array Oper}{Q:Exit→Act→World→Prop}(hd:ops.all noDefer=true):∀ (fuel:Nat)(listed:Array Bool)(a:Act)(w:World),wpAnyIn F n P md ops Q fuel listed a w→wpAnyIn (F.inRound l) n P md ops Q fuel listed a w
 | 0,_,_,_,h=>h
 | fuel+1,_,_,_,h=>⟨h.1,fun i hi=>wpOpIn_round hd (wpOpIn_mono (fun a' w' h'=>wpAnyIn_round hd fuel _ a' w' h') (h.2 i hi))⟩
theorem region_round {F:Fence}(hro:F.round=none){r n id:Nat}{P:Program}{Q:Exit→Act→World→Prop}{a:Act}{w:World}{l:List Oper}(hd:l.toArray.all noDefer=true)(hm:P.follows .mixedOrders=true)(hB:Region.lexB .any l.toArray=true)
  (h:wpQuietIn F n P l.toArray (fun w'=>∃ n,w'=w.drewN n) (fun a'=>∀ w',(∃ n,w'=w.drewN n)→Q .normal a' w') l a):(Code.region id l.toArray true).wpIn (F.inRound r) n P Q a w:=by
 simp only [Region.lexB,Bool.and_eq_true] at hB
 refine wpIn_region_any hm (wpAnyIn_round hd _ _ _ _ (wpAnyIn_of_quiet (C:=fun w'=>∃ n,w'=w.drewN n) (Q:=fun a'=>∀ w',(∃ n,w'=w.drewN n)→Q .normal a' w') hro (fun _ w' hw' h=>h w' hw') _ _ _ _ ⟨1,rfl⟩ ?_))
 have:=wpAnyQIn_lex (F:=F) (n:=n) (P:=P) (C:=fun w'=>∃ n,w'=w.drewN n) (md:=.any) hB.1 l.toArray.toList 0 (Array.replicate l.toArray.size false) a (by simp) (by simpa using hB.2) (by simpa using h)
 simpa using this
end
section
open Go.RowKit Go.Shelf
attribute [local go_sem] Oper.semAt_some
theorem keeps_drewN (W:World)(n:Nat):KeepsOthers W (W.drewN n):=⟨Jb _,fun _ _ h _=>h⟩
theorem below_drewN {B n:Nat}{w W:World}(h:Below B w W):Below B w (W.drewN n):=⟨h.os,h.tape,h.output,h.size,h.block⟩
end
end Go.Proofs.Ytjdindfjfpdikab
