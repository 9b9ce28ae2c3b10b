import Derived.Test.YtjdindfjfpdikabB00
import Derived.Test.YtjdindfjfpdikabB01
import Derived.Test.YtjdindfjfpdikabB03
import Derived.Test.YtjdindfjfpdikabB04
import Derived.Test.YtjdindfjfpdikabB05
import Derived.Test.YtjdindfjfpdikabB06
import Derived.Test.YtjdindfjfpdikabB10
import Derived.Test.YtjdindfjfpdikabPre
set_option maxRecDepth 100000
set_option maxHeartbeats 8000000
namespace Go.Proofs.Ytjdindfjfpdikab
section
open Go.RowKit
def R0:RSt:=⟨[],[],[],[],[],[],[]⟩
theorem fit0:Fit R0:=by
 refine ⟨by simp [R0],by simp [R0],by simp [R0],by simp [R0],?_,?_,?_,?_,?_,?_,?_,rfl,rfl,?_,?_,?_,⟨?_,?_,?_,?_⟩⟩ <;> simp [R0,encP,KN]
theorem sim0:Sim [] [] [] [] R0:=⟨fit0,List.Perm.refl _,List.Perm.refl _,List.nodup_nil,rfl,fun a h=>absurd rfl h,(fun a n h=>by cases h),⟨List.nodup_nil,rfl,(fun a m h=>by cases h)⟩,(fun a m h=>by cases h)⟩
theorem PlanAt.move {w w':World}{pb b0 b1 b2 b3:Nat}{l0:Things}{l1:Runs}{l2:Waits}{l3:Prefs}(h:PlanAt w pb b0 b1 b2 b3 l0 l1 l2 l3)(hb:∀ b∈[pb,b0,b1,b2,b3],w'.heap[b]?=w.heap[b]?):PlanAt w' pb b0 b1 b2 b3 l0 l1 l2 l3 :=
 ⟨h.cells.move (hb pb (by simp)),h.m0.of_block (hb b0 (by simp)),h.m1.of_block (hb b1 (by simp)),h.m2.of_block (hb b2 (by simp)),h.m3.of_block (hb b3 (by simp)),h.ne⟩
theorem PlanAt.lts {w:World}{pb b0 b1 b2 b3:Nat}{l0:Things}{l1:Runs}{l2:Waits}{l3:Prefs}(h:PlanAt w pb b0 b1 b2 b3 l0 l1 l2 l3):∀ b∈[pb,b0,b1,b2,b3],b<w.heap.size:=by
 intro b hb
 simp only [List.mem_cons,List.not_mem_nil,or_false] at hb
 rcases hb with rfl | rfl | rfl | rfl | rfl
 ·exact h.lt
 ·exact h.m0.lt
 ·exact h.m1.lt
 ·exact h.m2.lt
 ·exact h.m3.lt
end
section
open Go.RowKit
theorem Only.mono {S T:List Nat}{w w':World}(h:Only S w w')(hs:∀ b∈S,b∈T):Only T w w':=⟨h.os,h.tape,h.output,h.size,fun k hk hn=>h.block k hk (fun hm=>hn (hs k hm))⟩
end
section
open Go.RowKit
theorem ownsRow_mv {w w':World}{base size n:Nat}{e:TypeId}{v:Value}{xs:List Value}(h:w.ownsRow base e size v n xs)(hb:∀ b,v.ownBlock=some b→w'.heap[b]?=w.heap[b]?):w'.ownsRow base e size v n xs:=by
 refine ⟨h.1,?_⟩
 rcases h.2 with h2 | ⟨g,cap,cur,hv,h0,hg,hr⟩
 ·exact Jr h2
 ·exact Js ⟨g,cap,cur,hv,h0,(hb g (by rw [hv]; rfl)).trans hg,hr⟩
structure ShowOk (N c:Int)(sup:List Int)(arcs:List Ar)(fl pr:List Int):Prop where
 pos:1≤N
 net:NetOk N sup.length (fun i=>sup.getD i 0) arcs.length (fun i=>arcs.getD i ⟨0,0,0,0⟩)
 flow:FlowOk sup.length (fun i=>sup.getD i 0) arcs.length (fun i=>arcs.getD i ⟨0,0,0,0⟩) fl.length (fun i=>fl.getD i 0)
 price:PriceOk N arcs.length (fun i=>arcs.getD i ⟨0,0,0,0⟩) (fun i=>fl.getD i 0) pr.length (fun i=>pr.getD i 0)
 cost:cost (fun i=>arcs.getD i ⟨0,0,0,0⟩) (fun i=>fl.getD i 0) arcs.length=c
structure Shw (w:World)(S:List Nat)(pb:Nat)(x7 x8 x9 x10 x11 s1 s2 s3 s4:Value)(N c:Int)(sup:List Int)(arcs:List Ar)(fl pr:List Int):Prop where
 cells:∃ b0 b1 b2 b3,w.heap[pb]?=some (.cells #[.map (some b0),.map (some b1),.map (some b2),.map (some b3),.int .i64 N,s1,s2,s3,s4] 74)
 e7:x7=.int .i64 c
 e9:x9=.int .i64 N
 r1:NRow 0 w s1 sup
 r2:ARow 0 w s2 arcs
 r3:NRow 0 w s3 fl
 r4:NRow 0 w s4 pr
 rsup:NRow 0 w x10 sup
 rarcs:ARow 0 w x11 arcs
 inS:∀ v∈[s1,s2,s3,s4,x10,x11],∀ b,v.ownBlock=some b→b∈S
 lt:∀ b∈S,b<w.heap.size
 len:sup.length≤1000∧arcs.length≤1000∧fl.length≤1000∧pr.length≤1000
 said:(x8=.bool false∧N=0∧arcs=[]∧fl=[]∧pr=[])∨(x8=.bool true∧ShowOk N c sup arcs fl pr)
end
end Go.Proofs.Ytjdindfjfpdikab
