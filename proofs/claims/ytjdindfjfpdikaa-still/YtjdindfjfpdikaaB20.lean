import Derived.Test.YtjdindfjfpdikaaB00
import Derived.Test.YtjdindfjfpdikaaB01
import Derived.Test.YtjdindfjfpdikaaB03
import Derived.Test.YtjdindfjfpdikaaB04
import Derived.Test.YtjdindfjfpdikaaB05
import Derived.Test.YtjdindfjfpdikaaB06
import Derived.Test.YtjdindfjfpdikaaB10
import Derived.Test.YtjdindfjfpdikaaPre
set_option maxRecDepth 100000
set_option maxHeartbeats 8000000
namespace Go.Proofs.Ytjdindfjfpdikaa
section
open Go.RowKit
def R0:RSt:=⟨[],[],[],[],[],[],[]⟩
theorem fit0:Fit R0:=by
 refine ⟨by simp [R0],by simp [R0],by simp [R0],by simp [R0],?_,?_,?_,?_,?_,?_,?_,rfl,rfl,?_,?_,?_,⟨?_,?_,?_,?_⟩⟩ <;> simp [R0,encP,KN]
theorem sim0:Sim [] [] [] [] R0:=⟨fit0,List.Perm.refl _,List.Perm.refl _,List.nodup_nil,rfl,fun a h=>absurd rfl h,(fun a n h=>by cases h),⟨List.nodup_nil,rfl,(fun a m h=>by cases h)⟩,(fun a m h=>by cases h)⟩
theorem PlanAt.move {w w':World}{pb b0 b1 b2 b3:Nat}{l0:Things}{l1:Runs}{l2:Waits}{l3:Prefs}(h:PlanAt w pb b0 b1 b2 b3 l0 l1 l2 l3)(hb:∀ b∈[pb,b0,b1,b2,b3],w'.heap[b]?=w.heap[b]?):PlanAt w' pb b0 b1 b2 b3 l0 l1 l2 l3 :=
 ⟨h.cells.move (hb pb (by simp)),h.m0.of_block (hb b0 (by simp)),h.m1.of_block (hb b1 (by simp)),h.m2.of_block (hb b2 (by simp)),h.m3.of_block (hb b3 (by simp)),h.ne⟩
theorem PlanAt.lts {w:World}{pb b0 b1 b2 b3:Nat}{l0:Things}{l1:Runs}{l2:Waits}{l3:Prefs}(h:PlanAt w pb b0 b1 b2 b3 l0 l1 l2 l3):∀ b∈[pb,b0,b1,b2,b3],b<w.heap.size:=by
 intro b hb
 simp only [List.mem_cons,List.not_mem_nil,or_false] at hb
 rcases hb with rfl | rfl | rfl | rfl | rfl
 ·exact h.lt
 ·exact h.m0.lt
 ·exact h.m1.lt
 ·exact h.m2.lt
 ·exact h.m3.lt
end
section
open Go.RowKit
theorem Only.mono {S T:List Nat}{w w':World}(h:Only S w w')(hs:∀ b∈S,b∈T):Only T w w':=⟨h.os,h.tape,h.output,h.size,fun k hk hn=>h.block k hk (fun hm=>hn (hs k hm))⟩
end
end Go.Proofs.Ytjdindfjfpdikaa
