import Derived.Deep.LoopGhost
import Derived.Deep.QuietTactic
import Derived.BigQuiet
import Derived.Test.YtjdindfjfpdikabB03
import Derived.Test.YtjdindfjfpdikabPre
set_option maxRecDepth 100000
set_option maxHeartbeats 8000000
namespace Go.Proofs.Ytjdindfjfpdikab
section
open Go.RowKit
def isW (t k i:Int)(x:Wi):Bool:=decide (x.1=t) && (decide (x.2.1=k) && decide (x.2.2.1=i))
def putW (t k i c:Int):List Wi→List Wi
 | []=>[(t,k,i,c)]
 | x :: r=>if isW t k i x then (x.1,x.2.1,x.2.2.1,c) :: r else x :: putW t k i c r
end
section
open Go.RowKit
theorem atOf_some {id:Int}{xs:List Th}(h:0≤atOf id xs):∃ k,∃ hk:k<xs.length,atOf id xs=k∧xs[k].1=id:=by
 have key:∀ (xs:List Th) (i:Nat),0≤posT id xs i→∃ k,∃ hk:k<xs.length,posT id xs i=((i+k:Nat):Int)∧xs[k].1=id:=by
  intro xs
  induction xs with
  | nil=>intro i h; simp [posT] at h
  | cons x r ih =>
   intro i h
   unfold posT at h ⊢
   by_cases hx:x.1=id
   ·exact ⟨0,by simp,by simp [hx],by simpa using hx⟩
   ·rw [if_neg hx] at h ⊢
    obtain ⟨k,hk,e,he⟩:=ih (i+1) h
    exact ⟨k+1,by simpa using hk,by rw [e]; congr 1; omega,by simpa using he⟩
 obtain ⟨k,hk,e,he⟩:=key xs 0 h
 exact ⟨k,hk,by unfold atOf; rw [e,Nat.zero_add],he⟩
end
section
open Go.RowKit
def mineW (t m r:Int)(x:Wi):Bool:=decide (x.1=t) && ((decide (x.2.1=1) && decide (x.2.2.1=m)) || (decide (x.2.1=0) && decide (x.2.2.1=r)))
def lessW (t m r:Int)(c:Int)(x:Wi):Int:=if mineW t m r x=true∧x.2.2.2<c then x.2.2.2 else c
def minW (t m r c:Int)(ws:List Wi):Int:=ws.foldl (lessW t m r) c
end
section
open Go.RowKit
def mvR (o m:Int):Int:=if 0≤o∧o≠m then 50 else 0
theorem mvR_bound (o m:Int):0≤mvR o m∧mvR o m≤50:=by unfold mvR; split <;> omega
theorem lessW_bound {t m r c:Int}{x:Wi}(hc:0≤c∧c≤1000)(hx:0≤x.2.2.2):0≤lessW t m r c x∧lessW t m r c x≤1000:=by
 unfold lessW
 split
 ·rename_i h; have:=h.2; omega
 ·exact hc
theorem minW_bound {t m r:Int}:∀ {ws:List Wi}{c:Int},0≤c∧c≤1000→(∀ x∈ws,0≤x.2.2.2)→0≤minW t m r c ws∧minW t m r c ws≤1000
 | [],c,hc,_=>hc
 | x :: ws,c,hc,h=>by
  have h1:=lessW_bound (t:=t) (m:=m) (r:=r) hc (h x Jp)
  exact minW_bound (ws:=ws) h1 (fun y hy=>h y (Jk _ hy))
end
end Go.Proofs.Ytjdindfjfpdikab
