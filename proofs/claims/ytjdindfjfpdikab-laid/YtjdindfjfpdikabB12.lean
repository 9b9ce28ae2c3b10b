import Derived.Test.YtjdindfjfpdikabB10
import Derived.Test.YtjdindfjfpdikabPre
set_option maxRecDepth 100000
set_option maxHeartbeats 8000000
namespace Go.Proofs.Ytjdindfjfpdikab
section
open Go.RowKit
def supF (R:RSt):Nat→Int:=fun i=>if nodeR R 3 0≤(i:Int) then 1 else 0
def rackA (R:RSt)(l:List Int):List Ar:=l.map (fun id=>⟨0,nodeR R 0 id.toNat,1000,0⟩)
def machA (R:RSt)(id:Int):List Ar:=[⟨nodeR R 0 (R.t1.getD (atOf id R.t1).toNat (0,0,0)).2.1.toNat,nodeR R 1 id.toNat,(R.t1.getD (atOf id R.t1).toNat (0,0,0)).2.2,0⟩,⟨nodeR R 1 id.toNat,1,(R.t1.getD (atOf id R.t1).toNat (0,0,0)).2.2,0⟩]
def machL (R:RSt)(l:List Int):List Ar:=l.flatMap (machA R)
def jobA (R:RSt)(l:List Int):List Ar:=l.map (fun id=>⟨nodeR R 2 id.toNat,1,16,0⟩)
def taskL (R:RSt)(l:List Int):List Ar:=l.flatMap (fun id=>leafR R (atOf id R.t3).toNat id.toNat)
theorem ARow.sl {b0:Nat}{w:World}{v:Value}{xs:List Ar}(h:ARow b0 w v xs):∃ p c,v=.slice p xs.length c:=by
 rcases h.2 with ⟨e1,e2⟩ | ⟨g,cap,cur,e1,_⟩
 ·exact ⟨none,0,by rw [e1,e2]⟩
 ·exact ⟨_,_,e1⟩
theorem machL_len {R:RSt}:∀ (l:List Int),(machL R l).length=2*l.length
 | []=>rfl
 | a :: l=>by
  have h1:=machL_len (R:=R) l
  unfold machL at h1 ⊢
  rw [List.flatMap_cons,Jo,h1,List.length_cons]
  simp [machA]
  omega
def netR (R:RSt):List Ar:=rackA R (idsR R 0 100) ++ machL R (idsR R 1 100) ++ jobA R (idsR R 2 100) ++ taskL R (idsR R 3 100)
theorem leafUp_len (R:RSt)(fr t mo:Int):∀ m,(leafUp R fr t mo m).length≤100*m
 | 0=>by simp [leafUp]
 | m+1=>by
  have h1:=leafUp_len R fr t mo m
  have h2:=leafK_len (R:=R) (fr:=fr) (t:=t) (mo:=mo) (kd:=1 - m) (idsR R (1 - m) 100)
  have h3:=ids_length R (1 - m) 100
  show (leafUp R fr t mo m ++ leafK R fr t mo (1 - m) (idsR R (1 - m) 100)).length≤_
  rw [Jo]
  omega
theorem leafR_len (R:RSt)(i id:Nat):(leafR R i id).length≤300:=by
 have h1:=leafUp_len R (nodeR R 3 id) id (moreR (R.on.getD i (-1))) 2
 have h2:(leafRun R i (nodeR R 3 id) (R.on.getD i (-1))).length≤1:=by unfold leafRun; split <;> simp
 unfold leafR
 rw [Jo,Jo,Jo,List.length_singleton,List.length_singleton]
 omega
theorem taskL_len (R:RSt):∀ (l:List Int),(taskL R l).length≤300*l.length
 | []=>by simp [taskL]
 | a :: l=>by
  have h1:=taskL_len R l
  have h2:=leafR_len R (atOf a R.t3).toNat a.toNat
  unfold taskL at h1 ⊢
  rw [List.flatMap_cons,Jo,List.length_cons]
  omega
end
end Go.Proofs.Ytjdindfjfpdikab
