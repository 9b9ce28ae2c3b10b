import Derived.Test.YtjdindfjfpdikabProg
import Derived.Below
import Derived.Deep.LoopGhost
import Derived.BigRegion
import Derived.BigQuiet
import Derived.Deep.QuietTactic
import Derived.Deep.RegionLaw
import Derived.Maps.AppendAt
import Derived.Deep.DeepCutAuto
import Derived.Test.YtjdindfjfpdikabB00
import Derived.Test.YtjdindfjfpdikabB02
import Derived.Test.YtjdindfjfpdikabPre
set_option maxRecDepth 100000
set_option maxHeartbeats 8000000
namespace Go.Proofs.Ytjdindfjfpdikab
section
open Go.RowKit
abbrev Th:=Int×Int×Int
abbrev Wi:=Int×Int×Int×Int
def cellsI (x:Int):List Value:=[.int .i64 x]
def RowAt {α:Type}(w:World)(e size:Nat)(enc:α→List Value)(v:Value)(xs:List α):Prop:=w.ownsRow 0 e size v xs.length (xs.flatMap enc)
theorem flatMap_at {α:Type}{enc:α→List Value}{size:Nat}(hs:∀ x,(enc x).length=size):∀ (xs:List α)(k c:Nat)(hk:k<xs.length),c<size→(xs.flatMap enc)[k*size+c]?=(enc xs[k])[c]?
 | [],_,_,hk,_=>by simp at hk
 | x :: xs,0,c,_,hc=>by
  rw [List.flatMap_cons,List.getElem?_append_left (by rw [hs]; omega)]
  simp
 | x :: xs,k+1,c,hk,hc=>by
  have ih:=flatMap_at hs xs k c (by simpa using hk) hc
  rw [List.flatMap_cons,List.getElem?_append_right (by rw [hs,Nat.add_mul]; omega),hs]
  rw [show (k+1)*size+c - size=k*size+c by rw [Nat.add_mul]; omega,ih]
  simp
theorem flatMap_length {α:Type}{enc:α→List Value}{size:Nat}(hs:∀ x,(enc x).length=size)(xs:List α):(xs.flatMap enc).length=xs.length*size:=by
 induction xs with
 | nil=>simp
 | cons x xs ih=>rw [List.flatMap_cons,Jo,ih,hs,List.length_cons,Nat.add_mul]; omega
theorem RowAt.shape {α:Type}{w:World}{e size:Nat}{enc:α→List Value}{v:Value}{xs:List α}(h:RowAt w e size enc v xs)(hs:∀ x,(enc x).length=size) :
  (v=.slice none 0 0∧xs=[])∨∃ g cap cur,v=.slice (some ⟨g,0,none⟩) xs.length cap∧w.heap[g]?=some (.cells cur e)∧g<w.heap.size∧xs.length≤cap∧cap≤maxLen ∧
   ∀ k c,(hk:k<xs.length)→c<size→w.cell? ⟨g,k*size+c,none⟩=(enc xs[k])[c]?∧w.frozen? ⟨g,k*size+c,none⟩=false:=by
 rcases h.2 with ⟨rfl,h0⟩ | ⟨g,cap,cur,rfl,_,hg,h1,h2,h3,h4⟩
 ·exact Jr ⟨rfl,List.eq_nil_of_length_eq_zero h0⟩
 ·refine Js ⟨g,cap,cur,rfl,hg,(Ja.1 hg).1,h1,h2,fun k c hk hc=>⟨?_,by simp [World.frozen?,hg]⟩⟩
  have e1:=flatMap_at hs xs k c hk hc
  have hlt:k*size+c<xs.length*size:=by
   have:(k+1)*size≤xs.length*size:=Nat.mul_le_mul_right size hk
   rw [Nat.add_mul] at this
   omega
  rw [← h4,List.getElem?_take_of_lt hlt,Array.getElem?_toList] at e1
  simp [World.cell?,hg,e1]
def posT (id:Int):List Th→Nat→Int
 | [],_=>-1
 | x :: r,i=>if x.1=id then (i:Int) else posT id r (i+1)
def atOf (id:Int)(xs:List Th):Int:=posT id xs 0
theorem posT_skip (id:Int):∀ (xs:List Th)(i k:Nat),k≤xs.length→(∀ j,(hj:j<xs.length)→j<k→xs[j].1≠id)→posT id xs i=posT id (xs.drop k) (i+k)
 | xs,i,0,_,_=>by simp
 | [],i,k+1,hk,_=>by simp at hk
 | x :: xs,i,k+1,hk,h=>by
  have h0:=h 0 (by simp) (by omega)
  have ih:=posT_skip id xs (i+1) k (by simpa using hk) (fun j hj hjk=>by have:=h (j+1) (by simpa using hj) (by omega); simpa using this)
  simp at h0
  rw [posT,if_neg h0,ih,List.drop_succ_cons]
  congr 1
  omega
theorem atOf_found {id:Int}{xs:List Th}{k:Nat}(hk:k<xs.length)(h:∀ j,(hj:j<xs.length)→j<k→xs[j].1≠id)(he:xs[k].1=id):atOf id xs=k:=by
 unfold atOf
 rw [posT_skip id xs 0 k (by omega) h,List.drop_eq_getElem_cons hk,posT,if_pos he]
 simp
theorem atOf_none {id:Int}{xs:List Th}(h:∀ j,(hj:j<xs.length)→xs[j].1≠id):atOf id xs=-1:=by
 unfold atOf
 rw [posT_skip id xs 0 xs.length (Jb _) (fun j hj _=>h j hj)]
 simp [posT]
end
section
open Go.RowKit
structure RSt where
 t0:List Th
 t1:List Th
 t2:List Th
 t3:List Th
 ws:List Wi
 on:List Int
 wt:List Int
theorem RowAt.kept {α:Type}{w w':World}{e size:Nat}{enc:α→List Value}{v:Value}{xs:List α}{row:Option Nat}(h:RowAt w e size enc v xs)(hg:w.grownBy w' row)(hne:v.ownBlock=none∨v.ownBlock≠row):RowAt w' e size enc v xs:=World.ownsRow.kept h hg hne
theorem RowAt.below {α:Type}{w w':World}{e size:Nat}{enc:α→List Value}{v:Value}{xs:List α}(h:RowAt w e size enc v xs)(hb:Below w.heap.size w w'):RowAt w' e size enc v xs:=h.kept (grown_of_below hb none) (by cases v.ownBlock <;> simp)
theorem RowAt.elem {α:Type}{w:World}{e size:Nat}{enc:α→List Value}{v:Value}{xs:List α}(h:RowAt w e size enc v xs){b:Nat}(hb:v.ownBlock=some b):∃ cur,w.heap[b]?=some (.cells cur e):=by
 rcases h.2 with ⟨rfl,_⟩ | ⟨g,cap,cur,rfl,_,hg,_⟩
 ·simp [Value.ownBlock] at hb
 ·simp [Value.ownBlock] at hb; subst hb; exact ⟨cur,hg⟩
theorem grown_setCell (w:World)(a:Addr)(v:Value):w.grownBy (w.setCell a v) (some a.block) :=
 ⟨rfl,rfl,rfl,by simp [World.setCell],fun k _ hk=>Below.heap_setCell w a v k (fun e=>hk (by rw [e]))⟩
theorem heap_setCell {w:World}{rb:Nat}{arr:Array Value}{e:TypeId}(h:w.heap[rb]?=some (.cells arr e))(i:Nat)(v:Value):(w.setCell ⟨rb,i,none⟩ v).heap[rb]?=some (.cells (arr.setIfInBounds i v) e):=by
 simp [World.setCell,Array.getElem?_modify,h]
theorem Only.of_grown' {S:List Nat}{w w':World}{row:Option Nat}(h:w.grownBy w' row)(hb:∀ b,row=some b→b∈S):Only S w w' :=
 ⟨h.os,h.tape,h.output,h.size,fun k hk hn=>h.block k hk (fun e=>hn (hb k e.symm))⟩
end
section
open Go.RowKit
def makeOf (there len most needs n least limit:Int)(ranged:Bool)(id:Int):Int :=
 if id<0∨99<id then 1 else if 0≤there then 2 else if most≤len then 3 else if needs<0 then 4 else if ranged=true∧(n<least∨limit<n) then 5 else 0
end
section
open Go.RowKit
section
variable {w:World}{rb:Nat}{x7 x8 x9 x10 x11:Value}{R:RSt}
theorem RowAt.setAt {xs:List Int}{g cap:Nat}(h:RowAt w 3 1 cellsI (.slice (some ⟨g,0,none⟩) xs.length cap) xs)(k:Nat)(n:Int):RowAt (w.setCell ⟨g,k,none⟩ (.int .i64 n)) 3 1 cellsI (.slice (some ⟨g,0,none⟩) (xs.set k n).length cap) (xs.set k n):=by
 rcases h.2 with ⟨hq,_⟩ | ⟨g',cap',cur,hv,hb,hg,h1,h2,h3,h4⟩
 ·cases hq
 ·cases hv
  refine ⟨flatMap_length (enc:=cellsI) (size:=1) (fun _=>rfl) _,.inr ⟨g,cap,cur.setIfInBounds k (.int .i64 n),rfl,hb,heap_setCell hg k _,by simpa using h1,h2,by simpa using h3,?_⟩⟩
  have e:∀ ys:List Int,ys.flatMap cellsI=ys.map (fun n=>Value.int .i64 n):=fun ys=>by
   induction ys with
   | nil=>rfl
   | cons y ys ih=>rw [List.flatMap_cons,ih]; rfl
  rw [e] at h4 ⊢
  rw [List.length_set,List.map_set,← h4,Array.toList_setIfInBounds,List.take_set]
end
end
section
open Go.RowKit
theorem Only.chain {S S':List Nat}{a b c:World}(h:Only S a b)(k:Only S' b c)(hs:∀ x∈S',x∈S∨a.heap.size≤x):Only S a c :=
 ⟨k.os.trans h.os,k.tape.trans h.tape,k.output.trans h.output,Nat.le_trans h.size k.size,fun i hi hn=>(k.block i (Jm hi h.size) (fun hm=>by
  rcases hs i hm with h1 | h1
  ·exact hn h1
  ·omega)).trans (h.block i hi hn)⟩
end
end Go.Proofs.Ytjdindfjfpdikab
