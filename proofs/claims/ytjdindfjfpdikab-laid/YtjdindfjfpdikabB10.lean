import Derived.Deep.RegionHeld
import Derived.Deep.LoopGhost
import Derived.Deep.QuietTactic
import Derived.BigQuiet
import Derived.Test.YtjdindfjfpdikabB03
import Derived.Test.YtjdindfjfpdikabB04
import Derived.Test.YtjdindfjfpdikabB09
import Derived.Test.YtjdindfjfpdikabPre
set_option maxRecDepth 100000
set_option maxHeartbeats 8000000
namespace Go.Proofs.Ytjdindfjfpdikab
section
open Go.RowKit
structure RunFit (R:RSt):Prop where
 len1:R.t1.length≤8
 len2:R.t2.length≤4
 len3:R.t3.length≤16
 id1:∀ x∈R.t1,0≤x.1∧x.1≤99
 at1:∀ k,(hk:k<R.t1.length)→atOf R.t1[k].1 R.t1=k
 sl:∀ x∈R.t1,1≤x.2.2∧x.2.2≤4
 job:∀ i,(hi:i<R.t3.length)→∃ j:Nat,j<R.t2.length∧atOf R.t3[i].2.1 R.t2=j
 n2:∀ x∈R.t2,0≤x.2.2∧x.2.2≤1000
 n3:∀ x∈R.t3,0≤x.2.2∧x.2.2≤1000
 ws:∀ x∈R.ws,0≤x.2.2.2
 lw:R.ws.length≤1000000
 lo:R.on.length=R.t3.length
 wl:R.wt.length=R.t3.length
 wt:∀ n∈R.wt,0≤n∧n≤100
def cR (R:RSt)(i k:Nat):Int :=
 if k<R.t1.length then minW (R.t3.getD i (0,0,0)).1 (R.t1.getD k (0,0,0)).1 (R.t1.getD k (0,0,0)).2.1 (R.t3.getD i (0,0,0)).2.2 R.ws+mvR (R.on.getD i (-1)) (R.t1.getD k (0,0,0)).1
 else (R.t2.getD (atOf (R.t3.getD i (0,0,0)).2.1 R.t2).toNat (0,0,0)).2.2+R.wt.getD i 0+mvR (R.on.getD i (-1)) (-1)
theorem getD_at {α:Type}{l:List α}{i:Nat}(h:i<l.length)(d:α):l.getD i d=l[i]:=by simp [List.getD,List.getElem?_eq_getElem h]
theorem cR_bound {R:RSt}(hf:RunFit R){i k:Nat}(hi:i<R.t3.length):0≤cR R i k∧cR R i k≤1150:=by
 unfold cR
 split
 ·have h1:=mvR_bound (R.on.getD i (-1)) (R.t1.getD k (0,0,0)).1
  have h2:=minW_bound (t:=(R.t3.getD i (0,0,0)).1) (m:=(R.t1.getD k (0,0,0)).1) (r:=(R.t1.getD k (0,0,0)).2.1) (ws:=R.ws) (c:=(R.t3.getD i (0,0,0)).2.2) (by rw [getD_at hi]; exact hf.n3 _ (Jl hi)) hf.ws
  omega
 ·obtain ⟨j,hj,ej⟩:=hf.job i hi
  have h1:=mvR_bound (R.on.getD i (-1)) (-1)
  rw [getD_at hi,ej,Jn,getD_at hj,getD_at (show i<R.wt.length by rw [hf.wl]; exact hi)]
  have h2:=hf.n2 _ (Jl hj)
  have h3:=hf.wt _ (Jl (show i<R.wt.length by rw [hf.wl]; exact hi))
  omega
def NRow (b0:Nat)(w:World)(v:Value)(xs:List Int):Prop:=w.ownsRow b0 3 1 v xs.length (xs.flatMap cellsI)
theorem NRow.row {b0:Nat}{w:World}{v:Value}{xs:List Int}(h:NRow b0 w v xs):RowAt w 3 1 cellsI v xs:=by
 refine ⟨h.1,?_⟩
 rcases h.2 with h2 | ⟨g,cap,cur,hv,_,hr⟩
 ·exact Jr h2
 ·exact Js ⟨g,cap,cur,hv,Jq _,hr⟩
theorem NRow.base {b0:Nat}{w:World}{v:Value}{xs:List Int}(h:NRow b0 w v xs):∀ b,v.ownBlock=some b→b0≤b:=fun b e=>(World.ownsRow.lt h b e).1
theorem NRow.of {b0:Nat}{w:World}{v:Value}{xs:List Int}(h:RowAt w 3 1 cellsI v xs)(hb:∀ b,v.ownBlock=some b→b0≤b):NRow b0 w v xs:=by
 refine ⟨h.1,?_⟩
 rcases h.2 with h2 | ⟨g,cap,cur,hv,_,hr⟩
 ·exact Jr h2
 ·exact Js ⟨g,cap,cur,hv,hb g (by rw [hv]; rfl),hr⟩
theorem NRow.nil (b0:Nat)(w:World):NRow b0 w (.slice none 0 0) []:=World.ownsRow_nil _ _ _ _
theorem NRow.below {b0:Nat}{w w':World}{v:Value}{xs:List Int}(h:NRow b0 w v xs)(hb:Below w.heap.size w w'):NRow b0 w' v xs:=NRow.of (h.row.below hb) h.base
theorem NRow.kept {b0:Nat}{w w':World}{v:Value}{xs:List Int}{row:Option Nat}(h:NRow b0 w v xs)(hg:w.grownBy w' row)(hne:v.ownBlock=none∨v.ownBlock≠row):NRow b0 w' v xs:=World.ownsRow.kept h hg hne
theorem infoN3:(Try.prog.info? 3).map (fun i=>(i.zero,i.size,i.bytes))=some (some (.int .i64 0),1,8):=by kernel_rfl
theorem wpList_push {ops:Array Oper}{rest:List Oper}{o:Oper}{a:Act}{Q:Exit→Act→World→Prop}(W:World)(b0:Nat)(x:Int)(v:Value)(xs:List Int)(hgd:o.guard=none)(sO xO:Operand)
  (hop:o.op=Op.call { callee:=Callee.builtin Builtin.append,args:=#[sO,xO],argTypes:=#[22,22] }) (hs:a.eval sO=v) (hr:NRow b0 W v xs) (ad:Nat) (had:a.eval xO=.slice (some ⟨ad,0,none⟩) 1 1)
  (hc:W.cell? ⟨ad,0,none⟩=some (.int .i64 x)) (hb:b0≤W.heap.size) (hl:xs.length≤1000000)
  (hK:∀ (v':Value) (w':World),NRow b0 w' v' (xs ++ [x])→W.grownBy w' v.ownBlock→(v'.ownBlock=v.ownBlock∨v'.ownBlock=some W.heap.size)→wpList Try.prog ops Q rest (a.put o.dst v') w') :
  wpList Try.prog ops Q (o :: rest) a W:=by
 obtain ⟨i3,hi3,hy0,hy1,hy2⟩:=info_parts infoN3
 refine wpList_append_own_at W hgd sO xO 22 hop b0 3 i3 (.int .i64 0) 1 8 Try.underlying22 hi3 hy0 hy1 hy2 rfl (by decide) v xs.length (xs.flatMap cellsI) hs hr ⟨ad,0,none⟩ 1 1 [.int .i64 x] had rfl ?_ ?_ (by unfold maxLen; omega) (by omega) hb ?_
 ·intro j u hj
  have:j=0:=by
   have:=(List.getElem?_eq_some_iff.1 hj).1
   simp at this; exact this
  subst this
  simp at hj
  subst hj
  exact hc
 ·intro u hu
  simp at hu
  subst hu
  rfl
 ·intro u w' hrow hg _ hloc
  refine hK u w' ?_ hg hloc
  unfold NRow
  simpa [cellsI] using hrow
end
section
open Go.RowKit
def intL (n:Nat)(f:Nat→Int):List Int:=(List.range n).map f
theorem intL_length (n:Nat)(f:Nat→Int):(intL n f).length=n:=by simp [intL]
theorem intL_get {n i:Nat}{f:Nat→Int}(h:i<(intL n f).length):(intL n f)[i]=f i:=by simp [intL]
theorem intL_push (n:Nat)(f:Nat→Int):intL n f ++ [f n]=intL (n+1) f:=by simp [intL,List.range_succ]
theorem sumN_upd {f:Nat→Int}{k:Nat}{x:Int}:∀ {n:Nat},k<n→sumN (updI f k x) n=sumN f n - f k+x
 | 0,h=>by omega
 | n+1,h=>by
  simp only [sumN]
  by_cases e:n=k
  ·subst e
   rw [sumN_congr (g:=updI f n x) (h:=f) (fun i hi=>by simp [updI,show i≠n by omega])]
   simp only [updI,if_true]
   omega
  ·rw [sumN_upd (n:=n) (by omega)]
   simp only [updI,if_neg e]
   omega
theorem wrap_mid {y:Int}(h0:-1000000≤y)(h1:y≤1000000):IntKind.i64.wrap y=y:=by
 show (if (true && decide (y % 18446744073709551616 ≥ 9223372036854775808))=true then y % 18446744073709551616 - 18446744073709551616 else y % 18446744073709551616)=y
 by_cases h:y % 18446744073709551616 ≥ 9223372036854775808
 ·rw [if_pos (by simpa using h)]; omega
 ·rw [if_neg (by simpa using h)]; omega
end
section
open Go.RowKit
def tkR (R:RSt):Nat→List Th
 | 0=>R.t0
 | 1=>R.t1
 | 2=>R.t2
 | _=>R.t3
def hasT (R:RSt)(k:Nat)(id:Nat):Bool:=decide (0≤atOf (id:Int) (tkR R k))
def idsR (R:RSt)(k n:Nat):List Int:=((List.range n).filter (hasT R k)).map (fun (j:Nat)=>(j:Int))
theorem ids_succ_yes {R:RSt}{k n:Nat}(h:0≤atOf (n:Int) (tkR R k)):idsR R k (n+1)=idsR R k n ++ [(n:Int)]:=by
 have:hasT R k n=true:=by unfold hasT; simpa using h
 simp [idsR,List.range_succ,List.filter_append,this]
theorem ids_succ_no {R:RSt}{k n:Nat}(h:¬ 0≤atOf (n:Int) (tkR R k)):idsR R k (n+1)=idsR R k n:=by
 have:hasT R k n=false:=by unfold hasT; simpa using h
 simp [idsR,List.range_succ,List.filter_append,this]
theorem ids_length (R:RSt)(k n:Nat):(idsR R k n).length≤n:=by
 have:=List.length_filter_le (hasT R k) (List.range n)
 simp [idsR] at this ⊢
 exact this
def lensR (R:RSt):Nat→Nat
 | 0=>0
 | k+1=>lensR R k+(tkR R k).length
def nodeR (R:RSt)(k n:Nat):Int:=2+(lensR R k:Int)+((idsR R k n).length:Int)
structure Lens (R:RSt):Prop where
 t0:R.t0.length≤1000
 t1:R.t1.length≤1000
 t2:R.t2.length≤1000
 t3:R.t3.length≤1000
end
section
open Go.RowKit
def isWi (t k id:Int)(x:Wi):Bool:=decide (x.1=t) && (decide (x.2.1=k) && decide (x.2.2.1=id))
def wishR (R:RSt)(t k id:Int):Option Int:=(R.ws.find? (isWi t k id)).map (fun x=>x.2.2.2)
def cellsAr (a:Ar):List Value:=[.int .i64 a.f,.int .i64 a.t,.int .i64 a.c,.int .i64 a.k]
def ARow (b0:Nat)(w:World)(v:Value)(xs:List Ar):Prop:=w.ownsRow b0 50 4 v xs.length (xs.flatMap cellsAr)
theorem ARow.nil (b0:Nat)(w:World):ARow b0 w (.slice none 0 0) []:=World.ownsRow_nil _ _ _ _
theorem ARow.kept {b0:Nat}{w w':World}{v:Value}{xs:List Ar}{row:Option Nat}(h:ARow b0 w v xs)(hg:w.grownBy w' row)(hne:v.ownBlock=none∨v.ownBlock≠row):ARow b0 w' v xs:=World.ownsRow.kept h hg hne
theorem ARow.below {b0:Nat}{w w':World}{v:Value}{xs:List Ar}(h:ARow b0 w v xs)(hb:Below w.heap.size w w'):ARow b0 w' v xs:=h.kept (grown_of_below hb none) (by cases v.ownBlock <;> simp)
theorem ARow.base {b0:Nat}{w:World}{v:Value}{xs:List Ar}(h:ARow b0 w v xs):∀ b,v.ownBlock=some b→b0≤b:=fun b e=>(World.ownsRow.lt h b e).1
theorem infoR91:(Try.prog.info? 50).map (fun i=>(i.zero,i.size,i.bytes))=some (some (.agg #[.int .i64 0,.int .i64 0,.int .i64 0,.int .i64 0]),4,32):=by kernel_rfl
theorem step_app {P:Program}{ops:Array Oper}{o:Oper}{a:Act}{w:World}{K:Act→World→Prop}{Q:Exit→Act→World→Prop}{E:Prop}(hgd:o.guard=none)(s x:Operand)(t:TypeId)
  (hop:o.op=.call { callee:=.builtin .append,args:=#[s,x],argTypes:=#[t,t] })
  (base:Nat) (e:TypeId) (i:TypeInfo) (z:Value) (size bytes:Nat) (ht:P.underlying t=some (.slice e)) (hi:P.info? e=some i) (hz:i.zero=some z)
  (hsize:i.size=size) (hby:i.bytes=bytes) (hzs:z.cells.size=size) (hsz:0<size)
  (v:Value) (n:Nat) (xs:List Value) (hs:a.eval s=v) (hown:w.ownsRow base e size v n xs)
  (ad:Addr) (m c:Nat) (news:List Value) (hx:a.eval x=.slice (some ad) m c) (hl:news.length=m*size) (hnews:∀ j u,news[j]?=some u→w.cell? (ad.add j)=some u) (h1:∀ u∈news,u.oneCell'=true)
  (h63:n+m≤maxLen) (hbytes:(n+m)*bytes≤140737488355328) (hbase:base≤w.heap.size)
  (h:∀ v' w',w'.ownsRow base e size v' (n+m) (xs ++ news)→w.grownBy w' v.ownBlock→(v'.ownBlock=v.ownBlock∨v'.ownBlock=some w.heap.size)→K (a.put o.dst v') w') :
  if Region.wanted o (yielded ops a.tmps)=true then Oper.wp P o a w K Q else E:=by
 have hw:Region.wanted o (yielded ops a.tmps)=true:=by simp [Region.wanted,hgd]
 rw [if_pos hw]
 obtain ⟨v',w',hr,h2,h3,_,h5⟩:=run_append_own_at (P:=P) w base t o.type e i z size bytes ht hi hz hsize hby hzs hsz v n xs hown ad m c news hl hnews h1 h63 hbytes hbase
 unfold Oper.wp execOp
 simp only [hop,resolve,invoke,builtin,Sem.run_bind,Sem.run_pure,Result.andThen_ok,List.map_toArray,List.map_cons,List.map_nil,hs,hx,hr]
 exact h v' w' h2 h3 h5
theorem ARow.elem {b0:Nat}{w:World}{v:Value}{xs:List Ar}(h:ARow b0 w v xs){b:Nat}(e:v.ownBlock=some b):∃ cur,w.heap[b]?=some (.cells cur 50):=by
 rcases h.2 with ⟨rfl,_⟩ | ⟨g,cap,cur,rfl,_,hg,_⟩
 ·cases e
 ·cases e; exact ⟨cur,hg⟩
theorem new4R (w:World)(x y z u:Value)(t:TypeId):∀ (j:Nat)(q:Value),[x,y,z,u][j]?=some q→(w.alloc (.cells #[x,y,z,u] t)).cell? ((⟨w.heap.size,0,none⟩:Addr).add j)=some q:=by
 intro j q hj
 rw [Addr.add_lit,Nat.zero_add]
 simp only [World.cell?,heap_alloc_new]
 simpa using hj
theorem ARow.snoc {b0:Nat}{w:World}{v:Value}{xs:List Ar}{a:Ar}(h:w.ownsRow b0 50 4 v (xs.length+1) (xs.flatMap cellsAr ++ [.int .i64 a.f,.int .i64 a.t,.int .i64 a.c,.int .i64 a.k])):ARow b0 w v (xs ++ [a]):=by
 unfold ARow
 simpa [cellsAr,List.flatMap_append] using h
end
section
open Go.RowKit
def sR (R:RSt)(k:Nat):Nat:=(R.t1.getD k (0,0,0)).2.2.toNat
theorem below_drawnR {B n:Nat}{w W:World}(h:Below B w W):Below B w (W.drewN n):=⟨h.os,h.tape,h.output,h.size,h.block⟩
end
section
open Go.RowKit
structure NetFit (R:RSt):Prop where
 run:RunFit R
 len:Lens R
 id2:∀ x∈R.t2,0≤x.1∧x.1≤99
 on:∀ i,(hi:i<R.on.length)→R.on[i]=-1∨∃ k,∃ hk:k<R.t1.length,R.on[i]=R.t1[k].1
 ws:∀ x∈R.ws,x.2.2.2≤1000
def moreR (o:Int):Int:=if 0≤o then 50 else 0
def leafW (R:RSt)(fr t mo:Int)(kd:Nat)(id:Int):List Ar:=match wishR R t kd id with
 | some c=>[⟨fr,nodeR R kd id.toNat,1,c+mo⟩]
 | none=>[]
def leafK (R:RSt)(fr t mo:Int)(kd:Nat)(l:List Int):List Ar:=l.flatMap (leafW R fr t mo kd)
def leafUp (R:RSt)(fr t mo:Int):Nat→List Ar
 | 0=>[]
 | m+1=>leafUp R fr t mo m ++ leafK R fr t mo (1 - m) (idsR R (1 - m) 100)
def leafRun (R:RSt)(i:Nat)(fr o:Int):List Ar:=if 0≤o then [⟨fr,nodeR R 1 o.toNat,1,cR R i (atOf o R.t1).toNat⟩] else []
def leafJob (R:RSt)(i:Nat)(fr:Int):Ar:=⟨fr,nodeR R 2 (R.t3.getD i (0,0,0)).2.1.toNat,1,cR R i R.t1.length⟩
def leafAny (R:RSt)(i:Nat)(fr mo:Int):Ar:=⟨fr,0,1,(R.t3.getD i (0,0,0)).2.2+mo⟩
def leafR (R:RSt)(i id:Nat):List Ar :=
 leafRun R i (nodeR R 3 id) (R.on.getD i (-1)) ++ [leafJob R i (nodeR R 3 id)] ++ leafUp R (nodeR R 3 id) id (moreR (R.on.getD i (-1))) 2 ++ [leafAny R i (nodeR R 3 id) (moreR (R.on.getD i (-1)))]
theorem leafW_len (R:RSt)(fr t mo:Int)(kd:Nat)(id:Int):(leafW R fr t mo kd id).length≤1:=by
 unfold leafW
 split <;> simp
theorem leafK_len {R:RSt}{fr t mo:Int}{kd:Nat}:∀ (l:List Int),(leafK R fr t mo kd l).length≤l.length
 | []=>by simp [leafK]
 | a :: l=>by
  have h1:=leafK_len (R:=R) (fr:=fr) (t:=t) (mo:=mo) (kd:=kd) l
  have h2:=leafW_len R fr t mo kd a
  unfold leafK at h1 ⊢
  rw [List.flatMap_cons,Jo,List.length_cons]
  omega
end
end Go.Proofs.Ytjdindfjfpdikab
