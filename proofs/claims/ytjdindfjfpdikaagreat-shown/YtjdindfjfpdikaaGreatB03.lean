import Derived.Test.YtjdindfjfpdikaaGreatProg
import Derived.Below
import Derived.Deep.LoopGhost
import Derived.BigRegion
import Derived.BigQuiet
import Derived.Deep.QuietTactic
import Derived.Deep.RegionLaw
import Derived.Maps.AppendAt
import Derived.Deep.DeepCutAuto
import Derived.Test.YtjdindfjfpdikaaGreatB00
import Derived.Test.YtjdindfjfpdikaaGreatB02
import Derived.Test.YtjdindfjfpdikaaGreatPre
set_option maxRecDepth 100000
set_option maxHeartbeats 8000000
namespace Go.Proofs.YtjdindfjfpdikaaGreat
section
open Go.RowKit
abbrev Th:=Int×Int×Int
abbrev Wi:=Int×Int×Int×Int
def cellsT (x:Th):List Value:=[.int .i64 x.1,.int .i64 x.2.1,.int .i64 x.2.2]
def cellsW (x:Wi):List Value:=[.int .i64 x.1,.int .i64 x.2.1,.int .i64 x.2.2.1,.int .i64 x.2.2.2]
def cellsI (x:Int):List Value:=[.int .i64 x]
def RowAt {α:Type}(w:World)(e size:Nat)(enc:α→List Value)(v:Value)(xs:List α):Prop:=w.ownsRow 0 e size v xs.length (xs.flatMap enc)
theorem ZbC {α:Type}{enc:α→List Value}{size:Nat}(hs:∀ x,(enc x).length=size):∀ (xs:List α)(k c:Nat)(hk:k<xs.length),c<size→(xs.flatMap enc)[k*size+c]?=(enc xs[k])[c]?
 | [],_,_,hk,_=>by simp at hk
 | x :: xs,0,c,_,hc=>by
  rw [List.flatMap_cons,List.getElem?_append_left (by rw [hs]; omega)]
  simp
 | x :: xs,k+1,c,hk,hc=>by
  have ih:=ZbC hs xs k c (by simpa using hk) hc
  rw [List.flatMap_cons,List.getElem?_append_right (by rw [hs,Nat.add_mul]; omega),hs]
  rw [show (k+1)*size+c - size=k*size+c by rw [Nat.add_mul]; omega,ih]
  simp
theorem Zax {α:Type}{enc:α→List Value}{size:Nat}(hs:∀ x,(enc x).length=size)(xs:List α):(xs.flatMap enc).length=xs.length*size:=by
 induction xs with
 | nil=>simp
 | cons x xs ih=>rw [List.flatMap_cons,Jo,ih,hs,List.length_cons,Nat.add_mul]; omega
theorem RowAt.shape {α:Type}{w:World}{e size:Nat}{enc:α→List Value}{v:Value}{xs:List α}(h:RowAt w e size enc v xs)(hs:∀ x,(enc x).length=size) :
  (v=.slice none 0 0∧xs=[])∨∃ g cap cur,v=.slice (some ⟨g,0,none⟩) xs.length cap∧w.heap[g]?=some (.cells cur e)∧g<w.heap.size∧xs.length≤cap∧cap≤maxLen ∧
   ∀ k c,(hk:k<xs.length)→c<size→w.cell? ⟨g,k*size+c,none⟩=(enc xs[k])[c]?∧w.frozen? ⟨g,k*size+c,none⟩=false:=by
 rcases h.2 with ⟨rfl,h0⟩ | ⟨g,cap,cur,rfl,_,hg,h1,h2,h3,h4⟩
 ·exact Jr ⟨rfl,List.eq_nil_of_length_eq_zero h0⟩
 ·refine Js ⟨g,cap,cur,rfl,hg,(Ja.1 hg).1,h1,h2,fun k c hk hc=>⟨?_,by simp [World.frozen?,hg]⟩⟩
  have e1:=ZbC hs xs k c hk hc
  have hlt:k*size+c<xs.length*size:=by
   have:(k+1)*size≤xs.length*size:=Nat.mul_le_mul_right size hk
   rw [Nat.add_mul] at this
   omega
  rw [← h4,List.getElem?_take_of_lt hlt,Array.getElem?_toList] at e1
  simp [World.cell?,hg,e1]
def posT (id:Int):List Th→Nat→Int
 | [],_=>-1
 | x :: r,i=>if x.1=id then (i:Int) else posT id r (i+1)
def atOf (id:Int)(xs:List Th):Int:=posT id xs 0
theorem ZdK (id:Int):∀ (xs:List Th)(i k:Nat),k≤xs.length→(∀ j,(hj:j<xs.length)→j<k→xs[j].1≠id)→posT id xs i=posT id (xs.drop k) (i+k)
 | xs,i,0,_,_=>by simp
 | [],i,k+1,hk,_=>by simp at hk
 | x :: xs,i,k+1,hk,h=>by
  have h0:=h 0 (by simp) (by omega)
  have ih:=ZdK id xs (i+1) k (by simpa using hk) (fun j hj hjk=>by have:=h (j+1) (by simpa using hj) (by omega); simpa using this)
  simp at h0
  rw [posT,if_neg h0,ih,List.drop_succ_cons]
  congr 1
  omega
theorem Zd3 {id:Int}{xs:List Th}{k:Nat}(hk:k<xs.length)(h:∀ j,(hj:j<xs.length)→j<k→xs[j].1≠id)(he:xs[k].1=id):atOf id xs=k:=by
 unfold atOf
 rw [ZdK id xs 0 k (by omega) h,List.drop_eq_getElem_cons hk,posT,if_pos he]
 simp
theorem ZeR {id:Int}{xs:List Th}(h:∀ j,(hj:j<xs.length)→xs[j].1≠id):atOf id xs=-1:=by
 unfold atOf
 rw [ZdK id xs 0 xs.length (Jb _) (fun j hj _=>h j hj)]
 simp [posT]
theorem Zap (w:World)(rb:Nat)(k:Int)(v:Value)(xs:List Th)(id:Int)(hk:0≤k∧k≤3)(c0:w.cell? ⟨rb,k.toNat,none⟩=some v)(h:RowAt w 76 3 cellsT v xs)(hlen:xs.length≤1000) :
  Calls Tryz.prog 62 #[.pointer (some ⟨rb,0,none⟩),.int .i64 k,.int .i64 id] w fun e w'=>e=.returned (.int .i64 (atOf id xs))∧w'=w:=by
 rcases h.shape (fun _=>rfl) with ⟨rfl,rfl⟩ | ⟨g,cap,cur,rfl,hg,hgl,h1,h2,hc⟩
 ·have Hf:=hid (show atOf id []=-1 from rfl)
  obtain rfl | rfl | rfl | rfl:k=0∨k=1∨k=2∨k=3:=by omega
  all_goals
   simp only [Int.toNat_zero,Int.reduceToNat] at c0
   go_enter Tryz.func62,Tryz.ntmps62
   go_wp2_with fail
   refine wp_loop_rounds 1 ?_
   rw [rounds_succ]
   go_wp2
   go_ret
   exact ⟨rfl,rfl⟩
 ·have Hc:=hid hc
  clear hc h hg
  obtain rfl | rfl | rfl | rfl:k=0∨k=1∨k=2∨k=3:=by omega
  all_goals
   simp only [Int.toNat_zero,Int.reduceToNat] at c0
   go_enter Tryz.func62,Tryz.ntmps62
   go_wp2_with fail
   go_loop [7] (fun i=>∃ k:Nat,k≤xs.length∧i=.int .i64 k∧Hid (∀ j,(hj:j<xs.length)→j<k→xs[j].1≠id)) (fun i=>xs.length - (intOf i).toNat)
   case atStart=>exact ⟨0,Jq _,rfl,fun j _ hj=>by omega⟩
   case round =>
    obtain ⟨k,hk',rfl,hno⟩:=hrel
    by_cases hlt:k<xs.length
    ·have q0:=(Hc.out k 0 hlt (by decide)).1
     simp only [cellsT,Je,Nat.add_zero] at q0
     have hltI:(k:Int)<(xs.length:Int):=by omega
     by_cases he:xs[k].1=id
     ·have Hf:=hid (Zd3 hlt hno.out he)
      rw [he] at q0
      clear he
      go_wp2
      go_ret
      exact ⟨ZbT Hf.out.symm,rfl⟩
     ·have hno':Hid (∀ j,(hj:j<xs.length)→j<k+1→xs[j].1≠id):=fun j hj hjk=>by
       by_cases hjk':j<k
       ·exact hno.out j hj hjk'
       ·obtain rfl:j=k:=by omega
        exact he
      have heb:(xs[k].1 == id)=false:=by simpa using he
      clear he
      go_wp2
      go_round
      case rel=>exact ⟨k+1,by omega,by go_num,hno'⟩
      case measure=>simp [intOf]; omega
    ·have Hf:=hid (ZeR (fun j hj=>hno.out j hj (by omega)))
     go_wp2
     go_ret
     exact ⟨ZbT Hf.out.symm,rfl⟩
end
section
open Go.RowKit
structure RSt where
 t0:List Th
 t1:List Th
 t2:List Th
 t3:List Th
 ws:List Wi
 on:List Int
 wt:List Int
structure RVs where
 v0:Value
 v1:Value
 v2:Value
 v3:Value
 vw:Value
 vo:Value
 vt:Value
def RVs.blocks (V:RVs):List Nat:=[V.v0,V.v1,V.v2,V.v3,V.vw,V.vo,V.vt].filterMap Value.ownBlock
structure RefAt (w:World)(rb:Nat)(V:RVs)(x7 x8 x9 x10 x11:Value)(R:RSt):Prop where
 cells:w.heap[rb]?=some (.cells #[V.v0,V.v1,V.v2,V.v3,V.vw,V.vo,V.vt,x7,x8,x9,x10,x11] 45)
 r0:RowAt w 76 3 cellsT V.v0 R.t0
 r1:RowAt w 76 3 cellsT V.v1 R.t1
 r2:RowAt w 76 3 cellsT V.v2 R.t2
 r3:RowAt w 76 3 cellsT V.v3 R.t3
 rw:RowAt w 117 4 cellsW V.vw R.ws
 ro:RowAt w 3 1 cellsI V.vo R.on
 rt:RowAt w 3 1 cellsI V.vt R.wt
 apart:V.blocks.Nodup
theorem RowAt.kept {α:Type}{w w':World}{e size:Nat}{enc:α→List Value}{v:Value}{xs:List α}{row:Option Nat}(h:RowAt w e size enc v xs)(hg:w.grownBy w' row)(hne:v.ownBlock=none∨v.ownBlock≠row):RowAt w' e size enc v xs:=World.ownsRow.kept h hg hne
theorem RowAt.below {α:Type}{w w':World}{e size:Nat}{enc:α→List Value}{v:Value}{xs:List α}(h:RowAt w e size enc v xs)(hb:Below w.heap.size w w'):RowAt w' e size enc v xs:=h.kept (Zaj hb none) (by cases v.ownBlock <;> simp)
theorem RowAt.lt {α:Type}{w:World}{e size:Nat}{enc:α→List Value}{v:Value}{xs:List α}(h:RowAt w e size enc v xs){b:Nat}(hb:v.ownBlock=some b):b<w.heap.size:=(World.ownsRow.lt h b hb).2
theorem RowAt.elem {α:Type}{w:World}{e size:Nat}{enc:α→List Value}{v:Value}{xs:List α}(h:RowAt w e size enc v xs){b:Nat}(hb:v.ownBlock=some b):∃ cur,w.heap[b]?=some (.cells cur e):=by
 rcases h.2 with ⟨rfl,_⟩ | ⟨g,cap,cur,rfl,_,hg,_⟩
 ·simp [Value.ownBlock] at hb
 ·simp [Value.ownBlock] at hb; subst hb; exact ⟨cur,hg⟩
section
variable {w:World}{rb:Nat}{V:RVs}{x7 x8 x9 x10 x11:Value}{R:RSt}
theorem RefAt.lt (h:RefAt w rb V x7 x8 x9 x10 x11 R):rb<w.heap.size:=(Ja.1 h.cells).1
theorem RefAt.below {w':World}(h:RefAt w rb V x7 x8 x9 x10 x11 R)(hb:Below w.heap.size w w'):RefAt w' rb V x7 x8 x9 x10 x11 R :=
 ⟨(hb.block rb h.lt).trans h.cells,h.r0.below hb,h.r1.below hb,h.r2.below hb,h.r3.below hb,h.rw.below hb,h.ro.below hb,h.rt.below hb,h.apart⟩
theorem RefAt.alloc (h:RefAt w rb V x7 x8 x9 x10 x11 R)(o:Obj):RefAt (w.alloc o) rb V x7 x8 x9 x10 x11 R:=h.below ((Jd _ _).alloc (Jb _) _)
theorem RefAt.drew (h:RefAt w rb V x7 x8 x9 x10 x11 R):RefAt w.drew rb V x7 x8 x9 x10 x11 R:=⟨h.cells,h.r0,h.r1,h.r2,h.r3,h.rw,h.ro,h.rt,h.apart⟩
theorem RefAt.cell (h:RefAt w rb V x7 x8 x9 x10 x11 R)(i:Nat):w.cell? ⟨rb,i,none⟩=#[V.v0,V.v1,V.v2,V.v3,V.vw,V.vo,V.vt,x7,x8,x9,x10,x11][i]?:=by simp [World.cell?,h.cells]
theorem RefAt.c0 (h:RefAt w rb V x7 x8 x9 x10 x11 R):w.cell? ⟨rb,0,none⟩=some V.v0:=by rw [h.cell]; rfl
theorem RefAt.c1 (h:RefAt w rb V x7 x8 x9 x10 x11 R):w.cell? ⟨rb,1,none⟩=some V.v1:=by rw [h.cell]; rfl
theorem RefAt.c2 (h:RefAt w rb V x7 x8 x9 x10 x11 R):w.cell? ⟨rb,2,none⟩=some V.v2:=by rw [h.cell]; rfl
theorem RefAt.c3 (h:RefAt w rb V x7 x8 x9 x10 x11 R):w.cell? ⟨rb,3,none⟩=some V.v3:=by rw [h.cell]; rfl
theorem RefAt.c4 (h:RefAt w rb V x7 x8 x9 x10 x11 R):w.cell? ⟨rb,4,none⟩=some V.vw:=by rw [h.cell]; rfl
theorem RefAt.c5 (h:RefAt w rb V x7 x8 x9 x10 x11 R):w.cell? ⟨rb,5,none⟩=some V.vo:=by rw [h.cell]; rfl
theorem RefAt.c6 (h:RefAt w rb V x7 x8 x9 x10 x11 R):w.cell? ⟨rb,6,none⟩=some V.vt:=by rw [h.cell]; rfl
theorem RefAt.fr (h:RefAt w rb V x7 x8 x9 x10 x11 R)(i:Nat):w.frozen? ⟨rb,i,none⟩=false:=by simp [World.frozen?,h.cells]
theorem RefAt.ne (h:RefAt w rb V x7 x8 x9 x10 x11 R):rb∉V.blocks:=by
 intro hm
 unfold RVs.blocks at hm
 obtain ⟨v,hv,hb⟩:=List.mem_filterMap.1 hm
 have hc:=h.cells
 simp only [List.mem_cons,List.not_mem_nil,or_false] at hv
 rcases hv with rfl | rfl | rfl | rfl | rfl | rfl | rfl
 ·obtain ⟨cur,hq⟩:=h.r0.elem hb; rw [hc] at hq; simp at hq
 ·obtain ⟨cur,hq⟩:=h.r1.elem hb; rw [hc] at hq; simp at hq
 ·obtain ⟨cur,hq⟩:=h.r2.elem hb; rw [hc] at hq; simp at hq
 ·obtain ⟨cur,hq⟩:=h.r3.elem hb; rw [hc] at hq; simp at hq
 ·obtain ⟨cur,hq⟩:=h.rw.elem hb; rw [hc] at hq; simp at hq
 ·obtain ⟨cur,hq⟩:=h.ro.elem hb; rw [hc] at hq; simp at hq
 ·obtain ⟨cur,hq⟩:=h.rt.elem hb; rw [hc] at hq; simp at hq
end
theorem Zbs {P:Program}{ops:Array Oper}{o:Oper}{a:Act}{w:World}{K:Act→World→Prop}{Q:Exit→Act→World→Prop}{E:Prop}(hgd:o.guard=none)(s x:Operand)(t:TypeId)
  (hop:o.op=.call { callee:=.builtin .append,args:=#[s,x],argTypes:=#[t,t] })
  (base:Nat) (e:TypeId) (i:TypeInfo) (z:Value) (size bytes:Nat) (ht:P.underlying t=some (.slice e)) (hi:P.info? e=some i) (hz:i.zero=some z)
  (hsize:i.size=size) (hby:i.bytes=bytes) (hzs:z.cells.size=size) (hsz:0<size)
  (v:Value) (n:Nat) (xs:List Value) (hs:a.eval s=v) (hown:w.ownsRow base e size v n xs)
  (ad:Addr) (m c:Nat) (news:List Value) (hx:a.eval x=.slice (some ad) m c) (hl:news.length=m*size) (hnews:∀ j u,news[j]?=some u→w.cell? (ad.add j)=some u) (h1:∀ u∈news,u.oneCell'=true)
  (h63:n+m≤maxLen) (hbytes:(n+m)*bytes≤140737488355328) (hbase:base≤w.heap.size)
  (h:∀ v' w',w'.ownsRow base e size v' (n+m) (xs ++ news)→w.grownBy w' v.ownBlock→(v'.ownBlock=v.ownBlock∨v'.ownBlock=some w.heap.size)→K (a.put o.dst v') w') :
  if Region.wanted o (yielded ops a.tmps)=true then Oper.wp P o a w K Q else E:=by
 have hw:Region.wanted o (yielded ops a.tmps)=true:=by simp [Region.wanted,hgd]
 rw [if_pos hw]
 obtain ⟨v',w',hr,h2,h3,_,h5⟩:=run_append_own_at (P:=P) w base t o.type e i z size bytes ht hi hz hsize hby hzs hsz v n xs hown ad m c news hl hnews h1 h63 hbytes hbase
 unfold Oper.wp execOp
 simp only [hop,resolve,invoke,builtin,Sem.run_bind,Sem.run_pure,Result.andThen_ok,List.map_toArray,List.map_cons,List.map_nil,hs,hx,hr]
 exact h v' w' h2 h3 h5
theorem Zaa (w:World)(a:Addr)(v:Value):w.grownBy (w.setCell a v) (some a.block) :=
 ⟨rfl,rfl,rfl,by simp [World.setCell],fun k _ hk=>Below.heap_setCell w a v k (fun e=>hk (by rw [e]))⟩
theorem heap_setCell {w:World}{rb:Nat}{arr:Array Value}{e:TypeId}(h:w.heap[rb]?=some (.cells arr e))(i:Nat)(v:Value):(w.setCell ⟨rb,i,none⟩ v).heap[rb]?=some (.cells (arr.setIfInBounds i v) e):=by
 simp [World.setCell,Array.getElem?_modify,h]
def foot (rb:Nat)(V:RVs):List Nat:=rb :: V.blocks
theorem Only.of_grown' {S:List Nat}{w w':World}{row:Option Nat}(h:w.grownBy w' row)(hb:∀ b,row=some b→b∈S):Only S w w' :=
 ⟨h.os,h.tape,h.output,h.size,fun k hk hn=>h.block k hk (fun e=>hn (hb k e.symm))⟩
section
variable {w:World}{rb:Nat}{V:RVs}{x7 x8 x9 x10 x11:Value}{R:RSt}
theorem Zab {V:RVs}{b:Nat}:b∈V.blocks↔V.v0.ownBlock=some b∨V.v1.ownBlock=some b∨V.v2.ownBlock=some b∨V.v3.ownBlock=some b∨V.vw.ownBlock=some b∨V.vo.ownBlock=some b∨V.vt.ownBlock=some b:=by
 unfold RVs.blocks
 simp [List.mem_filterMap]
theorem ZaE {l:List Value}:(l.filterMap Value.ownBlock).Nodup↔l.Pairwise (fun a b=>∀ n,a.ownBlock=some n→b.ownBlock≠some n):=by
 rw [List.Nodup,List.pairwise_filterMap]
 constructor
 ·intro h
  exact h.imp fun {a b} hab n ha hb=>hab n ha n hb rfl
 ·intro h
  exact h.imp fun {a b} hab n ha m hb e=>hab n ha (by rw [e]; exact hb)
theorem ZaW {α:Type}{r:α→α→Prop}(sym:∀ a b,r a b→r b a)(u:α):∀ (l:List α)(k:Nat),l.Pairwise r→(∀ x∈l,r u x)→(l.set k u).Pairwise r
 | [],_,_,_=>by simp
 | x :: l,0,hp,hu=>by
  rw [Jj]
  exact List.pairwise_cons.2 ⟨fun y hy=>hu y (Jk _ hy),(List.pairwise_cons.1 hp).2⟩
 | x :: l,k+1,hp,hu=>by
  rw [Ji]
  obtain ⟨h1,h2⟩:=List.pairwise_cons.1 hp
  refine List.pairwise_cons.2 ⟨fun y hy=>?_,ZaW sym u l k h2 (fun y hy=>hu y (Jk _ hy))⟩
  rcases List.mem_or_eq_of_mem_set hy with hy | rfl
  ·exact h1 y hy
  ·exact sym _ _ (hu x Jp)
theorem RefAt.pair (h:RefAt w rb V x7 x8 x9 x10 x11 R):[V.v0,V.v1,V.v2,V.v3,V.vw,V.vo,V.vt].Pairwise (fun a b=>∀ n,a.ownBlock=some n→b.ownBlock≠some n):=ZaE.1 h.apart
theorem RefAt.rlt (h:RefAt w rb V x7 x8 x9 x10 x11 R):∀ b∈V.blocks,b<w.heap.size:=by
 intro b hb
 rcases Zab.1 hb with h1 | h1 | h1 | h1 | h1 | h1 | h1
 ·exact h.r0.lt h1
 ·exact h.r1.lt h1
 ·exact h.r2.lt h1
 ·exact h.r3.lt h1
 ·exact h.rw.lt h1
 ·exact h.ro.lt h1
 ·exact h.rt.lt h1
theorem RefAt.set_t0 {w':World}{u:Value}{ys:List Th}(h:RefAt w rb V x7 x8 x9 x10 x11 R)(hg:w.grownBy w' V.v0.ownBlock)(hr:RowAt w' 76 3 cellsT u ys)(hl:u.ownBlock=V.v0.ownBlock∨(∀ n,u.ownBlock=some n→w.heap.size≤n)) :
  RefAt (w'.setCell ⟨rb,0,none⟩ u) rb { V with v0:=u } x7 x8 x9 x10 x11 { R with t0:=ys }∧Only (foot rb V) w (w'.setCell ⟨rb,0,none⟩ u)∧(∀ b∈({ V with v0:=u }:RVs).blocks,b∈V.blocks∨w.heap.size≤b):=by
 have hpp:=h.pair
 have hp:=hpp
 have hlt:=h.rlt
 have hne:=h.ne
 have hrb:=h.lt
 simp only [List.pairwise_cons,List.mem_cons,List.not_mem_nil,or_false,forall_eq_or_imp,forall_eq,List.Pairwise.nil,and_true,false_implies,implies_true] at hp
 have hnb:V.v0.ownBlock≠some rb:=fun e=>hne (Zab.2 (by simp [e]))
 have hub:u.ownBlock≠some rb:=by
  rcases hl with hl | hl
  ·rw [hl]; exact hnb
  ·exact fun e=>by have:=hl rb e; omega
 have hcell:w'.heap[rb]?=some (.cells #[V.v0,V.v1,V.v2,V.v3,V.vw,V.vo,V.vt,x7,x8,x9,x10,x11] 45):=(hg.block rb hrb hnb.symm).trans h.cells
 have hset:=Zaa w' ⟨rb,0,none⟩ u
 have keep:∀ {α:Type} {e size:Nat} {enc:α→List Value} {v:Value} {xs:List α},RowAt w e size enc v xs→(∀ n,v.ownBlock=some n→V.v0.ownBlock≠some n)→(∀ n,v.ownBlock=some n→n≠rb)→RowAt (w'.setCell ⟨rb,0,none⟩ u) e size enc v xs:=fun {α e size enc v xs} hv h1 h2=>by
  refine RowAt.kept (RowAt.kept hv hg ?_) hset ?_
  ·cases hq:v.ownBlock with
   | none=>exact Jr rfl
   | some n=>exact Js (h1 n hq).symm
  ·cases hq:v.ownBlock with
   | none=>exact Jr rfl
   | some n=>exact Js (by simpa using h2 n hq)
 have nrb:∀ {v:Value} {n:Nat},v.ownBlock=some n→n∈V.blocks→n≠rb:=fun {v n} _ hn e=>hne (e ▸ hn)
 refine ⟨⟨heap_setCell hcell 0 u,hr.kept hset (Js (by simpa using hub)),
  keep h.r1 (fun n hn e=>by simp only [hn,e] at hp; simp at hp) (fun n hn=>nrb hn (Zab.2 (by simp [hn]))),
  keep h.r2 (fun n hn e=>by simp only [hn,e] at hp; simp at hp) (fun n hn=>nrb hn (Zab.2 (by simp [hn]))),
  keep h.r3 (fun n hn e=>by simp only [hn,e] at hp; simp at hp) (fun n hn=>nrb hn (Zab.2 (by simp [hn]))),
  keep h.rw (fun n hn e=>by simp only [hn,e] at hp; simp at hp) (fun n hn=>nrb hn (Zab.2 (by simp [hn]))),
  keep h.ro (fun n hn e=>by simp only [hn,e] at hp; simp at hp) (fun n hn=>nrb hn (Zab.2 (by simp [hn]))),
  keep h.rt (fun n hn e=>by simp only [hn,e] at hp; simp at hp) (fun n hn=>nrb hn (Zab.2 (by simp [hn]))),?_⟩,?_,?_⟩
 ·refine (ZaE (l:=[u,V.v1,V.v2,V.v3,V.vw,V.vo,V.vt])).2 ?_
  rcases hl with hl | hl
  ·simp only [List.pairwise_cons,List.mem_cons,List.not_mem_nil,or_false,forall_eq_or_imp,forall_eq,List.Pairwise.nil,and_true,false_implies,implies_true]
   rw [hl]; exact hp
  ·refine ZaW (fun a b hab n hb ha=>hab n ha hb) u [V.v0,V.v1,V.v2,V.v3,V.vw,V.vo,V.vt] 0 hpp (fun x hx n hn hxn=>?_)
   have h1:=hl n hn
   have h2:=hlt n (List.mem_filterMap.2 ⟨x,hx,hxn⟩)
   omega
 ·exact (Only.of_grown' hg (fun b hb=>Jk _ (Zab.2 (by simp [hb])))).trans (Only.of_grown' hset (fun b hb=>by cases hb; exact Jp))
 ·intro b hb
  rw [Zab] at hb ⊢
  rcases hl with hl | hl
  ·left; simpa [hl] using hb
  ·by_cases hq:u.ownBlock=some b
   ·exact Js (hl b hq)
   ·left
    rcases hb with h1 | h1 | h1 | h1 | h1 | h1 | h1 <;> first | exact absurd h1 hq | simp [h1]
theorem RefAt.set_t1 {w':World}{u:Value}{ys:List Th}(h:RefAt w rb V x7 x8 x9 x10 x11 R)(hg:w.grownBy w' V.v1.ownBlock)(hr:RowAt w' 76 3 cellsT u ys)(hl:u.ownBlock=V.v1.ownBlock∨(∀ n,u.ownBlock=some n→w.heap.size≤n)) :
  RefAt (w'.setCell ⟨rb,1,none⟩ u) rb { V with v1:=u } x7 x8 x9 x10 x11 { R with t1:=ys }∧Only (foot rb V) w (w'.setCell ⟨rb,1,none⟩ u)∧(∀ b∈({ V with v1:=u }:RVs).blocks,b∈V.blocks∨w.heap.size≤b):=by
 have hpp:=h.pair
 have hp:=hpp
 have hlt:=h.rlt
 have hne:=h.ne
 have hrb:=h.lt
 simp only [List.pairwise_cons,List.mem_cons,List.not_mem_nil,or_false,forall_eq_or_imp,forall_eq,List.Pairwise.nil,and_true,false_implies,implies_true] at hp
 have hnb:V.v1.ownBlock≠some rb:=fun e=>hne (Zab.2 (by simp [e]))
 have hub:u.ownBlock≠some rb:=by
  rcases hl with hl | hl
  ·rw [hl]; exact hnb
  ·exact fun e=>by have:=hl rb e; omega
 have hcell:w'.heap[rb]?=some (.cells #[V.v0,V.v1,V.v2,V.v3,V.vw,V.vo,V.vt,x7,x8,x9,x10,x11] 45):=(hg.block rb hrb hnb.symm).trans h.cells
 have hset:=Zaa w' ⟨rb,1,none⟩ u
 have keep:∀ {α:Type} {e size:Nat} {enc:α→List Value} {v:Value} {xs:List α},RowAt w e size enc v xs→(∀ n,v.ownBlock=some n→V.v1.ownBlock≠some n)→(∀ n,v.ownBlock=some n→n≠rb)→RowAt (w'.setCell ⟨rb,1,none⟩ u) e size enc v xs:=fun {α e size enc v xs} hv h1 h2=>by
  refine RowAt.kept (RowAt.kept hv hg ?_) hset ?_
  ·cases hq:v.ownBlock with
   | none=>exact Jr rfl
   | some n=>exact Js (h1 n hq).symm
  ·cases hq:v.ownBlock with
   | none=>exact Jr rfl
   | some n=>exact Js (by simpa using h2 n hq)
 have nrb:∀ {v:Value} {n:Nat},v.ownBlock=some n→n∈V.blocks→n≠rb:=fun {v n} _ hn e=>hne (e ▸ hn)
 refine ⟨⟨heap_setCell hcell 1 u,keep h.r0 (fun n hn e=>by simp only [hn,e] at hp; simp at hp) (fun n hn=>nrb hn (Zab.2 (by simp [hn]))),
  hr.kept hset (Js (by simpa using hub)),
  keep h.r2 (fun n hn e=>by simp only [hn,e] at hp; simp at hp) (fun n hn=>nrb hn (Zab.2 (by simp [hn]))),
  keep h.r3 (fun n hn e=>by simp only [hn,e] at hp; simp at hp) (fun n hn=>nrb hn (Zab.2 (by simp [hn]))),
  keep h.rw (fun n hn e=>by simp only [hn,e] at hp; simp at hp) (fun n hn=>nrb hn (Zab.2 (by simp [hn]))),
  keep h.ro (fun n hn e=>by simp only [hn,e] at hp; simp at hp) (fun n hn=>nrb hn (Zab.2 (by simp [hn]))),
  keep h.rt (fun n hn e=>by simp only [hn,e] at hp; simp at hp) (fun n hn=>nrb hn (Zab.2 (by simp [hn]))),?_⟩,?_,?_⟩
 ·refine (ZaE (l:=[V.v0,u,V.v2,V.v3,V.vw,V.vo,V.vt])).2 ?_
  rcases hl with hl | hl
  ·simp only [List.pairwise_cons,List.mem_cons,List.not_mem_nil,or_false,forall_eq_or_imp,forall_eq,List.Pairwise.nil,and_true,false_implies,implies_true]
   rw [hl]; exact hp
  ·refine ZaW (fun a b hab n hb ha=>hab n ha hb) u [V.v0,V.v1,V.v2,V.v3,V.vw,V.vo,V.vt] 1 hpp (fun x hx n hn hxn=>?_)
   have h1:=hl n hn
   have h2:=hlt n (List.mem_filterMap.2 ⟨x,hx,hxn⟩)
   omega
 ·exact (Only.of_grown' hg (fun b hb=>Jk _ (Zab.2 (by simp [hb])))).trans (Only.of_grown' hset (fun b hb=>by cases hb; exact Jp))
 ·intro b hb
  rw [Zab] at hb ⊢
  rcases hl with hl | hl
  ·left; simpa [hl] using hb
  ·by_cases hq:u.ownBlock=some b
   ·exact Js (hl b hq)
   ·left
    rcases hb with h1 | h1 | h1 | h1 | h1 | h1 | h1 <;> first | exact absurd h1 hq | simp [h1]
theorem RefAt.set_t2 {w':World}{u:Value}{ys:List Th}(h:RefAt w rb V x7 x8 x9 x10 x11 R)(hg:w.grownBy w' V.v2.ownBlock)(hr:RowAt w' 76 3 cellsT u ys)(hl:u.ownBlock=V.v2.ownBlock∨(∀ n,u.ownBlock=some n→w.heap.size≤n)) :
  RefAt (w'.setCell ⟨rb,2,none⟩ u) rb { V with v2:=u } x7 x8 x9 x10 x11 { R with t2:=ys }∧Only (foot rb V) w (w'.setCell ⟨rb,2,none⟩ u)∧(∀ b∈({ V with v2:=u }:RVs).blocks,b∈V.blocks∨w.heap.size≤b):=by
 have hpp:=h.pair
 have hp:=hpp
 have hlt:=h.rlt
 have hne:=h.ne
 have hrb:=h.lt
 simp only [List.pairwise_cons,List.mem_cons,List.not_mem_nil,or_false,forall_eq_or_imp,forall_eq,List.Pairwise.nil,and_true,false_implies,implies_true] at hp
 have hnb:V.v2.ownBlock≠some rb:=fun e=>hne (Zab.2 (by simp [e]))
 have hub:u.ownBlock≠some rb:=by
  rcases hl with hl | hl
  ·rw [hl]; exact hnb
  ·exact fun e=>by have:=hl rb e; omega
 have hcell:w'.heap[rb]?=some (.cells #[V.v0,V.v1,V.v2,V.v3,V.vw,V.vo,V.vt,x7,x8,x9,x10,x11] 45):=(hg.block rb hrb hnb.symm).trans h.cells
 have hset:=Zaa w' ⟨rb,2,none⟩ u
 have keep:∀ {α:Type} {e size:Nat} {enc:α→List Value} {v:Value} {xs:List α},RowAt w e size enc v xs→(∀ n,v.ownBlock=some n→V.v2.ownBlock≠some n)→(∀ n,v.ownBlock=some n→n≠rb)→RowAt (w'.setCell ⟨rb,2,none⟩ u) e size enc v xs:=fun {α e size enc v xs} hv h1 h2=>by
  refine RowAt.kept (RowAt.kept hv hg ?_) hset ?_
  ·cases hq:v.ownBlock with
   | none=>exact Jr rfl
   | some n=>exact Js (h1 n hq).symm
  ·cases hq:v.ownBlock with
   | none=>exact Jr rfl
   | some n=>exact Js (by simpa using h2 n hq)
 have nrb:∀ {v:Value} {n:Nat},v.ownBlock=some n→n∈V.blocks→n≠rb:=fun {v n} _ hn e=>hne (e ▸ hn)
 refine ⟨⟨heap_setCell hcell 2 u,keep h.r0 (fun n hn e=>by simp only [hn,e] at hp; simp at hp) (fun n hn=>nrb hn (Zab.2 (by simp [hn]))),
  keep h.r1 (fun n hn e=>by simp only [hn,e] at hp; simp at hp) (fun n hn=>nrb hn (Zab.2 (by simp [hn]))),
  hr.kept hset (Js (by simpa using hub)),
  keep h.r3 (fun n hn e=>by simp only [hn,e] at hp; simp at hp) (fun n hn=>nrb hn (Zab.2 (by simp [hn]))),
  keep h.rw (fun n hn e=>by simp only [hn,e] at hp; simp at hp) (fun n hn=>nrb hn (Zab.2 (by simp [hn]))),
  keep h.ro (fun n hn e=>by simp only [hn,e] at hp; simp at hp) (fun n hn=>nrb hn (Zab.2 (by simp [hn]))),
  keep h.rt (fun n hn e=>by simp only [hn,e] at hp; simp at hp) (fun n hn=>nrb hn (Zab.2 (by simp [hn]))),?_⟩,?_,?_⟩
 ·refine (ZaE (l:=[V.v0,V.v1,u,V.v3,V.vw,V.vo,V.vt])).2 ?_
  rcases hl with hl | hl
  ·simp only [List.pairwise_cons,List.mem_cons,List.not_mem_nil,or_false,forall_eq_or_imp,forall_eq,List.Pairwise.nil,and_true,false_implies,implies_true]
   rw [hl]; exact hp
  ·refine ZaW (fun a b hab n hb ha=>hab n ha hb) u [V.v0,V.v1,V.v2,V.v3,V.vw,V.vo,V.vt] 2 hpp (fun x hx n hn hxn=>?_)
   have h1:=hl n hn
   have h2:=hlt n (List.mem_filterMap.2 ⟨x,hx,hxn⟩)
   omega
 ·exact (Only.of_grown' hg (fun b hb=>Jk _ (Zab.2 (by simp [hb])))).trans (Only.of_grown' hset (fun b hb=>by cases hb; exact Jp))
 ·intro b hb
  rw [Zab] at hb ⊢
  rcases hl with hl | hl
  ·left; simpa [hl] using hb
  ·by_cases hq:u.ownBlock=some b
   ·exact Js (hl b hq)
   ·left
    rcases hb with h1 | h1 | h1 | h1 | h1 | h1 | h1 <;> first | exact absurd h1 hq | simp [h1]
theorem RefAt.set_t3 {w':World}{u:Value}{ys:List Th}(h:RefAt w rb V x7 x8 x9 x10 x11 R)(hg:w.grownBy w' V.v3.ownBlock)(hr:RowAt w' 76 3 cellsT u ys)(hl:u.ownBlock=V.v3.ownBlock∨(∀ n,u.ownBlock=some n→w.heap.size≤n)) :
  RefAt (w'.setCell ⟨rb,3,none⟩ u) rb { V with v3:=u } x7 x8 x9 x10 x11 { R with t3:=ys }∧Only (foot rb V) w (w'.setCell ⟨rb,3,none⟩ u)∧(∀ b∈({ V with v3:=u }:RVs).blocks,b∈V.blocks∨w.heap.size≤b):=by
 have hpp:=h.pair
 have hp:=hpp
 have hlt:=h.rlt
 have hne:=h.ne
 have hrb:=h.lt
 simp only [List.pairwise_cons,List.mem_cons,List.not_mem_nil,or_false,forall_eq_or_imp,forall_eq,List.Pairwise.nil,and_true,false_implies,implies_true] at hp
 have hnb:V.v3.ownBlock≠some rb:=fun e=>hne (Zab.2 (by simp [e]))
 have hub:u.ownBlock≠some rb:=by
  rcases hl with hl | hl
  ·rw [hl]; exact hnb
  ·exact fun e=>by have:=hl rb e; omega
 have hcell:w'.heap[rb]?=some (.cells #[V.v0,V.v1,V.v2,V.v3,V.vw,V.vo,V.vt,x7,x8,x9,x10,x11] 45):=(hg.block rb hrb hnb.symm).trans h.cells
 have hset:=Zaa w' ⟨rb,3,none⟩ u
 have keep:∀ {α:Type} {e size:Nat} {enc:α→List Value} {v:Value} {xs:List α},RowAt w e size enc v xs→(∀ n,v.ownBlock=some n→V.v3.ownBlock≠some n)→(∀ n,v.ownBlock=some n→n≠rb)→RowAt (w'.setCell ⟨rb,3,none⟩ u) e size enc v xs:=fun {α e size enc v xs} hv h1 h2=>by
  refine RowAt.kept (RowAt.kept hv hg ?_) hset ?_
  ·cases hq:v.ownBlock with
   | none=>exact Jr rfl
   | some n=>exact Js (h1 n hq).symm
  ·cases hq:v.ownBlock with
   | none=>exact Jr rfl
   | some n=>exact Js (by simpa using h2 n hq)
 have nrb:∀ {v:Value} {n:Nat},v.ownBlock=some n→n∈V.blocks→n≠rb:=fun {v n} _ hn e=>hne (e ▸ hn)
 refine ⟨⟨heap_setCell hcell 3 u,keep h.r0 (fun n hn e=>by simp only [hn,e] at hp; simp at hp) (fun n hn=>nrb hn (Zab.2 (by simp [hn]))),
  keep h.r1 (fun n hn e=>by simp only [hn,e] at hp; simp at hp) (fun n hn=>nrb hn (Zab.2 (by simp [hn]))),
  keep h.r2 (fun n hn e=>by simp only [hn,e] at hp; simp at hp) (fun n hn=>nrb hn (Zab.2 (by simp [hn]))),
  hr.kept hset (Js (by simpa using hub)),
  keep h.rw (fun n hn e=>by simp only [hn,e] at hp; simp at hp) (fun n hn=>nrb hn (Zab.2 (by simp [hn]))),
  keep h.ro (fun n hn e=>by simp only [hn,e] at hp; simp at hp) (fun n hn=>nrb hn (Zab.2 (by simp [hn]))),
  keep h.rt (fun n hn e=>by simp only [hn,e] at hp; simp at hp) (fun n hn=>nrb hn (Zab.2 (by simp [hn]))),?_⟩,?_,?_⟩
 ·refine (ZaE (l:=[V.v0,V.v1,V.v2,u,V.vw,V.vo,V.vt])).2 ?_
  rcases hl with hl | hl
  ·simp only [List.pairwise_cons,List.mem_cons,List.not_mem_nil,or_false,forall_eq_or_imp,forall_eq,List.Pairwise.nil,and_true,false_implies,implies_true]
   rw [hl]; exact hp
  ·refine ZaW (fun a b hab n hb ha=>hab n ha hb) u [V.v0,V.v1,V.v2,V.v3,V.vw,V.vo,V.vt] 3 hpp (fun x hx n hn hxn=>?_)
   have h1:=hl n hn
   have h2:=hlt n (List.mem_filterMap.2 ⟨x,hx,hxn⟩)
   omega
 ·exact (Only.of_grown' hg (fun b hb=>Jk _ (Zab.2 (by simp [hb])))).trans (Only.of_grown' hset (fun b hb=>by cases hb; exact Jp))
 ·intro b hb
  rw [Zab] at hb ⊢
  rcases hl with hl | hl
  ·left; simpa [hl] using hb
  ·by_cases hq:u.ownBlock=some b
   ·exact Js (hl b hq)
   ·left
    rcases hb with h1 | h1 | h1 | h1 | h1 | h1 | h1 <;> first | exact absurd h1 hq | simp [h1]
theorem RefAt.set_ws {w':World}{u:Value}{ys:List Wi}(h:RefAt w rb V x7 x8 x9 x10 x11 R)(hg:w.grownBy w' V.vw.ownBlock)(hr:RowAt w' 117 4 cellsW u ys)(hl:u.ownBlock=V.vw.ownBlock∨(∀ n,u.ownBlock=some n→w.heap.size≤n)) :
  RefAt (w'.setCell ⟨rb,4,none⟩ u) rb { V with vw:=u } x7 x8 x9 x10 x11 { R with ws:=ys }∧Only (foot rb V) w (w'.setCell ⟨rb,4,none⟩ u)∧(∀ b∈({ V with vw:=u }:RVs).blocks,b∈V.blocks∨w.heap.size≤b):=by
 have hpp:=h.pair
 have hp:=hpp
 have hlt:=h.rlt
 have hne:=h.ne
 have hrb:=h.lt
 simp only [List.pairwise_cons,List.mem_cons,List.not_mem_nil,or_false,forall_eq_or_imp,forall_eq,List.Pairwise.nil,and_true,false_implies,implies_true] at hp
 have hnb:V.vw.ownBlock≠some rb:=fun e=>hne (Zab.2 (by simp [e]))
 have hub:u.ownBlock≠some rb:=by
  rcases hl with hl | hl
  ·rw [hl]; exact hnb
  ·exact fun e=>by have:=hl rb e; omega
 have hcell:w'.heap[rb]?=some (.cells #[V.v0,V.v1,V.v2,V.v3,V.vw,V.vo,V.vt,x7,x8,x9,x10,x11] 45):=(hg.block rb hrb hnb.symm).trans h.cells
 have hset:=Zaa w' ⟨rb,4,none⟩ u
 have keep:∀ {α:Type} {e size:Nat} {enc:α→List Value} {v:Value} {xs:List α},RowAt w e size enc v xs→(∀ n,v.ownBlock=some n→V.vw.ownBlock≠some n)→(∀ n,v.ownBlock=some n→n≠rb)→RowAt (w'.setCell ⟨rb,4,none⟩ u) e size enc v xs:=fun {α e size enc v xs} hv h1 h2=>by
  refine RowAt.kept (RowAt.kept hv hg ?_) hset ?_
  ·cases hq:v.ownBlock with
   | none=>exact Jr rfl
   | some n=>exact Js (h1 n hq).symm
  ·cases hq:v.ownBlock with
   | none=>exact Jr rfl
   | some n=>exact Js (by simpa using h2 n hq)
 have nrb:∀ {v:Value} {n:Nat},v.ownBlock=some n→n∈V.blocks→n≠rb:=fun {v n} _ hn e=>hne (e ▸ hn)
 refine ⟨⟨heap_setCell hcell 4 u,keep h.r0 (fun n hn e=>by simp only [hn,e] at hp; simp at hp) (fun n hn=>nrb hn (Zab.2 (by simp [hn]))),
  keep h.r1 (fun n hn e=>by simp only [hn,e] at hp; simp at hp) (fun n hn=>nrb hn (Zab.2 (by simp [hn]))),
  keep h.r2 (fun n hn e=>by simp only [hn,e] at hp; simp at hp) (fun n hn=>nrb hn (Zab.2 (by simp [hn]))),
  keep h.r3 (fun n hn e=>by simp only [hn,e] at hp; simp at hp) (fun n hn=>nrb hn (Zab.2 (by simp [hn]))),
  hr.kept hset (Js (by simpa using hub)),
  keep h.ro (fun n hn e=>by simp only [hn,e] at hp; simp at hp) (fun n hn=>nrb hn (Zab.2 (by simp [hn]))),
  keep h.rt (fun n hn e=>by simp only [hn,e] at hp; simp at hp) (fun n hn=>nrb hn (Zab.2 (by simp [hn]))),?_⟩,?_,?_⟩
 ·refine (ZaE (l:=[V.v0,V.v1,V.v2,V.v3,u,V.vo,V.vt])).2 ?_
  rcases hl with hl | hl
  ·simp only [List.pairwise_cons,List.mem_cons,List.not_mem_nil,or_false,forall_eq_or_imp,forall_eq,List.Pairwise.nil,and_true,false_implies,implies_true]
   rw [hl]; exact hp
  ·refine ZaW (fun a b hab n hb ha=>hab n ha hb) u [V.v0,V.v1,V.v2,V.v3,V.vw,V.vo,V.vt] 4 hpp (fun x hx n hn hxn=>?_)
   have h1:=hl n hn
   have h2:=hlt n (List.mem_filterMap.2 ⟨x,hx,hxn⟩)
   omega
 ·exact (Only.of_grown' hg (fun b hb=>Jk _ (Zab.2 (by simp [hb])))).trans (Only.of_grown' hset (fun b hb=>by cases hb; exact Jp))
 ·intro b hb
  rw [Zab] at hb ⊢
  rcases hl with hl | hl
  ·left; simpa [hl] using hb
  ·by_cases hq:u.ownBlock=some b
   ·exact Js (hl b hq)
   ·left
    rcases hb with h1 | h1 | h1 | h1 | h1 | h1 | h1 <;> first | exact absurd h1 hq | simp [h1]
theorem RefAt.set_on {w':World}{u:Value}{ys:List Int}(h:RefAt w rb V x7 x8 x9 x10 x11 R)(hg:w.grownBy w' V.vo.ownBlock)(hr:RowAt w' 3 1 cellsI u ys)(hl:u.ownBlock=V.vo.ownBlock∨(∀ n,u.ownBlock=some n→w.heap.size≤n)) :
  RefAt (w'.setCell ⟨rb,5,none⟩ u) rb { V with vo:=u } x7 x8 x9 x10 x11 { R with on:=ys }∧Only (foot rb V) w (w'.setCell ⟨rb,5,none⟩ u)∧(∀ b∈({ V with vo:=u }:RVs).blocks,b∈V.blocks∨w.heap.size≤b):=by
 have hpp:=h.pair
 have hp:=hpp
 have hlt:=h.rlt
 have hne:=h.ne
 have hrb:=h.lt
 simp only [List.pairwise_cons,List.mem_cons,List.not_mem_nil,or_false,forall_eq_or_imp,forall_eq,List.Pairwise.nil,and_true,false_implies,implies_true] at hp
 have hnb:V.vo.ownBlock≠some rb:=fun e=>hne (Zab.2 (by simp [e]))
 have hub:u.ownBlock≠some rb:=by
  rcases hl with hl | hl
  ·rw [hl]; exact hnb
  ·exact fun e=>by have:=hl rb e; omega
 have hcell:w'.heap[rb]?=some (.cells #[V.v0,V.v1,V.v2,V.v3,V.vw,V.vo,V.vt,x7,x8,x9,x10,x11] 45):=(hg.block rb hrb hnb.symm).trans h.cells
 have hset:=Zaa w' ⟨rb,5,none⟩ u
 have keep:∀ {α:Type} {e size:Nat} {enc:α→List Value} {v:Value} {xs:List α},RowAt w e size enc v xs→(∀ n,v.ownBlock=some n→V.vo.ownBlock≠some n)→(∀ n,v.ownBlock=some n→n≠rb)→RowAt (w'.setCell ⟨rb,5,none⟩ u) e size enc v xs:=fun {α e size enc v xs} hv h1 h2=>by
  refine RowAt.kept (RowAt.kept hv hg ?_) hset ?_
  ·cases hq:v.ownBlock with
   | none=>exact Jr rfl
   | some n=>exact Js (h1 n hq).symm
  ·cases hq:v.ownBlock with
   | none=>exact Jr rfl
   | some n=>exact Js (by simpa using h2 n hq)
 have nrb:∀ {v:Value} {n:Nat},v.ownBlock=some n→n∈V.blocks→n≠rb:=fun {v n} _ hn e=>hne (e ▸ hn)
 refine ⟨⟨heap_setCell hcell 5 u,keep h.r0 (fun n hn e=>by simp only [hn,e] at hp; simp at hp) (fun n hn=>nrb hn (Zab.2 (by simp [hn]))),
  keep h.r1 (fun n hn e=>by simp only [hn,e] at hp; simp at hp) (fun n hn=>nrb hn (Zab.2 (by simp [hn]))),
  keep h.r2 (fun n hn e=>by simp only [hn,e] at hp; simp at hp) (fun n hn=>nrb hn (Zab.2 (by simp [hn]))),
  keep h.r3 (fun n hn e=>by simp only [hn,e] at hp; simp at hp) (fun n hn=>nrb hn (Zab.2 (by simp [hn]))),
  keep h.rw (fun n hn e=>by simp only [hn,e] at hp; simp at hp) (fun n hn=>nrb hn (Zab.2 (by simp [hn]))),
  hr.kept hset (Js (by simpa using hub)),
  keep h.rt (fun n hn e=>by simp only [hn,e] at hp; simp at hp) (fun n hn=>nrb hn (Zab.2 (by simp [hn]))),?_⟩,?_,?_⟩
 ·refine (ZaE (l:=[V.v0,V.v1,V.v2,V.v3,V.vw,u,V.vt])).2 ?_
  rcases hl with hl | hl
  ·simp only [List.pairwise_cons,List.mem_cons,List.not_mem_nil,or_false,forall_eq_or_imp,forall_eq,List.Pairwise.nil,and_true,false_implies,implies_true]
   rw [hl]; exact hp
  ·refine ZaW (fun a b hab n hb ha=>hab n ha hb) u [V.v0,V.v1,V.v2,V.v3,V.vw,V.vo,V.vt] 5 hpp (fun x hx n hn hxn=>?_)
   have h1:=hl n hn
   have h2:=hlt n (List.mem_filterMap.2 ⟨x,hx,hxn⟩)
   omega
 ·exact (Only.of_grown' hg (fun b hb=>Jk _ (Zab.2 (by simp [hb])))).trans (Only.of_grown' hset (fun b hb=>by cases hb; exact Jp))
 ·intro b hb
  rw [Zab] at hb ⊢
  rcases hl with hl | hl
  ·left; simpa [hl] using hb
  ·by_cases hq:u.ownBlock=some b
   ·exact Js (hl b hq)
   ·left
    rcases hb with h1 | h1 | h1 | h1 | h1 | h1 | h1 <;> first | exact absurd h1 hq | simp [h1]
theorem RefAt.set_wt {w':World}{u:Value}{ys:List Int}(h:RefAt w rb V x7 x8 x9 x10 x11 R)(hg:w.grownBy w' V.vt.ownBlock)(hr:RowAt w' 3 1 cellsI u ys)(hl:u.ownBlock=V.vt.ownBlock∨(∀ n,u.ownBlock=some n→w.heap.size≤n)) :
  RefAt (w'.setCell ⟨rb,6,none⟩ u) rb { V with vt:=u } x7 x8 x9 x10 x11 { R with wt:=ys }∧Only (foot rb V) w (w'.setCell ⟨rb,6,none⟩ u)∧(∀ b∈({ V with vt:=u }:RVs).blocks,b∈V.blocks∨w.heap.size≤b):=by
 have hpp:=h.pair
 have hp:=hpp
 have hlt:=h.rlt
 have hne:=h.ne
 have hrb:=h.lt
 simp only [List.pairwise_cons,List.mem_cons,List.not_mem_nil,or_false,forall_eq_or_imp,forall_eq,List.Pairwise.nil,and_true,false_implies,implies_true] at hp
 have hnb:V.vt.ownBlock≠some rb:=fun e=>hne (Zab.2 (by simp [e]))
 have hub:u.ownBlock≠some rb:=by
  rcases hl with hl | hl
  ·rw [hl]; exact hnb
  ·exact fun e=>by have:=hl rb e; omega
 have hcell:w'.heap[rb]?=some (.cells #[V.v0,V.v1,V.v2,V.v3,V.vw,V.vo,V.vt,x7,x8,x9,x10,x11] 45):=(hg.block rb hrb hnb.symm).trans h.cells
 have hset:=Zaa w' ⟨rb,6,none⟩ u
 have keep:∀ {α:Type} {e size:Nat} {enc:α→List Value} {v:Value} {xs:List α},RowAt w e size enc v xs→(∀ n,v.ownBlock=some n→V.vt.ownBlock≠some n)→(∀ n,v.ownBlock=some n→n≠rb)→RowAt (w'.setCell ⟨rb,6,none⟩ u) e size enc v xs:=fun {α e size enc v xs} hv h1 h2=>by
  refine RowAt.kept (RowAt.kept hv hg ?_) hset ?_
  ·cases hq:v.ownBlock with
   | none=>exact Jr rfl
   | some n=>exact Js (h1 n hq).symm
  ·cases hq:v.ownBlock with
   | none=>exact Jr rfl
   | some n=>exact Js (by simpa using h2 n hq)
 have nrb:∀ {v:Value} {n:Nat},v.ownBlock=some n→n∈V.blocks→n≠rb:=fun {v n} _ hn e=>hne (e ▸ hn)
 refine ⟨⟨heap_setCell hcell 6 u,keep h.r0 (fun n hn e=>by simp only [hn,e] at hp; simp at hp) (fun n hn=>nrb hn (Zab.2 (by simp [hn]))),
  keep h.r1 (fun n hn e=>by simp only [hn,e] at hp; simp at hp) (fun n hn=>nrb hn (Zab.2 (by simp [hn]))),
  keep h.r2 (fun n hn e=>by simp only [hn,e] at hp; simp at hp) (fun n hn=>nrb hn (Zab.2 (by simp [hn]))),
  keep h.r3 (fun n hn e=>by simp only [hn,e] at hp; simp at hp) (fun n hn=>nrb hn (Zab.2 (by simp [hn]))),
  keep h.rw (fun n hn e=>by simp only [hn,e] at hp; simp at hp) (fun n hn=>nrb hn (Zab.2 (by simp [hn]))),
  keep h.ro (fun n hn e=>by simp only [hn,e] at hp; simp at hp) (fun n hn=>nrb hn (Zab.2 (by simp [hn]))),
  hr.kept hset (Js (by simpa using hub)),?_⟩,?_,?_⟩
 ·refine (ZaE (l:=[V.v0,V.v1,V.v2,V.v3,V.vw,V.vo,u])).2 ?_
  rcases hl with hl | hl
  ·simp only [List.pairwise_cons,List.mem_cons,List.not_mem_nil,or_false,forall_eq_or_imp,forall_eq,List.Pairwise.nil,and_true,false_implies,implies_true]
   rw [hl]; exact hp
  ·refine ZaW (fun a b hab n hb ha=>hab n ha hb) u [V.v0,V.v1,V.v2,V.v3,V.vw,V.vo,V.vt] 6 hpp (fun x hx n hn hxn=>?_)
   have h1:=hl n hn
   have h2:=hlt n (List.mem_filterMap.2 ⟨x,hx,hxn⟩)
   omega
 ·exact (Only.of_grown' hg (fun b hb=>Jk _ (Zab.2 (by simp [hb])))).trans (Only.of_grown' hset (fun b hb=>by cases hb; exact Jp))
 ·intro b hb
  rw [Zab] at hb ⊢
  rcases hl with hl | hl
  ·left; simpa [hl] using hb
  ·by_cases hq:u.ownBlock=some b
   ·exact Js (hl b hq)
   ·left
    rcases hb with h1 | h1 | h1 | h1 | h1 | h1 | h1 <;> first | exact absurd h1 hq | simp [h1]
end
end
section
open Go.RowKit
def makeOf (there len most needs n least limit:Int)(ranged:Bool)(id:Int):Int :=
 if id<0∨99<id then 1 else if 0≤there then 2 else if most≤len then 3 else if needs<0 then 4 else if ranged=true∧(n<least∨limit<n) then 5 else 0
theorem Zls (w:World):Calls Tryz.prog 63 #[.int .i64 0] w fun e w'=>e=.returned (.int .i64 4)∧w'=w:=by
 go_enter Tryz.func63,Tryz.ntmps63
 go_wp2
 go_ret
 exact ⟨rfl,rfl⟩
theorem ZhP (w:World):Calls Tryz.prog 63 #[.int .i64 1] w fun e w'=>e=.returned (.int .i64 8)∧w'=w:=by
 go_enter Tryz.func63,Tryz.ntmps63
 go_wp2
 go_ret
 exact ⟨rfl,rfl⟩
theorem Zi2 (w:World):Calls Tryz.prog 63 #[.int .i64 2] w fun e w'=>e=.returned (.int .i64 4)∧w'=w:=by
 go_enter Tryz.func63,Tryz.ntmps63
 go_wp2
 go_ret
 exact ⟨rfl,rfl⟩
theorem ZhQ (w:World):Calls Tryz.prog 63 #[.int .i64 3] w fun e w'=>e=.returned (.int .i64 16)∧w'=w:=by
 go_enter Tryz.func63,Tryz.ntmps63
 go_wp2
 go_ret
 exact ⟨rfl,rfl⟩
theorem Zcd:(Tryz.prog.info? 76).map (fun i=>(i.zero,i.size,i.bytes))=some (some (.agg #[.int .i64 0,.int .i64 0,.int .i64 0]),3,24):=by kernel_rfl
theorem ZfC:(Tryz.prog.info? 117).map (fun i=>(i.zero,i.size,i.bytes))=some (some (.agg #[.int .i64 0,.int .i64 0,.int .i64 0,.int .i64 0]),4,32):=by kernel_rfl
theorem Zlp:(Tryz.prog.info? 3).map (fun i=>(i.zero,i.size,i.bytes))=some (some (.int .i64 0),1,8):=by kernel_rfl
section
variable {w:World}{rb:Nat}{V:RVs}{x7 x8 x9 x10 x11:Value}{R:RSt}
theorem RefAt.drewN (h:RefAt w rb V x7 x8 x9 x10 x11 R)(n:Nat):RefAt (w.drewN n) rb V x7 x8 x9 x10 x11 R:=⟨h.cells,h.r0,h.r1,h.r2,h.r3,h.rw,h.ro,h.rt,h.apart⟩
theorem Zah {α:Type}{e size:Nat}{enc:α→List Value}{v:Value}{xs:List α}(h:RowAt w e size enc v xs):∃ p cap,v=.slice p xs.length cap:=Zae h
theorem Zlv (w:World)(x y z:Value)(t:TypeId):∀ (j:Nat)(u:Value),[x,y,z][j]?=some u→(w.alloc (.cells #[x,y,z] t)).drew.cell? ((⟨w.heap.size,0,none⟩:Addr).add j)=some u:=by
 intro j u hu
 rcases j with _ | _ | _ | j
 ·rw [Addr.add_lit]; show (w.alloc _).cell? _=_; rw [World.cell?_alloc_at _ _ _ _ rfl]; simpa using hu
 ·rw [Addr.add_lit]; show (w.alloc _).cell? _=_; rw [World.cell?_alloc_at _ _ _ _ rfl]; simpa using hu
 ·rw [Addr.add_lit]; show (w.alloc _).cell? _=_; rw [World.cell?_alloc_at _ _ _ _ rfl]; simpa using hu
 ·simp at hu
theorem RefAt.kept {w':World}{row:Option Nat}(h:RefAt w rb V x7 x8 x9 x10 x11 R)(hg:w.grownBy w' row)(i:Nat)(hr:row≠some rb):w'.cell? ⟨rb,i,none⟩=w.cell? ⟨rb,i,none⟩∧w'.frozen? ⟨rb,i,none⟩=false:=by
 have hb:=hg.block rb h.lt hr.symm
 exact ⟨World.cell?_of_block hb,by rw [World.frozen?_of_block (w:=w) hb]; exact h.fr i⟩
end
end
section
open Go.RowKit
section
variable {w:World}{rb:Nat}{V:RVs}{x7 x8 x9 x10 x11:Value}{R:RSt}
def tk (o t:Int):Int:=if o<0∧t<100 then t+1 else t
def tickTo (on wt:List Int)(k:Nat):List Int:=(List.range wt.length).map fun i=>if i<k then tk (on.getD i 0) (wt.getD i 0) else wt.getD i 0
theorem Zbb (on wt:List Int)(k:Nat):(tickTo on wt k).length=wt.length:=by simp [tickTo]
theorem ZfZ (on wt:List Int):tickTo on wt 0=wt:=by
 apply List.ext_getElem?
 intro i
 by_cases hi:i<wt.length <;> simp [tickTo,hi]
theorem ZcR (on wt:List Int)(k i:Nat)(hi:i<wt.length):(tickTo on wt k)[i]'(by rw [Zbb]; exact hi)=if i<k then tk (on.getD i 0) wt[i] else wt[i]:=by
 simp [tickTo,hi]
theorem ZfY (on wt:List Int)(k:Nat)(hk:k<wt.length):tickTo on wt (k+1)=(tickTo on wt k).set k (tk (on.getD k 0) wt[k]):=by
 apply List.ext_getElem
 ·simp [tickTo]
 ·intro i h1 h2
  have hi:i<wt.length:=by simpa [tickTo] using h1
  rw [ZcR on wt (k+1) i hi,List.getElem_set]
  by_cases hki:k=i
  ·subst hki; simp
  ·rw [if_neg hki,ZcR on wt k i hi]
   by_cases hik:i<k
   ·rw [if_pos (by omega),if_pos hik]
   ·rw [if_neg (by omega),if_neg hik]
theorem RowAt.setAt {xs:List Int}{g cap:Nat}(h:RowAt w 3 1 cellsI (.slice (some ⟨g,0,none⟩) xs.length cap) xs)(k:Nat)(n:Int):RowAt (w.setCell ⟨g,k,none⟩ (.int .i64 n)) 3 1 cellsI (.slice (some ⟨g,0,none⟩) (xs.set k n).length cap) (xs.set k n):=by
 rcases h.2 with ⟨hq,_⟩ | ⟨g',cap',cur,hv,hb,hg,h1,h2,h3,h4⟩
 ·cases hq
 ·cases hv
  refine ⟨Zax (enc:=cellsI) (size:=1) (fun _=>rfl) _,.inr ⟨g,cap,cur.setIfInBounds k (.int .i64 n),rfl,hb,heap_setCell hg k _,by simpa using h1,h2,by simpa using h3,?_⟩⟩
  have e:∀ ys:List Int,ys.flatMap cellsI=ys.map (fun n=>Value.int .i64 n):=fun ys=>by
   induction ys with
   | nil=>rfl
   | cons y ys ih=>rw [List.flatMap_cons,ih]; rfl
  rw [e] at h4 ⊢
  rw [List.length_set,List.map_set,← h4,Array.toList_setIfInBounds,List.take_set]
theorem RefAt.put_wt {g cap:Nat}(h:RefAt w rb V x7 x8 x9 x10 x11 R)(hv:V.vt=.slice (some ⟨g,0,none⟩) R.wt.length cap)(k:Nat)(n:Int) :
  RefAt (w.setCell ⟨g,k,none⟩ (.int .i64 n)) rb V x7 x8 x9 x10 x11 { R with wt:=R.wt.set k n }∧Only (foot rb V) w (w.setCell ⟨g,k,none⟩ (.int .i64 n)):=by
 have hp:=h.pair
 simp only [List.pairwise_cons,List.mem_cons,List.not_mem_nil,or_false,forall_eq_or_imp,forall_eq,List.Pairwise.nil,and_true,false_implies,implies_true] at hp
 have ho:V.vt.ownBlock=some g:=by rw [hv]; rfl
 have hset:=Zaa w ⟨g,k,none⟩ (.int .i64 n)
 have hgn:g≠rb:=fun e=>h.ne (Zab.2 (by simp [ho,e]))
 have keep:∀ {α:Type} {e size:Nat} {enc:α→List Value} {v:Value} {xs:List α},RowAt w e size enc v xs→(∀ m,v.ownBlock=some m→V.vt.ownBlock≠some m)→RowAt (w.setCell ⟨g,k,none⟩ (.int .i64 n)) e size enc v xs:=fun {α e size enc v xs} hq h1=>by
  refine RowAt.kept hq hset ?_
  cases hz:v.ownBlock with
  | none=>exact Jr rfl
  | some m=>exact Js (fun e=>h1 m hz (by rw [ho]; exact e.symm))
 refine ⟨⟨(hset.block rb h.lt (by simpa using hgn.symm)).trans h.cells,keep h.r0 (fun m hm e=>by simp only [hm,e] at hp; simp at hp),keep h.r1 (fun m hm e=>by simp only [hm,e] at hp; simp at hp),keep h.r2 (fun m hm e=>by simp only [hm,e] at hp; simp at hp),keep h.r3 (fun m hm e=>by simp only [hm,e] at hp; simp at hp),keep h.rw (fun m hm e=>by simp only [hm,e] at hp; simp at hp),keep h.ro (fun m hm e=>by simp only [hm,e] at hp; simp at hp),?_,h.apart⟩,Only.of_grown' hset (fun b hb=>by cases hb; exact Jk _ (Zab.2 (by simp [ho])))⟩
 have hrt:=h.rt
 rw [hv] at hrt
 have:=hrt.setAt k n
 rw [hv]
 simpa using this
theorem RefAt.put_on {g cap:Nat}(h:RefAt w rb V x7 x8 x9 x10 x11 R)(hv:V.vo=.slice (some ⟨g,0,none⟩) R.on.length cap)(k:Nat)(n:Int) :
  RefAt (w.setCell ⟨g,k,none⟩ (.int .i64 n)) rb V x7 x8 x9 x10 x11 { R with on:=R.on.set k n }∧Only (foot rb V) w (w.setCell ⟨g,k,none⟩ (.int .i64 n)):=by
 have hp:=h.pair
 simp only [List.pairwise_cons,List.mem_cons,List.not_mem_nil,or_false,forall_eq_or_imp,forall_eq,List.Pairwise.nil,and_true,false_implies,implies_true] at hp
 have ho:V.vo.ownBlock=some g:=by rw [hv]; rfl
 have hset:=Zaa w ⟨g,k,none⟩ (.int .i64 n)
 have hgn:g≠rb:=fun e=>h.ne (Zab.2 (by simp [ho,e]))
 have keep:∀ {α:Type} {e size:Nat} {enc:α→List Value} {v:Value} {xs:List α},RowAt w e size enc v xs→(∀ m,v.ownBlock=some m→V.vo.ownBlock≠some m)→RowAt (w.setCell ⟨g,k,none⟩ (.int .i64 n)) e size enc v xs:=fun {α e size enc v xs} hq h1=>by
  refine RowAt.kept hq hset ?_
  cases hz:v.ownBlock with
  | none=>exact Jr rfl
  | some m=>exact Js (fun e=>h1 m hz (by rw [ho]; exact e.symm))
 refine ⟨⟨(hset.block rb h.lt (by simpa using hgn.symm)).trans h.cells,keep h.r0 (fun m hm e=>by simp only [hm,e] at hp; simp at hp),keep h.r1 (fun m hm e=>by simp only [hm,e] at hp; simp at hp),keep h.r2 (fun m hm e=>by simp only [hm,e] at hp; simp at hp),keep h.r3 (fun m hm e=>by simp only [hm,e] at hp; simp at hp),keep h.rw (fun m hm e=>by simp only [hm,e] at hp; simp at hp),?_,keep h.rt (fun m hm e=>by simp only [hm,e] at hp; simp at hp),h.apart⟩,Only.of_grown' hset (fun b hb=>by cases hb; exact Jk _ (Zab.2 (by simp [ho])))⟩
 have hrt:=h.ro
 rw [hv] at hrt
 have:=hrt.setAt k n
 rw [hv]
 simpa using this
theorem Zii (h:RefAt w rb V x7 x8 x9 x10 x11 R)(hl:R.on.length=R.wt.length)(hlen:R.on.length≤1000)(hw:∀ n∈R.wt,0≤n∧n≤100) :
  Calls Tryz.prog 37 #[.pointer (some ⟨rb,0,none⟩)] w fun e w'=>e=.returned (.tuple #[])∧RefAt w' rb V x7 x8 x9 x10 x11 { R with wt:=tickTo R.on R.wt R.wt.length }∧Only (foot rb V) w w':=by
 rcases h.ro.shape (fun _=>rfl) with ⟨ho,ho'⟩ | ⟨go,co,cuo,ho,hgo,hgol,ho1,ho2,hoc⟩
 ·have hw0:R.wt=[]:=List.eq_nil_of_length_eq_zero (by rw [← hl,ho']; rfl)
  have c5:=h.c5
  rw [ho] at c5
  go_enter Tryz.func37,Tryz.ntmps37
  go_wp2_with fail
  refine wp_loop_rounds 1 ?_
  rw [rounds_succ]
  go_wp2
  go_end0
  refine ⟨rfl,?_,Only.of_below (Jd _ _)⟩
  have e:tickTo R.on R.wt R.wt.length=R.wt:=by rw [hw0]; rfl
  rw [e]; exact h
 ·have c5:=h.c5
  have c6:=h.c6
  rw [ho] at c5
  have hrb:=h.lt
  go_enter Tryz.func37,Tryz.ntmps37
  go_wp2_with fail
  rcases h.rt.shape (fun _=>rfl) with ⟨ht,ht'⟩ | ⟨gt,ct,cut,ht,hgt,hgtl,ht1,ht2,_⟩
  ·have hon:R.on.length=0:=by rw [hl,ht']; rfl
   refine wp_loop_rounds 1 ?_
   rw [rounds_succ]
   have hon':decide ((0:Int)<(R.on.length:Int))=false:=by simp [hon]
   go_wp2
   go_end0
   refine ⟨rfl,?_,Only.of_below (Jd _ _)⟩
   have e:tickTo R.on R.wt R.wt.length=R.wt:=by rw [ht']; rfl
   rw [e]; exact h
  ·have Hoc:=hid hoc
   have Hl:=hid hl
   clear hoc hl
   have hp0:RefAt w rb V x7 x8 x9 x10 x11 { R with wt:=tickTo R.on R.wt 0 }:=by rw [ZfZ]; exact h
   go_loopg [2] R.on.length (fun gk i wr=>∃ k:Nat,k≤R.on.length∧R.on.length - k≤gk∧i=.int .i64 k∧RefAt wr rb V x7 x8 x9 x10 x11 { R with wt:=tickTo R.on R.wt k }∧Only (foot rb V) w wr)
   case atStart=>exact ⟨0,Jq _,Jb _,rfl,hp0,Only.of_below (Jd _ _)⟩
   case round =>
    obtain ⟨k,hk,hgk,rfl,hp,hO⟩:=hrel
    have d5:=hp.c5
    rw [ho] at d5
    have d6:=hp.c6
    rw [ht] at d6
    have hrbw:=hp.lt
    by_cases hlt:k<R.on.length
    ·have hkw:k<R.wt.length:=by rw [← Hl.out]; exact hlt
     have s1:=hp.ro.shape (fun _=>rfl)
     have s2:=hp.rt.shape (fun _=>rfl)
     rcases s1 with ⟨e,_⟩ | ⟨g1,_,_,e,_,hg1,_,_,hc1⟩
     ·rw [ho] at e; cases e
     rcases s2 with ⟨e2,_⟩ | ⟨g2,_,_,e2,_,hg2,_,_,hc2⟩
     ·rw [ht] at e2; cases e2
     have eg1:g1=go:=by have:=congrArg Value.ownBlock (ho.symm.trans e); simpa [Value.ownBlock] using this.symm
     have eg2:g2=gt:=by have:=congrArg Value.ownBlock (ht.symm.trans e2); simpa [Value.ownBlock] using this.symm
     subst eg1 eg2
     have q1:=(hc1 k 0 hlt (by decide)).1
     have q2:=hc2 k 0 (by simpa [tickTo] using hkw) (by decide)
     simp only [cellsI,Je,Nat.add_zero,Nat.mul_one] at q1 q2
     have hkI:(k:Int)<(R.on.length:Int):=by omega
     have hkI2:(k:Int)<(R.wt.length:Int):=by omega
     have hwk:=hw R.wt[k] (Jl hkw)
     have hq2:(tickTo R.on R.wt k)[k]'(by rw [Zbb]; exact hkw)=R.wt[k]:=by rw [ZcR _ _ _ _ hkw,if_neg (by omega)]
     have q20:wr.cell? ⟨g2,k,none⟩=some (.int .i64 R.wt[k]):=by rw [← hq2]; exact q2.1
     have q21:=q2.2
     have hgetD:R.on.getD k 0=R.on[k]:=by simp [hlt]
     have hsuc:=ZfY R.on R.wt k hkw
     rw [hgetD] at hsuc
     have hput:=fun n=>hp.put_wt (g:=g2) (cap:=ct) (by rw [ht]; simp [Zbb]) k n
     have hsame:tk R.on[k] R.wt[k]=R.wt[k]→tickTo R.on R.wt (k+1)=tickTo R.on R.wt k:=fun e0=>by
      rw [hsuc,e0,← hq2,List.set_getElem_self]
     have Hs:=hid (Jc hsuc (Jc hput hsame))
     clear hsuc hput hsame hq2 q2 hgetD hc1 hc2 e e2 hw hp0 h
     generalize R.on[k]=a at q1 Hs
     generalize R.wt[k]=b at q20 hwk Hs
     by_cases ha:a<0
     ·by_cases hb:b<100
      ·go_wp2
       go_roundg (R.on.length - (k+1))
       case measure=>omega
       case rel =>
        refine ⟨k+1,by omega,Jb _,by go_num,?_,hO.trans (Hs.out.2.1 (b+1)).2⟩
        rw [Hs.out.1]
        have e:tk a b=b+1:=by simp [tk,ha,hb]
        rw [e]
        exact (Hs.out.2.1 (b+1)).1
      ·have hbd:decide (b<100)=false:=by simpa using hb
       go_wp2
       go_roundg (R.on.length - (k+1))
       case measure=>omega
       case rel =>
        refine ⟨k+1,by omega,Jb _,by go_num,?_,hO⟩
        rw [Hs.out.2.2 (by simp [tk]; omega)]
        exact hp
     ·have had:decide (a<0)=false:=by simpa using ha
      go_wp2
      go_roundg (R.on.length - (k+1))
      case measure=>omega
      case rel =>
       refine ⟨k+1,by omega,Jb _,by go_num,?_,hO⟩
       rw [Hs.out.2.2 (by simp [tk]; omega)]
       exact hp
    ·obtain rfl:k=R.on.length:=by omega
     go_wp2
     go_end0
     rw [Hl.out] at hp
     exact ⟨rfl,hp,hO⟩
end
end
section
open Go.RowKit
theorem Only.chain {S S':List Nat}{a b c:World}(h:Only S a b)(k:Only S' b c)(hs:∀ x∈S',x∈S∨a.heap.size≤x):Only S a c :=
 ⟨k.os.trans h.os,k.tape.trans h.tape,k.output.trans h.output,Nat.le_trans h.size k.size,fun i hi hn=>(k.block i (Jm hi h.size) (fun hm=>by
  rcases hs i hm with h1 | h1
  ·exact hn h1
  ·omega)).trans (h.block i hi hn)⟩
section
variable {w:World}{rb:Nat}{V:RVs}{x7 x8 x9 x10 x11:Value}{R:RSt}
theorem ZiZ (h:RefAt w rb V x7 x8 x9 x10 x11 R)(id o n:Int)(hl:R.t3.length<16)(h0:0≤id)(h1:id≤99)(hat:atOf id R.t3<0)(hnd:0≤atOf o R.t2)(hn0:0≤n)(hn1:n≤1000)(hln:R.t2.length≤1000)(hlo:R.on.length≤16)(hlt:R.wt.length≤16) :
  Calls Tryz.prog 34 #[.pointer (some ⟨rb,0,none⟩),.int .i64 3,.agg #[.int .i64 id,.int .i64 o,.int .i64 n]] w fun e w'=>e=.returned (.int .i64 0)∧∃ V',RefAt w' rb V' x7 x8 x9 x10 x11 { R with t3:=R.t3 ++ [(id,o,n)],on:=R.on ++ [-1],wt:=R.wt ++ [0] }∧Only (foot rb V) w w'∧(∀ b∈V'.blocks,b∈V.blocks∨w.heap.size≤b):=by
 have hp1:=h.alloc (.cells #[.int .i64 id,.int .i64 o,.int .i64 n] 76)
 have hb1:Below w.heap.size w (w.alloc (.cells #[.int .i64 id,.int .i64 o,.int .i64 n] 76)):=(Jd _ _).alloc (Jb _) _
 have A1:=hid (Zap _ rb 3 V.v3 R.t3 id (by decide) hp1.c3 hp1.r3 (by omega))
 have A2:=hid (Zap _ rb 2 V.v2 R.t2 o (by decide) hp1.c2 hp1.r2 hln)
 generalize atOf o R.t2=q2 at A2 hnd
 have hq2:decide (q2<0)=false:=by simp; omega
 generalize atOf id R.t3=q at A1 hat
 have hqb:decide (0≤q)=false:=by simpa using hat
 have hid0:decide (id<0)=false:=by simp; omega
 have hid1:decide (99<id)=false:=by simp; omega
 have hnb0:decide (n<0)=false:=by simp; omega
 have hnb1:decide (1000<n)=false:=by simp; omega
 obtain ⟨pp,cap,hv⟩:=Zah h.r3
 have c0:=h.c3
 have hrb:=h.lt
 rw [hv] at c0
 have hlb:decide ((16:Int)≤(R.t3.length:Int))=false:=by simp; omega
 go_enter Tryz.func34,Tryz.ntmps34
 go_wp2_with fail
 refine A1.out.mono ?_
 rintro e w2 ⟨rfl,rfl⟩
 go_wp2_with fail
 refine A2.out.mono ?_
 rintro e w2 ⟨rfl,rfl⟩
 go_wp2_with fail
 go_quiet ((go_at_call 63; exact Calls.quiet_of_same (ZhQ _)))
 go_wp2_with fail
 have hp2:=hp1.drewN nq
 have hb2:Below w.heap.size w ((w.alloc (.cells #[.int .i64 id,.int .i64 o,.int .i64 n] 76)).drewN nq):=⟨hb1.os,hb1.tape,hb1.output,hb1.size,hb1.block⟩
 have k0:((w.alloc (.cells #[.int .i64 id,.int .i64 o,.int .i64 n] 76)).drewN nq).cell? ⟨w.heap.size,0,none⟩=some (.int .i64 id):=by show (w.alloc _).cell? _=_; rw [World.cell?_alloc_at _ _ _ _ rfl]; rfl
 have k1:((w.alloc (.cells #[.int .i64 id,.int .i64 o,.int .i64 n] 76)).drewN nq).cell? ⟨w.heap.size,1,none⟩=some (.int .i64 o):=by show (w.alloc _).cell? _=_; rw [World.cell?_alloc_at _ _ _ _ rfl]; rfl
 have k2:((w.alloc (.cells #[.int .i64 id,.int .i64 o,.int .i64 n] 76)).drewN nq).cell? ⟨w.heap.size,2,none⟩=some (.int .i64 n):=by show (w.alloc _).cell? _=_; rw [World.cell?_alloc_at _ _ _ _ rfl]; rfl
 have hz:w.heap.size<((w.alloc (.cells #[.int .i64 id,.int .i64 o,.int .i64 n] 76)).drewN nq).heap.size:=by simp [World.drewN]
 clear A1 A2 hp1 hb1 c0 h
 generalize (w.alloc (.cells #[.int .i64 id,.int .i64 o,.int .i64 n] 76)).drewN nq=W2 at hp2 hb2 k0 k1 k2 hz ⊢
 have c0:=hp2.c3
 have hrb2:=hp2.lt
 obtain ⟨i0,hi,hz0,hz1,hz2⟩:=info_parts Zcd
 go_cut [82] (fun _ wx=>∃ V',RefAt wx rb V' x7 x8 x9 x10 x11 { R with t3:=R.t3 ++ [(id,o,n)] }∧Only (foot rb V) w wx∧(∀ b∈V'.blocks,b∈V.blocks∨w.heap.size≤b))
 case first =>
  have hp3:=(hp2.alloc (.cells #[.int .i64 id,.int .i64 o,.int .i64 n] 76)).drew
  have hO3:Only (foot rb V) w (W2.alloc (.cells #[.int .i64 id,.int .i64 o,.int .i64 n] 76)).drew:=(Only.of_below (Zai hb2 ((Jd _ _).alloc (Jb _) _))).drew
  rw [hv] at c0
  go_region_law (refine Zbs rfl _ _ 41 rfl 0 76 i0 (.agg #[.int .i64 0,.int .i64 0,.int .i64 0]) 3 24 Tryz.underlying41 hi hz0 hz1 hz2 rfl (by decide) _ _ _ hv.symm hp3.r3 ⟨W2.heap.size,0,none⟩ 1 1 [.int .i64 id,.int .i64 o,.int .i64 n] rfl rfl (Zlv _ _ _ _ _) (by intro u hu; simp at hu; rcases hu with rfl | rfl | rfl <;> rfl) (by unfold maxLen; omega) (by omega) (Jq _) ?_; intro u w3 hrow hg hloc; obtain ⟨pu,cu,rfl⟩:=Zae hrow; have q0:=(hp3.kept hg 3 (fun e=>hp3.ne (Zab.2 (by simp [e])))).1.trans hp3.c3; have q1:=(hp3.kept hg 3 (fun e=>hp3.ne (Zab.2 (by simp [e])))).2)
  all_goals go_wp2_with fail
  all_goals go_meet
  all_goals
   have hs:=hp3.set_t3 hg (u:=.slice pu (R.t3.length+1) cu) (ys:=R.t3 ++ [(id,o,n)]) (by unfold RowAt; simpa [cellsT] using hrow) (hloc.imp_right (fun e m hm=>by rw [e] at hm; cases hm; exact Jb _))
   exact ⟨_,hs.1,hO3.trans hs.2.1,fun b hb=>(hs.2.2 b hb).imp_right (fun hh=>Nat.le_trans hO3.size hh)⟩
 case rest =>
  obtain ⟨V',hq⟩:=hcut
  obtain ⟨hr4,hO4,hb4⟩:=hq
  obtain ⟨R4,hR4⟩:∃ R4:RSt,R4={ R with t3:=R.t3 ++ [(id,o,n)] }:=⟨_,rfl⟩
  have e1:R4.on=R.on:=by rw [hR4]
  have e2:R4.wt=R.wt:=by rw [hR4]
  rw [← hR4] at hr4
  have hlo4:R4.on.length≤16:=by rw [e1]; exact hlo
  have hlt4:R4.wt.length≤16:=by rw [e2]; exact hlt
  have HR:=hid hR4
  clear hR4 e1 e2
  obtain ⟨i3,hi3,hy0,hy1,hy2⟩:=info_parts Zlp
  have c5:=hr4.c5
  have hrb4:=hr4.lt
  have f5:=hr4.fr 5
  obtain ⟨po,co,hvo⟩:=Zah hr4.ro
  rw [hvo] at c5
  have hr5:=hr4.alloc (.cells #[.int .i64 (-1)] 3)
  obtain ⟨pt,ct,hvt0⟩:=Zah hr4.rt
  have Hvt:=hid hvt0
  clear hvt0
  go_wp2_with (first
   | (at_builtin; refine wpList_append_own_at _ rfl _ _ 32 rfl 0 3 i3 (.int .i64 0) 1 8 Tryz.underlying32 hi3 hy0 hy1 hy2 rfl (by decide) _ _ _ hvo.symm hr5.ro ⟨wc.heap.size,0,none⟩ 1 1 [.int .i64 (-1)] rfl rfl (cell_one_new _ _ _) (by intro u hu; simp at hu; subst hu; rfl) (by unfold maxLen; omega) (by omega) (Jq _) ?_; intro u w5 hrow5 hg5 _ hloc5; obtain ⟨pu,cu,rfl⟩:=Zae hrow5; have q0:=(hr5.kept hg5 5 (fun e=>hr5.ne (Zab.2 (by simp [e])))).1.trans hr5.c5; have q1:=(hr5.kept hg5 5 (fun e=>hr5.ne (Zab.2 (by simp [e])))).2; have hvt:=Hvt.out; have q6:=(hr5.kept hg5 6 (fun e=>hr5.ne (Zab.2 (by simp [e])))).1.trans hr5.c6; rw [hvt] at q6; have q7:=(hr5.kept hg5 6 (fun e=>hr5.ne (Zab.2 (by simp [e])))).2; have hs5:=hr5.set_on hg5 (u:=.slice pu (R4.on.length+1) cu) (ys:=R4.on ++ [-1]) (by unfold RowAt; simpa [cellsI] using hrow5) (hloc5.imp_right (fun e m hm=>by rw [e] at hm; cases hm; exact Jb _)); have hrb5:rb<w5.heap.size:=Jm hr5.lt hg5.size; have hr6:=hs5.1.alloc (.cells #[.int .i64 0] 3); clear hvo)
   | (at_builtin; refine wpList_append_own_at _ rfl _ _ 32 rfl 0 3 i3 (.int .i64 0) 1 8 Tryz.underlying32 hi3 hy0 hy1 hy2 rfl (by decide) _ _ _ hvt.symm hr6.rt ⟨w5.heap.size,0,none⟩ 1 1 [.int .i64 0] rfl rfl (by have:=cell_one_new (w5.setCell ⟨rb,5,none⟩ (.slice pu (R4.on.length+1) cu)) (.int .i64 0) 3; simpa [World.setCell] using this) (by intro u hu; simp at hu; subst hu; rfl) (by show R4.wt.length+1≤maxLen; unfold maxLen; omega) (by show (R4.wt.length+1)*8≤_; omega) (Jq _) ?_; intro u2 w7 hrow7 hg7 _ hloc7; obtain ⟨pu2,cu2,rfl⟩:=Zae hrow7; have q8:=(hr6.kept hg7 6 (fun e=>hr6.ne (Zab.2 (by simp [e])))).1.trans hr6.c6; have q9:=(hr6.kept hg7 6 (fun e=>hr6.ne (Zab.2 (by simp [e])))).2)
   | go_in)
  go_ret
  have hs7:=hr6.set_wt hg7 (u:=.slice pu2 (R4.wt.length+1) cu2) (ys:=R4.wt ++ [0]) (by unfold RowAt; simpa [cellsI] using hrow7) (hloc7.imp_right (fun e m hm=>by rw [e] at hm; cases hm; exact Jb _))
  have sub4:∀ x∈foot rb V',x∈foot rb V∨w.heap.size≤x:=fun x hx=>by
   rcases List.mem_cons.1 hx with rfl | hx
   ·exact Jr Jp
   ·exact (hb4 x hx).imp_left (Jk _)
  have hOa:Only (foot rb V) w (wc.alloc (.cells #[.int .i64 (-1)] 3)):=hO4.trans (Only.of_below ((Jd _ _).alloc (Jb _) _))
  have hOb:=hOa.chain hs5.2.1 sub4
  have sub5:∀ x∈foot rb ({ V' with vo:=.slice pu (R4.on.length+1) cu }:RVs),x∈foot rb V∨w.heap.size≤x:=fun x hx=>by
   rcases List.mem_cons.1 hx with rfl | hx
   ·exact Jr Jp
   ·rcases hs5.2.2 x hx with h5 | h5
    ·exact (hb4 x h5).imp_left (Jk _)
    ·exact Js (Nat.le_trans hOa.size h5)
  have hOc:Only (foot rb V) w ((w5.setCell ⟨rb,5,none⟩ (.slice pu (R4.on.length+1) cu)).alloc (.cells #[.int .i64 0] 3)):=hOb.trans (Only.of_below ((Jd _ _).alloc (Jb _) _))
  have hOd:=hOc.chain hs7.2.1 sub5
  refine ⟨rfl,{ ({ V' with vo:=.slice pu (R4.on.length+1) cu }:RVs) with vt:=.slice pu2 (R4.wt.length+1) cu2 },?_,hOd,fun b hb=>?_⟩
  ·have e:({ ({ R4 with on:=R4.on ++ [-1] }:RSt) with wt:=R4.wt ++ [0] }:RSt)={ R with t3:=R.t3 ++ [(id,o,n)],on:=R.on ++ [-1],wt:=R.wt ++ [0] }:=by rw [HR.out]
   rw [← e]
   exact hs7.1
  ·rcases hs7.2.2 b hb with h7 | h7
   ·rcases hs5.2.2 b h7 with h5 | h5
    ·exact hb4 b h5
    ·exact Js (Nat.le_trans hOa.size h5)
   ·exact Js (Nat.le_trans hOc.size h7)
end
end
end Go.Proofs.YtjdindfjfpdikaaGreat
