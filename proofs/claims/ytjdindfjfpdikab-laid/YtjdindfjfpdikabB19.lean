import Derived.Test.YtjdindfjfpdikabB18
import Derived.Test.YtjdindfjfpdikabPre
set_option maxRecDepth 100000
set_option maxHeartbeats 8000000
namespace Go.Proofs.Ytjdindfjfpdikab
section
open Go.RowKit
theorem run_append_make (w:World)(ty:TypeId)(n:Nat)(h0:0<n)(hn:n≤100000) :
  (Builtin.append_ #[65,3] ty #[.slice none 0 0,.int .i64 n]).run Try.prog w =
   .ok (.slice (some ⟨w.heap.size,0,none⟩) n (grownCap w n 0 79)) (w.drew.alloc (.cells (Builtin.zeroCells #[.int .i64 0,.int .i64 0] n ++ Builtin.zeroCells #[.int .i64 0,.int .i64 0] (grownCap w n 0 79 - n)) 79)):=by
 obtain ⟨iT,hiT,ht0,ht1,ht2⟩:=info_parts infoT
 have hn0:n≠0:=by omega
 have h63':¬ (9223372036854775807<(n:Int)):=by omega
 have h48':¬ (281474976710656<Builtin.nextslicecap n 0*16):=by rw [nextslicecap_zero h0]; omega
 have hw:IntKind.i64.wrap (n:Int)=n:=wrap_mid (by omega) (by omega)
 have hneg:¬ ((n:Int)<0):=by omega
 have hbig:¬ (281474976710656<(n:Int)*16):=by omega
 simp [Builtin.append_,run_underlying Try.underlying65,run_underlying Try.underlying3,sizeOf,typeInfo,zeroValue,hiT,ht0,ht1,ht2,asInt,asIntOf,hw,hneg,hbig,hn0,h63',h48',Question.forced,run_firstCells_none,newRow,grownCap]
 rw [if_neg (by omega)]
 rfl
theorem wpList_appMake {ops:Array Oper}{rest:List Oper}{o:Oper}{a:Act}{Q:Exit→Act→World→Prop}(W:World)(n:Nat)(hgd:o.guard=none)(sO xO:Operand)
  (hop:o.op=Op.call { callee:=Callee.builtin Builtin.append,args:=#[sO,xO],argTypes:=#[65,3] }) (hs:a.eval sO=.slice none 0 0) (hx:a.eval xO=.int .i64 n) (h0:0<n) (hn:n≤100000)
  (hK:∀ (cap:Nat) (cs:Array Value),n≤cap→cap≤maxLen→cs.size=cap*2→wpList Try.prog ops Q rest (a.put o.dst (.slice (some ⟨W.heap.size,0,none⟩) n cap)) (W.drew.alloc (.cells cs 79))) :
  wpList Try.prog ops Q (o :: rest) a W:=by
 refine wpList_plain hgd fun K hK'=>?_
 unfold Oper.wp execOp
 simp only [hop,resolve,invoke,builtin,Sem.run_bind,Sem.run_pure,Result.andThen_ok,List.map_toArray,List.map_cons,List.map_nil,hs,hx,run_append_make W _ n h0 hn]
 refine hK' _ _ (hK _ _ (grownCap_ge W n 0 79) (grownCap_le_maxLen W n 0 79 (by unfold maxLen; omega)) ?_)
 have hge:=grownCap_ge W n 0 79
 have hsz:∀ m,(Builtin.zeroCells #[Value.int .i64 0,.int .i64 0] m).size=m*2:=fun m=>size_zeroCells _ m
 rw [Array.size_append,hsz,hsz]
 omega
theorem grow_nil (w:World)(n:Nat)(hn:n≤100000) :
  Calls Try.prog 68 #[.slice none 0 0,.int .i64 n] w fun e w'=>∃ v,e=.returned v∧TRow w.heap.size w' v []∧Below w.heap.size w w':=by
 have d0:decide ((n:Int)<0)=false:=by simp
 by_cases h0:0<n
 ·have d1:decide (0<(n:Int))=true:=by simpa using h0
  go_enter Try.func68,Try.ntmps68
  go_wp2_with (first
   | (at_builtin; refine wpList_appMake _ n rfl _ _ rfl rfl rfl h0 hn ?_; intro cap cs hc1 hc2 hc3)
   | go_in)
  go_ret
  exact ⟨_,rfl,⟨rfl,Js ⟨w.heap.size,cap,cs,rfl,Jb _,heap_alloc_new w.drew _,Jq _,hc2,hc3,rfl⟩⟩,((Jd _ _).drew).alloc (by simp) _⟩
 ·obtain rfl:n=0:=by omega
  go_enter Try.func68,Try.ntmps68
  go_wp2
  go_ret
  exact ⟨_,rfl,TRow.nil _ _,Jd _ _⟩
theorem run_append_none (w:World)(ty:TypeId)(p:Option Addr)(n cap:Nat)(hc:n≤cap) :
  (Builtin.append_ #[65,65] ty #[.slice p n cap,.slice none 0 0]).run Try.prog w=.ok (.slice p n cap) w:=by
 obtain ⟨iT,hiT,ht0,ht1,ht2⟩:=info_parts infoT
 cases p with
 | none=>simp [Builtin.append_,run_underlying Try.underlying65,sizeOf,typeInfo,hiT,Builtin.lenOf,Builtin.firstCells,hc]
 | some a=>simp [Builtin.append_,run_underlying Try.underlying65,sizeOf,typeInfo,hiT,Builtin.lenOf,Builtin.firstCells,hc,storeCells]
theorem wpList_appT {ops:Array Oper}{rest:List Oper}{o:Oper}{a:Act}{Q:Exit→Act→World→Prop}(W:World)(b0 b1:Nat)(v v2:Value)(xs ys:List (Int×Int))(hgd:o.guard=none)(sO xO:Operand)
  (hop:o.op=Op.call { callee:=Callee.builtin Builtin.append,args:=#[sO,xO],argTypes:=#[65,65] }) (hs:a.eval sO=v) (hr:TRow b0 W v xs) (hx:a.eval xO=v2) (hr2:TRow b1 W v2 ys) (hb:b0≤W.heap.size) (hl:xs.length+ys.length≤100000)
  (hK:∀ (v':Value) (w':World),TRow b0 w' v' (xs ++ ys)→W.grownBy w' v.ownBlock→wpList Try.prog ops Q rest (a.put o.dst v') w') :
  wpList Try.prog ops Q (o :: rest) a W:=by
 obtain ⟨iT,hiT,ht0,ht1,ht2⟩:=info_parts infoT
 rcases hr2.2 with ⟨e1,e2⟩ | ⟨g,cap,cur,e1,_,hg,_,_,_,ht⟩
 ·have ey:ys=[]:=List.eq_nil_of_length_eq_zero e2
  subst ey
  have hcap:∃ p n c,v=.slice p n c∧n≤c:=by
   rcases hr.2 with ⟨q1,q2⟩ | ⟨g,cap,cur,q1,_,_,q3,_⟩
   ·exact ⟨none,0,0,q1,Jb _⟩
   ·exact ⟨_,_,_,q1,q3⟩
  obtain ⟨p,n,c,rfl,hnc⟩:=hcap
  refine wpList_plain hgd fun K hK'=>?_
  unfold Oper.wp execOp
  simp only [hop,resolve,invoke,builtin,Sem.run_bind,Sem.run_pure,Result.andThen_ok,List.map_toArray,List.map_cons,List.map_nil,hs,hx,e1,run_append_none W _ p n c hnc]
  refine hK' _ _ (hK _ _ (by rw [List.append_nil]; exact hr) ⟨rfl,rfl,rfl,Jb _,fun _ _ _=>rfl⟩)
 ·subst e1
  refine wpList_append_own_at W hgd sO xO 65 hop b0 79 iT (.agg #[.int .i64 0,.int .i64 0]) 2 16 Try.underlying65 hiT ht0 ht1 ht2 rfl (by decide) v xs.length (flat xs) hs hr ⟨g,0,none⟩ ys.length cap (flat ys) hx hr2.1 ?_ ?_ (by unfold maxLen; omega) (by omega) hb ?_
  ·intro j u hj
   rw [Addr.add_lit,Nat.zero_add,cellC hg]
   rw [← ht] at hj
   have hj':j<ys.length*2:=by
    have:=(List.getElem?_eq_some_iff.1 hj).1
    rw [List.length_take] at this
    omega
   rw [List.getElem?_take_of_lt hj'] at hj
   simpa using hj
  ·intro u hu
   obtain ⟨x,_,hx'⟩:=List.mem_flatMap.1 (by unfold flat at hu; exact hu)
   simp at hx'
   rcases hx' with rfl | rfl <;> rfl
  ·intro u w' hrow hg' _ _
   refine hK u w' ?_ hg'
   unfold TRow
   rw [Jo,flat_append]
   exact hrow
theorem concat_any (w:World)(sb b1 b2:Nat)(v1 v2:Value)(xs ys:List (Int×Int))(hc:w.heap[sb]?=some (.cells #[v1,v2] 65))(h1:TRow b1 w v1 xs)(h2:TRow b2 w v2 ys)(hl:xs.length+ys.length≤10000) :
  Calls Try.prog 55 #[.slice (some ⟨sb,0,none⟩) 2 2] w fun e w'=>∃ v,e=.returned v∧TRow w.heap.size w' v (xs ++ ys)∧Below w.heap.size w w':=by
 obtain ⟨p1,c1,e1⟩:=h1.sl
 obtain ⟨p2,c2,e2⟩:=h2.sl
 subst e1 e2
 have k0:=cellC hc 0
 have k1:=cellC hc 1
 simp only [Jg,Jf,Je] at k0 k1
 have hsl:sb<w.heap.size:=(Ja.1 hc).1
 obtain ⟨n,hn⟩:∃ n:Nat,xs.length+ys.length=n:=⟨_,rfl⟩
 have hnI:(xs.length:Int)+(ys.length:Int)=(n:Int):=by omega
 have hnn:n≤10000:=by omega
 have H0:=hid (Jc hc (Jc h1 (Jc h2 hn)))
 clear hc h1 h2 hn
 go_enter Try.func55,Try.ntmps55
 go_wp2_with fail
 go_loop [3,11] (fun sv i=>∃ k:Nat,k≤2∧i=.int .i64 k∧sv=.int .i64 (if k=0 then 0 else if k=1 then (xs.length:Int) else (n:Int))) (fun sv i=>2 - (intOf i).toNat)
 case atStart=>exact ⟨0,by omega,rfl,rfl⟩
 case' round=>skip
 obtain ⟨k,hk,rfl,rfl⟩:=hrel
 obtain rfl | rfl | rfl:k=0∨k=1∨k=2:=by omega
 ·have d0:decide ((xs.length:Int)<0)=false:=by simp
  go_wp2
  go_round
  case rel=>exact ⟨1,by omega,rfl,rfl⟩
  case measure=>simp [intOf]
 ·have d0:decide ((n:Int)<0)=false:=by simp
  go_wp2
  go_round
  case rel=>exact ⟨2,by omega,rfl,rfl⟩
  case measure=>simp [intOf]
 ·have A1:=hid (grow_nil w n (by omega))
  go_wp2_with (first
   | (go_at_call 68; refine A1.out.mono ?_; rintro e W2 ⟨v,rfl,hr0,b2⟩; obtain ⟨pg,cg,eg⟩:=hr0.sl; subst eg; have m0:=(b2.cell (p:=⟨sb,0,none⟩) hsl).trans k0; have m1:=(b2.cell (p:=⟨sb,1,none⟩) hsl).trans k1; have hs2:sb<W2.heap.size:=Jm hsl b2.size)
   | fail)
  have H1:=hid (Jc hr0 b2)
  clear hr0 b2 A1 m0 m1 hs2
  go_loopg [6,27] 2 (fun gk v i wr=>∃ k:Nat,k≤2∧2 - k≤gk∧i=.int .i64 k∧Hid (TRow w.heap.size wr v (if k=0 then [] else if k=1 then xs else xs ++ ys)∧Below w.heap.size w wr))
  case atStart=>exact ⟨0,by omega,by omega,rfl,H1.out⟩
  case' round=>skip
  obtain ⟨k,hk,hgk,rfl,H2⟩:=hrel
  rename World=>Z
  obtain ⟨hr,hb⟩:=H2.out
  have m0:=(hb.cell (p:=⟨sb,0,none⟩) hsl).trans k0
  have m1:=(hb.cell (p:=⟨sb,1,none⟩) hsl).trans k1
  have hs2:sb<Z.heap.size:=Jm hsl hb.size
  have hx:=H0.out.2.1.below hb
  have hy:=H0.out.2.2.1.below hb
  have hws:=hb.size
  have HB:=hid hb
  clear hb H2 H1
  obtain rfl | rfl | rfl:k=0∨k=1∨k=2:=by omega
  ·rw [if_pos rfl] at hr
   go_wp2_with (first
    | (at_builtin; refine wpList_appT _ w.heap.size b1 _ _ [] xs rfl _ _ rfl rfl hr rfl hx hws (by simp; omega) ?_; intro v' Z2 hrow hg; have HR:=hid (Jc hrow (HB.out.grown hg HB.out.size (fun b e=>hr.base b e))); clear hrow hg)
    | go_in)
   go_roundg 1
   case measure=>omega
   case rel=>exact ⟨1,by omega,by omega,rfl,(by have h:=HR.out; rw [List.nil_append] at h; exact h)⟩
  ·rw [if_neg (by decide),if_pos rfl] at hr
   go_wp2_with (first
    | (at_builtin; refine wpList_appT _ w.heap.size b2 _ _ xs ys rfl _ _ rfl rfl hr rfl hy hws (by omega) ?_; intro v' Z2 hrow hg; have HR:=hid (Jc hrow (HB.out.grown hg HB.out.size (fun b e=>hr.base b e))); clear hrow hg)
    | go_in)
   go_roundg 0
   case measure=>omega
   case rel=>exact ⟨2,by omega,by omega,rfl,HR.out⟩
  ·rw [if_neg (by decide),if_neg (by decide)] at hr
   have HR:=hid (Jc hr HB.out)
   clear hr
   go_wp2_with fail
   go_ret
   exact ⟨_,rfl,HR.out⟩
end
end Go.Proofs.Ytjdindfjfpdikab
