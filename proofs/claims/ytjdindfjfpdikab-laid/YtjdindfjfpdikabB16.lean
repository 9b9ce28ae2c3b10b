import Derived.Laws.Bits64b
import Derived.BigRegion
import Derived.Laws.CopyOwn
import Derived.Test.YtjdindfjfpdikabB08
import Derived.Test.YtjdindfjfpdikabB10
import Derived.Test.YtjdindfjfpdikabB15
import Derived.Test.YtjdindfjfpdikabPre
set_option maxRecDepth 100000
set_option maxHeartbeats 8000000
namespace Go.Proofs.Ytjdindfjfpdikab
section
open Go.RowKit Go.Shelf
theorem lift_upon {l n:Nat}{P:Program}{o:Oper}{a:Act}{K:Act→World→Prop}{Q:Exit→Act→World→Prop}{r:Result Next}(h:o.upon P a K Q r):o.uponIn (Fence.wide.inRound l) n P a K Q r:=by
 cases r with
 | ok x w =>
  cases x with
  | value v=>exact h
  | skip=>exact h
  | defer d=>exact h
  | enter f args=>exact ⟨(fun q=>by cases q),CallsIn.inRound l (callsIn_wide.2 h)⟩
  | row r args=>exact ⟨(fun q=>by cases q),fun c cs _=>let ⟨v,w',hr,s⟩:=h c cs; ⟨v,w',hr,stepsIn_wide.2 s⟩⟩
  | _=>exact False.elim h
 | halt x w =>
  cases x with
  | panic v=>exact h
  | _=>exact False.elim h
theorem lift_op {l n:Nat}{P:Program}{ops:Array Oper}{Q:Exit→Act→World→Prop}(hd:ops.all noDefer=true)(hQ:¬ LetsOut Q){i:Nat}{K:Act→World→Prop}{a:Act}{w:World}(h:wpOp P ops Q i K a w):wpOpIn (Fence.wide.inRound l) n P ops Q i K a w:=by
 unfold wpOp at h
 unfold wpOpIn
 cases ho:ops[i]? with
 | none=>rw [ho] at h; exact h
 | some o =>
  rw [ho] at h
  simp only at h ⊢
  have hnd:∀ c,o.op≠.defer c:=fun c e=>by
   have h1:o∈ops:=Array.mem_of_getElem? ho
   have h2:=Array.all_eq_true_iff_forall_mem.1 hd o h1
   unfold noDefer at h2
   rw [e] at h2
   cases h2
  split
  ·rename_i hw
   rw [if_pos hw] at h
   refine ⟨fun _ _=>trivial,?_⟩
   rw [Oper.semAt_eq _ _ _ hnd]
   rcases h with h | h
   ·exact lift_upon h
   ·exact absurd h.2 hQ
  ·rename_i hw
   rw [if_neg hw] at h
   exact ⟨fun _ _=>trivial,h⟩
theorem lift_any {l n:Nat}{P:Program}{md:Region.Mode}{ops:Array Oper}{Q:Exit→Act→World→Prop}(hd:ops.all noDefer=true)(hQ:¬ LetsOut Q):∀ (fuel:Nat)(listed:Array Bool)(a:Act)(w:World),wpAny P md ops Q fuel listed a w→wpAnyIn (Fence.wide.inRound l) n P md ops Q fuel listed a w
 | 0,_,_,_,h=>h
 | fuel+1,_,_,_,h=>⟨h.1,fun i hi=>lift_op hd hQ (wpOp_mono (fun a' w' h'=>lift_any hd hQ fuel _ a' w' h') (h.2 i hi))⟩
theorem held_round {l n id:Nat}{P:Program}{ops:Array Oper}{Q:Exit→Act→World→Prop}{S:World→Prop}{a:Act}{w:World}(hd:ops.all noDefer=true)(hQ:¬ LetsOut Q)(hm:P.follows .mixedOrders=true)(hS:S w.drew)
  (h:S w.drew→wpAnyH P .any ops Q S ops.size (Array.replicate ops.size false) a w.drew):(Code.region id ops true).wpIn (Fence.wide.inRound l) n P Q a w :=
 wpIn_region_any hm (lift_any hd hQ _ _ _ _ (wpAny_of_held _ _ _ _ (h hS)))
def markD (D:Nat):Deferred:={ target:=.collected D,args:=#[] }
theorem leaves_marks {F:Fence}{n:Nat}{P:Program}{fn:Func}{tmps:Array Value}{R:Ending→World→Prop}:∀ (Ds:List Nat)(W:World),Ds.Nodup→(∀ D∈Ds,W.heap[D]?=some (.deferred (some []))) →
  (∀ W',(∀ b,b∉Ds→W'.heap[b]?=W.heap[b]?)→W'.heap.size=W.heap.size→W'.os=W.os→W'.tape=W.tape→W'.output=W.output→∃ v,(results fn tmps).run P W'=.ok v W'∧R (.returned v) W')→LeavesInM F n P fn tmps R (Ds.map markD) .returning W
 | [],W,_,_,h=>h W (fun _ _=>rfl) rfl rfl rfl rfl
 | D :: Ds,W,hn,hd,h=>by
  obtain ⟨h1,h2⟩:=List.nodup_cons.1 hn
  have hD:=hd D Jp
  have hlt:=(Ja.1 hD).1
  have hg:=grownBy_putObj' W D (.deferred none)
  have hsz:(W.putObj D (.deferred none)).heap.size=W.heap.size:=by simp [World.putObj]
  have hoth:∀ b,b≠D→(W.putObj D (.deferred none)).heap[b]?=W.heap[b]?:=fun b hb=>by
   by_cases hl:b<W.heap.size
   ·exact hg.block b hl (fun q=>hb (by cases q; rfl))
   ·rw [Array.getElem?_eq_none (by omega),Array.getElem?_eq_none (by omega)]
  refine ⟨by simp,.inl ⟨D,_,rfl,run_takeDeferred hD,?_⟩⟩
  refine leaves_marks Ds _ h2 (fun E hE=>?_) (fun W' hW hs ho ht hp=>?_)
  ·rw [hoth E (fun e=>h1 (by rw [← e]; exact hE))]
   exact hd E (Jk _ hE)
  ·refine h W' (fun b hb=>?_) (hs.trans hsz) (ho.trans rfl) (ht.trans rfl) (hp.trans rfl)
   rw [hW b (fun q=>hb (Jk _ q)),hoth b (fun e=>hb (by rw [e]; exact Jp))]
def LB (W:World)(g n:Nat)(L:Nat→Option Opn):Prop:=∃ cur:Array Value,W.heap[g]?=some (.cells cur 99)∧∀ v,v<n→cur[v*5]?=some (.int .i64 (lastOf L v).1)∧cur[v*5+1]?=some (.int .i64 (lastOf L v).2.1)∧cur[v*5+2]?=some (.int .i64 (lastOf L v).2.2.1)∧cur[v*5+3]?=some (.int .i64 (lastOf L v).2.2.2.1)∧cur[v*5+4]?=some (.int .i64 (lastOf L v).2.2.2.2)
section
variable {W W':World}{g n:Nat}{L:Nat→Option Opn}
theorem LB.lt (h:LB W g n L):g<W.heap.size:=by
 obtain ⟨cur,e,_⟩:=h
 exact (Ja.1 e).1
theorem LB.lat (h:LB W g n L):LAt W g n L:=by
 refine ⟨h.lt,fun v hv=>?_⟩
 obtain ⟨cur,e,h⟩:=h
 have:=h v hv
 simpa only [at_cells e] using this
theorem LB.cell (h:LB W g n L){v j:Nat}(hv:v<n)(hj:j<5):(W.cell? ⟨g,v*5+j,none⟩).isSome=true∧W.frozen? ⟨g,v*5+j,none⟩=false:=by
 obtain ⟨cur,e,h⟩:=h
 refine ⟨?_,by simp [World.frozen?,e]⟩
 obtain ⟨h0,h1,h2,h3,h4⟩:=h v hv
 rw [at_cells e]
 have:j=0∨j=1∨j=2∨j=3∨j=4:=by omega
 rcases this with rfl | rfl | rfl | rfl | rfl
 ·rw [Nat.add_zero,h0]; rfl
 ·rw [h1]; rfl
 ·rw [h2]; rfl
 ·rw [h3]; rfl
 ·rw [h4]; rfl
theorem LB.set (h:LB W g n L){o:Opn}(ht:o.t<n):LB (((((W.setCell ⟨g,o.t*5,none⟩ (.int .i64 o.f)).setCell ⟨g,o.t*5+1,none⟩ (.int .i64 o.t)).setCell ⟨g,o.t*5+2,none⟩ (.int .i64 o.k)).setCell ⟨g,o.t*5+3,none⟩ (.int .i64 o.a)).setCell ⟨g,o.t*5+4,none⟩ (.int .i64 o.b)) g n (updO L o.t o):=by
 obtain ⟨cur,e,h⟩:=h
 refine ⟨_,heap_setCell (heap_setCell (heap_setCell (heap_setCell (heap_setCell e _ _) _ _) _ _) _ _) _ _,fun v hv=>?_⟩
 have hsz:o.t*5+4<cur.size:=(Ja.1 (h o.t ht).2.2.2.2).1
 by_cases q:v=o.t
 ·subst q
  have:lastOf (updO L o.t o) o.t=((o.f:Int),(o.t:Int),o.k,(o.a:Int),o.b):=by unfold lastOf updO; simp
  rw [this]
  refine ⟨?_,?_,?_,?_,?_⟩ <;> simp [Array.getElem?_setIfInBounds] <;> omega
 ·have:lastOf (updO L o.t o) v=lastOf L v:=by unfold lastOf updO; simp [q]
  rw [this]
  obtain ⟨h0,h1,h2,h3,h4⟩:=h v hv
  refine ⟨?_,?_,?_,?_,?_⟩
  ·rw [← h0]; repeat rw [Array.getElem?_setIfInBounds_ne (by omega)]
  ·rw [← h1]; repeat rw [Array.getElem?_setIfInBounds_ne (by omega)]
  ·rw [← h2]; repeat rw [Array.getElem?_setIfInBounds_ne (by omega)]
  ·rw [← h3]; repeat rw [Array.getElem?_setIfInBounds_ne (by omega)]
  ·rw [← h4]; repeat rw [Array.getElem?_setIfInBounds_ne (by omega)]
end
end
section
open Go.RowKit
theorem walk_at:∀ {l:List Opn}{v u:Nat},WalkB v l u→∀ x:Opn,x.f=v→(∀ j (hj:j<l.length),l[j].t=((x :: l).getD j ⟨0,0,0,0,0⟩).f)∧((x :: l).getD l.length ⟨0,0,0,0,0⟩).f=u
 | [],v,u,h,x,hx=>by
  have h':v=u:=h
  exact ⟨fun j hj=>by simp at hj,by show x.f=u; omega⟩
 | o :: l,v,u,h,x,hx=>by
  obtain ⟨h1,h2⟩:=h
  obtain ⟨i1,i2⟩:=walk_at h2 o rfl
  refine ⟨fun j hj=>?_,?_⟩
  ·cases j with
   | zero=>show o.t=x.f; omega
   | succ j=>exact i1 j (by simpa using hj)
  ·exact i2
section
variable {N:Nat}{opn:Opn→Prop}{C:Nat→Int}{L:Nat→Option Opn}
theorem back_of (h:CInv N opn C L){o:Opn}(ht:o.t<N)(hf:o.f<N){l:List Opn}{u:Nat}(T:Trail L o.t o.f l u)(hu:u=o.t∨(u≠o.t∧L u=none)):Back N (updO L o.t o) o.t (o :: l)∧atv o.t (o :: l) (o :: l).length=u∧u<N∧(o :: l).length≤N+1:=by
 obtain ⟨w1,w2⟩:=walk_at T.walk o rfl
 have hat:∀ j,(hj:j<l.length)→atv o.t (o :: l) (j+1)=l[j].t:=fun j hj=>(w1 j hj).symm
 have hend:atv o.t (o :: l) (o :: l).length=u:=w2
 have hkl:∀ x∈l,x.t<N∧x.f<N:=fun x hx=>by
  have:=(h.kept _ _ (T.kept x hx)).1
  exact ⟨this.2.2,this.2.1⟩
 have huN:u<N:=by
  rw [← w2]
  cases hl:l with
  | nil=>exact hf
  | cons y r =>
   have hlt:l.length - 1<l.length:=by rw [hl]; simp
   have e:((o :: y :: r).getD (y :: r).length ⟨0,0,0,0,0⟩)∈y :: r:=by
    show (y :: r).getD r.length ⟨0,0,0,0,0⟩∈y :: r
    rw [List.getD_eq_getElem?_getD,List.getElem?_eq_getElem (by simp)]
    exact Jl _
   exact (hkl _ (by rw [hl]; exact e)).2
 obtain ⟨n,hn⟩:=h.fin o.f
 have hlen:l.length≤N:=by
  have h1:=few_of_nodup N (l.map Opn.t) (T.low hn).1 (fun x hx=>by
   obtain ⟨y,hy,rfl⟩:=List.mem_map.1 hx
   exact (hkl y hy).1)
  simpa using h1
 refine ⟨⟨fun j hj=>?_,fun j h0 hj=>?_,?_⟩,hend,huN,by simpa using hlen⟩
 ·cases j with
  | zero=>exact ⟨by show updO L o.t o o.t=some o; unfold updO; simp,ht⟩
  | succ j =>
   have hj':j<l.length:=by simpa using hj
   have hm:l[j]∈l:=Jl hj'
   rw [hat j hj']
   refine ⟨?_,(hkl _ hm).1⟩
   show updO L o.t o l[j].t=some l[j]
   unfold updO
   rw [if_neg (T.off _ hm)]
   exact T.kept _ hm
 ·cases j with
  | zero=>omega
  | succ j =>
   have hj':j<l.length:=by simpa using hj
   rw [hat j hj']
   exact T.off _ (Jl hj')
 ·rw [hend]
  rcases hu with e | ⟨e1,e2⟩
  ·exact Jr e
  ·refine Js ⟨e1,?_,huN⟩
   unfold updO
   rw [if_neg e1]
   exact e2
end
abbrev Op4 (la:Nat)(A:Nat→Ar)(F:Nat→Int)(ls:Nat):={ x:Op3 ls // IsOpen la A F x.1 }
def Op4.opn {la:Nat}{A:Nat→Ar}{F:Nat→Int}{ls:Nat}(x:Op4 la A F ls):Opn:=⟨x.1.1.1.toNat,x.1.1.2.1.toNat,x.1.1.2.2.1,x.1.1.2.2.2.1.toNat,x.1.1.2.2.2.2⟩
theorem Op4.is {la:Nat}{A:Nat→Ar}{F:Nat→Int}{ls:Nat}(x:Op4 la A F ls):IsOpn la A F x.opn∧x.1.1=((x.opn.f:Int),(x.opn.t:Int),x.opn.k,(x.opn.a:Int),x.opn.b)∧x.opn.f<ls∧x.opn.t<ls∧-10000≤x.opn.k∧x.opn.k≤10000:=by
 obtain ⟨⟨⟨xf,xt,xk,xa,xb⟩,⟨f0,f1⟩,⟨t0,t1⟩,k0,k1⟩,i,hi,ho⟩:=x
 simp only at f0 f1 t0 t1 k0 k1
 have ea:xa=(i:Int):=by
  rcases ho with ⟨_,e⟩ | ⟨_,e⟩ <;> exact congrArg (fun p=>p.2.2.2.1) e
 subst ea
 refine ⟨⟨?_,?_⟩,?_,?_,?_,k0,k1⟩
 ·show ((i:Int)).toNat<la; rw [Jn]; exact hi
 ·show _∨_
  simp only [Op4.opn,Jn]
  rcases ho with ⟨h1,e⟩ | ⟨h1,e⟩
  ·left
   simp only [Prod.mk.injEq] at e
   obtain ⟨e1,e2,e3,_,e5⟩:=e
   exact ⟨h1,e5,by omega,by omega,e3⟩
  ·right
   simp only [Prod.mk.injEq] at e
   obtain ⟨e1,e2,e3,_,e5⟩:=e
   exact ⟨h1,e5,by omega,by omega,e3⟩
 ·simp only [Op4.opn,Jn,Prod.mk.injEq,and_true]
  omega
 ·show xf.toNat<ls; omega
 ·show xt.toNat<ls; omega
def sumC (C:Nat→Int)(n:Nat):Int:=sumN (fun v=>C v+600000) n
theorem sumC_upd {C:Nat→Int}{n v:Nat}{x:Int}(hv:v<n)(hx:x<C v):sumC (updI C v x) n<sumC C n:=by
 unfold sumC
 have e:sumN (fun i=>updI C v x i+600000) n=sumN (updI (fun i=>C i+600000) v (x+600000)) n:=sumN_congr (fun i _=>by
  unfold updI
  split <;> rfl)
 rw [e,sumN_upd hv]
 omega
theorem sumC_nn {C:Nat→Int}{n:Nat}(h:∀ v,v<n→-600000≤C v):0≤sumC C n:=by
 unfold sumC
 have:=sumN_le (g:=fun _=>0) (h:=fun v=>C v+600000) (n:=n) (fun i hi=>by have:=h i hi; omega)
 rw [sumN_zero] at this
 exact this
end
section
open Go.RowKit
theorem mask_low (a:Nat)(ha:a≤100000):bits .and .u64 (a:Int) 4294967295=(a:Int):=by
 have h:=bits_and_u64_nat a 4294967295 (by omega) (by omega)
 have e:a &&& 4294967295=a % 4294967296:=Nat.and_two_pow_sub_one_eq_mod a 32
 rw [e,Nat.mod_eq_of_lt (by omega)] at h
 exact h
theorem mul64_one (w:World)(n:Nat)(hn:n≤100000) :
  Calls Try.prog 82 #[.int .u64 1,.int .u64 n] w fun e w'=>e=.returned (.tuple #[.int .u64 0,.int .u64 n])∧w'=w:=by
 have h1:bits .and .u64 1 4294967295=1:=mask_low 1 (by omega)
 have h0:bits .and .u64 0 4294967295=0:=mask_low 0 (by omega)
 have h2:=mask_low n hn
 have h3:(n:Int) / 4294967296=0:=by omega
 have h4:IntKind.u64.wrap (n:Int)=n:=by rw [IntKind.wrap_u64]; omega
 have h5:IntKind.u64.wrap 0=0:=by rw [IntKind.wrap_u64]; rfl
 have h6:(0:Int) / 4294967296=0:=rfl
 go_enter Try.func82,Try.ntmps82
 go_wp2
 go_ret2
 exact ⟨rfl,rfl⟩
theorem mul_one' (w:World)(n:Nat)(hn:n≤100000) :
  Calls Try.prog 69 #[.int .u64 1,.int .u64 n] w fun e w'=>e=.returned (.tuple #[.int .u64 0,.int .u64 n])∧w'=w:=by
 go_enter Try.func69,Try.ntmps69
 go_wp2_with (first
  | (go_at_call 82; refine (mul64_one w n hn).mono ?_; rintro e w' ⟨rfl,rfl⟩)
  | fail)
 go_ret2
 exact ⟨rfl,rfl⟩
theorem run_copy5 (w:World)(ty:TypeId)(g o dLen dCap:Nat)(a:Addr)(sLen sCap m:Nat)(cur:Array Value)(cs:List Value)
  (hg:w.heap[g]?=some (.cells cur 99)) (hm:Nat.min sLen dLen=m) (hn:cs.length=m*5)
  (hsrc:∀ j v,cs[j]?=some v→w.cell? (a.add j)=some v) (hfit:o+cs.length≤cur.size) (h1:∀ v∈cs,v.oneCell'=true) :
  (Builtin.copy_ #[95,95] ty #[.slice (some ⟨g,o,none⟩) dLen dCap,.slice (some a) sLen sCap]).run Try.prog w =
   .ok (goInt m) (w.setRow g (cur.toList.take o ++ cs ++ cur.toList.drop (o+cs.length)).toArray):=by
 obtain ⟨i,hi,_,hsz,_⟩:=info_parts infoO
 have hl:=run_loadCells_list (P:=Try.prog) w a cs hsrc
 have hst:=run_storeCells_at Try.prog g o 99 cs 0 cur w hg (by simpa using hfit) h1
 simp [Builtin.copy_,run_underlying Try.underlying95,Builtin.lenOf,Builtin.firstCells,sizeOf,typeInfo,hi,hsz,hm,← hn,hl,hst]
theorem wpList_copy5 {w:World}{ops:Array Oper}{rest:List Oper}{o:Oper}{a:Act}{Q:Exit→Act→World→Prop}(hgd:o.guard=none)(d s:Operand)
  (ho:o.op=.call { callee:=.builtin .copy,args:=#[d,s],argTypes:=#[95,95] }) (g off dLen dCap:Nat) (ad:Addr) (sLen sCap m:Nat) (hd:a.eval d=.slice (some ⟨g,off,none⟩) dLen dCap) (hs:a.eval s=.slice (some ad) sLen sCap)
  (cur:Array Value) (cs:List Value) (hg:w.heap[g]?=some (.cells cur 99)) (hm:Nat.min sLen dLen=m) (hn:cs.length=m*5)
  (hsrc:∀ j v,cs[j]?=some v→w.cell? (ad.add j)=some v) (hfit:off+cs.length≤cur.size) (h1:∀ v∈cs,v.oneCell'=true)
  (h:∀ w',Hid (w'=w.setRow g (cur.toList.take off ++ cs ++ cur.toList.drop (off+cs.length)).toArray)→wpList Try.prog ops Q rest (a.put o.dst (goInt m)) w'):wpList Try.prog ops Q (o :: rest) a w:=by
 refine wpList_plain hgd fun K hK=>?_
 have hrun:=run_copy5 w o.type g off dLen dCap ad sLen sCap m cur cs hg hm hn hsrc hfit h1
 unfold Oper.wp
 simp only [execOp,ho,resolve,invoke,builtin,Sem.run_bind,Sem.run_pure,Result.andThen_ok,List.map_toArray,List.map_cons,List.map_nil,hd,hs,hrun]
 exact hK _ _ (h _ (show _=_ from rfl))
theorem step_copy5 {w:World}{ops:Array Oper}{o:Oper}{a:Act}{K:Act→World→Prop}{Q:Exit→Act→World→Prop}{E:Prop}(hgd:o.guard=none)(d s:Operand)
  (ho:o.op=.call { callee:=.builtin .copy,args:=#[d,s],argTypes:=#[95,95] }) (g off dLen dCap:Nat) (ad:Addr) (sLen sCap m:Nat) (hd:a.eval d=.slice (some ⟨g,off,none⟩) dLen dCap) (hs:a.eval s=.slice (some ad) sLen sCap)
  (cur:Array Value) (cs:List Value) (hg:w.heap[g]?=some (.cells cur 99)) (hm:Nat.min sLen dLen=m) (hn:cs.length=m*5)
  (hsrc:∀ j v,cs[j]?=some v→w.cell? (ad.add j)=some v) (hfit:off+cs.length≤cur.size) (h1:∀ v∈cs,v.oneCell'=true)
  (h:∀ w',Hid (w'=w.setRow g (cur.toList.take off ++ cs ++ cur.toList.drop (off+cs.length)).toArray)→K (a.put o.dst (goInt m)) w'):if Region.wanted o (yielded ops a.tmps)=true then Oper.wp Try.prog o a w K Q else E:=by
 have hw:Region.wanted o (yielded ops a.tmps)=true:=by simp [Region.wanted,hgd]
 rw [if_pos hw]
 have hrun:=run_copy5 w o.type g off dLen dCap ad sLen sCap m cur cs hg hm hn hsrc hfit h1
 unfold Oper.wp
 simp only [execOp,ho,resolve,invoke,builtin,Sem.run_bind,Sem.run_pure,Result.andThen_ok,List.map_toArray,List.map_cons,List.map_nil,hd,hs,hrun]
 exact h _ (show _=_ from rfl)
def x5 (x:Int×Int×Int×Int×Int):List Value:=[.int .i64 x.1,.int .i64 x.2.1,.int .i64 x.2.2.1,.int .i64 x.2.2.2.1,.int .i64 x.2.2.2.2]
def Rep5 (cur:Array Value)(x:Int×Int×Int×Int×Int)(k:Nat):Prop:=∀ i,i<k*5→cur[i]?=(x5 x)[i % 5]?
theorem x5_at (x:Int×Int×Int×Int×Int)(i:Nat):∃ v,(x5 x)[i % 5]?=some v∧v.oneCell'=true:=by
 have:i % 5=0∨i % 5=1∨i % 5=2∨i % 5=3∨i % 5=4:=by omega
 rcases this with e | e | e | e | e <;> rw [e] <;> exact ⟨_,rfl,rfl⟩
theorem rep_more {cur:Array Value}{x:Int×Int×Int×Int×Int}{k m:Nat}{cs:List Value}(h:Rep5 cur x k)(hc:cs.length=m*5)(hs:∀ i,i<m*5→cs[i]?=(x5 x)[i % 5]?)(hf:k*5+cs.length≤cur.size) :
  Rep5 (cur.toList.take (k*5) ++ cs ++ cur.toList.drop (k*5+cs.length)).toArray x (k+m)∧(cur.toList.take (k*5) ++ cs ++ cur.toList.drop (k*5+cs.length)).toArray.size=cur.size:=by
 have hl:(cur.toList.take (k*5)).length=k*5:=by rw [List.length_take,Array.length_toList]; omega
 refine ⟨fun i hi=>?_,?_⟩
 ·rw [Jg]
  by_cases h1:i<k*5
  ·rw [List.append_assoc,List.getElem?_append_left (by rw [hl]; exact h1),List.getElem?_take_of_lt h1,Array.getElem?_toList]
   exact h i h1
  ·rw [List.getElem?_append_left (by rw [Jo,hl]; omega),List.getElem?_append_right (by rw [hl]; omega),hl,hs _ (by omega)]
   congr 1
   omega
 ·show (cur.toList.take (k*5) ++ cs ++ cur.toList.drop (k*5+cs.length)).length=cur.size
  have hcl:cur.toList.length=cur.size:=Array.length_toList
  rw [Jo,Jo,hl,List.length_drop]
  omega
theorem repeat_any (w:World)(g n:Nat)(h0:0<n)(hn:n≤60)(x:Int×Int×Int×Int×Int)(hg:w.heap[g]?=some (.cells #[.int .i64 x.1,.int .i64 x.2.1,.int .i64 x.2.2.1,.int .i64 x.2.2.2.1,.int .i64 x.2.2.2.2] 99)) :
  Calls Try.prog 56 #[.slice (some ⟨g,0,none⟩) 1 1,.int .i64 n] w fun e w'=>e=.returned (.slice (some ⟨w.heap.size,0,none⟩) n n)∧Below w.heap.size w w'∧∃ cur:Array Value,w'.heap[w.heap.size]?=some (.cells cur 99)∧∀ v,v<n→cur[v*5]?=some (.int .i64 x.1)∧cur[v*5+1]?=some (.int .i64 x.2.1)∧cur[v*5+2]?=some (.int .i64 x.2.2.1)∧cur[v*5+3]?=some (.int .i64 x.2.2.2.1)∧cur[v*5+4]?=some (.int .i64 x.2.2.2.2):=by
 have d0:decide ((n:Int)<0)=false:=by simp
 have d1:IntKind.u64.wrap (n:Int)=n:=by rw [IntKind.wrap_u64]; omega
 have A1:=hid (mul_one' w n (by omega))
 go_enter Try.func56,Try.ntmps56
 go_upto_region 4 with (first
  | (go_at_call 69; refine A1.out.mono ?_; rintro e w' ⟨rfl,rfl⟩)
  | fail)
 obtain ⟨i0,hi0,hz0,hz1,hz2⟩:=info_parts infoO
 go_upto_region 7 with (first
  | (at_make; refine wpList_make_full _ rfl _ _ 95 rfl w'.heap.size 99 i0 _ 5 Try.underlying95 hi0 hz0 hz1 .i64 .i64 (n:Int) (n:Int) n rfl rfl rfl rfl (by rw [hz2]; omega) (by unfold maxLen; omega) (Jb _) ?_; intro w1 hrow hg1)
  | fail)
 obtain ⟨cur0,hc0,hs0⟩:∃ cur0:Array Value,w1.heap[w'.heap.size]?=some (.cells cur0 99)∧cur0.size=n*5:=by
  rcases hrow.2 with ⟨e,_⟩ | ⟨g',cap,cur,e,_,hgc,_,_,hsz,_⟩
  ·cases e
  ·cases e
   exact ⟨cur,hgc,hsz⟩
 have hb1:Below w'.heap.size w' w1:=⟨hg1.os,hg1.tape,hg1.output,hg1.size,fun b hb=>hg1.block b hb (by simp)⟩
 have hgl:g<w'.heap.size:=(Ja.1 hg).1
 have hgs:w1.heap[g]?=some (.cells (x5 x).toArray 99):=(hb1.block g hgl).trans hg
 obtain ⟨cur1,hcur1⟩:∃ cur1,(cur0.toList.take 0 ++ x5 x ++ cur0.toList.drop (0+(x5 x).length)).toArray=cur1:=⟨_,rfl⟩
 have R1:=rep_more (cur:=cur0) (k:=0) (m:=1) (x:=x) (cs:=x5 x) (fun i hi=>by omega) rfl (fun i hi=>by rw [Nat.mod_eq_of_lt (by omega)]) (by show 0*5+5≤_; omega)
 rw [show (cur0.toList.take (0*5) ++ x5 x ++ cur0.toList.drop (0*5+(x5 x).length)).toArray=cur1 from by rw [← hcur1]] at R1
 have C1:=hid (Jc hc0 (Jc hgs hs0))
 have B1:=hid hb1
 clear hrow hg1 hc0 hgs hb1 A1
 have hm1:Nat.min 1 n=1:=by show min 1 n=1; omega
 have hone:∀ v∈x5 x,v.oneCell'=true:=fun v hv=>by simp [x5] at hv; rcases hv with rfl | rfl | rfl | rfl | rfl <;> rfl
 have hsrc:∀ (j:Nat) (v:Value),(x5 x)[j]?=some v→w1.cell? ((⟨g,0,none⟩:Addr).add j)=some v:=fun j v hj=>by rw [Addr.add_lit,Nat.zero_add,at_cells C1.out.2.1,Jg]; exact hj
 have hfit:0+(x5 x).length≤cur0.size:=by show 0+5≤_; have:=C1.out.2.2; omega
 go_upto_region 8 with (first
  | ((refine wpList_copy5 rfl _ _ rfl w'.heap.size 0 n n ⟨g,0,none⟩ 1 1 1 rfl rfl cur0 (x5 x) C1.out.1 hm1 rfl hsrc hfit hone ?_); intro W2 hW2)
  | fail)
 have hW2:=hW2.out
 rw [hcur1] at hW2
 have hc2:W2.heap[w'.heap.size]?=some (.cells cur1 99):=by rw [hW2]; exact setRow_heap w1 _ _ _ 99 _ C1.out.1
 have hb2:Below w'.heap.size w' W2:=by rw [hW2]; exact below_setRow B1.out (Jb _) _
 have hsz1:cur1.size=n*5:=R1.2.trans C1.out.2.2
 have H2:=hid (Jc hc2 (Jc hb2 (Jc R1.1 hsz1)))
 clear hc2 hb2 R1 hsz1 hW2 C1 B1 hsrc hone hfit hm1 hcur1 hz0 hz1 hz2 hi0 hs0
 go_loopg [8] n (fun gk kv wr=>∃ (k:Nat) (cur:Array Value),1≤k∧k≤n∧n - k≤gk∧kv=.int .i64 k∧Hid (wr.heap[w'.heap.size]?=some (.cells cur 99)∧Below w'.heap.size w' wr∧Rep5 cur x k∧cur.size=n*5))
 case atStart=>exact ⟨1,cur1,Jb _,by omega,by omega,rfl,(show _∧_ from ⟨H2.out.1,H2.out.2.1,by have:=H2.out.2.2.1; simpa using this,H2.out.2.2.2⟩)⟩
 case' round=>skip
 obtain ⟨k,cur,hk1,hkn,hgk,rfl,H3⟩:=hrel
 rename World=>Z
 by_cases hlt:k<n
 ·have hkI:(k:Int)<(n:Int):=by omega
  have hkl:(k:Int)≤(n:Int):=by omega
  have hne:¬ n=k:=by omega
  have dz:Below w'.heap.size w' Z.drew:=H3.out.2.1.drew
  obtain ⟨m,hm⟩:∃ m,min k (n - k)=m:=⟨_,rfl⟩
  have hcl:cur.toList.length=cur.size:=Array.length_toList
  have hcs:(cur.toList.take (m*5)).length=m*5:=by rw [List.length_take,hcl,H3.out.2.2.2]; omega
  have hci:∀ i,i<m*5→(cur.toList.take (m*5))[i]?=(x5 x)[i % 5]?:=fun i hi=>by
   rw [List.getElem?_take_of_lt hi,Array.getElem?_toList]
   exact H3.out.2.2.1 i (by omega)
  have hsr:∀ (j:Nat) (v:Value),(cur.toList.take (m*5))[j]?=some v→Z.drew.cell? ((⟨w'.heap.size,0,none⟩:Addr).add j)=some v:=fun j v hj=>by
   rw [Addr.add_lit,Nat.zero_add]
   have hz:Z.drew.heap[w'.heap.size]?=some (.cells cur 99):=H3.out.1
   rw [at_cells hz,← Array.getElem?_toList]
   have hjl:j<m*5:=by have:=(List.getElem?_eq_some_iff.1 hj).1; omega
   rw [List.getElem?_take_of_lt hjl] at hj
   exact hj
  have hft:k*5+(cur.toList.take (m*5)).length≤cur.size:=by rw [hcs,H3.out.2.2.2]; omega
  have hon:∀ v∈cur.toList.take (m*5),v.oneCell'=true:=fun v hv=>by
   obtain ⟨i,e⟩:=List.mem_iff_getElem?.1 hv
   have hi:=(List.getElem?_eq_some_iff.1 e).1
   rw [hci i (by omega)] at e
   obtain ⟨u,hu,ho⟩:=x5_at x i
   rw [hu] at e
   cases e
   exact ho
  have R4:=rep_more H3.out.2.2.1 hcs hci hft
  have hm':Nat.min k (n - k)=m:=hm
  have hzd:Z.drew.heap[w'.heap.size]?=some (.cells cur 99):=H3.out.1
  obtain ⟨cs,hcse⟩:∃ cs,cur.toList.take (m*5)=cs:=⟨_,rfl⟩
  rw [hcse] at hcs hsr hft hon R4
  have HM:=hid (Jc hm' (Jc hcs (Jc hsr (Jc hft (Jc hon (Jc R4 hzd))))))
  clear hcl hcs hci hm hm' hsr hft hon R4 dz hzd hcse
  go_upto_region 9 with fail
  refine wp_region_any (by kernel_rfl) ?_
  change wpAny _ _ _ _ _ _ _ (World.drew _)
  refine wpAny_take (i:=0) (v:=?_) rfl (by kernel_rfl) (by kernel_rfl) (by kernel_rfl) (fun _ _ _ h=>h) (Jr ⟨by rfl,?_⟩) ?_
  rotate_left 1
  ·(intro w; go_simp; try with_reducible rfl)
  change wpAny _ _ _ _ _ _ (Act.put _ (some 38) _) _
  simp only [Act.put,Jh,Ji,Jj]
  refine wpAny_take (i:=1) (v:=?_) rfl (by kernel_rfl) (by kernel_rfl) (by kernel_rfl) (fun _ _ _ h=>h) (Jr ⟨by rfl,?_⟩) ?_
  rotate_left 1
  ·(intro w; go_simp; try with_reducible rfl)
  change wpAny _ _ _ _ _ _ (Act.put _ (some 39) _) _
  simp only [Act.put,Jh,Ji,Jj]
  refine wpAny_take (i:=2) (v:=?_) rfl (by kernel_rfl) (by kernel_rfl) (by kernel_rfl) (fun _ _ _ h=>h) (Jr ⟨by rfl,?_⟩) ?_
  rotate_left 1
  ·(intro w; go_simp; try with_reducible rfl)
  change wpAny _ _ _ _ _ _ (Act.put _ (some 40) _) _
  simp only [Act.put,Jh,Ji,Jj]
  refine wpAny_take (i:=3) (v:=?_) rfl (by kernel_rfl) (by kernel_rfl) (by kernel_rfl) (fun _ _ _ h=>h) (Jr ⟨by rfl,?_⟩) ?_
  rotate_left 1
  ·(intro w; go_simp; try with_reducible rfl)
  change wpAny _ _ _ _ _ _ (Act.put _ (some 41) _) _
  simp only [Act.put,Jh,Ji,Jj]
  refine wpAny_take (i:=4) (v:=?_) rfl (by kernel_rfl) (by kernel_rfl) (by kernel_rfl) (fun _ _ _ h=>h) (Jr ⟨by rfl,?_⟩) ?_
  rotate_left 1
  ·(intro w; go_simp; try with_reducible rfl)
  change wpAny _ _ _ _ _ _ (Act.put _ (some 42) _) _
  simp only [Act.put,Jh,Ji,Jj]
  refine wpAny_take (i:=5) (v:=?_) rfl (by kernel_rfl) (by kernel_rfl) (by kernel_rfl) (fun _ _ _ h=>h) (Jr ⟨by rfl,?_⟩) ?_
  rotate_left 1
  ·(intro w; go_simp; try with_reducible rfl)
  change wpAny _ _ _ _ _ _ (Act.put _ (some 43) _) _
  simp only [Act.put,Jh,Ji,Jj]
  refine wpAny_take (i:=6) (v:=?_) rfl (by kernel_rfl) (by kernel_rfl) (by kernel_rfl) (fun _ _ _ h=>h) (Jr ⟨by rfl,?_⟩) ?_
  rotate_left 1
  ·(intro w; go_simp; try with_reducible rfl)
  change wpAny _ _ _ _ _ _ (Act.put _ (some 44) _) _
  simp only [Act.put,Jh,Ji,Jj]
  refine wpAny_ready (rs:=[7]) (by kernel_rfl) (by simp) ?_
  refine AllReady.cons rfl (fun K hK=>?_) AllReady.nil
  refine step_copy5 (w:=Z.drew) rfl _ _ rfl w'.heap.size (k*5) (n - k) (n - k) ⟨w'.heap.size,0,none⟩ k n m rfl rfl cur cs HM.out.2.2.2.2.2.2 HM.out.1 HM.out.2.1 HM.out.2.2.1 HM.out.2.2.2.1 HM.out.2.2.2.2.1 ?_
  intro Z5 hZ5
  refine hK _ _ ?_
  clear hK K
  change wpAny _ _ _ _ _ _ (Act.put _ (some 45) _) _
  simp only [Act.put,Jh,Ji,Jj]
  refine wpAny_take (i:=8) (v:=?_) rfl (by kernel_rfl) (by kernel_rfl) (by kernel_rfl) (fun _ _ _ h=>h) (Jr ⟨by rfl,?_⟩) ?_
  rotate_left 1
  ·(intro w; go_simp; try with_reducible rfl)
  change wpAny _ _ _ _ _ _ (Act.put _ (some 46) _) _
  simp only [Act.put,Jh,Ji,Jj]
  refine wpAny_take (i:=9) (v:=?_) rfl (by kernel_rfl) (by kernel_rfl) (by kernel_rfl) (fun _ _ _ h=>h) (Jr ⟨by rfl,?_⟩) ?_
  rotate_left 1
  ·(intro w; go_simp; try with_reducible rfl)
  change wpAny _ _ _ _ _ _ (Act.put _ (some 8) _) _
  simp only [Act.put,Jh,Ji,Jj]
  refine wpAny_done (by kernel_rfl) ?_ _
  obtain ⟨cur5,hcur5⟩:∃ c,(cur.toList.take (k*5) ++ cs ++ cur.toList.drop (k*5+cs.length)).toArray=c:=⟨_,rfl⟩
  have hZ5:=hZ5.out
  have R4:=HM.out.2.2.2.2.2.1
  rw [hcur5] at hZ5 R4
  have hc5:Z5.heap[w'.heap.size]?=some (.cells cur5 99):=by rw [hZ5]; exact setRow_heap Z.drew _ _ _ 99 _ HM.out.2.2.2.2.2.2
  have hb5:Below w'.heap.size w' Z5:=by rw [hZ5]; exact below_setRow H3.out.2.1.drew (Jb _) _
  have hmk:1≤m∧k+m≤n:=by have:=HM.out.1; have h2:min k (n - k)=m:=this; omega
  have H5:=hid (Jc hc5 (Jc hb5 (Jc R4.1 (R4.2.trans H3.out.2.2.2))))
  clear hZ5 hc5 hb5 R4 hcur5 H3 HM
  have hk60:k≤60:=by omega
  have hm60:m≤60:=by omega
  go_wp2_with fail
  go_roundg (n - (k+m))
  case measure=>omega
  case rel=>exact ⟨k+m,cur5,by omega,by omega,Jb _,congrArg (Value.int .i64) (by rw [wrap_mid (by omega) (by omega)]; omega),H5.out⟩
 ·obtain rfl:k=n:=by omega
  go_wp2_with fail
  go_ret
  refine ⟨rfl,H3.out.2.1,cur,H3.out.1,fun v hv=>?_⟩
  have h5:=H3.out.2.2.1
  have e:∀ j,j<5→(v*5+j) % 5=j:=fun j hj=>by omega
  refine ⟨?_,?_,?_,?_,?_⟩
  ·rw [h5 (v*5) (by omega),show v*5 % 5=0 by omega]; rfl
  ·rw [h5 _ (by omega),e 1 (by omega)]; rfl
  ·rw [h5 _ (by omega),e 2 (by omega)]; rfl
  ·rw [h5 _ (by omega),e 3 (by omega)]; rfl
  ·rw [h5 _ (by omega),e 4 (by omega)]; rfl
end
end Go.Proofs.Ytjdindfjfpdikab
