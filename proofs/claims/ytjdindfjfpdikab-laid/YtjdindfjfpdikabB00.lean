import Derived.Maps.Own
import Derived.WalkKit
import Derived.ProofKit
import Derived.Test.YtjdindfjfpdikabProg
import Derived.Below
import Derived.OpenShut
import Derived.BigRegion
import Derived.Maps.RangeWalk
import Derived.Deep.LoopGhost
import Derived.Test.YtjdindfjfpdikabPre
set_option maxRecDepth 100000
set_option maxHeartbeats 8000000
namespace Go.Proofs.Ytjdindfjfpdikab
section
open Go.MapKept (heap_set)
structure KeyTy (P:Program)(kt:TypeId)(K:Type) [DecidableEq K] (ek:K→Value):Prop where
 und:∃ d,P.underlying kt=some d∧∀ v v',Instr.sameNow d v v'=none
 check:∀ (w:World) (em:Bool) (a:K),(Instr.checkKey em 10000 kt (ek a)).run P w=.ok () w
 eq:∀ (w:World) (a b:K),(Op.equal kt (ek a) (ek b)).run P w=.ok (decide (a=b)) w
 stays:∀ (w:World) (a:K),(Instr.keyThatStays (ek a) (ek a)).run P w=.ok (ek a) w
 inj:∀ a b:K,ek a=ek b→a=b
section
variable {K V:Type}
def MapAt (ek:K→Value)(ev:V→Value)(w:World)(b:Nat)(l:List (K×V)):Prop :=
 ∃ es clock,w.heap[b]?=some (.map es clock)∧es.toList.map (fun e=>(e.key,e.val))=l.map (fun x=>(ek x.1,ev x.2))∧(∀ x∈es.toList,x.born<clock)∧(es.toList.map (·.born)).Nodup
variable {ek:K→Value}{ev:V→Value}{w:World}{b:Nat}{l:List (K×V)}
theorem MapAt.lt (h:MapAt ek ev w b l):b<w.heap.size:=by
 obtain ⟨es,clock,hb,_⟩:=h
 exact (Ja.1 hb).1
theorem MapAt.of_block {w':World}(h:MapAt ek ev w b l)(hb:w'.heap[b]?=w.heap[b]?):MapAt ek ev w' b l:=by
 obtain ⟨es,clock,h1,h2⟩:=h
 exact ⟨es,clock,hb.trans h1,h2⟩
theorem MapAt.alloc (h:MapAt ek ev w b l)(o:Obj):MapAt ek ev (w.alloc o) b l:=h.of_block (RowKit.Below.heap_alloc _ _ _ h.lt)
theorem MapAt.drew (h:MapAt ek ev w b l):MapAt ek ev w.drew b l:=h
theorem MapAt.below {w':World}(h:MapAt ek ev w b l)(hb:RowKit.Below w.heap.size w w'):MapAt ek ev w' b l:=h.of_block (hb.block b h.lt)
theorem MapAt.grown {w':World}{row:Option Nat}(h:MapAt ek ev w b l)(hg:w.grownBy w' row)(hne:some b≠row):MapAt ek ev w' b l:=h.of_block (hg.block b h.lt hne)
end
section
variable {K V:Type} [DecidableEq K]
def get (a:K):List (K×V)→Option V
 | []=>none
 | x :: r=>if a=x.1 then some x.2 else get a r
def put (a:K)(v:V):List (K×V)→List (K×V)
 | []=>[(a,v)]
 | x :: r=>if a=x.1 then (a,v) :: r else x :: put a v r
def pos (a:K):List (K×V)→Nat→Option (Nat×V)
 | [],_=>none
 | x :: r,i=>if a=x.1 then some (i,x.2) else pos a r (i+1)
theorem pos_get (a:K):∀ (l:List (K×V))(i:Nat),(pos a l i).map (·.2)=get a l
 | [],_=>rfl
 | x :: r,i=>by
  unfold pos get
  split
  ·rfl
  ·exact pos_get a r (i+1)
theorem pos_none (a:K):∀ (l:List (K×V))(i:Nat),pos a l i=none→(∀ x∈l,x.1≠a)∧∀ v:V,put a v l=l ++ [(a,v)]
 | [],_,_=>⟨by simp,fun _=>rfl⟩
 | x :: r,i,h=>by
  unfold pos at h
  split at h
  ·cases h
  ·rename_i hne
   obtain ⟨h1,h2⟩:=pos_none a r (i+1) h
   refine ⟨fun y hy=>?_,fun v=>?_⟩
   ·rcases List.mem_cons.1 hy with rfl | hy
    ·exact fun e=>hne e.symm
    ·exact h1 y hy
   ·simp [put,hne,h2 v]
theorem pos_some (a:K):∀ (l:List (K×V))(i j:Nat)(u:V),pos a l i=some (j,u)→∃ k,j=i+k∧l[k]?=some (a,u)∧∀ v:V,put a v l=l.set k (a,v)
 | [],_,_,_,h=>by cases h
 | x :: r,i,j,u,h=>by
  unfold pos at h
  split at h
  ·rename_i he
   cases h
   refine ⟨0,rfl,by simp [he],fun v=>by simp [put,he]⟩
  ·rename_i hne
   obtain ⟨k,rfl,h1,h2⟩:=pos_some a r (i+1) j u h
   exact ⟨k+1,by omega,by simpa using h1,fun v=>by simp [put,hne,h2 v]⟩
variable {ek:K→Value}{ev:V→Value}{w:World}{b:Nat}{l:List (K×V)}{P:Program}{kt et t:TypeId}
theorem run_asking (KT:KeyTy P kt K ek)(w:World)(a:K):∀ (es:List MapEntry)(l:List (K×V))(i:Nat),es.map (fun e=>(e.key,e.val))=l.map (fun x=>(ek x.1,ev x.2)) →
  (Instr.findAsking kt (ek a) es i).run P w=.ok ((pos a l i).map fun p=>(p.1,ev p.2)) w
 | [],[],_,_=>rfl
 | [],_ :: _,_,h=>by simp at h
 | _ :: _,[],_,h=>by simp at h
 | e :: es,x :: l,i,h=>by
  simp only [List.map_cons,List.cons.injEq,Prod.mk.injEq] at h
  obtain ⟨⟨h1,h2⟩,h3⟩:=h
  have ih:=run_asking KT w a es l (i+1) h3
  by_cases hax:a=x.1
  ·simp [Instr.findAsking,h1,KT.eq,hax,pos,h2]
  ·simp [Instr.findAsking,h1,KT.eq,hax,pos,ih]
theorem run_find (KT:KeyTy P kt K ek)(w:World)(a:K)(es:List MapEntry)(l:List (K×V))(h:es.map (fun e=>(e.key,e.val))=l.map (fun x=>(ek x.1,ev x.2))) :
  (Instr.findKey kt (ek a) es).run P w=.ok ((pos a l 0).map fun p=>(p.1,ev p.2)) w:=by
 obtain ⟨d,hd,hs⟩:=KT.und
 cases es with
 | nil =>
  cases l with
  | nil=>simp [Instr.findKey,run_underlying hd,Instr.findNow,pos]
  | cons=>simp at h
 | cons e es =>
  have:=run_asking KT w a (e :: es) l 0 h
  simp [Instr.findKey,run_underlying hd,Instr.findNow,hs,this]
theorem run_look (KT:KeyTy P kt K ek)(ht:P.underlying t=some (.map kt et))(h:MapAt ek ev w b l)(a:K)(c:Bool){z:Value}(hz:(zeroValue et).run P w=.ok z w) :
  (Instr.lookup t (.map (some b)) (ek a) c).run P w=.ok (match get a l with
   | some v=>if c then .tuple #[ev v,.bool true] else ev v
   | none=>if c then .tuple #[z,.bool false] else z) w:=by
 obtain ⟨es,clock,hb,hl,_,_⟩:=h
 have hf:=run_find KT w a es.toList l hl
 rw [← pos_get a l 0]
 cases hp:pos a l 0 with
 | none=>simp [Instr.lookup,run_underlying ht,MapKept.run_getObj_map hb,KT.check,hf,hp,hz]
 | some p=>simp [Instr.lookup,run_underlying ht,MapKept.run_getObj_map hb,KT.check,hf,hp]
theorem run_look_yes (KT:KeyTy P kt K ek)(ht:P.underlying t=some (.map kt et))(h:MapAt ek ev w b l)(a:K){v:V}(hg:get a l=some v)(z:Value)(hz:(zeroValue et).run P w=.ok z w) :
  (Instr.lookup t (.map (some b)) (ek a) true).run P w=.ok (.tuple #[ev v,.bool true]) w:=by
 rw [run_look KT ht h a true hz,hg]; rfl
theorem run_look_yes' (KT:KeyTy P kt K ek)(ht:P.underlying t=some (.map kt et))(h:MapAt ek ev w b l)(a:K){v:V}(hg:get a l=some v)(z:Value)(hz:(zeroValue et).run P w=.ok z w) :
  (Instr.lookup t (.map (some b)) (ek a) false).run P w=.ok (ev v) w:=by
 rw [run_look KT ht h a false hz,hg]; rfl
theorem run_look_no (KT:KeyTy P kt K ek)(ht:P.underlying t=some (.map kt et))(h:MapAt ek ev w b l)(a:K)(hg:get a l=none)(z:Value)(hz:(zeroValue et).run P w=.ok z w) :
  (Instr.lookup t (.map (some b)) (ek a) true).run P w=.ok (.tuple #[z,.bool false]) w:=by
 rw [run_look KT ht h a true hz,hg]; rfl
def upd (P:Program)(t:TypeId)(b:Nat)(k v:Value)(w:World):World :=
 match (Instr.mapUpdate t (.map (some b)) k v).run P w with
 | .ok _ w'=>w'
 | .halt _ w'=>w'
theorem run_put (KT:KeyTy P kt K ek)(ht:P.underlying t=some (.map kt et))(h:MapAt ek ev w b l)(a:K)(v:V) :
  (Instr.mapUpdate t (.map (some b)) (ek a) (ev v)).run P w=.ok () (upd P t b (ek a) (ev v) w)∧MapAt ek ev (upd P t b (ek a) (ev v) w) b (put a v l)∧w.grownBy (upd P t b (ek a) (ev v) w) (some b):=by
 obtain ⟨es,clock,hb,hl,hs,hn⟩:=h
 have hlen:es.toList.length=l.length:=by simpa using congrArg List.length hl
 have hf:=run_find KT w a es.toList l hl
 have gr:∀ o:Obj,w.grownBy { w with heap:=w.heap.setIfInBounds b o } (some b):=fun o =>
  ⟨rfl,rfl,rfl,by simp,fun k _ hk=>(heap_set (o':=o) hb).2 k (fun e=>hk (by rw [e]))⟩
 cases hp:pos a l 0 with
 | none =>
  obtain ⟨h1,h2⟩:=pos_none a l 0 hp
  have hrun:(Instr.mapUpdate t (.map (some b)) (ek a) (ev v)).run P w=.ok () { w with heap:=w.heap.setIfInBounds b (.map (es.push { key:=ek a,val:=ev v,born:=clock }) (clock+1)) }:=by
   simp [Instr.mapUpdate,run_underlying ht,MapKept.run_getObj_map hb,KT.check,hf,hp,MapKept.run_setObj_map _ hb]
  have hu:upd P t b (ek a) (ev v) w={ w with heap:=w.heap.setIfInBounds b (.map (es.push { key:=ek a,val:=ev v,born:=clock }) (clock+1)) }:=by
   unfold upd; rw [hrun]
  rw [hu]
  refine ⟨hrun,⟨_,_,(heap_set hb).1,?_,?_,?_⟩,gr _⟩
  ·simp [h2,hl]
  ·intro x hx
   simp only [Array.toList_push,List.mem_append,List.mem_singleton] at hx
   rcases hx with hx | rfl
   ·exact Nat.lt_succ_of_lt (hs x hx)
   ·exact Nat.lt_succ_self _
  ·simp only [Array.toList_push,List.map_append,List.map_cons,List.map_nil]
   refine List.nodup_append.2 ⟨hn,by simp,?_⟩
   intro x hx y hy
   simp only [List.mem_singleton] at hy
   obtain ⟨e,he,rfl⟩:=List.mem_map.1 hx
   have:=hs e he
   omega
 | some p =>
  obtain ⟨j,u⟩:=p
  obtain ⟨k,rfl,h1,h2⟩:=pos_some a l 0 j u hp
  have hkl:k<l.length:=by
   rcases Nat.lt_or_ge k l.length with h | h
   ·exact h
   ·rw [List.getElem?_eq_none h] at h1; cases h1
  have hkey:∃ e0,es[k]?=some e0∧e0.key=ek a:=by
   have hke:k<es.toList.length:=by omega
   refine ⟨es.toList[k],by simp,?_⟩
   have h3:=congrArg (fun z=>z[k]?) hl
   simp only [List.getElem?_map,h1,Option.map_some] at h3
   rw [List.getElem?_eq_getElem hke] at h3
   simp only [Option.map_some,Option.some.injEq,Prod.mk.injEq] at h3
   exact h3.1
  obtain ⟨e0,he0,hek⟩:=hkey
  have hrun:(Instr.mapUpdate t (.map (some b)) (ek a) (ev v)).run P w=.ok () { w with heap:=w.heap.setIfInBounds b (.map (es.modify k fun e=>{ e with key:=ek a,val:=ev v }) clock) }:=by
   simp [Instr.mapUpdate,run_underlying ht,MapKept.run_getObj_map hb,KT.check,hf,hp,MapKept.run_setObj_map _ hb,he0,hek,KT.stays]
  have hu:upd P t b (ek a) (ev v) w={ w with heap:=w.heap.setIfInBounds b (.map (es.modify k fun e=>{ e with key:=ek a,val:=ev v }) clock) }:=by
   unfold upd; rw [hrun]
  rw [hu]
  have hm:(es.modify k fun e=>{ e with key:=ek a,val:=ev v }).toList=es.toList.set k { e0 with key:=ek a,val:=ev v }:=by
   apply List.ext_getElem?
   intro i
   simp only [Array.getElem?_toList,Array.getElem?_modify,List.getElem?_set]
   by_cases hik:k=i
   ·subst hik
    have:k<es.size:=by (have:k<es.toList.length:=(by omega)); simpa using this
    obtain ⟨_,hge⟩:=Ja.1 he0
    simp [this,hge]
   ·simp [hik]
  refine ⟨hrun,⟨_,_,(heap_set hb).1,?_,?_,?_⟩,gr _⟩
  ·rw [hm,h2,List.map_set,List.map_set,hl]
  ·rw [hm]
   intro x hx
   rcases List.mem_or_eq_of_mem_set hx with hx | rfl
   ·exact hs x hx
   ·exact hs e0 (List.mem_of_getElem? (i:=k) (by simpa using he0))
  ·rw [hm,List.map_set]
   have:(es.toList.map (·.born)).set k e0.born=es.toList.map (·.born):=by
    apply List.ext_getElem?
    intro i
    simp only [List.getElem?_set,List.getElem?_map]
    by_cases hik:k=i
    ·subst hik
     have:k<es.size:=by (have:k<es.toList.length:=(by omega)); simpa using this
     obtain ⟨_,hge⟩:=Ja.1 he0
     simp [this,hge]
    ·simp [hik]
   rw [this]; exact hn
end
end
section
def tv (a:Int×Int):Value:=.agg #[.int .i64 a.1,.int .i64 a.2]
def wv (a:(Int×Int)×(Int×Int)):Value:=.agg #[.int .i64 a.1.1,.int .i64 a.1.2,.int .i64 a.2.1,.int .i64 a.2.2]
def fv (f:(Int×Int)×Int×Int):Value:=.agg #[.int .i64 f.1.1,.int .i64 f.1.2,.int .i64 f.2.1,.int .i64 f.2.2]
def iv (n:Int):Value:=.int .i64 n
theorem und79:∃ d,Try.prog.underlying 79=some d∧∀ v v',Instr.sameNow d v v'=none:=⟨_,Try.underlying79,fun _ _=>rfl⟩
theorem und86:∃ d,Try.prog.underlying 109=some d∧∀ v v',Instr.sameNow d v v'=none:=⟨_,Try.underlying109,fun _ _=>rfl⟩
theorem ok_ite (c:Prop) [Decidable c] (a b:Bool)(w:World):(if c then (Result.ok a w:Result Bool) else .ok b w)=.ok (if c then a else b) w:=by split <;> rfl
theorem eq79 (w:World)(a b:Int×Int):(Op.equal 79 (tv a) (tv b)).run Try.prog w=.ok (decide (a=b)) w:=by
 obtain ⟨a1,a2⟩:=a
 obtain ⟨b1,b2⟩:=b
 have h1:Try.prog.underlying 79=some (.struct (Try.prog.fieldsOf 79)):=by kernel_rfl
 have h2:Try.prog.stoodInHeld 79=false:=by kernel_rfl
 simp [Op.equal,Op.maxDepth,tv,run_equalIn_struct w 9999 79 _ _ h1 h2,go_sem,Try.underlying79,ok_ite]
 by_cases e1:a1=b1 <;> by_cases e2:a2=b2 <;> simp [e1,e2]
theorem eq86 (w:World)(a b:(Int×Int)×(Int×Int)):(Op.equal 109 (wv a) (wv b)).run Try.prog w=.ok (decide (a=b)) w:=by
 obtain ⟨⟨a1,a2⟩,a3,a4⟩:=a
 obtain ⟨⟨b1,b2⟩,b3,b4⟩:=b
 have h1:Try.prog.underlying 109=some (.struct (Try.prog.fieldsOf 109)):=by kernel_rfl
 have h2:Try.prog.stoodInHeld 109=false:=by kernel_rfl
 have h3:Try.prog.underlying 79=some (.struct (Try.prog.fieldsOf 79)):=by kernel_rfl
 have h4:Try.prog.stoodInHeld 79=false:=by kernel_rfl
 simp [Op.equal,Op.maxDepth,wv,run_equalIn_struct w 9999 109 _ _ h1 h2,go_sem,Try.underlying79,Try.underlying109]
 by_cases e1:a1=b1 <;> by_cases e2:a2=b2 <;> by_cases e3:a3=b3 <;> by_cases e4:a4=b4 <;> simp [e1,e2,e3,e4]
theorem check79 (w:World)(em:Bool)(a:Int×Int):(Instr.checkKey em 10000 79 (tv a)).run Try.prog w=.ok () w:=by
 kernel_rfl
theorem check86 (w:World)(em:Bool)(a:(Int×Int)×(Int×Int)):(Instr.checkKey em 10000 109 (wv a)).run Try.prog w=.ok () w:=by
 kernel_rfl
theorem stays79 (w:World)(a:Int×Int):(Instr.keyThatStays (tv a) (tv a)).run Try.prog w=.ok (tv a) w:=by
 obtain ⟨a1,a2⟩:=a
 simp [Instr.keyThatStays,tv,Instr.sameBits]
theorem stays86 (w:World)(a:(Int×Int)×(Int×Int)):(Instr.keyThatStays (wv a) (wv a)).run Try.prog w=.ok (wv a) w:=by
 obtain ⟨⟨a1,a2⟩,a3,a4⟩:=a
 simp [Instr.keyThatStays,wv,Instr.sameBits]
theorem kt79:KeyTy Try.prog 79 (Int×Int) tv:=⟨und79,check79,eq79,stays79,fun a b h=>by
 obtain ⟨a1,a2⟩:=a
 obtain ⟨b1,b2⟩:=b
 simp [tv] at h
 simp [h]⟩
theorem kt86:KeyTy Try.prog 109 ((Int×Int)×(Int×Int)) wv:=⟨und86,check86,eq86,stays86,fun a b h=>by
 obtain ⟨⟨a1,a2⟩,a3,a4⟩:=a
 obtain ⟨⟨b1,b2⟩,b3,b4⟩:=b
 simp [wv] at h
 simp [h]⟩
theorem zero82 (w:World):(zeroValue 85).run Try.prog w=.ok (fv ((0,0),0,0)) w:=by kernel_rfl
theorem zero79 (w:World):(zeroValue 79).run Try.prog w=.ok (tv (0,0)) w:=by kernel_rfl
theorem zero3 (w:World):(zeroValue 3).run Try.prog w=.ok (iv 0) w:=by kernel_rfl
abbrev Things:=List ((Int×Int)×((Int×Int)×Int×Int))
abbrev Runs:=List ((Int×Int)×(Int×Int))
abbrev Waits:=List ((Int×Int)×Int)
abbrev Prefs:=List (((Int×Int)×(Int×Int))×Int)
def PCells (w:World)(pb b0 b1 b2 b3:Nat):Prop:=∃ s0 s1 s2 s3 s4:Value,w.heap[pb]?=some (.cells #[.map (some b0),.map (some b1),.map (some b2),.map (some b3),s0,s1,s2,s3,s4] 74)
theorem PCells.move {w w':World}{pb b0 b1 b2 b3:Nat}(h:PCells w pb b0 b1 b2 b3)(e:w'.heap[pb]?=w.heap[pb]?):PCells w' pb b0 b1 b2 b3:=by
 obtain ⟨s0,s1,s2,s3,s4,h⟩:=h
 exact ⟨s0,s1,s2,s3,s4,e.trans h⟩
theorem PCells.lt {w:World}{pb b0 b1 b2 b3:Nat}(h:PCells w pb b0 b1 b2 b3):pb<w.heap.size:=by
 obtain ⟨s0,s1,s2,s3,s4,h⟩:=h
 exact (Ja.1 h).1
structure PlanAt (w:World)(pb b0 b1 b2 b3:Nat)(l0:Things)(l1:Runs)(l2:Waits)(l3:Prefs):Prop where
 cells:PCells w pb b0 b1 b2 b3
 m0:MapAt tv fv w b0 l0
 m1:MapAt tv tv w b1 l1
 m2:MapAt tv iv w b2 l2
 m3:MapAt wv iv w b3 l3
 ne:b0≠b1∧b0≠b2∧b0≠b3∧b1≠b2∧b1≠b3∧b2≠b3
end
section
open Go.RowKit
theorem ret_int {k:IntKind}{a b:Int}(h:a=b):Ending.returned (.int k a)=.returned (.int k b):=by rw [h]
theorem ret_bool {a b:Bool}(h:a=b):Ending.returned (.bool a)=.returned (.bool b):=by rw [h]
def costB (n:Int):Bool:=decide (0≤n∧n≤1000)
theorem isCost_any (n:Int)(w:World):Calls Try.prog 34 #[.int .i64 n] w fun e w'=>e=.returned (.bool (costB n))∧w'=w:=by
 by_cases h0:0≤n
 ·go_enter Try.func34,Try.ntmps34
  go_wp2
  go_ret
  exact ⟨ret_bool (by simp [costB,h0]),rfl⟩
 ·have hd:decide (0≤n)=false:=by simpa using h0
  go_enter Try.func34,Try.ntmps34
  go_wp2
  go_ret
  exact ⟨ret_bool (by simp [costB]; omega),rfl⟩
def cmpOf (a b:Int):Int:=if a<b then -1 else if b<a then 1 else 0
theorem compare_any (a b:Int)(w:World):Calls Try.prog 45 #[.int .i64 a,.int .i64 b] w fun e w'=>e=.returned (.int .i64 (cmpOf a b))∧w'=w:=by
 by_cases h1:a<b
 ·go_enter Try.func45,Try.ntmps45
  go_wp2
  go_ret
  exact ⟨ret_int (by simp [cmpOf,h1]),rfl⟩
 ·by_cases h2:b<a
  ·go_enter Try.func45,Try.ntmps45
   go_wp2
   go_ret
   exact ⟨ret_int (by simp [cmpOf,h2]; omega),rfl⟩
  ·go_enter Try.func45,Try.ntmps45
   go_wp2
   go_ret
   exact ⟨ret_int (by unfold cmpOf; rw [if_neg (by omega),if_neg (by omega)]),rfl⟩
end
section
open Go.RowKit
def Pack (w:World)(F:World→Prop):Prop :=
 F w∧F w.drew∧(∀ o,F (w.alloc o))∧(∀ o,F (w.alloc o).drew)∧(∀ o1 o2,F ((w.alloc o1).alloc o2))∧(∀ o1 o2,F ((w.alloc o1).alloc o2).drew)∧(∀ o1 o2 o3,F (((w.alloc o1).alloc o2).alloc o3))∧(∀ o1 o2 o3,F (((w.alloc o1).alloc o2).alloc o3).drew)
theorem pack {K V:Type}{ek:K→Value}{ev:V→Value}{w:World}{b:Nat}{l:List (K×V)}(m:MapAt ek ev w b l){F:World→Prop}(h:∀ w',MapAt ek ev w' b l→F w'):Pack w F :=
 ⟨h _ m,h _ m,fun _=>h _ (m.alloc _),fun _=>h _ (m.alloc _).drew,fun _ _=>h _ ((m.alloc _).alloc _),fun _ _=>h _ ((m.alloc _).alloc _).drew,fun _ _ _=>h _ (((m.alloc _).alloc _).alloc _),fun _ _ _=>h _ (((m.alloc _).alloc _).alloc _).drew⟩
theorem has_yes (w:World)(pb b0:Nat)(l0:Things)(a1 a2 i j s c:Int)(hpb:pb<w.heap.size)(c0:w.cell? ⟨pb,0,none⟩=some (.map (some b0)))(m0:MapAt tv fv w b0 l0)(hg:get (a1,a2) l0=some ((i,j),s,c)) :
  Calls Try.prog 35 #[.pointer (some ⟨pb,0,none⟩),.agg #[.int .i64 a1,.int .i64 a2]] w fun e w'=>e=.returned (.bool true)∧Below w.heap.size w w':=by
 obtain ⟨_,_,_,k3,_,k5,_,_⟩:=pack m0 (F:=fun w'=>(Instr.lookup 70 (.map (some b0)) (.agg #[.int .i64 a1,.int .i64 a2]) true).run Try.prog w'=.ok (.tuple #[.agg #[.int .i64 i,.int .i64 j,.int .i64 s,.int .i64 c],.bool true]) w')
  (fun w' h=>run_look_yes kt79 Try.underlying70 h (a1,a2) hg _ (zero82 w'))
 clear hg
 go_enter Try.func35,Try.ntmps35
 go_wp2
 go_region
 all_goals
  go_wp2
  go_ret
  exact ⟨rfl,by repeat (first | exact Jd _ _ | refine Below.drew ?_ | refine Below.alloc ?_ (by simp) _)⟩
theorem has_no (w:World)(pb b0:Nat)(l0:Things)(a1 a2:Int)(hpb:pb<w.heap.size)(c0:w.cell? ⟨pb,0,none⟩=some (.map (some b0)))(m0:MapAt tv fv w b0 l0)(hg:get (a1,a2) l0=none) :
  Calls Try.prog 35 #[.pointer (some ⟨pb,0,none⟩),.agg #[.int .i64 a1,.int .i64 a2]] w fun e w'=>e=.returned (.bool false)∧Below w.heap.size w w':=by
 obtain ⟨_,_,_,k3,_,k5,_,_⟩:=pack m0 (F:=fun w'=>(Instr.lookup 70 (.map (some b0)) (.agg #[.int .i64 a1,.int .i64 a2]) true).run Try.prog w'=.ok (.tuple #[.agg #[.int .i64 0,.int .i64 0,.int .i64 0,.int .i64 0],.bool false]) w')
  (fun w' h=>run_look_no kt79 Try.underlying70 h (a1,a2) hg _ (zero82 w'))
 clear hg
 go_enter Try.func35,Try.ntmps35
 go_wp2
 go_region
 all_goals
  go_wp2
  go_ret
  exact ⟨rfl,by repeat (first | exact Jd _ _ | refine Below.drew ?_ | refine Below.alloc ?_ (by simp) _)⟩
theorem PlanAt.lt {w:World}{pb b0 b1 b2 b3:Nat}{l0:Things}{l1:Runs}{l2:Waits}{l3:Prefs}(h:PlanAt w pb b0 b1 b2 b3 l0 l1 l2 l3):pb<w.heap.size:=h.cells.lt
theorem PlanAt.c0 {w:World}{pb b0 b1 b2 b3:Nat}{l0:Things}{l1:Runs}{l2:Waits}{l3:Prefs}(h:PlanAt w pb b0 b1 b2 b3 l0 l1 l2 l3):w.cell? ⟨pb,0,none⟩=some (.map (some b0)):=by obtain ⟨_,_,_,_,_,hc⟩:=h.cells; simp [World.cell?,hc]
theorem PlanAt.c1 {w:World}{pb b0 b1 b2 b3:Nat}{l0:Things}{l1:Runs}{l2:Waits}{l3:Prefs}(h:PlanAt w pb b0 b1 b2 b3 l0 l1 l2 l3):w.cell? ⟨pb,1,none⟩=some (.map (some b1)):=by obtain ⟨_,_,_,_,_,hc⟩:=h.cells; simp [World.cell?,hc]
theorem PlanAt.c2 {w:World}{pb b0 b1 b2 b3:Nat}{l0:Things}{l1:Runs}{l2:Waits}{l3:Prefs}(h:PlanAt w pb b0 b1 b2 b3 l0 l1 l2 l3):w.cell? ⟨pb,2,none⟩=some (.map (some b2)):=by obtain ⟨_,_,_,_,_,hc⟩:=h.cells; simp [World.cell?,hc]
theorem PlanAt.c3 {w:World}{pb b0 b1 b2 b3:Nat}{l0:Things}{l1:Runs}{l2:Waits}{l3:Prefs}(h:PlanAt w pb b0 b1 b2 b3 l0 l1 l2 l3):w.cell? ⟨pb,3,none⟩=some (.map (some b3)):=by obtain ⟨_,_,_,_,_,hc⟩:=h.cells; simp [World.cell?,hc]
theorem PlanAt.below {w w':World}{pb b0 b1 b2 b3:Nat}{l0:Things}{l1:Runs}{l2:Waits}{l3:Prefs}(h:PlanAt w pb b0 b1 b2 b3 l0 l1 l2 l3)(hb:Below w.heap.size w w'):PlanAt w' pb b0 b1 b2 b3 l0 l1 l2 l3 :=
 ⟨h.cells.move (hb.block pb h.lt),h.m0.below hb,h.m1.below hb,h.m2.below hb,h.m3.below hb,h.ne⟩
theorem PlanAt.alloc {w:World}{pb b0 b1 b2 b3:Nat}{l0:Things}{l1:Runs}{l2:Waits}{l3:Prefs}(h:PlanAt w pb b0 b1 b2 b3 l0 l1 l2 l3)(o:Obj):PlanAt (w.alloc o) pb b0 b1 b2 b3 l0 l1 l2 l3 :=
 h.below ((Jd _ _).alloc (Jb _) _)
theorem has_any {w:World}{pb b0 b1 b2 b3:Nat}{l0:Things}{l1:Runs}{l2:Waits}{l3:Prefs}(h:PlanAt w pb b0 b1 b2 b3 l0 l1 l2 l3)(a1 a2:Int) :
  Calls Try.prog 35 #[.pointer (some ⟨pb,0,none⟩),.agg #[.int .i64 a1,.int .i64 a2]] w fun e w'=>e=.returned (.bool (get (a1,a2) l0).isSome)∧Below w.heap.size w w':=by
 cases hg:get (a1,a2) l0 with
 | none=>exact has_no w pb b0 l0 a1 a2 h.lt h.c0 h.m0 hg
 | some f =>
  obtain ⟨⟨i,j⟩,s,c⟩:=f
  exact has_yes w pb b0 l0 a1 a2 i j s c h.lt h.c0 h.m0 hg
end
section
open Go.ChangeMaps (setBlock)
open Go.MapKept (heap_set)
section
variable {K V:Type}{ek:K→Value}{ev:V→Value}{w:World}{b r:Nat}{l rest:List (K×V)}{P:Program}
def Ranging (ek:K→Value)(ev:V→Value)(w:World)(b r:Nat)(l rest:List (K×V)):Prop :=
 ∃ es clock seen,w.heap[b]?=some (.map es clock)∧es.toList.map (fun e=>(e.key,e.val))=l.map (fun x=>(ek x.1,ev x.2))∧(∀ x∈es.toList,x.born<clock)∧(es.toList.map (·.born)).Nodup ∧
  w.heap[r]?=some (.mapIter (some b) clock seen clock)∧(leftOf es seen).toList.map (fun e=>(e.key,e.val))=rest.map (fun x=>(ek x.1,ev x.2))
theorem Ranging.mapAt (h:Ranging ek ev w b r l rest):MapAt ek ev w b l:=by
 obtain ⟨es,clock,seen,h1,h2,h3,h4,_⟩:=h
 exact ⟨es,clock,h1,h2,h3,h4⟩
theorem Ranging.lt (h:Ranging ek ev w b r l rest):r<w.heap.size:=by
 obtain ⟨es,clock,seen,_,_,_,_,h5,_⟩:=h
 exact (Ja.1 h5).1
theorem Ranging.kept {w':World}{row:Option Nat}(h:Ranging ek ev w b r l rest)(hg:w.grownBy w' row)(hb:some b≠row)(hr:some r≠row):Ranging ek ev w' b r l rest:=by
 have h0:=h.mapAt.lt
 have h6:=h.lt
 obtain ⟨es,clock,seen,h1,h2,h3,h4,h5,h7⟩:=h
 exact ⟨es,clock,seen,(hg.block b h0 hb).trans h1,h2,h3,h4,(hg.block r h6 hr).trans h5,h7⟩
theorem run_ranging {t kt et:TypeId}(ht:P.underlying t=some (.map kt et))(h:MapAt ek ev w b l) :
  ∃ o,(Instr.range t (.map (some b))).run P w=.ok (.pointer (some ⟨w.heap.size,0,none⟩)) (w.alloc o)∧Ranging ek ev (w.alloc o) b w.heap.size l l:=by
 have hlt:=h.lt
 obtain ⟨es,clock,hb,h2,h3,h4⟩:=h
 refine ⟨.mapIter (some b) clock #[] clock,?_,es,clock,#[],?_,h2,h3,h4,?_,?_⟩
 ·simp [Instr.range,run_underlying ht,MapKept.run_getObj_map hb]
 ·exact ((MapKept.heap_alloc w _).2 b hlt).trans hb
 ·exact (MapKept.heap_alloc w _).1
 ·have:leftOf es #[]=es:=by unfold leftOf; simp
  rw [this]; exact h2
theorem filter_born (e:MapEntry)(L1 L2:List MapEntry)(hn:((L1 ++ e :: L2).map (·.born)).Nodup):(L1 ++ e :: L2).filter (fun x=>!(x.born == e.born))=L1 ++ L2:=by
 simp only [List.map_append,List.map_cons,List.nodup_append,List.nodup_cons,List.mem_map,List.mem_cons] at hn
 obtain ⟨_,⟨h2,_⟩,h3⟩:=hn
 have e1:L1.filter (fun x=>!(x.born == e.born))=L1:=List.filter_eq_self.2 fun x hx=>by
  have:=h3 x.born ⟨x,hx,rfl⟩ e.born (Jr rfl)
  simpa using this
 have e2:L2.filter (fun x=>!(x.born == e.born))=L2:=List.filter_eq_self.2 fun x hx=>by
  have:x.born≠e.born:=fun he=>h2 ⟨x,hx,he⟩
  simpa using this
 simp [List.filter_append,e1,e2]
theorem left_push (es:Array MapEntry)(seen:Array Nat)(n:Nat):(leftOf es (seen.push n)).toList=(leftOf es seen).toList.filter (fun x=>!(x.born == n)):=by
 unfold leftOf
 simp only [Array.toList_filter,List.filter_filter]
 congr 1
 funext x
 by_cases hx:x.born=n <;> simp [hx]
theorem run_step (h:Ranging ek ev w b r l rest)(ty:TypeId) :
  (rest=[]∧(Instr.next (.pointer (some ⟨r,0,none⟩)) false ty).run P w=.ok (.tuple #[.bool false]) w) ∨
  ∃ x rest' w1,rest.Perm (x :: rest')∧(Instr.next (.pointer (some ⟨r,0,none⟩)) false ty).run P w=.ok (.tuple #[.bool true,ek x.1,ev x.2]) w1 ∧
   (Instr.entry (.pointer (some ⟨r,0,none⟩))).run P w1=.ok (.tuple #[ek x.1,ev x.2]) w1∧Ranging ek ev w1 b r l rest'∧w.grownBy w1 (some r)∧w1.heap.size=w.heap.size:=by
 obtain ⟨es,clock,seen,h1,h2,h3,h4,h5,h6⟩:=h
 have hne:b≠r:=fun e=>by rw [e,h5] at h1; cases h1
 rcases run_next_at (P:=P) w ty r b clock clock seen es clock h5 h1 h3 (Jb _) with ⟨h0,hrun⟩ | ⟨e,he,w1,hw1,hrun⟩
 ·refine Jr ⟨?_,hrun⟩
  have:(leftOf es seen).toList=[]:=List.eq_nil_of_length_eq_zero (by simpa using h0)
  rw [this] at h6
  simpa using h6.symm
 ·right
  obtain ⟨L1,L2,hL⟩:=List.append_of_mem he
  rw [hL,List.map_append,List.map_cons] at h6
  obtain ⟨R1,R',rfl,hR1,hR'⟩:=List.map_eq_append_iff.1 h6.symm
  obtain ⟨x,R2,rfl,hx,hR2⟩:=List.map_eq_cons_iff.1 hR'
  simp only [Prod.mk.injEq] at hx
  have hw1h:w1.heap=w.heap:=by rcases hw1 with rfl | rfl <;> rfl
  have hes:e∈es.toList:=by
   unfold leftOf at he
   simp only [Array.toList_filter,List.mem_filter] at he
   exact he.1
  have hr1:w1.heap[r]?=some (.mapIter (some b) clock seen clock):=by rw [hw1h]; exact h5
  have hset:(setBlock w1 r (.mapIter (some b) clock (seen.push e.born) clock)).heap[r]?=some (.mapIter (some b) clock (seen.push e.born) clock):=(heap_set hr1).1
  have hoth:∀ k,k≠r→(setBlock w1 r (.mapIter (some b) clock (seen.push e.born) clock)).heap[k]?=w.heap[k]?:=fun k hk=>by
   have:=(heap_set (o':=.mapIter (some b) clock (seen.push e.born) clock) hr1).2 k hk
   rw [hw1h] at this
   simpa [setBlock,hw1h] using this
  refine ⟨x,R1 ++ R2,setBlock w1 r (.mapIter (some b) clock (seen.push e.born) clock),List.perm_middle,?_,?_,⟨es,clock,seen.push e.born,?_,h2,h3,h4,hset,?_⟩,?_,?_⟩
  ·rw [hrun,hx.1,hx.2]
  ·rw [run_entry_at (P:=P) _ r b clock seen es clock e hset ((hoth b hne).trans h1) hes h4,hx.1,hx.2]
  ·exact (hoth b hne).trans h1
  ·rw [left_push,hL]
   have hnd:((L1 ++ e :: L2).map (·.born)).Nodup:=by
    rw [← hL]
    unfold leftOf
    simp only [Array.toList_filter]
    exact h4.sublist (List.filter_sublist.map _)
   rw [filter_born e L1 L2 hnd]
   simp [hR1,hR2]
  ·exact ⟨by rcases hw1 with rfl | rfl <;> rfl,by rcases hw1 with rfl | rfl <;> rfl,by rcases hw1 with rfl | rfl <;> rfl,by simp [setBlock,hw1h],fun k _ hk=>hoth k (fun e=>hk (by rw [e]))⟩
  ·simp [setBlock,hw1h]
end
end
section
open Go.RowKit
section
variable {K V:Type}{ek:K→Value}{ev:V→Value}{b r:Nat}{l rest:List (K×V)}{P:Program}
theorem wpList_range_mine (w:World){ops:Array Oper}{rs:List Oper}{o:Oper}{a:Act}{Q:Exit→Act→World→Prop}(hg:o.guard=none)(m:Operand)(t:TypeId)(hop:o.op=Op.range t m){kt et:TypeId}(ht:P.underlying t=some (.map kt et))
  (hm:a.eval m=.map (some b)) (h:MapAt ek ev w b l)
  (hK:∀ ob,Ranging ek ev (w.alloc ob) b w.heap.size l l→wpList P ops Q rs (a.put o.dst (.pointer (some ⟨w.heap.size,0,none⟩))) (w.alloc ob)):wpList P ops Q (o :: rs) a w:=by
 refine wpList_plain hg fun K' hK'=>?_
 obtain ⟨ob,hrun,hr⟩:=run_ranging (P:=P) ht h
 unfold Oper.wp
 simp [execOp,hop,hm,hrun,Result.andThen]
 exact hK' _ _ (hK ob hr)
theorem wpList_next_mine (w:World){ops:Array Oper}{rs:List Oper}{o:Oper}{a:Act}{Q:Exit→Act→World→Prop}(hg:o.guard=none)(it:Operand)(hop:o.op=Op.next it false)
  (hit:a.eval it=.pointer (some ⟨r,0,none⟩)) (h:Ranging ek ev w b r l rest)
  (hover:rest=[]→wpList P ops Q rs (a.put o.dst (.tuple #[.bool false])) w)
  (hcome:∀ x rest' w1,rest.Perm (x :: rest')→(Instr.entry (.pointer (some ⟨r,0,none⟩))).run P w1=.ok (.tuple #[ek x.1,ev x.2]) w1→Ranging ek ev w1 b r l rest'→w.grownBy w1 (some r)→w1.heap.size=w.heap.size →
   wpList P ops Q rs (a.put o.dst (.tuple #[.bool true,ek x.1,ev x.2])) w1):wpList P ops Q (o :: rs) a w:=by
 refine wpList_plain hg fun K' hK'=>?_
 rcases run_step (P:=P) h o.type with ⟨he,hrun⟩ | ⟨x,rest',w1,h1,hrun,h2,h3,h4,h5⟩
 ·unfold Oper.wp
  simp [execOp,hop,hit,hrun,Result.andThen]
  exact hK' _ _ (hover he)
 ·unfold Oper.wp
  simp [execOp,hop,hit,hrun,Result.andThen]
  exact hK' _ _ (hcome x rest' w1 h1 h2 h3 h4 h5)
end
def flat (xs:List (Int×Int)):List Value:=xs.flatMap fun a=>[.int .i64 a.1,.int .i64 a.2]
def sel (k:Int)(l:Things):List (Int×Int):=(l.filter fun x=>x.1.1 == k).map (·.1)
theorem flat_append (xs ys:List (Int×Int)):flat (xs ++ ys)=flat xs ++ flat ys:=by simp [flat]
theorem flat_length (xs:List (Int×Int)):(flat xs).length=xs.length*2:=by
 induction xs with
 | nil=>rfl
 | cons x r ih=>simp [flat] at ih ⊢; omega
def Rise (xs:List (Int×Int)):Prop:=xs.Pairwise (fun a b=>a.2≤b.2)
def SortSaid:Prop:=∀ (w:World)(base:Nat)(v:Value)(xs:List (Int×Int)),w.ownsRow base 79 2 v xs.length (flat xs)→xs.length<1000000 →
 Calls Try.prog 43 #[v,.func (.func 44) #[] #[]] w fun e w'=>e=.returned (.tuple #[])∧∃ ys:List (Int×Int),ys.Perm xs∧w'.ownsRow base 79 2 v ys.length (flat ys)∧w.grownBy w' v.ownBlock∧Rise ys
theorem info79:(Try.prog.info? 79).map (fun i=>(i.zero,i.size,i.bytes))=some (some (.agg #[.int .i64 0,.int .i64 0]),2,16):=by kernel_rfl
theorem newest2 (w:World)(o:Obj)(x y:Value)(t:TypeId):∀ (j:Nat)(u:Value),[x,y][j]?=some u→((w.alloc o).alloc (.cells #[x,y] t)).cell? ((⟨w.heap.size+1,0,none⟩:Addr).add j)=some u:=by
 intro j u hu
 have hs:w.heap.size+1=(w.alloc o).heap.size:=by simp
 rcases j with _ | _ | j
 ·rw [Addr.add_lit,World.cell?_alloc_at _ _ _ _ hs]; simpa using hu
 ·rw [Addr.add_lit,World.cell?_alloc_at _ _ _ _ hs]; simpa using hu
 ·simp at hu
theorem row_ne_iter {K V:Type}{ek:K→Value}{ev:V→Value}{w:World}{b r base e size n:Nat}{l rest:List (K×V)}{v:Value}{xs:List Value}(h:w.ownsRow base e size v n xs)(hr:Ranging ek ev w b r l rest):v.ownBlock≠some r:=by
 intro hv
 obtain ⟨es,clock,seen,_,_,_,_,h5,_⟩:=hr
 rcases h.2 with ⟨rfl,_⟩ | ⟨g,cap,cur,rfl,_,hg,_⟩
 ·simp [Value.ownBlock] at hv
 ·simp [Value.ownBlock] at hv
  subst hv
  rw [h5] at hg
  cases hg
theorem all_any (hS:SortSaid){w:World}{pb b0 b1 b2 b3:Nat}{l0:Things}{l1:Runs}{l2:Waits}{l3:Prefs}(h:PlanAt w pb b0 b1 b2 b3 l0 l1 l2 l3)(k:Int)(hlen:l0.length≤1000) :
  Calls Try.prog 26 #[.pointer (some ⟨pb,0,none⟩),.int .i64 k] w fun e w'=>∃ v xs,e=.returned v∧xs.Perm (sel k l0)∧w'.ownsRow w.heap.size 79 2 v xs.length (flat xs)∧Below w.heap.size w w'∧Rise xs:=by
 have hpb:=h.lt
 have c0:=h.c0
 have m0:=h.m0
 have hb0:=m0.lt
 obtain ⟨i0,hi,hz0,hz1,hz2⟩:=info_parts info79
 clear h
 go_enter Try.func26,Try.ntmps26
 go_wp2_with (first
  | (at_range; refine wpList_range_mine _ rfl _ 70 rfl Try.underlying70 rfl m0 ?_; intro ob hrg0)
  | go_in)
 go_frame
 go_loopg [5] l0.length (fun gk v wr=>∃ xs rest,rest.length≤gk∧Ranging tv fv wr b0 w.heap.size l0 rest∧wr.ownsRow w.heap.size 79 2 v xs.length (flat xs)∧(xs ++ sel k rest).Perm (sel k l0)∧Below w.heap.size w wr)
 case atStart=>exact ⟨[],l0,Jb _,hrg0,World.ownsRow_nil _ _ _ _,List.Perm.refl _,(Jd _ _).alloc (Jb _) _⟩
 case round =>
  obtain ⟨xs,rest,hgk,hrg,hrow,hperm,hbel⟩:=hrel
  go_wp2_with (first
   | (at_next; refine wpList_next_mine _ rfl _ rfl rfl hrg ?_ ?_)
   | go_in)
  ·intro hr0
   subst hr0
   clear hgk
   rw [show sel k []=[] from rfl,List.append_nil] at hperm
   have hlx:xs.length<1000000:=by
    have h1:=hperm.length_eq
    have h2:(sel k l0).length≤l0.length:=by simp [sel]; exact List.length_filter_le _ _
    omega
   go_wp2_with (go_at_call 43; refine (hS _ _ _ xs hrow hlx).mono ?_; rintro e w' ⟨rfl,ys,hy1,hy2,hy3,hy4⟩)
   go_ret
   refine ⟨u5,ys,rfl,hy1.trans hperm,hy2,?_⟩
   exact ⟨hbel.grown hy3 hbel.size (fun j hj=>(hrow.lt j hj).1),hy4⟩
  ·intro x1 x2 f1 f2 f3 f4 rest' w1 hp hen hrg1 hg1 hs1
   simp only [tv,fv] at hen ⊢
   have hsz:w1.heap.size≤wr.heap.size:=by omega
   have hsz':wr.heap.size≤w1.heap.size:=by omega
   clear hs1
   have hrow1:w1.ownsRow w.heap.size 79 2 u5 xs.length (flat xs):=hrow.kept hg1 (Js (row_ne_iter hrow hrg))
   have hbel1:Below w.heap.size w w1:=hbel.grown hg1 hbel.size (fun j hj=>by cases hj; exact Jb _)
   have hlx:xs.length≤1000:=by
    have h1:=hperm.length_eq
    have h2:(sel k l0).length≤l0.length:=by simp [sel]; exact List.length_filter_le _ _
    simp at h1
    omega
   by_cases hk:x1=k
   ·subst hk
    go_wp2_with (first
     | (at_builtin; refine wpList_append_own _ rfl _ _ 65 rfl w.heap.size 79 i0 (.agg #[.int .i64 0,.int .i64 0]) 2 16 Try.underlying65 hi hz0 hz1 hz2 rfl (by decide) _ _ _ rfl ((hrow1.alloc _).alloc _) ⟨w1.heap.size+1,0,none⟩ 1 1 [.int .i64 x1,.int .i64 x2] rfl rfl ?_ ?_ ?_ ?_ ?_ ?_)
     | go_in)
    ·exact newest2 _ _ _ _ _
    ·intro u hu; simp at hu; rcases hu with rfl | rfl <;> rfl
    ·unfold maxLen; omega
    ·omega
    ·have:=hbel1.size; simp; omega
    ·intro v' w' hrow' hg' _
     go_wp2
     go_roundg rest'.length
     case measure=>have:=hp.length_eq; simp at this; omega
     case rel =>
      have hall:=((World.grownBy_alloc w1 (Obj.cells #[.int .i64 x1,.int .i64 x2] 79) none).andThen (World.grownBy_alloc (w1.alloc (Obj.cells #[.int .i64 x1,.int .i64 x2] 79)) (Obj.cells #[.int .i64 x1,.int .i64 x2] 79) none) (by simp)).but u5.ownBlock
      have hall2:=hall.andThen hg' (fun j hj=>Js hj)
      have hl0:some b0≠u5.ownBlock:=fun hj=>by have:=(hrow1.lt b0 hj.symm).1; omega
      refine ⟨xs ++ [(x1,x2)],rest',Jb _,hrg1.kept hall2 hl0 (row_ne_iter hrow1 hrg1).symm,by simpa [flat] using hrow',?_,hbel1.grown hall2 hbel1.size (fun j hj=>(hrow1.lt j hj).1)⟩
      refine List.Perm.trans ?_ hperm
      rw [List.append_assoc]
      refine List.Perm.append_left _ ?_
      have:=(hp.filter (fun x=>x.1.1 == x1)).map (·.1)
      simpa [sel] using this.symm
   ·have hkb:(x1 == k)=false:=by simpa using hk
    go_wp2
    go_roundg rest'.length
    case measure=>have:=hp.length_eq; simp at this; omega
    case rel =>
     refine ⟨xs,rest',Jb _,hrg1.kept (World.grownBy_alloc _ _ none) (by simp) (by simp),hrow1.alloc _,?_,hbel1.alloc hbel1.size _⟩
     refine List.Perm.trans ?_ hperm
     refine List.Perm.append_left _ ?_
     have:=(hp.filter (fun x=>x.1.1 == k)).map (·.1)
     simpa [sel,hk] using this.symm
end
section
open Go.RowKit
def roomOf (l0:Things)(a1 a2 most:Int):Int :=
 if a2<0∨99<a2 then 1 else if (get (a1,a2) l0).isSome then 2 else if most≤(sel a1 l0).length then 3 else 0
theorem next2 {w w1 w2:World}(h1:Below w.heap.size w w1)(h2:Below w1.heap.size w1 w2):Below w.heap.size w w2:=h1.trans (h2.mono h1.size)
theorem hid {p:Prop}(h:p):Hid p:=h
theorem bcell {W w1:World}(hb:Below W.heap.size W w1):(∀ b o,b<W.heap.size→w1.cell? ⟨b,o,none⟩=W.cell? ⟨b,o,none⟩)∧(∀ b o,b<W.heap.size→w1.frozen? ⟨b,o,none⟩=W.frozen? ⟨b,o,none⟩) :=
 ⟨fun b o h=>hb.cell (p:=⟨b,o,none⟩) h,fun b o h=>hb.frozen (p:=⟨b,o,none⟩) h⟩
theorem ownsRow_shape {w:World}{base e size n:Nat}{v:Value}{xs:List Value}(h:w.ownsRow base e size v n xs):∃ p cap,v=.slice p n cap:=by
 rcases h.2 with ⟨rfl,rfl⟩ | ⟨g,cap,cur,rfl,_⟩
 ·exact ⟨_,_,rfl⟩
 ·exact ⟨_,_,rfl⟩
theorem room_any (hS:SortSaid){w:World}{pb b0 b1 b2 b3:Nat}{l0:Things}{l1:Runs}{l2:Waits}{l3:Prefs}(h:PlanAt w pb b0 b1 b2 b3 l0 l1 l2 l3)(a1 a2 most:Int)(hlen:l0.length≤1000) :
  Calls Try.prog 33 #[.pointer (some ⟨pb,0,none⟩),.agg #[.int .i64 a1,.int .i64 a2],.int .i64 most] w fun e w'=>e=.returned (.int .i64 (roomOf l0 a1 a2 most))∧Below w.heap.size w w':=by
 have hp1:=h.alloc (.cells #[.int .i64 a1,.int .i64 a2] 79)
 have hb1:Below w.heap.size w (w.alloc (.cells #[.int .i64 a1,.int .i64 a2] 79)):=(Jd _ _).alloc (Jb _) _
 by_cases h0:a2<0
 ·have hr:roomOf l0 a1 a2 most=1:=by simp [roomOf,h0]
  rw [hr]
  clear hr
  go_enter Try.func33,Try.ntmps33
  go_wp2
  go_ret
  exact ⟨rfl,hb1⟩
 by_cases h1:99<a2
 ·have hr:roomOf l0 a1 a2 most=1:=by simp [roomOf,h1]
  rw [hr]
  clear hr
  have hd:decide (a2<0)=false:=by simpa using h0
  go_enter Try.func33,Try.ntmps33
  go_wp2
  go_ret
  exact ⟨rfl,hb1⟩
 have hr:roomOf l0 a1 a2 most=if (get (a1,a2) l0).isSome then 2 else if most≤(sel a1 l0).length then 3 else 0:=by
  unfold roomOf; rw [if_neg (by omega)]
 have hd:decide (a2<0)=false:=by simpa using h0
 have hd1:decide (99<a2)=false:=by simpa using h1
 have hh:=has_any hp1 a1 a2
 rw [hr]
 clear hr
 cases hg:get (a1,a2) l0 with
 | some f =>
  rw [hg] at hh
  simp only [Option.isSome_some,if_true] at hh ⊢
  clear hg
  have Hh:=hid hh
  clear hh
  go_enter Try.func33,Try.ntmps33
  go_wp2_with (go_at_call 35; refine Hh.out.mono ?_; rintro e w' ⟨rfl,hb2⟩)
  go_ret
  exact ⟨rfl,next2 hb1 hb2⟩
 | none =>
  rw [hg] at hh
  simp only [Option.isSome_none] at hh ⊢
  clear hg
  have Hh:=hid hh
  clear hh
  by_cases hm:most≤(sel a1 l0).length
  ·rw [if_neg (by simp),if_pos hm]
   go_enter Try.func33,Try.ntmps33
   go_wp2_with (first
    | (go_at_call 35; refine Hh.out.mono ?_; rintro e w' ⟨rfl,hb2⟩; obtain ⟨hc,hf⟩:=bcell hb2)
    | (go_at_call 26; refine (all_any hS (hp1.below hb2) a1 hlen).mono ?_; rintro e w'' ⟨v,xs,rfl,hx1,hx2,hx3,_⟩; obtain ⟨pp,cap,rfl⟩:=ownsRow_shape hx2; have hxl:=hx1.length_eq))
   go_ret
   exact ⟨rfl,next2 (next2 hb1 hb2) hx3⟩
  ·rw [if_neg (by simp),if_neg hm]
   have hm':decide (most≤((sel a1 l0).length:Int))=false:=by simpa using hm
   go_enter Try.func33,Try.ntmps33
   go_wp2_with (first
    | (go_at_call 35; refine Hh.out.mono ?_; rintro e w' ⟨rfl,hb2⟩; obtain ⟨hc,hf⟩:=bcell hb2)
    | (go_at_call 26; refine (all_any hS (hp1.below hb2) a1 hlen).mono ?_; rintro e w'' ⟨v,xs,rfl,hx1,hx2,hx3,_⟩; obtain ⟨pp,cap,rfl⟩:=ownsRow_shape hx2; have hxl:=hx1.length_eq))
   go_ret
   exact ⟨rfl,next2 (next2 hb1 hb2) hx3⟩
end
section
open Go.MapKept (heap_set)
open Go.ChangeMaps (setBlock)
section
variable {K V:Type} [DecidableEq K]
def del (a:K)(l:List (K×V)):List (K×V):=l.filter fun x=>decide (x.1≠a)
def KN (l:List (K×V)):Prop:=(l.map (·.1)).Nodup
theorem get_del (a b:K):∀ l:List (K×V),get b (del a l)=if b=a then none else get b l
 | []=>by simp [del,get]
 | x :: r=>by
  have ih:=get_del a b r
  by_cases hx:x.1=a
  ·have e:del a (x :: r)=del a r:=by simp [del,hx]
   rw [e,ih]
   by_cases hb:b=a
   ·simp [hb]
   ·have:b≠x.1:=fun e=>hb (e.trans hx)
    simp [get,hb,this]
  ·have e:del a (x :: r)=x :: del a r:=by simp [del,hx]
   rw [e]
   by_cases hb:b=x.1
   ·have:b≠a:=fun e=>hx (hb.symm.trans e)
    simp only [get,if_pos hb]
    rw [if_neg this]
   ·simp [get,hb,ih]
theorem get_none_iff (a:K):∀ l:List (K×V),get a l=none↔a∉l.map (·.1)
 | []=>by simp [get]
 | x :: r=>by
  have ih:=get_none_iff a r
  by_cases hx:a=x.1
  ·simp [get,hx]
  ·simp [get,hx,ih]
theorem KN.del {l:List (K×V)}(h:KN l)(a:K):KN (del a l):=h.sublist (List.filter_sublist.map _)
theorem KN.put {l:List (K×V)}(h:KN l)(a:K)(v:V):KN (put a v l):=by
 unfold KN at *
 induction l with
 | nil=>simp [Ytjdindfjfpdikab.put]
 | cons x r ih =>
  unfold Ytjdindfjfpdikab.put
  simp only [List.map_cons,List.nodup_cons] at h
  by_cases hx:a=x.1
  ·rw [if_pos hx]
   simp only [List.map_cons,List.nodup_cons]
   exact ⟨by rw [hx]; exact h.1,h.2⟩
  ·rw [if_neg hx]
   simp only [List.map_cons,List.nodup_cons]
   refine ⟨fun hm=>?_,ih h.2⟩
   have h1:=h.1
   rw [← get_none_iff] at h1
   have h2:get x.1 (Ytjdindfjfpdikab.put a v r)≠none:=fun e=>((get_none_iff _ _).1 e) hm
   apply h2
   clear ih h h2 hm
   induction r with
   | nil=>simp [Ytjdindfjfpdikab.put,get,Ne.symm hx]
   | cons y s ih =>
    unfold get at h1
    split at h1
    ·cases h1
    ·rename_i hy
     unfold Ytjdindfjfpdikab.put
     split
     ·simp [get,Ne.symm hx,h1]
     ·simp [get,hy,ih h1]
variable {ek:K→Value}{ev:V→Value}{w:World}{b:Nat}{l:List (K×V)}{P:Program}{kt et t:TypeId}
theorem filter_eraseIdx (a:K):∀ (l:List (K×V))(k:Nat)(u:V),KN l→l[k]?=some (a,u)→del a l=l.eraseIdx k
 | [],k,u,_,h=>by simp at h
 | x :: r,0,u,hn,h=>by
  simp at h
  subst h
  have h1:=(List.nodup_cons.1 hn).1
  have:del a r=r:=List.filter_eq_self.2 fun y hy=>by
   have:y.1≠a:=fun e=>h1 (List.mem_map.2 ⟨y,hy,e⟩)
   simpa using this
  rw [List.eraseIdx_zero,List.tail_cons,← this]
  simp [del]
 | x :: r,k+1,u,hn,h=>by
  have hn':=List.nodup_cons.1 hn
  have ih:=filter_eraseIdx a r k u hn'.2 (by simpa using h)
  have hx:x.1≠a:=fun e=>hn'.1 (by
   have:(a,u)∈r:=List.mem_of_getElem? (by simpa using h)
   exact List.mem_map.2 ⟨_,this,e.symm⟩)
  rw [List.eraseIdx_cons_succ,← ih]
  simp [del,hx]
def dropped (P:Program)(t kt:TypeId)(b:Nat)(k:Value)(w:World):World :=
 match (Builtin.delete_ #[t,kt] 0 #[.map (some b),k]).run P w with
 | .ok _ w'=>w'
 | .halt _ w'=>w'
theorem run_del (KT:KeyTy P kt K ek)(ht:P.underlying t=some (.map kt et))(h:MapAt ek ev w b l)(hn:KN l)(a:K)(ty:TypeId) :
  (Builtin.delete_ #[t,kt] ty #[.map (some b),ek a]).run P w=.ok (.tuple #[]) (dropped P t kt b (ek a) w)∧MapAt ek ev (dropped P t kt b (ek a) w) b (del a l)∧w.grownBy (dropped P t kt b (ek a) w) (some b):=by
 obtain ⟨es,clock,hb,hl,hs,hnb⟩:=h
 have hf:=run_find KT w a es.toList l hl
 have gr:∀ o:Obj,w.grownBy { w with heap:=w.heap.setIfInBounds b o } (some b):=fun o =>
  ⟨rfl,rfl,rfl,by simp,fun k _ hk=>(heap_set (o':=o) hb).2 k (fun e=>hk (by rw [e]))⟩
 cases hp:pos a l 0 with
 | none =>
  obtain ⟨h1,_⟩:=pos_none a l 0 hp
  have hd:del a l=l:=List.filter_eq_self.2 fun y hy=>by simpa using h1 y hy
  have hrun:∀ ty,(Builtin.delete_ #[t,kt] ty #[.map (some b),ek a]).run P w=.ok (.tuple #[]) { w with heap:=w.heap.setIfInBounds b (.map es clock) }:=fun ty=>by
   simp [Builtin.delete_,run_underlying ht,MapKept.run_getObj_map hb,KT.check,hf,hp,MapKept.run_setObj_map _ hb]
  have hu:dropped P t kt b (ek a) w={ w with heap:=w.heap.setIfInBounds b (.map es clock) }:=by unfold dropped; rw [hrun]
  rw [hu,hd]
  exact ⟨hrun ty,⟨es,clock,(heap_set hb).1,hl,hs,hnb⟩,gr _⟩
 | some p =>
  obtain ⟨j,u⟩:=p
  obtain ⟨k,rfl,h1,_⟩:=pos_some a l 0 j u hp
  have hrun:∀ ty,(Builtin.delete_ #[t,kt] ty #[.map (some b),ek a]).run P w=.ok (.tuple #[]) { w with heap:=w.heap.setIfInBounds b (.map (es.eraseIdxIfInBounds k) clock) }:=fun ty=>by
   simp [Builtin.delete_,run_underlying ht,MapKept.run_getObj_map hb,KT.check,hf,hp,MapKept.run_setObj_map _ hb]
  have hu:dropped P t kt b (ek a) w={ w with heap:=w.heap.setIfInBounds b (.map (es.eraseIdxIfInBounds k) clock) }:=by unfold dropped; rw [hrun]
  have he:(es.eraseIdxIfInBounds k).toList=es.toList.eraseIdx k:=by simp
  rw [hu,filter_eraseIdx a l k u hn h1]
  refine ⟨hrun ty,⟨_,clock,(heap_set hb).1,?_,?_,?_⟩,gr _⟩
  ·rw [he,ChangeMaps.map_eraseIdx,ChangeMaps.map_eraseIdx,hl]
  ·rw [he]; exact fun x hx=>hs x ((List.eraseIdx_sublist _ _).subset hx)
  ·rw [he]; exact hnb.sublist ((List.eraseIdx_sublist _ _).map _)
end
end
section
open Go.RowKit
structure Only (S:List Nat)(w w':World):Prop where
 os:w'.os=w.os
 tape:w'.tape=w.tape
 output:w'.output=w.output
 size:w.heap.size≤w'.heap.size
 block:∀ k,k<w.heap.size→k∉S→w'.heap[k]?=w.heap[k]?
theorem Only.of_below {S:List Nat}{w w':World}(h:Below w.heap.size w w'):Only S w w':=⟨h.os,h.tape,h.output,h.size,fun k hk _=>h.block k hk⟩
theorem Only.of_grown {S:List Nat}{w w':World}{b:Nat}(h:w.grownBy w' (some b))(hb:b∈S):Only S w w' :=
 ⟨h.os,h.tape,h.output,h.size,fun k hk hn=>h.block k hk (fun e=>hn (by cases e; exact hb))⟩
theorem Only.trans {S:List Nat}{a b c:World}(h:Only S a b)(k:Only S b c):Only S a c :=
 ⟨k.os.trans h.os,k.tape.trans h.tape,k.output.trans h.output,Nat.le_trans h.size k.size,fun i hi hn=>(k.block i (Jm hi h.size) hn).trans (h.block i hi hn)⟩
theorem Only.drew {S:List Nat}{w w':World}(h:Only S w w'):Only S w w'.drew:=⟨h.os,h.tape,h.output,h.size,h.block⟩
section
variable {w:World}{pb b0 b1 b2 b3:Nat}{l0:Things}{l1:Runs}{l2:Waits}{l3:Prefs}
theorem PlanAt.pne (h:PlanAt w pb b0 b1 b2 b3 l0 l1 l2 l3):pb≠b0∧pb≠b1∧pb≠b2∧pb≠b3:=by
 obtain ⟨_,_,_,_,_,hc⟩:=h.cells
 refine ⟨fun e=>?_,fun e=>?_,fun e=>?_,fun e=>?_⟩
 ·obtain ⟨es,c,hb,_⟩:=h.m0; rw [← e,hc] at hb; cases hb
 ·obtain ⟨es,c,hb,_⟩:=h.m1; rw [← e,hc] at hb; cases hb
 ·obtain ⟨es,c,hb,_⟩:=h.m2; rw [← e,hc] at hb; cases hb
 ·obtain ⟨es,c,hb,_⟩:=h.m3; rw [← e,hc] at hb; cases hb
theorem PlanAt.drew (h:PlanAt w pb b0 b1 b2 b3 l0 l1 l2 l3):PlanAt w.drew pb b0 b1 b2 b3 l0 l1 l2 l3:=⟨h.cells,h.m0,h.m1,h.m2,h.m3,h.ne⟩
theorem PlanAt.put0 (h:PlanAt w pb b0 b1 b2 b3 l0 l1 l2 l3)(a:Int×Int)(f:(Int×Int)×Int×Int) :
  PlanAt (upd Try.prog 70 b0 (tv a) (fv f) w) pb b0 b1 b2 b3 (put a f l0) l1 l2 l3∧Only [b0,b1,b2,b3] w (upd Try.prog 70 b0 (tv a) (fv f) w):=by
 obtain ⟨_,h2,h3⟩:=run_put kt79 Try.underlying70 h.m0 a f
 obtain ⟨n1,n2,n3,n4,n5,n6⟩:=h.ne
 refine ⟨⟨?_,h2,h.m1.grown h3 (by simpa using n1.symm),h.m2.grown h3 (by simpa using n2.symm),h.m3.grown h3 (by simpa using n3.symm),h.ne⟩,Only.of_grown h3 (by simp)⟩
 exact h.cells.move (h3.block pb h.lt (by simpa using h.pne.1))
theorem PlanAt.put3 (h:PlanAt w pb b0 b1 b2 b3 l0 l1 l2 l3)(a:(Int×Int)×(Int×Int))(n:Int) :
  PlanAt (upd Try.prog 72 b3 (wv a) (iv n) w) pb b0 b1 b2 b3 l0 l1 l2 (put a n l3)∧Only [b0,b1,b2,b3] w (upd Try.prog 72 b3 (wv a) (iv n) w):=by
 obtain ⟨_,h2,h3⟩:=run_put kt86 Try.underlying72 h.m3 a n
 obtain ⟨n1,n2,n3,n4,n5,n6⟩:=h.ne
 refine ⟨⟨?_,h.m0.grown h3 (by simpa using n3),h.m1.grown h3 (by simpa using n5),h.m2.grown h3 (by simpa using n6),h2,h.ne⟩,Only.of_grown h3 (by simp)⟩
 exact h.cells.move (h3.block pb h.lt (by simpa using h.pne.2.2.2))
end
def rackTo (l0:Things)(id:Int):Things:=if roomOf l0 0 id 4=0 then put (0,id) ((4,0),0,0) l0 else l0
theorem rack_any (hS:SortSaid){w:World}{pb b0 b1 b2 b3:Nat}{l0:Things}{l1:Runs}{l2:Waits}{l3:Prefs}(h:PlanAt w pb b0 b1 b2 b3 l0 l1 l2 l3)(id:Int)(hlen:l0.length≤1000) :
  Calls Try.prog 15 #[.pointer (some ⟨pb,0,none⟩),.int .i64 id] w fun e w'=>e=.returned (.int .i64 (roomOf l0 0 id 4))∧PlanAt w' pb b0 b1 b2 b3 (rackTo l0 id) l1 l2 l3∧Only [b0,b1,b2,b3] w w':=by
 have hp1:=h.alloc (.cells #[.int .i64 0,.int .i64 id] 79)
 have hb1:Below w.heap.size w (w.alloc (.cells #[.int .i64 0,.int .i64 id] 79)):=(Jd _ _).alloc (Jb _) _
 have Hh:=hid (room_any hS hp1 0 id 4 hlen)
 have hpb:=h.lt
 have c0:=h.c0
 generalize hr:roomOf l0 0 id 4=r at Hh ⊢
 have Hr:=hid hr
 clear hr
 by_cases hz:r=0
 ·subst hz
  go_enter Try.func15,Try.ntmps15
  go_wp2_with (go_at_call 33; refine Hh.out.mono ?_; rintro e w2 ⟨rfl,hb2⟩; obtain ⟨hc,hf⟩:=bcell hb2; have hu:(Instr.mapUpdate 70 (.map (some b0)) (.agg #[.int .i64 0,.int .i64 id]) (.agg #[.int .i64 4,.int .i64 0,.int .i64 0,.int .i64 0])).run Try.prog w2.drew=.ok () (upd Try.prog 70 b0 (tv (0,id)) (fv ((4,0),0,0)) w2.drew):=(run_put kt79 Try.underlying70 (hp1.below hb2).m0.drew (0,id) ((4,0),0,0)).1)
  go_region
  all_goals
   go_wp2
   go_ret
   have hq:=(hp1.below hb2).drew.put0 (0,id) ((4,0),0,0)
   exact ⟨rfl,by unfold rackTo; rw [if_pos Hr.out]; exact hq.1,((Only.of_below (next2 hb1 hb2)).drew).trans hq.2⟩
 ·have hzb:(r != 0)=true:=by simpa using hz
  go_enter Try.func15,Try.ntmps15
  go_wp2_with (go_at_call 33; refine Hh.out.mono ?_; rintro e w2 ⟨rfl,hb2⟩)
  go_ret
  exact ⟨rfl,by unfold rackTo; rw [if_neg (by rw [Hr.out]; exact hz)]; exact hp1.below hb2,Only.of_below (next2 hb1 hb2)⟩
end
section
open Go.RowKit
theorem boxes2 {w w3:World}{x1 x2 y1 y2:Value}(h:Below ((w.alloc (.cells #[x1,x2] 79)).alloc (.cells #[y1,y2] 79)).heap.size ((w.alloc (.cells #[x1,x2] 79)).alloc (.cells #[y1,y2] 79)) w3) :
  w3.cell? ⟨w.heap.size,0,none⟩=some x1∧w3.cell? ⟨w.heap.size,1,none⟩=some x2∧w3.cell? ⟨w.heap.size+1,0,none⟩=some y1∧w3.cell? ⟨w.heap.size+1,1,none⟩=some y2:=by
 have hs:w.heap.size+1=(w.alloc (.cells #[x1,x2] 79)).heap.size:=by simp
 have e1:∀ i,w3.cell? ⟨w.heap.size,i,none⟩=#[x1,x2][i]?:=fun i=>by
  rw [h.cell (p:=⟨w.heap.size,i,none⟩) (by simp; omega),World.cell?_alloc_past _ _ _ (by simp),World.cell?_alloc_at _ _ _ _ rfl]
 have e2:∀ i,w3.cell? ⟨w.heap.size+1,i,none⟩=#[y1,y2][i]?:=fun i=>by
  rw [h.cell (p:=⟨w.heap.size+1,i,none⟩) (by simp),World.cell?_alloc_at _ _ _ _ hs]
 exact ⟨by rw [e1]; rfl,by rw [e1]; rfl,by rw [e2]; rfl,by rw [e2]; rfl⟩
def machOf (l0:Things)(id rack slots:Int):Int :=
 if roomOf l0 1 id 8=0 then (if (get (0,rack) l0).isSome then (if slots<1∨4<slots then 5 else 0) else 4) else roomOf l0 1 id 8
def machTo (l0:Things)(id rack slots:Int):Things:=if machOf l0 id rack slots=0 then put (1,id) ((0,rack),slots,0) l0 else l0
theorem machine_any (hS:SortSaid){w:World}{pb b0 b1 b2 b3:Nat}{l0:Things}{l1:Runs}{l2:Waits}{l3:Prefs}(h:PlanAt w pb b0 b1 b2 b3 l0 l1 l2 l3)(id rack slots:Int)(hlen:l0.length≤1000) :
  Calls Try.prog 19 #[.pointer (some ⟨pb,0,none⟩),.int .i64 id,.int .i64 rack,.int .i64 slots] w fun e w'=>e=.returned (.int .i64 (machOf l0 id rack slots))∧PlanAt w' pb b0 b1 b2 b3 (machTo l0 id rack slots) l1 l2 l3∧Only [b0,b1,b2,b3] w w':=by
 have hp1:=(h.alloc (.cells #[.int .i64 1,.int .i64 id] 79)).alloc (.cells #[.int .i64 0,.int .i64 rack] 79)
 have hb1:Below w.heap.size w ((w.alloc (.cells #[.int .i64 1,.int .i64 id] 79)).alloc (.cells #[.int .i64 0,.int .i64 rack] 79)):=((Jd _ _).alloc (Jb _) _).alloc (by simp) _
 have Hh:=hid (room_any hS hp1 1 id 8 hlen)
 have hpb:=h.lt
 have c0:=h.c0
 by_cases hz:roomOf l0 1 id 8=0
 ·rw [hz] at Hh
  cases hg:get (0,rack) l0 with
  | none =>
   have e1:machOf l0 id rack slots=4:=by simp [machOf,hz,hg]
   have e2:machTo l0 id rack slots=l0:=by simp [machTo,e1]
   rw [e1,e2]
   clear e1 e2 hz
   go_enter Try.func19,Try.ntmps19
   go_wp2_with (first
    | (go_at_call 33; refine Hh.out.mono ?_; rintro e w2 ⟨rfl,hb2⟩; obtain ⟨hc,hf⟩:=bcell hb2)
    | (go_at_call 35; refine (has_any (hp1.below hb2) 0 rack).mono ?_; rw [hg]; rintro e w3 ⟨rfl,hb3⟩))
   go_ret
   exact ⟨rfl,(hp1.below hb2).below hb3,Only.of_below (next2 (next2 hb1 hb2) hb3)⟩
  | some f =>
   by_cases hs:slots<1∨4<slots
   ·have e1:machOf l0 id rack slots=5:=by simp [machOf,hz,hg,hs]
    have e2:machTo l0 id rack slots=l0:=by simp [machTo,e1]
    rw [e1,e2]
    clear e1 e2 hz
    by_cases hs1:slots<1
    ·clear hs
     go_enter Try.func19,Try.ntmps19
     go_wp2_with (first
      | (go_at_call 33; refine Hh.out.mono ?_; rintro e w2 ⟨rfl,hb2⟩; obtain ⟨hc,hf⟩:=bcell hb2)
      | (go_at_call 35; refine (has_any (hp1.below hb2) 0 rack).mono ?_; rw [hg]; rintro e w3 ⟨rfl,hb3⟩))
     go_ret
     exact ⟨rfl,(hp1.below hb2).below hb3,Only.of_below (next2 (next2 hb1 hb2) hb3)⟩
    ·have hs2:4<slots:=by omega
     have hd:decide (slots<1)=false:=by simpa using hs1
     clear hs
     go_enter Try.func19,Try.ntmps19
     go_wp2_with (first
      | (go_at_call 33; refine Hh.out.mono ?_; rintro e w2 ⟨rfl,hb2⟩; obtain ⟨hc,hf⟩:=bcell hb2)
      | (go_at_call 35; refine (has_any (hp1.below hb2) 0 rack).mono ?_; rw [hg]; rintro e w3 ⟨rfl,hb3⟩))
     go_ret
     exact ⟨rfl,(hp1.below hb2).below hb3,Only.of_below (next2 (next2 hb1 hb2) hb3)⟩
   ·have e1:machOf l0 id rack slots=0:=by unfold machOf; rw [if_pos hz,hg,if_neg hs]; rfl
    have e2:machTo l0 id rack slots=put (1,id) ((0,rack),slots,0) l0:=by simp [machTo,e1]
    rw [e1,e2]
    clear e1 e2 hz
    have hd:decide (slots<1)=false:=by simp; omega
    have hd2:decide (4<slots)=false:=by simp; omega
    clear hs
    go_enter Try.func19,Try.ntmps19
    go_wp2_with (first
     | (go_at_call 33; refine Hh.out.mono ?_; rintro e w2 ⟨rfl,hb2⟩; obtain ⟨hc,hf⟩:=bcell hb2)
     | (go_at_call 35; refine (has_any (hp1.below hb2) 0 rack).mono ?_; rw [hg]; rintro e w3 ⟨rfl,hb3⟩; obtain ⟨k1,k2,k3,k4⟩:=boxes2 (next2 hb2 hb3); have k5:=((hp1.below hb2).below hb3).c0; have hu:(Instr.mapUpdate 70 (.map (some b0)) (.agg #[.int .i64 1,.int .i64 id]) (.agg #[.int .i64 0,.int .i64 rack,.int .i64 slots,.int .i64 0])).run Try.prog w3.drew=.ok () (upd Try.prog 70 b0 (tv (1,id)) (fv ((0,rack),slots,0)) w3.drew):=(run_put kt79 Try.underlying70 ((hp1.below hb2).below hb3).m0.drew (1,id) ((0,rack),slots,0)).1))
    go_region
    all_goals
     go_wp2
     go_ret
     have hq:=((hp1.below hb2).below hb3).drew.put0 (1,id) ((0,rack),slots,0)
     exact ⟨rfl,hq.1,((Only.of_below (next2 (next2 hb1 hb2) hb3)).drew).trans hq.2⟩
 ·have hzb:(roomOf l0 1 id 8 != 0)=true:=by simpa using hz
  have e1:machOf l0 id rack slots=roomOf l0 1 id 8:=by simp [machOf,hz]
  have e2:machTo l0 id rack slots=l0:=by simp [machTo,e1,hz]
  rw [e1,e2]
  clear e1 e2 hz
  generalize roomOf l0 1 id 8=r at Hh hzb ⊢
  go_enter Try.func19,Try.ntmps19
  go_wp2_with (go_at_call 33; refine Hh.out.mono ?_; rintro e w2 ⟨rfl,hb2⟩)
  go_ret
  exact ⟨rfl,hp1.below hb2,Only.of_below (next2 hb1 hb2)⟩
end
section
open Go.RowKit
def jobOf (l0:Things)(id base:Int):Int:=if roomOf l0 2 id 4=0 then (if costB base then 0 else 5) else roomOf l0 2 id 4
def jobTo (l0:Things)(id base:Int):Things:=if jobOf l0 id base=0 then put (2,id) ((4,0),0,base) l0 else l0
theorem job_any (hS:SortSaid){w:World}{pb b0 b1 b2 b3:Nat}{l0:Things}{l1:Runs}{l2:Waits}{l3:Prefs}(h:PlanAt w pb b0 b1 b2 b3 l0 l1 l2 l3)(id base:Int)(hlen:l0.length≤1000) :
  Calls Try.prog 17 #[.pointer (some ⟨pb,0,none⟩),.int .i64 id,.int .i64 base] w fun e w'=>e=.returned (.int .i64 (jobOf l0 id base))∧PlanAt w' pb b0 b1 b2 b3 (jobTo l0 id base) l1 l2 l3∧Only [b0,b1,b2,b3] w w':=by
 have hp1:=h.alloc (.cells #[.int .i64 2,.int .i64 id] 79)
 have hb1:Below w.heap.size w (w.alloc (.cells #[.int .i64 2,.int .i64 id] 79)):=(Jd _ _).alloc (Jb _) _
 have Hh:=hid (room_any hS hp1 2 id 4 hlen)
 have hpb:=h.lt
 have c0:=h.c0
 by_cases hz:roomOf l0 2 id 4=0
 ·rw [hz] at Hh
  cases hcb:costB base with
  | false =>
   have e1:jobOf l0 id base=5:=by simp [jobOf,hz,hcb]
   have e2:jobTo l0 id base=l0:=by simp [jobTo,e1]
   rw [e1,e2]
   clear e1 e2 hz
   have Hc:=hid hcb
   clear hcb
   go_enter Try.func17,Try.ntmps17
   go_wp2_with (first
    | (go_at_call 33; refine Hh.out.mono ?_; rintro e w2 ⟨rfl,hb2⟩)
    | (go_at_call 34; refine (isCost_any base _).mono ?_; rw [Hc.out]; rintro e w3 ⟨rfl,rfl⟩))
   go_ret
   exact ⟨rfl,hp1.below hb2,Only.of_below (next2 hb1 hb2)⟩
  | true =>
   have e1:jobOf l0 id base=0:=by simp [jobOf,hz,hcb]
   have e2:jobTo l0 id base=put (2,id) ((4,0),0,base) l0:=by simp [jobTo,e1]
   rw [e1,e2]
   clear e1 e2 hz
   have Hc:=hid hcb
   clear hcb
   go_enter Try.func17,Try.ntmps17
   go_wp2_with (first
    | (go_at_call 33; refine Hh.out.mono ?_; rintro e w2 ⟨rfl,hb2⟩; obtain ⟨hc,hf⟩:=bcell hb2; have hu:(Instr.mapUpdate 70 (.map (some b0)) (.agg #[.int .i64 2,.int .i64 id]) (.agg #[.int .i64 4,.int .i64 0,.int .i64 0,.int .i64 base])).run Try.prog w2.drew=.ok () (upd Try.prog 70 b0 (tv (2,id)) (fv ((4,0),0,base)) w2.drew):=(run_put kt79 Try.underlying70 (hp1.below hb2).m0.drew (2,id) ((4,0),0,base)).1)
    | (go_at_call 34; refine (isCost_any base _).mono ?_; rw [Hc.out]; rintro e w3 ⟨rfl,rfl⟩))
   go_region
   all_goals
    go_wp2
    go_ret
    have hq:=(hp1.below hb2).drew.put0 (2,id) ((4,0),0,base)
    exact ⟨rfl,hq.1,((Only.of_below (next2 hb1 hb2)).drew).trans hq.2⟩
 ·have hzb:(roomOf l0 2 id 4 != 0)=true:=by simpa using hz
  have e1:jobOf l0 id base=roomOf l0 2 id 4:=by simp [jobOf,hz]
  have e2:jobTo l0 id base=l0:=by simp [jobTo,e1,hz]
  rw [e1,e2]
  clear e1 e2 hz
  generalize roomOf l0 2 id 4=r at Hh hzb ⊢
  go_enter Try.func17,Try.ntmps17
  go_wp2_with (go_at_call 33; refine Hh.out.mono ?_; rintro e w2 ⟨rfl,hb2⟩)
  go_ret
  exact ⟨rfl,hp1.below hb2,Only.of_below (next2 hb1 hb2)⟩
def taskOf (l0:Things)(id job any:Int):Int :=
 if roomOf l0 3 id 16=0 then (if (get (2,job) l0).isSome then (if costB any then 0 else 5) else 4) else roomOf l0 3 id 16
def taskTo (l0:Things)(id job any:Int):Things:=if taskOf l0 id job any=0 then put (3,id) ((2,job),0,any) l0 else l0
theorem task_any (hS:SortSaid){w:World}{pb b0 b1 b2 b3:Nat}{l0:Things}{l1:Runs}{l2:Waits}{l3:Prefs}(h:PlanAt w pb b0 b1 b2 b3 l0 l1 l2 l3)(id job any:Int)(hlen:l0.length≤1000) :
  Calls Try.prog 20 #[.pointer (some ⟨pb,0,none⟩),.int .i64 id,.int .i64 job,.int .i64 any] w fun e w'=>e=.returned (.int .i64 (taskOf l0 id job any))∧PlanAt w' pb b0 b1 b2 b3 (taskTo l0 id job any) l1 l2 l3∧Only [b0,b1,b2,b3] w w':=by
 have hp1:=(h.alloc (.cells #[.int .i64 3,.int .i64 id] 79)).alloc (.cells #[.int .i64 2,.int .i64 job] 79)
 have hb1:Below w.heap.size w ((w.alloc (.cells #[.int .i64 3,.int .i64 id] 79)).alloc (.cells #[.int .i64 2,.int .i64 job] 79)):=((Jd _ _).alloc (Jb _) _).alloc (by simp) _
 have Hh:=hid (room_any hS hp1 3 id 16 hlen)
 have hpb:=h.lt
 have c0:=h.c0
 by_cases hz:roomOf l0 3 id 16=0
 ·rw [hz] at Hh
  cases hg:get (2,job) l0 with
  | none =>
   have e1:taskOf l0 id job any=4:=by simp [taskOf,hz,hg]
   have e2:taskTo l0 id job any=l0:=by simp [taskTo,e1]
   rw [e1,e2]
   clear e1 e2 hz
   go_enter Try.func20,Try.ntmps20
   go_wp2_with (first
    | (go_at_call 33; refine Hh.out.mono ?_; rintro e w2 ⟨rfl,hb2⟩; obtain ⟨hc,hf⟩:=bcell hb2)
    | (go_at_call 35; refine (has_any (hp1.below hb2) 2 job).mono ?_; rw [hg]; rintro e w3 ⟨rfl,hb3⟩))
   go_ret
   exact ⟨rfl,(hp1.below hb2).below hb3,Only.of_below (next2 (next2 hb1 hb2) hb3)⟩
  | some f =>
   cases hcb:costB any with
   | false =>
    have e1:taskOf l0 id job any=5:=by simp [taskOf,hz,hg,hcb]
    have e2:taskTo l0 id job any=l0:=by simp [taskTo,e1]
    rw [e1,e2]
    clear e1 e2 hz
    have Hc:=hid hcb
    clear hcb
    go_enter Try.func20,Try.ntmps20
    go_wp2_with (first
     | (go_at_call 33; refine Hh.out.mono ?_; rintro e w2 ⟨rfl,hb2⟩; obtain ⟨hc,hf⟩:=bcell hb2)
     | (go_at_call 35; refine (has_any (hp1.below hb2) 2 job).mono ?_; rw [hg]; rintro e w3 ⟨rfl,hb3⟩)
     | (go_at_call 34; refine (isCost_any any _).mono ?_; rw [Hc.out]; rintro e w4 ⟨rfl,rfl⟩))
    go_ret
    exact ⟨rfl,(hp1.below hb2).below hb3,Only.of_below (next2 (next2 hb1 hb2) hb3)⟩
   | true =>
    have e1:taskOf l0 id job any=0:=by simp [taskOf,hz,hg,hcb]
    have e2:taskTo l0 id job any=put (3,id) ((2,job),0,any) l0:=by simp [taskTo,e1]
    rw [e1,e2]
    clear e1 e2 hz
    have Hc:=hid hcb
    clear hcb
    go_enter Try.func20,Try.ntmps20
    go_wp2_with (first
     | (go_at_call 33; refine Hh.out.mono ?_; rintro e w2 ⟨rfl,hb2⟩; obtain ⟨hc,hf⟩:=bcell hb2)
     | (go_at_call 35; refine (has_any (hp1.below hb2) 2 job).mono ?_; rw [hg]; rintro e w3 ⟨rfl,hb3⟩; obtain ⟨k1,k2,k3,k4⟩:=boxes2 (next2 hb2 hb3); have k5:=((hp1.below hb2).below hb3).c0; have hu:(Instr.mapUpdate 70 (.map (some b0)) (.agg #[.int .i64 3,.int .i64 id]) (.agg #[.int .i64 2,.int .i64 job,.int .i64 0,.int .i64 any])).run Try.prog w3.drew=.ok () (upd Try.prog 70 b0 (tv (3,id)) (fv ((2,job),0,any)) w3.drew):=(run_put kt79 Try.underlying70 ((hp1.below hb2).below hb3).m0.drew (3,id) ((2,job),0,any)).1)
     | (go_at_call 34; refine (isCost_any any _).mono ?_; rw [Hc.out]; rintro e w4 ⟨rfl,rfl⟩))
    go_region
    all_goals
     go_wp2
     go_ret
     have hq:=((hp1.below hb2).below hb3).drew.put0 (3,id) ((2,job),0,any)
     exact ⟨rfl,hq.1,((Only.of_below (next2 (next2 hb1 hb2) hb3)).drew).trans hq.2⟩
 ·have hzb:(roomOf l0 3 id 16 != 0)=true:=by simpa using hz
  have e1:taskOf l0 id job any=roomOf l0 3 id 16:=by simp [taskOf,hz]
  have e2:taskTo l0 id job any=l0:=by simp [taskTo,e1,hz]
  rw [e1,e2]
  clear e1 e2 hz
  generalize roomOf l0 3 id 16=r at Hh hzb ⊢
  go_enter Try.func20,Try.ntmps20
  go_wp2_with (go_at_call 33; refine Hh.out.mono ?_; rintro e w2 ⟨rfl,hb2⟩)
  go_ret
  exact ⟨rfl,hp1.below hb2,Only.of_below (next2 hb1 hb2)⟩
end
end Go.Proofs.Ytjdindfjfpdikab
