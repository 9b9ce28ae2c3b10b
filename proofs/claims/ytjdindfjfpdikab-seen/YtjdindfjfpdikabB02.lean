import Derived.BigQuiet
import Derived.Deep.QuietTactic
import Derived.Maps.OwnSet
import Derived.Deep.RegionLaw
import Derived.Deep.DeepCutAuto
import Derived.Test.YtjdindfjfpdikabB00
import Derived.Test.YtjdindfjfpdikabB01
import Derived.Test.YtjdindfjfpdikabPre
set_option maxRecDepth 100000
set_option maxHeartbeats 8000000
namespace Go.Proofs.Ytjdindfjfpdikab
section
open Go.RowKit
theorem field0 (w:World)(a b c d:Int):(Instr.field 85 (.agg #[.int .i64 a,.int .i64 b,.int .i64 c,.int .i64 d]) 0).run Try.prog w=.ok (.agg #[.int .i64 a,.int .i64 b]) w:=by kernel_rfl
theorem field2 (w:World)(a b c d:Int):(Instr.field 85 (.agg #[.int .i64 a,.int .i64 b,.int .i64 c,.int .i64 d]) 2).run Try.prog w=.ok (.int .i64 d) w:=by kernel_rfl
def moves (l1:Runs)(t:Int×Int):Int:=if (get t l1).isSome then 50 else 0
section
variable {w:World}{pb b0 b1 b2 b3:Nat}{l0:Things}{l1:Runs}{l2:Waits}{l3:Prefs}
theorem look2 (h:MapAt tv iv w b2 l2)(a:Int×Int):(Instr.lookup 64 (.map (some b2)) (.agg #[.int .i64 a.1,.int .i64 a.2]) false).run Try.prog w=.ok (.int .i64 ((get a l2).getD 0)) w:=by
 have:=run_look kt79 Try.underlying64 h a false (zero3 w)
 cases hq:get a l2 with
 | none=>rw [hq] at this; exact this
 | some n=>rw [hq] at this; exact this
theorem look1 (h:MapAt tv tv w b1 l1)(a:Int×Int):(Instr.lookup 71 (.map (some b1)) (.agg #[.int .i64 a.1,.int .i64 a.2]) true).run Try.prog w=.ok (.tuple #[.agg #[.int .i64 ((get a l1).getD (0,0)).1,.int .i64 ((get a l1).getD (0,0)).2],.bool (get a l1).isSome]) w:=by
 have:=run_look kt79 Try.underlying71 h a true (zero79 w)
 cases hq:get a l1 with
 | none=>rw [hq] at this; exact this
 | some n=>rw [hq] at this; exact this
theorem costOnNone_any (h:PlanAt w pb b0 b1 b2 b3 l0 l1 l2 l3)(t1 t2 j1 j2 s a i1 i2 s' base:Int)(ht:get (t1,t2) l0=some ((j1,j2),s,a))(hj:get (j1,j2) l0=some ((i1,i2),s',base))(hB0:0≤base)(hB1:base≤1000)(hw:Waited l2) :
  Calls Try.prog 46 #[.pointer (some ⟨pb,0,none⟩),.agg #[.int .i64 t1,.int .i64 t2]] w fun e w'=>e=.returned (.int .i64 (base+(get (t1,t2) l2).getD 0+moves l1 (t1,t2)))∧Below w.heap.size w w':=by
 have c0:=h.c0
 have c1:=h.c1
 have c2:=h.c2
 have hpb:=h.lt
 have hpb1:pb<w.heap.size+1:=by omega
 have hpb2:pb<w.heap.size+1+1:=by omega
 have hs1:w.heap.size<w.heap.size+1+1:=by omega
 have f0:=field0
 have f2:=field2
 have e1:∀ o,(Instr.lookup 70 (.map (some b0)) (.agg #[.int .i64 t1,.int .i64 t2]) false).run Try.prog (w.alloc o).drew=.ok (.agg #[.int .i64 j1,.int .i64 j2,.int .i64 s,.int .i64 a]) (w.alloc o).drew:=fun o=>run_look_yes' kt79 Try.underlying70 (h.m0.alloc o).drew (t1,t2) ht _ (zero82 _)
 have e1':∀ o o',(Instr.lookup 70 (.map (some b0)) (.agg #[.int .i64 t1,.int .i64 t2]) false).run Try.prog ((w.alloc o).alloc o').drew=.ok (.agg #[.int .i64 j1,.int .i64 j2,.int .i64 s,.int .i64 a]) ((w.alloc o).alloc o').drew:=fun o o'=>run_look_yes' kt79 Try.underlying70 ((h.m0.alloc o).alloc o').drew (t1,t2) ht _ (zero82 _)
 have e2:∀ o o',(Instr.lookup 70 (.map (some b0)) (.agg #[.int .i64 j1,.int .i64 j2]) false).run Try.prog ((w.alloc o).alloc o').drew.drew=.ok (.agg #[.int .i64 i1,.int .i64 i2,.int .i64 s',.int .i64 base]) ((w.alloc o).alloc o').drew.drew:=fun o o'=>run_look_yes' kt79 Try.underlying70 ((h.m0.alloc o).alloc o').drew.drew (j1,j2) hj _ (zero82 _)
 obtain ⟨n,hn,hn0,hn1⟩:∃ n,(get (t1,t2) l2).getD 0=n∧0≤n∧n≤100:=⟨_,rfl,by cases hq:get (t1,t2) l2 with
  | none=>simp
  | some n=>have:=hw _ _ hq; simpa using this⟩
 have e3:∀ o o',(Instr.lookup 64 (.map (some b2)) (.agg #[.int .i64 t1,.int .i64 t2]) false).run Try.prog ((w.alloc o).alloc o').drew.drew=.ok (.int .i64 n) ((w.alloc o).alloc o').drew.drew:=fun o o'=>by rw [← hn]; exact look2 ((h.m2.alloc o).alloc o').drew.drew (t1,t2)
 obtain ⟨m1,m2,r,hr⟩:∃ m1 m2 r,(((get (t1,t2) l1).getD (0,0)).1=m1∧((get (t1,t2) l1).getD (0,0)).2=m2∧(get (t1,t2) l1).isSome=r):=⟨_,_,_,rfl,rfl,rfl⟩
 have e4:∀ o o',(Instr.lookup 71 (.map (some b1)) (.agg #[.int .i64 t1,.int .i64 t2]) true).run Try.prog ((w.alloc o).alloc o').drew.drew.drew=.ok (.tuple #[.agg #[.int .i64 m1,.int .i64 m2],.bool r]) ((w.alloc o).alloc o').drew.drew.drew:=fun o o'=>by rw [← hr.1,← hr.2.1,← hr.2.2]; exact look1 ((h.m1.alloc o).alloc o').drew.drew.drew (t1,t2)
 have e5:∀ o o' o2,(Instr.lookup 71 (.map (some b1)) (.agg #[.int .i64 t1,.int .i64 t2]) true).run Try.prog (((w.alloc o).alloc o').alloc o2).drew.drew.drew=.ok (.tuple #[.agg #[.int .i64 m1,.int .i64 m2],.bool r]) (((w.alloc o).alloc o').alloc o2).drew.drew.drew:=fun o o' o2=>by rw [← hr.1,← hr.2.1,← hr.2.2]; exact look1 (((h.m1.alloc o).alloc o').alloc o2).drew.drew.drew (t1,t2)
 have hm:moves l1 (t1,t2)=if r=true then 50 else 0:=by unfold moves; rw [hr.2.2]
 rw [hn,hm]
 clear hn hm hr ht hj
 cases r
 ·go_enter Try.func46,Try.ntmps46
  go_wp2
  go_region
  all_goals go_wp2
  all_goals go_region
  all_goals go_wp2
  all_goals go_region
  all_goals
   go_wp2
   go_ret
   exact ⟨ret_int (by simp),by repeat (first | exact Jd _ _ | refine Below.drew ?_ | refine Below.alloc ?_ (by simp <;> omega) _)⟩
 ·go_enter Try.func46,Try.ntmps46
  go_wp2
  go_region
  all_goals go_wp2
  all_goals go_region
  all_goals go_wp2
  all_goals go_region
  all_goals
   go_wp2
   go_ret
   exact ⟨ret_int (by simp),by repeat (first | exact Jd _ _ | refine Below.drew ?_ | refine Below.alloc ?_ (by simp <;> omega) _)⟩
end
end
section
open Go.RowKit
theorem index0 (w:World)(a b c d:Int):(Instr.index 119 (.agg #[.int .i64 a,.int .i64 b,.int .i64 c,.int .i64 d]) (.int .i64 0)).run Try.prog w=.ok (.agg #[.int .i64 a,.int .i64 b]) w:=by kernel_rfl
theorem index1 (w:World)(a b c d:Int):(Instr.index 119 (.agg #[.int .i64 a,.int .i64 b,.int .i64 c,.int .i64 d]) (.int .i64 1)).run Try.prog w=.ok (.agg #[.int .i64 c,.int .i64 d]) w:=by kernel_rfl
theorem neq79 (w:World)(a b:Int×Int):(binOp .neq 79 (tv a) (tv b)).run Try.prog w=.ok (.bool (!decide (a=b))) w:=by
 have h:=eq79 w a b
 unfold Op.equal Op.maxDepth at h
 unfold tv at h ⊢
 rw [run_neq_struct,h]
 rfl
def lesser (a:Int):Option Int→Int
 | some c=>min a c
 | none=>a
def Costs (l3:Prefs):Prop:=∀ k n,get k l3=some n→0≤n∧n≤1000
theorem lesser_bounds {a:Int}{o:Option Int}(h0:0≤a)(h1:a≤1000)(ho:∀ n,o=some n→0≤n∧n≤1000):0≤lesser a o∧lesser a o≤1000:=by
 cases o with
 | none=>exact ⟨h0,h1⟩
 | some n=>have:=ho n rfl; show 0≤min a n∧min a n≤1000; omega
def movesTo (l1:Runs)(t m:Int×Int):Int:=match get t l1 with
 | some n=>if n=m then 0 else 50
 | none=>0
section
variable {w:World}{pb b0 b1 b2 b3:Nat}{l0:Things}{l1:Runs}{l2:Waits}{l3:Prefs}
theorem costOn_any (h:PlanAt w pb b0 b1 b2 b3 l0 l1 l2 l3)(t1 t2 m1 m2 j1 j2 s a r1 r2 s' c':Int)(ht:get (t1,t2) l0=some ((j1,j2),s,a))(hm:get (m1,m2) l0=some ((r1,r2),s',c'))(ha0:0≤a)(ha1:a≤1000)(hC:Costs l3) :
  Calls Try.prog 47 #[.pointer (some ⟨pb,0,none⟩),.agg #[.int .i64 t1,.int .i64 t2],.agg #[.int .i64 m1,.int .i64 m2]] w fun e w' =>
   e=.returned (.int .i64 (lesser (lesser a (get ((t1,t2),(m1,m2)) l3)) (get ((t1,t2),(r1,r2)) l3)+movesTo l1 (t1,t2) (m1,m2)))∧Below w.heap.size w w':=by
 have c0:=h.c0
 have hpb:=h.lt
 have hpb1:pb<w.heap.size+1:=by omega
 have hpb2:pb<w.heap.size+1+1:=by omega
 have hs1:w.heap.size<w.heap.size+1+1:=by omega
 have f0:=field0
 have f2:=field2
 have i0:=index0
 have i1:=index1
 have e1:∀ o o',(Instr.lookup 70 (.map (some b0)) (.agg #[.int .i64 t1,.int .i64 t2]) false).run Try.prog ((w.alloc o).alloc o').drew=.ok (.agg #[.int .i64 j1,.int .i64 j2,.int .i64 s,.int .i64 a]) ((w.alloc o).alloc o').drew:=fun o o'=>run_look_yes' kt79 Try.underlying70 ((h.m0.alloc o).alloc o').drew (t1,t2) ht _ (zero82 _)
 have e2:∀ o o',(Instr.lookup 70 (.map (some b0)) (.agg #[.int .i64 m1,.int .i64 m2]) false).run Try.prog ((w.alloc o).alloc o').drew.drew=.ok (.agg #[.int .i64 r1,.int .i64 r2,.int .i64 s',.int .i64 c']) ((w.alloc o).alloc o').drew.drew:=fun o o'=>run_look_yes' kt79 Try.underlying70 ((h.m0.alloc o).alloc o').drew.drew (m1,m2) hm _ (zero82 _)
 clear ht hm
 go_enter Try.func47,Try.ntmps47
 go_wp2
 go_region
 all_goals go_wp2
 all_goals go_region
 go_wp2
 have hp1:=(h.alloc (.cells #[.int .i64 t1,.int .i64 t2] 79)).alloc (.cells #[.int .i64 m1,.int .i64 m2] 79)
 have hb1:Below w.heap.size w ((w.alloc (.cells #[.int .i64 t1,.int .i64 t2] 79)).alloc (.cells #[.int .i64 m1,.int .i64 m2] 79)):=((Jd _ _).alloc (Jb _) _).alloc (by simp) _
 clear e1 e2 c0 h
 generalize hL1:lesser a (get ((t1,t2),(m1,m2)) l3)=L1
 generalize hL2:lesser L1 (get ((t1,t2),(r1,r2)) l3)=L2
 have hB1:0≤L1∧L1≤1000:=hL1 ▸ lesser_bounds ha0 ha1 (fun n hn=>hC _ _ hn)
 have hB2:0≤L2∧L2≤1000:=hL2 ▸ lesser_bounds hB1.1 hB1.2 (fun n hn=>hC _ _ hn)
 have HL:=hid (Jc hL1 hL2)
 clear hL1 hL2
 go_loopg [7,30] 2 (fun gk v i wr=>∃ k:Nat,k≤2∧2 - k≤gk∧i=.int .i64 k∧v=.int .i64 (if k=0 then a else if k=1 then L1 else L2)∧Below ((w.alloc (.cells #[.int .i64 t1,.int .i64 t2] 79)).alloc (.cells #[.int .i64 m1,.int .i64 m2] 79)).heap.size ((w.alloc (.cells #[.int .i64 t1,.int .i64 t2] 79)).alloc (.cells #[.int .i64 m1,.int .i64 m2] 79)) wr)
 case atStart=>exact ⟨0,by omega,by omega,rfl,rfl,(Jd _ _).drew.drew⟩
 case round =>
  obtain ⟨k,hk,hgk,rfl,rfl,hbw⟩:=hrel
  have hp:=hp1.below hbw
  obtain ⟨k1,k2,k3,k4⟩:=boxes2 hbw
  have c3:=hp.c3
  have c1:=hp.c1
  have hpw:=hp.lt
  have hz:=hbw.size
  have hz1:w.heap.size<wr.heap.size:=by simp at hz; omega
  have hz2:w.heap.size+1<wr.heap.size:=by simp at hz; omega
  clear hz
  obtain rfl | rfl | rfl:k=0∨k=1∨k=2:=by omega
  ·cases hq:get ((t1,t2),(m1,m2)) l3 with
   | none =>
    have e3:∀ o,(Instr.lookup 72 (.map (some b3)) (.agg #[.int .i64 t1,.int .i64 t2,.int .i64 m1,.int .i64 m2]) true).run Try.prog (wr.alloc o).drew=.ok (.tuple #[.int .i64 0,.bool false]) (wr.alloc o).drew:=fun o=>run_look_no kt86 Try.underlying72 (hp.m3.alloc o).drew ((t1,t2),(m1,m2)) hq _ (zero3 _)
    have Hl:=hid (show a=L1 by have:=HL.out.1; rw [hq] at this; exact this)
    clear hq
    go_wp2
    go_region
    all_goals go_wp2
    all_goals
     go_roundg 1
     case measure=>omega
     case rel=>exact ⟨1,by omega,by omega,rfl,by simp [Hl.out],(hbw.alloc hbw.size _).drew⟩
   | some c =>
    have e3:∀ o,(Instr.lookup 72 (.map (some b3)) (.agg #[.int .i64 t1,.int .i64 t2,.int .i64 m1,.int .i64 m2]) true).run Try.prog (wr.alloc o).drew=.ok (.tuple #[.int .i64 c,.bool true]) (wr.alloc o).drew:=fun o=>run_look_yes kt86 Try.underlying72 (hp.m3.alloc o).drew ((t1,t2),(m1,m2)) hq _ (zero3 _)
    have hl:min a c=L1:=by have:=HL.out.1; rw [hq] at this; exact this
    have Hl:=hid hl
    have hcb:=hC _ _ hq
    clear hq hl
    go_wp2
    go_region
    all_goals go_wp2
    all_goals
     go_roundg 1
     case measure=>omega
     case rel=>exact ⟨1,by omega,by omega,rfl,congrArg (Value.int .i64) (by have:=Hl.out; simp; omega),(hbw.alloc hbw.size _).drew⟩
  ·cases hq:get ((t1,t2),(r1,r2)) l3 with
   | none =>
    have e3:∀ o,(Instr.lookup 72 (.map (some b3)) (.agg #[.int .i64 t1,.int .i64 t2,.int .i64 r1,.int .i64 r2]) true).run Try.prog (wr.alloc o).drew=.ok (.tuple #[.int .i64 0,.bool false]) (wr.alloc o).drew:=fun o=>run_look_no kt86 Try.underlying72 (hp.m3.alloc o).drew ((t1,t2),(r1,r2)) hq _ (zero3 _)
    have Hl:=hid (show L1=L2 by have:=HL.out.2; rw [hq] at this; exact this)
    clear hq
    go_wp2
    go_region
    all_goals go_wp2
    all_goals
     go_roundg 0
     case measure=>omega
     case rel=>exact ⟨2,by omega,by omega,rfl,by simp [Hl.out],(hbw.alloc hbw.size _).drew⟩
   | some c =>
    have e3:∀ o,(Instr.lookup 72 (.map (some b3)) (.agg #[.int .i64 t1,.int .i64 t2,.int .i64 r1,.int .i64 r2]) true).run Try.prog (wr.alloc o).drew=.ok (.tuple #[.int .i64 c,.bool true]) (wr.alloc o).drew:=fun o=>run_look_yes kt86 Try.underlying72 (hp.m3.alloc o).drew ((t1,t2),(r1,r2)) hq _ (zero3 _)
    have hl:min L1 c=L2:=by have:=HL.out.2; rw [hq] at this; exact this
    have Hl:=hid hl
    have hcb:=hC _ _ hq
    clear hq hl
    go_wp2
    go_region
    all_goals go_wp2
    all_goals
     go_roundg 0
     case measure=>omega
     case rel=>exact ⟨2,by omega,by omega,rfl,congrArg (Value.int .i64) (by have:=Hl.out; simp; omega),(hbw.alloc hbw.size _).drew⟩
  ·cases hr:get (t1,t2) l1 with
   | none =>
    have e4:(Instr.lookup 71 (.map (some b1)) (.agg #[.int .i64 t1,.int .i64 t2]) true).run Try.prog wr.drew=.ok (.tuple #[.agg #[.int .i64 0,.int .i64 0],.bool false]) wr.drew:=run_look_no kt79 Try.underlying71 hp.m1.drew (t1,t2) hr _ (zero79 _)
    have e5:∀ o,(Instr.lookup 71 (.map (some b1)) (.agg #[.int .i64 t1,.int .i64 t2]) true).run Try.prog (wr.alloc o).drew=.ok (.tuple #[.agg #[.int .i64 0,.int .i64 0],.bool false]) (wr.alloc o).drew:=fun o=>run_look_no kt79 Try.underlying71 (hp.m1.alloc o).drew (t1,t2) hr _ (zero79 _)
    have Hm:=hid (show movesTo l1 (t1,t2) (m1,m2)=0 by simp [movesTo,hr])
    clear hr
    go_wp2
    go_region
    all_goals go_wp2
    all_goals
     go_ret
     exact ⟨ret_int (by rw [HL.out.1,HL.out.2,Hm.out,Int.add_zero]),next2 hb1 ((hbw.alloc hbw.size _).drew)⟩
   | some n =>
    obtain ⟨n1,n2⟩:=n
    have e4:(Instr.lookup 71 (.map (some b1)) (.agg #[.int .i64 t1,.int .i64 t2]) true).run Try.prog wr.drew=.ok (.tuple #[.agg #[.int .i64 n1,.int .i64 n2],.bool true]) wr.drew:=run_look_yes kt79 Try.underlying71 hp.m1.drew (t1,t2) hr _ (zero79 _)
    have e5:∀ o,(Instr.lookup 71 (.map (some b1)) (.agg #[.int .i64 t1,.int .i64 t2]) true).run Try.prog (wr.alloc o).drew=.ok (.tuple #[.agg #[.int .i64 n1,.int .i64 n2],.bool true]) (wr.alloc o).drew:=fun o=>run_look_yes kt79 Try.underlying71 (hp.m1.alloc o).drew (t1,t2) hr _ (zero79 _)
    have hne:∀ w':World,(binOp .neq 79 (.agg #[.int .i64 n1,.int .i64 n2]) (.agg #[.int .i64 m1,.int .i64 m2])).run Try.prog w'=.ok (.bool (!decide ((n1,n2)=(m1,m2)))) w':=fun w'=>neq79 w' (n1,n2) (m1,m2)
    by_cases hn:n1=m1∧n2=m2
    ·obtain ⟨rfl,rfl⟩:=hn
     have hne':∀ w':World,(binOp .neq 79 (.agg #[.int .i64 n1,.int .i64 n2]) (.agg #[.int .i64 n1,.int .i64 n2])).run Try.prog w'=.ok (.bool false) w':=fun w'=>by rw [hne w']; simp
     clear hne
     have Hm:=hid (show movesTo l1 (t1,t2) (n1,n2)=0 by simp [movesTo,hr])
     clear hr
     go_wp2
     go_region
     all_goals go_wp2
     all_goals
      go_ret
      exact ⟨ret_int (by rw [HL.out.1,HL.out.2,Hm.out,Int.add_zero]),next2 hb1 ((hbw.alloc hbw.size _).drew)⟩
    ·have Hm:=hid (show movesTo l1 (t1,t2) (m1,m2)=50 by simp [movesTo,hr,hn])
     clear hr
     have hne':∀ w':World,(binOp .neq 79 (.agg #[.int .i64 n1,.int .i64 n2]) (.agg #[.int .i64 m1,.int .i64 m2])).run Try.prog w'=.ok (.bool true) w':=fun w'=>by rw [hne w']; simp [hn]
     clear hne hn
     go_wp2
     go_region
     all_goals go_wp2
     all_goals
      go_ret
      exact ⟨ret_int (by rw [HL.out.1,HL.out.2,Hm.out]),next2 hb1 ((hbw.alloc hbw.size _).drew)⟩
end
end
section
open Go.MapKept (heap_set)
open Go.RowKit
theorem filter_erase {α:Type}(p:α→Bool):∀ (l:List α)(k:Nat)(x:α),l[k]?=some x→p x=false→(l.eraseIdx k).filter p=l.filter p
 | [],_,_,h,_=>by simp at h
 | y :: r,0,x,h,hp=>by
  simp at h
  subst h
  simp [hp]
 | y :: r,k+1,x,h,hp=>by
  have:=filter_erase p r k x (by simpa using h) hp
  simp [List.filter_cons,this]
section
variable {K V:Type} [DecidableEq K] {ek:K→Value}{ev:V→Value}{w:World}{b r:Nat}{l rest:List (K×V)}{P:Program}{kt et t:TypeId}
theorem run_del_ranging (KT:KeyTy P kt K ek)(ht:P.underlying t=some (.map kt et))(h:Ranging ek ev w b r l rest)(hn:KN l)(a:K)(ha:a∉rest.map (·.1))(ty:TypeId) :
  (Builtin.delete_ #[t,kt] ty #[.map (some b),ek a]).run P w=.ok (.tuple #[]) (dropped P t kt b (ek a) w)∧Ranging ek ev (dropped P t kt b (ek a) w) b r (del a l) rest∧w.grownBy (dropped P t kt b (ek a) w) (some b):=by
 have h0:=run_del KT ht h.mapAt hn a ty
 obtain ⟨es,clock,seen,hb,hl,hs,hnb,hr,hrest⟩:=h
 have hne:b≠r:=fun e=>by rw [e,hr] at hb; cases hb
 have hr':(dropped P t kt b (ek a) w).heap[r]?=some (.mapIter (some b) clock seen clock):=by
  rw [h0.2.2.block r (Ja.1 hr).1 (by simpa using hne.symm)]; exact hr
 refine ⟨h0.1,?_,h0.2.2⟩
 have hf:=run_find KT w a es.toList l hl
 cases hp:pos a l 0 with
 | none =>
  obtain ⟨h1,_⟩:=pos_none a l 0 hp
  have hd:del a l=l:=List.filter_eq_self.2 fun y hy=>by simpa using h1 y hy
  have hrun:∀ ty,(Builtin.delete_ #[t,kt] ty #[.map (some b),ek a]).run P w=.ok (.tuple #[]) { w with heap:=w.heap.setIfInBounds b (.map es clock) }:=fun ty=>by
   simp [Builtin.delete_,run_underlying ht,MapKept.run_getObj_map hb,KT.check,hf,hp,MapKept.run_setObj_map _ hb]
  have hu:dropped P t kt b (ek a) w={ w with heap:=w.heap.setIfInBounds b (.map es clock) }:=by unfold dropped; rw [hrun]
  rw [hd]
  exact ⟨es,clock,seen,by rw [hu]; exact (heap_set hb).1,hl,hs,hnb,hr',hrest⟩
 | some p =>
  obtain ⟨j,u⟩:=p
  obtain ⟨k,rfl,h1,_⟩:=pos_some a l 0 j u hp
  have hrun:∀ ty,(Builtin.delete_ #[t,kt] ty #[.map (some b),ek a]).run P w=.ok (.tuple #[]) { w with heap:=w.heap.setIfInBounds b (.map (es.eraseIdxIfInBounds k) clock) }:=fun ty=>by
   simp [Builtin.delete_,run_underlying ht,MapKept.run_getObj_map hb,KT.check,hf,hp,MapKept.run_setObj_map _ hb]
  have hu:dropped P t kt b (ek a) w={ w with heap:=w.heap.setIfInBounds b (.map (es.eraseIdxIfInBounds k) clock) }:=by unfold dropped; rw [hrun]
  have he:(es.eraseIdxIfInBounds k).toList=es.toList.eraseIdx k:=by simp
  rw [filter_eraseIdx a l k u hn h1]
  refine ⟨_,clock,seen,by rw [hu]; exact (heap_set hb).1,?_,?_,?_,hr',?_⟩
  ·rw [he,ChangeMaps.map_eraseIdx,ChangeMaps.map_eraseIdx,hl]
  ·rw [he]; exact fun x hx=>hs x ((List.eraseIdx_sublist _ _).subset hx)
  ·rw [he]; exact hnb.sublist ((List.eraseIdx_sublist _ _).map _)
  ·have hkv:∃ e0,es.toList[k]?=some e0∧e0.key=ek a:=by
    have h3:=congrArg (fun z=>z[k]?) hl
    simp only [List.getElem?_map,h1,Option.map_some] at h3
    cases he0:es.toList[k]? with
    | none=>rw [he0] at h3; simp at h3
    | some e0 =>
     rw [he0] at h3
     simp only [Option.map_some,Option.some.injEq,Prod.mk.injEq] at h3
     exact ⟨e0,rfl,h3.1⟩
   obtain ⟨e0,he0,hek⟩:=hkv
   have hseen:(!seen.contains e0.born)=false:=by
    cases hq:(!seen.contains e0.born) with
    | false=>rfl
    | true =>
     exfalso
     have hm:e0∈(leftOf es seen).toList:=by
      unfold leftOf
      simp only [Array.toList_filter,List.mem_filter]
      exact ⟨List.mem_of_getElem? he0,hq⟩
     have:=List.mem_map_of_mem (f:=fun e:MapEntry=>(e.key,e.val)) hm
     rw [hrest] at this
     obtain ⟨y,hy,hye⟩:=List.mem_map.1 this
     simp only [Prod.mk.injEq] at hye
     have:y.1=a:=KT.inj _ _ (hye.1.trans hek)
     exact ha (List.mem_map.2 ⟨y,hy,this⟩)
   unfold leftOf at hrest ⊢
   simp only [Array.toList_filter] at hrest ⊢
   rw [he,filter_erase _ _ _ _ he0 hseen]
   exact hrest
end
theorem eql79 (w:World)(a b:Int×Int):(binOp .eql 79 (tv a) (tv b)).run Try.prog w=.ok (.bool (decide (a=b))) w:=by
 have h:=eq79 w a b
 unfold Op.equal Op.maxDepth at h
 unfold tv at h ⊢
 rw [run_eql_struct,h]
 rfl
section
variable {w:World}{pb b0 b1 b2 b3:Nat}{l0:Things}{l1:Runs}{l2:Waits}{l3:Prefs}
theorem busy_any (h:PlanAt w pb b0 b1 b2 b3 l0 l1 l2 l3)(a1 a2:Int) :
  Calls Try.prog 49 #[.pointer (some ⟨pb,0,none⟩),.agg #[.int .i64 a1,.int .i64 a2]] w fun e w'=>e=.returned (.bool (l0.any fun x=>decide (x.2.1=(a1,a2))))∧Below w.heap.size w w':=by
 have hpb:=h.lt
 have c0:=h.c0
 have m0:=(h.alloc (.cells #[.int .i64 a1,.int .i64 a2] 79)).m0
 have hb1:Below w.heap.size w (w.alloc (.cells #[.int .i64 a1,.int .i64 a2] 79)):=(Jd _ _).alloc (Jb _) _
 clear h
 go_enter Try.func49,Try.ntmps49
 go_wp2_with (first
  | (at_range; refine wpList_range_mine _ rfl _ 70 rfl Try.underlying70 rfl m0 ?_; intro ob hrg0)
  | go_in)
 go_frame
 rw [show (w.alloc (.cells #[.int .i64 a1,.int .i64 a2] 79)).heap.size=w.heap.size+1 by simp] at hrg0 ⊢
 go_loopg [4] l0.length (fun gk v wr=>∃ rest,rest.length≤gk∧Ranging tv fv wr b0 (w.heap.size+1) l0 rest∧(l0.any fun x=>decide (x.2.1=(a1,a2)))=(rest.any fun x=>decide (x.2.1=(a1,a2)))∧Below w.heap.size w wr∧wr.cell? ⟨w.heap.size,0,none⟩=some (.int .i64 a1)∧wr.cell? ⟨w.heap.size,1,none⟩=some (.int .i64 a2)∧w.heap.size<wr.heap.size)
 case atStart =>
  refine ⟨l0,Jb _,hrg0,rfl,hb1.alloc (by simp) _,?_,?_,by simp <;> omega⟩
  ·rw [World.cell?_alloc_past _ _ _ (by simp),World.cell?_alloc_at _ _ _ _ rfl]; rfl
  ·rw [World.cell?_alloc_past _ _ _ (by simp),World.cell?_alloc_at _ _ _ _ rfl]; rfl
 case round =>
  obtain ⟨rest,hgk,hrg,hany,hbel,k1,k2,hz⟩:=hrel
  have Hany:=hid hany
  clear hany
  go_wp2_with (first
   | (at_next; refine wpList_next_mine _ rfl _ rfl rfl hrg ?_ ?_)
   | go_in)
  ·intro hr0
   subst hr0
   go_wp2
   go_ret
   exact ⟨ret_bool (by rw [Hany.out]; rfl),hbel⟩
  ·intro x1 x2 f1 f2 f3 f4 rest' w1 hp hen hrg1 hg1 hs1
   simp only [tv,fv] at hen ⊢
   have hsz:wr.heap.size≤w1.heap.size:=by omega
   clear hs1
   have hz1:w.heap.size<w1.heap.size:=by omega
   have k3:w1.cell? ⟨w.heap.size,0,none⟩=some (.int .i64 a1):=hg1.cell k1 (by simp)
   have k4:w1.cell? ⟨w.heap.size,1,none⟩=some (.int .i64 a2):=hg1.cell k2 (by simp)
   have hbel1:Below w.heap.size w w1:=hbel.grown hg1 hbel.size (fun j hj=>by cases hj; omega)
   have Hp:=hid hp
   have hpl:=hp.length_eq
   simp only [List.length_cons] at hpl
   have hpl':rest'.length<rest.length:=by omega
   clear hp hpl
   by_cases hq:(f1,f2)=(a1,a2)
   ·have he:∀ w':World,(binOp .eql 79 (.agg #[.int .i64 f1,.int .i64 f2]) (.agg #[.int .i64 a1,.int .i64 a2])).run Try.prog w'=.ok (.bool true) w':=fun w'=>by have:=eql79 w' (f1,f2) (a1,a2); rw [decide_eq_true hq] at this; exact this
    have Hq:=hid hq
    clear hq
    go_wp2
    go_ret
    refine ⟨ret_bool ?_,hbel1.alloc hbel1.size _⟩
    rw [Hany.out,Hp.out.any_eq]
    simp [Hq.out]
   ·have he:∀ w':World,(binOp .eql 79 (.agg #[.int .i64 f1,.int .i64 f2]) (.agg #[.int .i64 a1,.int .i64 a2])).run Try.prog w'=.ok (.bool false) w':=fun w'=>by have:=eql79 w' (f1,f2) (a1,a2); rw [decide_eq_false hq] at this; exact this
    have Hq:=hid hq
    clear hq
    go_wp2
    go_roundg rest'.length
    case measure=>omega
    case rel =>
     refine ⟨rest',Jb _,hrg1.kept (World.grownBy_alloc _ _ none) (by simp) (by simp),?_,hbel1.alloc hbel1.size _,?_,?_,by simp; omega⟩
     ·rw [Hany.out,Hp.out.any_eq]
      simp only [List.any_cons]
      rw [decide_eq_false Hq.out,Bool.false_or]
     ·rw [World.cell?_alloc_past _ _ _ hz1]; exact k3
     ·rw [World.cell?_alloc_past _ _ _ hz1]; exact k4
end
end
section
open Go.RowKit
theorem wpList_del_mine {P:Program}(w:World){ops:Array Oper}{rs:List Oper}{o:Oper}{a:Act}{Q:Exit→Act→World→Prop}(hg:o.guard=none)(m x:Operand)(t kt:TypeId)
  (hop:o.op=Op.call { callee:=Callee.builtin Builtin.delete,args:=#[m,x],argTypes:=#[t,kt] }) (b:Nat) (key:Value) (hm:a.eval m=.map (some b)) (hx:a.eval x=key) (w':World)
  (hrun:∀ ty,(Builtin.delete_ #[t,kt] ty #[.map (some b),key]).run P w=.ok (.tuple #[]) w') (hK:wpList P ops Q rs (a.put o.dst (.tuple #[])) w'):wpList P ops Q (o :: rs) a w:=by
 refine wpList_plain hg fun K' hK'=>?_
 unfold Oper.wp execOp
 simp only [hop,resolve,invoke,builtin,Sem.run_bind,Sem.run_pure,Result.andThen_ok,List.map_toArray,List.map_cons,List.map_nil,hm,hx,hrun]
 exact hK' _ _ hK
theorem step_del {P:Program}{ops:Array Oper}{o:Oper}{a:Act}{w:World}{K:Act→World→Prop}{Q:Exit→Act→World→Prop}{E:Prop}(hg:o.guard=none)(m x:Operand)(t kt:TypeId)
  (hop:o.op=Op.call { callee:=Callee.builtin Builtin.delete,args:=#[m,x],argTypes:=#[t,kt] }) (b:Nat) (key:Value) (hm:a.eval m=.map (some b)) (hx:a.eval x=key) (w':World)
  (hrun:∀ ty,(Builtin.delete_ #[t,kt] ty #[.map (some b),key]).run P w=.ok (.tuple #[]) w') (hK:K (a.put o.dst (.tuple #[])) w') :
  if Region.wanted o (yielded ops a.tmps)=true then Oper.wp P o a w K Q else E:=by
 have hw:Region.wanted o (yielded ops a.tmps)=true:=by simp [Region.wanted,hg]
 rw [if_pos hw]
 unfold Oper.wp execOp
 simp only [hop,resolve,invoke,builtin,Sem.run_bind,Sem.run_pure,Result.andThen_ok,List.map_toArray,List.map_cons,List.map_nil,hm,hx,hrun]
 exact hK
theorem grown_of_below {w w':World}(h:Below w.heap.size w w')(row:Option Nat):w.grownBy w' row:=⟨h.os,h.tape,h.output,h.size,fun k hk _=>h.block k hk⟩
def speaks (t:Int×Int)(k:(Int×Int)×(Int×Int)):Bool:=decide (k.1=t) || decide (k.2=t)
theorem closure102 (k1 k2 k3 k4 n t1 t2:Int)(tb:Nat)(w:World)(c0:w.cell? ⟨tb,0,none⟩=some (.int .i64 t1))(c1:w.cell? ⟨tb,1,none⟩=some (.int .i64 t2))(hz:tb<w.heap.size) :
  Calls Try.prog 65 #[.agg #[.int .i64 k1,.int .i64 k2,.int .i64 k3,.int .i64 k4],.int .i64 n,.pointer (some ⟨tb,0,none⟩)] w fun e w'=>e=.returned (.bool (speaks (t1,t2) ((k1,k2),(k3,k4))))∧Below w.heap.size w w':=by
 have e1:∀ w':World,(binOp .eql 79 (.agg #[.int .i64 k1,.int .i64 k2]) (.agg #[.int .i64 t1,.int .i64 t2])).run Try.prog w'=.ok (.bool (decide ((k1,k2)=(t1,t2)))) w':=fun w'=>eql79 w' (k1,k2) (t1,t2)
 have e2:∀ w':World,(binOp .eql 79 (.agg #[.int .i64 k3,.int .i64 k4]) (.agg #[.int .i64 t1,.int .i64 t2])).run Try.prog w'=.ok (.bool (decide ((k3,k4)=(t1,t2)))) w':=fun w'=>eql79 w' (k3,k4) (t1,t2)
 unfold speaks
 generalize decide (((k1,k2),(k3,k4)).2=(t1,t2))=q2 at e2 ⊢
 cases q1:decide (((k1,k2),(k3,k4)).1=(t1,t2)) with
 | true =>
  rw [show decide ((k1,k2)=(t1,t2))=true from q1] at e1
  clear q1
  go_enter Try.func65,Try.ntmps65
  go_wp2
  go_ret
  exact ⟨rfl,(Jd _ _).alloc (Jb _) _⟩
 | false =>
  rw [show decide ((k1,k2)=(t1,t2))=false from q1] at e1
  clear q1
  go_enter Try.func65,Try.ntmps65
  go_wp2
  go_ret
  exact ⟨by simp,(Jd _ _).alloc (Jb _) _⟩
section
variable {K V:Type} [DecidableEq K]
def leftBy (keep:K→Bool)(rest l:List (K×V)):List (K×V):=l.filter fun x=>keep x.1 || decide (x.1∈rest.map (·.1))
theorem leftBy_start (keep:K→Bool)(l:List (K×V)):leftBy keep l l=l :=
 List.filter_eq_self.2 fun x hx=>by simp only [Bool.or_eq_true,decide_eq_true_eq]; exact Js (List.mem_map_of_mem hx)
theorem leftBy_end (keep:K→Bool)(l:List (K×V)):leftBy keep [] l=l.filter fun x=>keep x.1:=by simp [leftBy]
theorem KN.leftBy {keep:K→Bool}{rest l:List (K×V)}(h:KN l):KN (leftBy keep rest l):=h.sublist (List.filter_sublist.map _)
theorem leftBy_keep {keep:K→Bool}{rest rest' l:List (K×V)}{x:K×V}(hp:rest.Perm (x :: rest'))(hk:keep x.1=true):leftBy keep rest l=leftBy keep rest' l:=by
 unfold leftBy
 refine List.filter_congr fun y _=>?_
 have hm:y.1∈rest.map (·.1)↔y.1=x.1∨y.1∈rest'.map (·.1):=by
  rw [(hp.map (·.1)).mem_iff]; simp
 by_cases hy:y.1=x.1
 ·simp [hy,hk]
 ·have:decide (y.1∈rest.map (·.1))=decide (y.1∈rest'.map (·.1)):=decide_eq_decide.2 (by rw [hm]; simp only [hy,false_or])
  rw [this]
theorem leftBy_drop {keep:K→Bool}{rest rest' l:List (K×V)}{x:K×V}(hp:rest.Perm (x :: rest'))(hn:(rest.map (·.1)).Nodup)(hk:keep x.1=false):del x.1 (leftBy keep rest l)=leftBy keep rest' l:=by
 unfold leftBy del
 rw [List.filter_filter]
 refine List.filter_congr fun y _=>?_
 have hm:y.1∈rest.map (·.1)↔y.1=x.1∨y.1∈rest'.map (·.1):=by
  rw [(hp.map (·.1)).mem_iff]; simp
 have hx:x.1∉rest'.map (·.1):=by
  have:=(hp.map (·.1)).nodup_iff.1 hn
  simp only [List.map_cons,List.nodup_cons] at this
  exact this.1
 by_cases hy:y.1=x.1
 ·have:y.1∉rest'.map (·.1):=by rw [hy]; exact hx
  simp [hy,hk]
  simpa [hy] using this
 ·have:decide (y.1∈rest.map (·.1))=decide (y.1∈rest'.map (·.1)):=decide_eq_decide.2 (by rw [hm]; simp only [hy,false_or])
  rw [this]
  simp [hy]
end
theorem drop101 (t1 t2:Int)(tb b:Nat)(l3:Prefs)(w:World)(m3:MapAt wv iv w b l3)(hn:KN l3)(c0:w.cell? ⟨tb,0,none⟩=some (.int .i64 t1))(c1:w.cell? ⟨tb,1,none⟩=some (.int .i64 t2))(hz:tb<w.heap.size)(hne:tb≠b) :
  Calls Try.prog 64 #[.map (some b),.func (.func 65) #[] #[.pointer (some ⟨tb,0,none⟩)]] w fun e w'=>e=.returned (.tuple #[])∧MapAt wv iv w' b (l3.filter fun x=>!speaks (t1,t2) x.1)∧w.grownBy w' (some b):=by
 have hb:=m3.lt
 go_enter Try.func64,Try.ntmps64
 go_wp2_with (first
  | (at_range; refine wpList_range_mine _ rfl _ 72 rfl Try.underlying72 rfl m3 ?_; intro ob hrg0)
  | go_in)
 go_frame
 go_loopg [4] l3.length (fun gk _ wr=>∃ rest,rest.length≤gk∧Ranging wv iv wr b w.heap.size (leftBy (fun k=>!speaks (t1,t2) k) rest l3) rest∧(rest.map (·.1)).Nodup∧w.grownBy wr (some b))
 case atStart=>exact ⟨l3,Jb _,by rw [leftBy_start]; exact hrg0,hn,World.grownBy_alloc _ _ _⟩
 case round =>
  obtain ⟨rest,hgk,hrg,hnd,hg⟩:=hrel
  go_wp2_with (first
   | (at_next; refine wpList_next_mine _ rfl _ rfl rfl hrg ?_ ?_)
   | go_in)
  ·intro hr0
   subst hr0
   go_wp2
   go_end0
   exact ⟨rfl,by have:=hrg.mapAt; rw [leftBy_end] at this; exact this,hg⟩
  ·intro k1 k2 k3 k4 n rest' w1 hp hen hrg1 hg1 hs1
   simp only [wv,iv] at hen ⊢
   have hpl:=hp.length_eq
   simp only [List.length_cons] at hpl
   have hpl':rest'.length<rest.length:=by omega
   have hz1:tb<w1.heap.size:=by have:=hg.size; omega
   have hg2:w.grownBy w1 (some b):=hg.andThen hg1 (fun j hj=>by cases hj; exact Jr (Jb _))
   have k5:w1.cell? ⟨tb,0,none⟩=some (.int .i64 t1):=hg2.cell c0 (by simpa using hne)
   have k6:w1.cell? ⟨tb,1,none⟩=some (.int .i64 t2):=hg2.cell c1 (by simpa using hne)
   have hsz:w.heap.size≤w1.heap.size:=hg2.size
   have Hp:=hid hp
   clear hp hpl hs1
   have hnd':(rest'.map (·.1)).Nodup:=by
    have:=(Hp.out.map (·.1)).nodup_iff.1 hnd
    exact (List.nodup_cons.1 this).2
   have hx:((k1,k2),(k3,k4))∉rest'.map (·.1):=by
    have:=(Hp.out.map (·.1)).nodup_iff.1 hnd
    exact (List.nodup_cons.1 this).1
   have Hx:=hid (Jc hnd' hx)
   clear hnd' hx
   cases hs:speaks (t1,t2) ((k1,k2),(k3,k4)) with
   | false =>
    have Hs:=hid hs
    clear hs
    go_wp2_with (go_at_call 65; refine (closure102 k1 k2 k3 k4 n t1 t2 tb _ (by go_simp) (by go_simp) (by simp; omega)).mono ?_; rw [Hs.out]; rintro e w2 ⟨rfl,hb2⟩)
    go_roundg rest'.length
    case measure=>omega
    case rel =>
     have hb3:Below w1.heap.size w1 w2:=next2 ((Jd _ _).alloc (Jb _) _) hb2
     refine ⟨rest',Jb _,?_,Hx.out.1,hg2.andThen (grown_of_below hb3 none) (by simp)⟩
     rw [← leftBy_keep Hp.out (by simp [Hs.out])]
     exact hrg1.kept (grown_of_below hb3 none) (by simp) (by simp)
   | true =>
    have Hs:=hid hs
    clear hs
    go_wp2_with (first
     | (go_at_call 65; refine (closure102 k1 k2 k3 k4 n t1 t2 tb _ (by go_simp) (by go_simp) (by simp; omega)).mono ?_; rw [Hs.out]; rintro e w2 ⟨rfl,hb2⟩; have hb3:Below w1.heap.size w1 w2:=next2 ((Jd _ _).alloc (Jb _) _) hb2; obtain ⟨q1,q2,q3,q4⟩:=box4 hb2; have hrg2:=hrg1.kept (grown_of_below hb3 none) (by simp) (by simp))
     | (at_delete; refine wpList_del_mine _ rfl _ _ 72 109 rfl b _ rfl rfl (dropped Try.prog 72 109 b (wv ((k1,k2),(k3,k4))) w2) (fun ty=>(run_del_ranging kt86 Try.underlying72 hrg2 hn.leftBy ((k1,k2),(k3,k4)) Hx.out.2 ty).1) ?_))
    go_wp2
    go_roundg rest'.length
    case measure=>omega
    case rel =>
     have hd:=run_del_ranging kt86 Try.underlying72 hrg2 hn.leftBy ((k1,k2),(k3,k4)) Hx.out.2 0
     refine ⟨rest',Jb _,?_,Hx.out.1,(hg2.andThen (grown_of_below hb3 none) (by simp)).andThen hd.2.2 (fun j hj=>Js hj)⟩
     rw [← leftBy_drop Hp.out hnd (by simp [Hs.out])]
     exact hd.2.1
end
section
open Go.RowKit
section
variable {w:World}{pb b0 b1 b2 b3:Nat}{l0:Things}{l1:Runs}{l2:Waits}{l3:Prefs}
theorem box2 {w w3:World}{x1 x2:Value}(h:Below (w.alloc (.cells #[x1,x2] 79)).heap.size (w.alloc (.cells #[x1,x2] 79)) w3) :
  w3.cell? ⟨w.heap.size,0,none⟩=some x1∧w3.cell? ⟨w.heap.size,1,none⟩=some x2:=by
 have e1:∀ i,w3.cell? ⟨w.heap.size,i,none⟩=#[x1,x2][i]?:=fun i=>by
  rw [h.cell (p:=⟨w.heap.size,i,none⟩) (by simp),World.cell?_alloc_at _ _ _ _ rfl]
 exact ⟨by rw [e1]; rfl,by rw [e1]; rfl⟩
end
end
section
open Go.RowKit
theorem closure100 (k1 k2 k3 k4 t1 t2:Int)(tb:Nat)(w:World)(c0:w.cell? ⟨tb,0,none⟩=some (.int .i64 t1))(c1:w.cell? ⟨tb,1,none⟩=some (.int .i64 t2))(hz:tb<w.heap.size) :
  Calls Try.prog 63 #[.agg #[.int .i64 k1,.int .i64 k2],.agg #[.int .i64 k3,.int .i64 k4],.pointer (some ⟨tb,0,none⟩)] w fun e w'=>e=.returned (.bool (speaks (t1,t2) ((k1,k2),(k3,k4))))∧Below w.heap.size w w':=by
 have e1:∀ w':World,(binOp .eql 79 (.agg #[.int .i64 k1,.int .i64 k2]) (.agg #[.int .i64 t1,.int .i64 t2])).run Try.prog w'=.ok (.bool (decide ((k1,k2)=(t1,t2)))) w':=fun w'=>eql79 w' (k1,k2) (t1,t2)
 have e2:∀ w':World,(binOp .eql 79 (.agg #[.int .i64 k3,.int .i64 k4]) (.agg #[.int .i64 t1,.int .i64 t2])).run Try.prog w'=.ok (.bool (decide ((k3,k4)=(t1,t2)))) w':=fun w'=>eql79 w' (k3,k4) (t1,t2)
 unfold speaks
 generalize decide (((k1,k2),(k3,k4)).2=(t1,t2))=q2 at e2 ⊢
 cases q1:decide (((k1,k2),(k3,k4)).1=(t1,t2)) with
 | true =>
  rw [show decide ((k1,k2)=(t1,t2))=true from q1] at e1
  clear q1
  go_enter Try.func63,Try.ntmps63
  go_wp2
  go_ret
  exact ⟨rfl,by repeat (first | exact Jd _ _ | refine Below.alloc ?_ (by simp <;> omega) _)⟩
 | false =>
  rw [show decide ((k1,k2)=(t1,t2))=false from q1] at e1
  clear q1
  go_enter Try.func63,Try.ntmps63
  go_wp2
  go_ret
  exact ⟨by simp,by repeat (first | exact Jd _ _ | refine Below.alloc ?_ (by simp <;> omega) _)⟩
theorem box_two {w w2:World}{x y:Value}{t:TypeId}{o2:Obj}(hb:Below ((w.alloc (.cells #[x,y] t)).alloc o2).heap.size ((w.alloc (.cells #[x,y] t)).alloc o2) w2) :
  w2.cell? ⟨w.heap.size,0,none⟩=some x∧w2.cell? ⟨w.heap.size,1,none⟩=some y∧w.heap.size<w2.heap.size:=by
 have hz:((w.alloc (.cells #[x,y] t)).alloc o2).heap.size=w.heap.size+1+1:=by simp
 have hs:=hb.size
 rw [hz] at hs
 have h1:w2.heap[w.heap.size]?=some (.cells #[x,y] t):=by
  rw [hb.block _ (by omega),Below.heap_alloc _ _ _ (by simp)]
  exact (MapKept.heap_alloc w _).1
 exact ⟨by simp [World.cell?,h1],by simp [World.cell?,h1],by omega⟩
def keepR (t:Int×Int)(l1:Runs)(k:Int×Int):Bool:=match get k l1 with
 | some m=>!speaks t (k,m)
 | none=>true
theorem get_there {K V:Type} [DecidableEq K]:∀ {l:List (K×V)},KN l→∀ {x:K×V},x∈l→get x.1 l=some x.2
 | [],_,x,hx=>by cases hx
 | y :: r,hn,x,hx=>by
  have hn':KN r:=(List.nodup_cons.1 hn).2
  have hy:y.1∉r.map (·.1):=(List.nodup_cons.1 hn).1
  rcases List.mem_cons.1 hx with rfl | hx
  ·simp [get]
  ·have:x.1≠y.1:=fun e=>hy (by rw [← e]; exact List.mem_map_of_mem hx)
   simp only [get,if_neg this]
   exact get_there hn' hx
theorem keepR_of {t:Int×Int}{l1:Runs}(hn:KN l1){x:(Int×Int)×(Int×Int)}(hx:x∈l1):keepR t l1 x.1=!speaks t x:=by
 unfold keepR
 rw [get_there hn hx]
theorem drop99 (t1 t2:Int)(tb b:Nat)(l1:Runs)(w:World)(m1:MapAt tv tv w b l1)(hn:KN l1)(c0:w.cell? ⟨tb,0,none⟩=some (.int .i64 t1))(c1:w.cell? ⟨tb,1,none⟩=some (.int .i64 t2))(hz:tb<w.heap.size)(hne:tb≠b) :
  Calls Try.prog 62 #[.map (some b),.func (.func 63) #[] #[.pointer (some ⟨tb,0,none⟩)]] w fun e w'=>e=.returned (.tuple #[])∧MapAt tv tv w' b (l1.filter fun x=>!speaks (t1,t2) x)∧w.grownBy w' (some b):=by
 have hb:=m1.lt
 go_enter Try.func62,Try.ntmps62
 go_wp2_with (first
  | (at_range; refine wpList_range_mine _ rfl _ 71 rfl Try.underlying71 rfl m1 ?_; intro ob hrg0)
  | go_in)
 go_frame
 go_loopg [4] l1.length (fun gk _ wr=>∃ rest,rest.length≤gk∧Ranging tv tv wr b w.heap.size (leftBy (keepR (t1,t2) l1) rest l1) rest∧(rest.map (·.1)).Nodup∧(∀ x∈rest,x∈l1)∧w.grownBy wr (some b))
 case atStart=>exact ⟨l1,Jb _,by rw [leftBy_start]; exact hrg0,hn,fun _ q=>q,World.grownBy_alloc _ _ _⟩
 case round =>
  obtain ⟨rest,hgk,hrg,hnd,hsub,hg⟩:=hrel
  go_wp2_with (first
   | (at_next; refine wpList_next_mine _ rfl _ rfl rfl hrg ?_ ?_)
   | go_in)
  ·intro hr0
   subst hr0
   go_wp2
   go_end0
   refine ⟨rfl,?_,hg⟩
   have:=hrg.mapAt
   rw [leftBy_end,List.filter_congr (q:=fun x=>!speaks (t1,t2) x) (fun x hx=>keepR_of hn hx)] at this
   exact this
  ·intro k1 k2 k3 k4 rest' w1 hp hen hrg1 hg1 hs1
   simp only [tv] at hen ⊢
   have hpl:=hp.length_eq
   simp only [List.length_cons] at hpl
   have hpl':rest'.length<rest.length:=by omega
   have hz1:tb<w1.heap.size:=by have:=hg.size; omega
   have hg2:w.grownBy w1 (some b):=hg.andThen hg1 (fun j hj=>by cases hj; exact Jr (Jb _))
   have k5:w1.cell? ⟨tb,0,none⟩=some (.int .i64 t1):=hg2.cell c0 (by simpa using hne)
   have k6:w1.cell? ⟨tb,1,none⟩=some (.int .i64 t2):=hg2.cell c1 (by simpa using hne)
   have hsz:w.heap.size≤w1.heap.size:=hg2.size
   have hkp:=keepR_of (t:=(t1,t2)) hn (hsub _ (hp.symm.subset Jp))
   have hsub':∀ x∈rest',x∈l1:=fun x hx=>hsub x (hp.symm.subset (Jk _ hx))
   have Hp:=hid (Jc hp (Jc hkp hsub'))
   clear hp hpl hs1 hkp hsub' hsub
   have hnd':(rest'.map (·.1)).Nodup:=by
    have:=(Hp.out.1.map (·.1)).nodup_iff.1 hnd
    exact (List.nodup_cons.1 this).2
   have hx:(k1,k2)∉rest'.map (·.1):=by
    have:=(Hp.out.1.map (·.1)).nodup_iff.1 hnd
    exact (List.nodup_cons.1 this).1
   have Hx:=hid (Jc hnd' hx)
   clear hnd' hx
   cases hs:speaks (t1,t2) ((k1,k2),(k3,k4)) with
   | false =>
    have Hs:=hid hs
    clear hs
    go_wp2_with (go_at_call 63; refine (closure100 k1 k2 k3 k4 t1 t2 tb _ (by go_simp) (by go_simp) (by simp; omega)).mono ?_; rw [Hs.out]; rintro e w2 ⟨rfl,hb2⟩)
    go_roundg rest'.length
    case measure=>omega
    case rel =>
     have hb3:Below w1.heap.size w1 w2:=next2 (by repeat (first | exact Jd _ _ | refine Below.alloc ?_ (by simp <;> omega) _)) hb2
     refine ⟨rest',Jb _,?_,Hx.out.1,Hp.out.2.2,hg2.andThen (grown_of_below hb3 none) (by simp)⟩
     rw [← leftBy_keep Hp.out.1 (by rw [Hp.out.2.1,Hs.out]; rfl)]
     exact hrg1.kept (grown_of_below hb3 none) (by simp) (by simp)
   | true =>
    have Hs:=hid hs
    clear hs
    go_wp2_with (first
     | (go_at_call 63; refine (closure100 k1 k2 k3 k4 t1 t2 tb _ (by go_simp) (by go_simp) (by simp; omega)).mono ?_; rw [Hs.out]; rintro e w2 ⟨rfl,hb2⟩; have hb3:Below w1.heap.size w1 w2:=next2 (by repeat (first | exact Jd _ _ | refine Below.alloc ?_ (by simp <;> omega) _)) hb2; obtain ⟨q1,q2,q3⟩:=box_two hb2; have hrg2:=hrg1.kept (grown_of_below hb3 none) (by simp) (by simp))
     | (at_delete; refine wpList_del_mine _ rfl _ _ 71 79 rfl b _ rfl rfl (dropped Try.prog 71 79 b (tv (k1,k2)) w2) (fun ty=>(run_del_ranging kt79 Try.underlying71 hrg2 hn.leftBy (k1,k2) Hx.out.2 ty).1) ?_))
    go_wp2
    go_roundg rest'.length
    case measure=>omega
    case rel =>
     have hd:=run_del_ranging kt79 Try.underlying71 hrg2 hn.leftBy (k1,k2) Hx.out.2 0
     refine ⟨rest',Jb _,?_,Hx.out.1,Hp.out.2.2,(hg2.andThen (grown_of_below hb3 none) (by simp)).andThen hd.2.2 (fun j hj=>Js hj)⟩
     rw [← leftBy_drop Hp.out.1 hnd (by rw [Hp.out.2.1,Hs.out]; rfl)]
     exact hd.2.1
section
variable {w:World}{pb b0 b1 b2 b3:Nat}{l0:Things}{l2:Waits}{l3:Prefs}
theorem PlanAt.del0 {l1:Runs}(h:PlanAt w pb b0 b1 b2 b3 l0 l1 l2 l3)(hn:KN l0)(a:Int×Int) :
  (∀ ty,(Builtin.delete_ #[70,79] ty #[.map (some b0),tv a]).run Try.prog w=.ok (.tuple #[]) (dropped Try.prog 70 79 b0 (tv a) w))∧PlanAt (dropped Try.prog 70 79 b0 (tv a) w) pb b0 b1 b2 b3 (del a l0) l1 l2 l3∧Only [b0,b1,b2,b3] w (dropped Try.prog 70 79 b0 (tv a) w)∧w.grownBy (dropped Try.prog 70 79 b0 (tv a) w) (some b0):=by
 obtain ⟨_,h2,h3⟩:=run_del kt79 Try.underlying70 h.m0 hn a 0
 obtain ⟨n1,n2,n3,n4,n5,n6⟩:=h.ne
 refine ⟨fun ty=>(run_del kt79 Try.underlying70 h.m0 hn a ty).1,⟨?_,h2,h.m1.grown h3 (by simpa using n1.symm),h.m2.grown h3 (by simpa using n2.symm),h.m3.grown h3 (by simpa using n3.symm),h.ne⟩,Only.of_grown h3 (by simp),h3⟩
 exact h.cells.move (h3.block pb h.lt (by simpa using h.pne.1))
theorem PlanAt.del2 {l1:Runs}(h:PlanAt w pb b0 b1 b2 b3 l0 l1 l2 l3)(hn:KN l2)(a:Int×Int) :
  (∀ ty,(Builtin.delete_ #[64,79] ty #[.map (some b2),tv a]).run Try.prog w=.ok (.tuple #[]) (dropped Try.prog 64 79 b2 (tv a) w))∧PlanAt (dropped Try.prog 64 79 b2 (tv a) w) pb b0 b1 b2 b3 l0 l1 (del a l2) l3∧Only [b0,b1,b2,b3] w (dropped Try.prog 64 79 b2 (tv a) w)∧w.grownBy (dropped Try.prog 64 79 b2 (tv a) w) (some b2):=by
 obtain ⟨_,h2,h3⟩:=run_del kt79 Try.underlying64 h.m2 hn a 0
 obtain ⟨n1,n2,n3,n4,n5,n6⟩:=h.ne
 refine ⟨fun ty=>(run_del kt79 Try.underlying64 h.m2 hn a ty).1,⟨?_,h.m0.grown h3 (by simpa using n2),h.m1.grown h3 (by simpa using n4),h2,h.m3.grown h3 (by simpa using n6.symm),h.ne⟩,Only.of_grown h3 (by simp),h3⟩
 exact h.cells.move (h3.block pb h.lt (by simpa using h.pne.2.2.1))
theorem forget_any {l1:Runs}(h:PlanAt w pb b0 b1 b2 b3 l0 l1 l2 l3)(hn0:KN l0)(hn1:KN l1)(hn2:KN l2)(hn3:KN l3)(t1 t2:Int) :
  Calls Try.prog 50 #[.pointer (some ⟨pb,0,none⟩),.agg #[.int .i64 t1,.int .i64 t2]] w fun e w'=>e=.returned (.tuple #[])∧PlanAt w' pb b0 b1 b2 b3 (del (t1,t2) l0) (l1.filter fun x=>!speaks (t1,t2) x) (del (t1,t2) l2) (l3.filter fun x=>!speaks (t1,t2) x.1)∧Only [b0,b1,b2,b3] w w':=by
 have hpb:=h.lt
 have c0:=h.c0
 have hp1:=h.alloc (.cells #[.int .i64 t1,.int .i64 t2] 79)
 have hb1:Below w.heap.size w (w.alloc (.cells #[.int .i64 t1,.int .i64 t2] 79)):=(Jd _ _).alloc (Jb _) _
 have HB:=hid (show b0<w.heap.size∧b1<w.heap.size∧b2<w.heap.size∧b3<w.heap.size from ⟨h.m0.lt,h.m1.lt,h.m2.lt,h.m3.lt⟩)
 obtain ⟨d1,d2,d3,d4⟩:=hp1.drew.del0 hn0 (t1,t2)
 have D1:=hid d1
 clear d1
 go_enter Try.func50,Try.ntmps50
 go_wp2
 go_cut [8] (fun _ wx=>wx=dropped Try.prog 70 79 b0 (tv (t1,t2)) (w.alloc (.cells #[.int .i64 t1,.int .i64 t2] 79)).drew)
 case first =>
  go_region_law (refine step_del rfl _ _ 70 79 rfl b0 _ rfl rfl _ D1.out ?_)
  all_goals go_wp2_with fail
  all_goals go_meet
  all_goals exact rfl
 case rest =>
  subst hcut
  have hB:=HB.out
  have k1:(dropped Try.prog 70 79 b0 (tv (t1,t2)) (w.alloc (.cells #[.int .i64 t1,.int .i64 t2] 79)).drew).cell? ⟨w.heap.size,0,none⟩=some (.int .i64 t1):=d4.cell (by show (w.alloc _).cell? _=_; rw [World.cell?_alloc_at _ _ _ _ rfl]; rfl) (by simp; omega)
  have k2:(dropped Try.prog 70 79 b0 (tv (t1,t2)) (w.alloc (.cells #[.int .i64 t1,.int .i64 t2] 79)).drew).cell? ⟨w.heap.size,1,none⟩=some (.int .i64 t2):=d4.cell (by show (w.alloc _).cell? _=_; rw [World.cell?_alloc_at _ _ _ _ rfl]; rfl) (by simp; omega)
  have hO1:=(Only.of_below (S:=[b0,b1,b2,b3]) hb1).drew.trans d3
  have hz1:w.heap.size<(dropped Try.prog 70 79 b0 (tv (t1,t2)) (w.alloc (.cells #[.int .i64 t1,.int .i64 t2] 79)).drew).heap.size:=by have:=d4.size; simp at this; omega
  clear D1 d3 d4 hp1 hb1 h c0
  generalize dropped Try.prog 70 79 b0 (tv (t1,t2)) (w.alloc (.cells #[.int .i64 t1,.int .i64 t2] 79)).drew=W1 at d2 k1 k2 hO1 hz1 ⊢
  obtain ⟨f1,f2,f3,f4⟩:=d2.drew.del2 hn2 (t1,t2)
  have F1:=hid f1
  have c2:=d2.c2
  have hpw:=d2.lt
  clear f1
  go_wp2
  go_cut [13] (fun _ wx=>wx=dropped Try.prog 64 79 b2 (tv (t1,t2)) W1.drew)
  case first =>
   go_region_law (refine step_del rfl _ _ 64 79 rfl b2 _ rfl rfl _ F1.out ?_)
   all_goals go_wp2_with fail
   all_goals go_meet
   all_goals exact rfl
  case rest =>
   subst hcut
   have k3:(dropped Try.prog 64 79 b2 (tv (t1,t2)) W1.drew).cell? ⟨w.heap.size,0,none⟩=some (.int .i64 t1):=f4.cell (by exact k1) (by simp; omega)
   have k4:(dropped Try.prog 64 79 b2 (tv (t1,t2)) W1.drew).cell? ⟨w.heap.size,1,none⟩=some (.int .i64 t2):=f4.cell (by exact k2) (by simp; omega)
   have hO2:=hO1.drew.trans f3
   have hz2:w.heap.size<(dropped Try.prog 64 79 b2 (tv (t1,t2)) W1.drew).heap.size:=Jm hz1 f4.size
   clear F1 f3 f4 d2 k1 k2 hO1 hz1 c2 hpw
   generalize dropped Try.prog 64 79 b2 (tv (t1,t2)) W1.drew=W2 at f2 k3 k4 hO2 hz2 ⊢
   have c1:=f2.c1
   have hpw:=f2.lt
   go_wp2_with fail
   refine (drop99 t1 t2 w.heap.size b1 _ _ f2.m1 hn1 k3 k4 hz2 (by have:=HB.out; omega)).mono ?_
   rintro e W3 ⟨rfl,m1',hg3⟩
   obtain ⟨u1,u2,u3,u4,u5,u6⟩:=f2.ne
   have f5:PlanAt W3 pb b0 b1 b2 b3 (del (t1,t2) l0) (l1.filter fun x=>!speaks (t1,t2) x) (del (t1,t2) l2) l3:=⟨f2.cells.move (hg3.block pb f2.lt (by simpa using f2.pne.2.1)),f2.m0.grown hg3 (by simpa using u1),m1',f2.m2.grown hg3 (by simpa using u4.symm),f2.m3.grown hg3 (by simpa using u5.symm),f2.ne⟩
   have c3:=f5.c3
   have hpw3:=f5.lt
   have k5:W3.cell? ⟨w.heap.size,0,none⟩=some (.int .i64 t1):=hg3.cell k3 (by have:=HB.out; simp; omega)
   have k6:W3.cell? ⟨w.heap.size,1,none⟩=some (.int .i64 t2):=hg3.cell k4 (by have:=HB.out; simp; omega)
   go_wp2_with fail
   refine (drop101 t1 t2 w.heap.size b3 l3 _ f5.m3 hn3 k5 k6 (Jm hz2 hg3.size) (by have:=HB.out; omega)).mono ?_
   rintro e W4 ⟨rfl,m3,hg⟩
   go_wp2
   go_end0
   obtain ⟨n1,n2,n3,n4,n5,n6⟩:=f5.ne
   refine ⟨rfl,⟨?_,f5.m0.grown hg (by simpa using n3),f5.m1.grown hg (by simpa using n5),f5.m2.grown hg (by simpa using n6),m3,f5.ne⟩,hO2.trans ((Only.of_grown hg3 (by simp)).trans (Only.of_grown hg (by simp)))⟩
   exact f5.cells.move (hg.block pb f5.lt (by simpa using f5.pne.2.2.2))
def remOf (l0:Things)(kind id:Int):Int :=
 if kind<0∨3<kind then 7 else if (get (kind,id) l0).isSome then (if l0.any (fun x=>decide (x.2.1=(kind,id))) then 6 else 0) else 4
def rem0 (l0:Things)(kind id:Int):Things:=if remOf l0 kind id=0 then del (kind,id) l0 else l0
def rem2 (l0:Things)(l2:Waits)(kind id:Int):Waits:=if remOf l0 kind id=0 then del (kind,id) l2 else l2
def rem3 (l0:Things)(l3:Prefs)(kind id:Int):Prefs:=if remOf l0 kind id=0 then (l3.filter fun x=>!speaks (kind,id) x.1) else l3
def rem1 (l0:Things)(l1:Runs)(kind id:Int):Runs:=if remOf l0 kind id=0 then (l1.filter fun x=>!speaks (kind,id) x) else l1
theorem remove_runs {l1:Runs}(h:PlanAt w pb b0 b1 b2 b3 l0 l1 l2 l3)(hn0:KN l0)(hn1:KN l1)(hn2:KN l2)(hn3:KN l3)(kind id:Int) :
  Calls Try.prog 31 #[.pointer (some ⟨pb,0,none⟩),.int .i64 kind,.int .i64 id] w fun e w'=>e=.returned (.int .i64 (remOf l0 kind id)) ∧
   PlanAt w' pb b0 b1 b2 b3 (rem0 l0 kind id) (rem1 l0 l1 kind id) (rem2 l0 l2 kind id) (rem3 l0 l3 kind id)∧Only [b0,b1,b2,b3] w w':=by
 have hp1:=h.alloc (.cells #[.int .i64 kind,.int .i64 id] 79)
 have hb1:Below w.heap.size w (w.alloc (.cells #[.int .i64 kind,.int .i64 id] 79)):=(Jd _ _).alloc (Jb _) _
 by_cases hk0:kind<0
 ·have e1:remOf l0 kind id=7:=by simp [remOf,hk0]
  rw [e1,show rem0 l0 kind id=l0 by simp [rem0,e1],show rem1 l0 l1 kind id=l1 by simp [rem1,e1],show rem2 l0 l2 kind id=l2 by simp [rem2,e1],show rem3 l0 l3 kind id=l3 by simp [rem3,e1]]
  clear e1
  go_enter Try.func31,Try.ntmps31
  go_wp2
  go_ret
  exact ⟨rfl,hp1,Only.of_below hb1⟩
 by_cases hk3:3<kind
 ·have e1:remOf l0 kind id=7:=by simp [remOf,hk3]
  rw [e1,show rem0 l0 kind id=l0 by simp [rem0,e1],show rem1 l0 l1 kind id=l1 by simp [rem1,e1],show rem2 l0 l2 kind id=l2 by simp [rem2,e1],show rem3 l0 l3 kind id=l3 by simp [rem3,e1]]
  clear e1
  have hd:decide (kind<0)=false:=by simpa using hk0
  go_enter Try.func31,Try.ntmps31
  go_wp2
  go_ret
  exact ⟨rfl,hp1,Only.of_below hb1⟩
 have hd:decide (kind<0)=false:=by simpa using hk0
 have hd3:decide (3<kind)=false:=by simpa using hk3
 have hk:¬ (kind<0∨3<kind):=by omega
 cases hg:(get (kind,id) l0).isSome with
 | false =>
  have e1:remOf l0 kind id=4:=by unfold remOf; rw [if_neg hk,hg]; rfl
  rw [e1,show rem0 l0 kind id=l0 by simp [rem0,e1],show rem1 l0 l1 kind id=l1 by simp [rem1,e1],show rem2 l0 l2 kind id=l2 by simp [rem2,e1],show rem3 l0 l3 kind id=l3 by simp [rem3,e1]]
  have Hg:=hid hg
  clear e1 hg
  go_enter Try.func31,Try.ntmps31
  go_wp2_with (go_at_call 35; refine (has_any hp1 kind id).mono ?_; rw [Hg.out]; rintro e w2 ⟨rfl,hb2⟩)
  go_ret
  exact ⟨rfl,hp1.below hb2,Only.of_below (next2 hb1 hb2)⟩
 | true =>
  have Hg:=hid hg
  cases ha:l0.any (fun x=>decide (x.2.1=(kind,id))) with
  | true =>
   have e1:remOf l0 kind id=6:=by unfold remOf; rw [if_neg hk,hg,ha]; rfl
   rw [e1,show rem0 l0 kind id=l0 by simp [rem0,e1],show rem1 l0 l1 kind id=l1 by simp [rem1,e1],show rem2 l0 l2 kind id=l2 by simp [rem2,e1],show rem3 l0 l3 kind id=l3 by simp [rem3,e1]]
   have Ha:=hid ha
   clear e1 hg ha
   go_enter Try.func31,Try.ntmps31
   go_wp2_with (first
    | (go_at_call 35; refine (has_any hp1 kind id).mono ?_; rw [Hg.out]; rintro e w2 ⟨rfl,hb2⟩; obtain ⟨k1,k2⟩:=box2 hb2)
    | (go_at_call 49; refine (busy_any (hp1.below hb2) kind id).mono ?_; rw [Ha.out]; rintro e w3 ⟨rfl,hb3⟩))
   go_ret
   exact ⟨rfl,(hp1.below hb2).below hb3,Only.of_below (next2 (next2 hb1 hb2) hb3)⟩
  | false =>
   have e1:remOf l0 kind id=0:=by unfold remOf; rw [if_neg hk,hg,ha]; rfl
   rw [e1,show rem0 l0 kind id=del (kind,id) l0 by simp [rem0,e1],show rem1 l0 l1 kind id=(l1.filter fun x=>!speaks (kind,id) x) by simp [rem1,e1],show rem2 l0 l2 kind id=del (kind,id) l2 by simp [rem2,e1],show rem3 l0 l3 kind id=(l3.filter fun x=>!speaks (kind,id) x.1) by simp [rem3,e1]]
   have Ha:=hid ha
   clear e1 hg ha
   go_enter Try.func31,Try.ntmps31
   go_wp2_with (first
    | (go_at_call 35; refine (has_any hp1 kind id).mono ?_; rw [Hg.out]; rintro e w2 ⟨rfl,hb2⟩; obtain ⟨k1,k2⟩:=box2 hb2)
    | (go_at_call 49; refine (busy_any (hp1.below hb2) kind id).mono ?_; rw [Ha.out]; rintro e w3 ⟨rfl,hb3⟩; obtain ⟨k3,k4⟩:=box2 (next2 hb2 hb3))
    | (go_at_call 50; refine (forget_any ((hp1.below hb2).below hb3) hn0 hn1 hn2 hn3 kind id).mono ?_; rintro e w4 ⟨rfl,hp4,hO4⟩))
   go_ret
   exact ⟨rfl,hp4,(Only.of_below (next2 (next2 hb1 hb2) hb3)).trans hO4⟩
end
end
end Go.Proofs.Ytjdindfjfpdikab
