import Derived.BigQuiet
import Derived.Deep.QuietTactic
import Derived.Maps.OwnSet
import Derived.Deep.RegionLaw
import Derived.Deep.DeepCutAuto
import Derived.Test.YtjdindfjfpdikabB00
import Derived.Test.YtjdindfjfpdikabB01
import Derived.Test.YtjdindfjfpdikabPre
set_option maxRecDepth 100000
set_option maxHeartbeats 8000000
namespace Go.Proofs.Ytjdindfjfpdikab
section
open Go.RowKit
theorem field0 (w:World)(a b c d:Int):(Instr.field 85 (.agg #[.int .i64 a,.int .i64 b,.int .i64 c,.int .i64 d]) 0).run Try.prog w=.ok (.agg #[.int .i64 a,.int .i64 b]) w:=by kernel_rfl
theorem field2 (w:World)(a b c d:Int):(Instr.field 85 (.agg #[.int .i64 a,.int .i64 b,.int .i64 c,.int .i64 d]) 2).run Try.prog w=.ok (.int .i64 d) w:=by kernel_rfl
def moves (l1:Runs)(t:Int×Int):Int:=if (get t l1).isSome then 50 else 0
section
variable {w:World}{pb b0 b1 b2 b3:Nat}{l0:Things}{l1:Runs}{l2:Waits}{l3:Prefs}
theorem look2 (h:MapAt tv iv w b2 l2)(a:Int×Int):(Instr.lookup 64 (.map (some b2)) (.agg #[.int .i64 a.1,.int .i64 a.2]) false).run Try.prog w=.ok (.int .i64 ((get a l2).getD 0)) w:=by
 have:=run_look kt79 Try.underlying64 h a false (zero3 w)
 cases hq:get a l2 with
 | none=>rw [hq] at this; exact this
 | some n=>rw [hq] at this; exact this
theorem look1 (h:MapAt tv tv w b1 l1)(a:Int×Int):(Instr.lookup 71 (.map (some b1)) (.agg #[.int .i64 a.1,.int .i64 a.2]) true).run Try.prog w=.ok (.tuple #[.agg #[.int .i64 ((get a l1).getD (0,0)).1,.int .i64 ((get a l1).getD (0,0)).2],.bool (get a l1).isSome]) w:=by
 have:=run_look kt79 Try.underlying71 h a true (zero79 w)
 cases hq:get a l1 with
 | none=>rw [hq] at this; exact this
 | some n=>rw [hq] at this; exact this
theorem costOnNone_any (h:PlanAt w pb b0 b1 b2 b3 l0 l1 l2 l3)(t1 t2 j1 j2 s a i1 i2 s' base:Int)(ht:get (t1,t2) l0=some ((j1,j2),s,a))(hj:get (j1,j2) l0=some ((i1,i2),s',base))(hB0:0≤base)(hB1:base≤1000)(hw:Waited l2) :
  Calls Try.prog 46 #[.pointer (some ⟨pb,0,none⟩),.agg #[.int .i64 t1,.int .i64 t2]] w fun e w'=>e=.returned (.int .i64 (base+(get (t1,t2) l2).getD 0+moves l1 (t1,t2)))∧Below w.heap.size w w':=by
 have c0:=h.c0
 have c1:=h.c1
 have c2:=h.c2
 have hpb:=h.lt
 have hpb1:pb<w.heap.size+1:=by omega
 have hpb2:pb<w.heap.size+1+1:=by omega
 have hs1:w.heap.size<w.heap.size+1+1:=by omega
 have f0:=field0
 have f2:=field2
 have e1:∀ o,(Instr.lookup 70 (.map (some b0)) (.agg #[.int .i64 t1,.int .i64 t2]) false).run Try.prog (w.alloc o).drew=.ok (.agg #[.int .i64 j1,.int .i64 j2,.int .i64 s,.int .i64 a]) (w.alloc o).drew:=fun o=>run_look_yes' kt79 Try.underlying70 (h.m0.alloc o).drew (t1,t2) ht _ (zero82 _)
 have e1':∀ o o',(Instr.lookup 70 (.map (some b0)) (.agg #[.int .i64 t1,.int .i64 t2]) false).run Try.prog ((w.alloc o).alloc o').drew=.ok (.agg #[.int .i64 j1,.int .i64 j2,.int .i64 s,.int .i64 a]) ((w.alloc o).alloc o').drew:=fun o o'=>run_look_yes' kt79 Try.underlying70 ((h.m0.alloc o).alloc o').drew (t1,t2) ht _ (zero82 _)
 have e2:∀ o o',(Instr.lookup 70 (.map (some b0)) (.agg #[.int .i64 j1,.int .i64 j2]) false).run Try.prog ((w.alloc o).alloc o').drew.drew=.ok (.agg #[.int .i64 i1,.int .i64 i2,.int .i64 s',.int .i64 base]) ((w.alloc o).alloc o').drew.drew:=fun o o'=>run_look_yes' kt79 Try.underlying70 ((h.m0.alloc o).alloc o').drew.drew (j1,j2) hj _ (zero82 _)
 obtain ⟨n,hn,hn0,hn1⟩:∃ n,(get (t1,t2) l2).getD 0=n∧0≤n∧n≤100:=⟨_,rfl,by cases hq:get (t1,t2) l2 with
  | none=>simp
  | some n=>have:=hw _ _ hq; simpa using this⟩
 have e3:∀ o o',(Instr.lookup 64 (.map (some b2)) (.agg #[.int .i64 t1,.int .i64 t2]) false).run Try.prog ((w.alloc o).alloc o').drew.drew=.ok (.int .i64 n) ((w.alloc o).alloc o').drew.drew:=fun o o'=>by rw [← hn]; exact look2 ((h.m2.alloc o).alloc o').drew.drew (t1,t2)
 obtain ⟨m1,m2,r,hr⟩:∃ m1 m2 r,(((get (t1,t2) l1).getD (0,0)).1=m1∧((get (t1,t2) l1).getD (0,0)).2=m2∧(get (t1,t2) l1).isSome=r):=⟨_,_,_,rfl,rfl,rfl⟩
 have e4:∀ o o',(Instr.lookup 71 (.map (some b1)) (.agg #[.int .i64 t1,.int .i64 t2]) true).run Try.prog ((w.alloc o).alloc o').drew.drew.drew=.ok (.tuple #[.agg #[.int .i64 m1,.int .i64 m2],.bool r]) ((w.alloc o).alloc o').drew.drew.drew:=fun o o'=>by rw [← hr.1,← hr.2.1,← hr.2.2]; exact look1 ((h.m1.alloc o).alloc o').drew.drew.drew (t1,t2)
 have e5:∀ o o' o2,(Instr.lookup 71 (.map (some b1)) (.agg #[.int .i64 t1,.int .i64 t2]) true).run Try.prog (((w.alloc o).alloc o').alloc o2).drew.drew.drew=.ok (.tuple #[.agg #[.int .i64 m1,.int .i64 m2],.bool r]) (((w.alloc o).alloc o').alloc o2).drew.drew.drew:=fun o o' o2=>by rw [← hr.1,← hr.2.1,← hr.2.2]; exact look1 (((h.m1.alloc o).alloc o').alloc o2).drew.drew.drew (t1,t2)
 have hm:moves l1 (t1,t2)=if r=true then 50 else 0:=by unfold moves; rw [hr.2.2]
 rw [hn,hm]
 clear hn hm hr ht hj
 cases r
 ·go_enter Try.func46,Try.ntmps46
  go_wp2
  go_region
  all_goals go_wp2
  all_goals go_region
  all_goals go_wp2
  all_goals go_region
  all_goals
   go_wp2
   go_ret
   exact ⟨ret_int (by simp),by repeat (first | exact Jd _ _ | refine Below.drew ?_ | refine Below.alloc ?_ (by simp <;> omega) _)⟩
 ·go_enter Try.func46,Try.ntmps46
  go_wp2
  go_region
  all_goals go_wp2
  all_goals go_region
  all_goals go_wp2
  all_goals go_region
  all_goals
   go_wp2
   go_ret
   exact ⟨ret_int (by simp),by repeat (first | exact Jd _ _ | refine Below.drew ?_ | refine Below.alloc ?_ (by simp <;> omega) _)⟩
end
end
section
open Go.RowKit
theorem index0 (w:World)(a b c d:Int):(Instr.index 119 (.agg #[.int .i64 a,.int .i64 b,.int .i64 c,.int .i64 d]) (.int .i64 0)).run Try.prog w=.ok (.agg #[.int .i64 a,.int .i64 b]) w:=by kernel_rfl
theorem index1 (w:World)(a b c d:Int):(Instr.index 119 (.agg #[.int .i64 a,.int .i64 b,.int .i64 c,.int .i64 d]) (.int .i64 1)).run Try.prog w=.ok (.agg #[.int .i64 c,.int .i64 d]) w:=by kernel_rfl
theorem neq79 (w:World)(a b:Int×Int):(binOp .neq 79 (tv a) (tv b)).run Try.prog w=.ok (.bool (!decide (a=b))) w:=by
 have h:=eq79 w a b
 unfold Op.equal Op.maxDepth at h
 unfold tv at h ⊢
 rw [run_neq_struct,h]
 rfl
def lesser (a:Int):Option Int→Int
 | some c=>min a c
 | none=>a
def Costs (l3:Prefs):Prop:=∀ k n,get k l3=some n→0≤n∧n≤1000
theorem lesser_bounds {a:Int}{o:Option Int}(h0:0≤a)(h1:a≤1000)(ho:∀ n,o=some n→0≤n∧n≤1000):0≤lesser a o∧lesser a o≤1000:=by
 cases o with
 | none=>exact ⟨h0,h1⟩
 | some n=>have:=ho n rfl; show 0≤min a n∧min a n≤1000; omega
def movesTo (l1:Runs)(t m:Int×Int):Int:=match get t l1 with
 | some n=>if n=m then 0 else 50
 | none=>0
section
variable {w:World}{pb b0 b1 b2 b3:Nat}{l0:Things}{l1:Runs}{l2:Waits}{l3:Prefs}
theorem costOn_any (h:PlanAt w pb b0 b1 b2 b3 l0 l1 l2 l3)(t1 t2 m1 m2 j1 j2 s a r1 r2 s' c':Int)(ht:get (t1,t2) l0=some ((j1,j2),s,a))(hm:get (m1,m2) l0=some ((r1,r2),s',c'))(ha0:0≤a)(ha1:a≤1000)(hC:Costs l3) :
  Calls Try.prog 47 #[.pointer (some ⟨pb,0,none⟩),.agg #[.int .i64 t1,.int .i64 t2],.agg #[.int .i64 m1,.int .i64 m2]] w fun e w' =>
   e=.returned (.int .i64 (lesser (lesser a (get ((t1,t2),(m1,m2)) l3)) (get ((t1,t2),(r1,r2)) l3)+movesTo l1 (t1,t2) (m1,m2)))∧Below w.heap.size w w':=by
 have c0:=h.c0
 have hpb:=h.lt
 have hpb1:pb<w.heap.size+1:=by omega
 have hpb2:pb<w.heap.size+1+1:=by omega
 have hs1:w.heap.size<w.heap.size+1+1:=by omega
 have f0:=field0
 have f2:=field2
 have i0:=index0
 have i1:=index1
 have e1:∀ o o',(Instr.lookup 70 (.map (some b0)) (.agg #[.int .i64 t1,.int .i64 t2]) false).run Try.prog ((w.alloc o).alloc o').drew=.ok (.agg #[.int .i64 j1,.int .i64 j2,.int .i64 s,.int .i64 a]) ((w.alloc o).alloc o').drew:=fun o o'=>run_look_yes' kt79 Try.underlying70 ((h.m0.alloc o).alloc o').drew (t1,t2) ht _ (zero82 _)
 have e2:∀ o o',(Instr.lookup 70 (.map (some b0)) (.agg #[.int .i64 m1,.int .i64 m2]) false).run Try.prog ((w.alloc o).alloc o').drew.drew=.ok (.agg #[.int .i64 r1,.int .i64 r2,.int .i64 s',.int .i64 c']) ((w.alloc o).alloc o').drew.drew:=fun o o'=>run_look_yes' kt79 Try.underlying70 ((h.m0.alloc o).alloc o').drew.drew (m1,m2) hm _ (zero82 _)
 clear ht hm
 go_enter Try.func47,Try.ntmps47
 go_wp2
 go_region
 all_goals go_wp2
 all_goals go_region
 go_wp2
 have hp1:=(h.alloc (.cells #[.int .i64 t1,.int .i64 t2] 79)).alloc (.cells #[.int .i64 m1,.int .i64 m2] 79)
 have hb1:Below w.heap.size w ((w.alloc (.cells #[.int .i64 t1,.int .i64 t2] 79)).alloc (.cells #[.int .i64 m1,.int .i64 m2] 79)):=((Jd _ _).alloc (Jb _) _).alloc (by simp) _
 clear e1 e2 c0 h
 generalize hL1:lesser a (get ((t1,t2),(m1,m2)) l3)=L1
 generalize hL2:lesser L1 (get ((t1,t2),(r1,r2)) l3)=L2
 have hB1:0≤L1∧L1≤1000:=hL1 ▸ lesser_bounds ha0 ha1 (fun n hn=>hC _ _ hn)
 have hB2:0≤L2∧L2≤1000:=hL2 ▸ lesser_bounds hB1.1 hB1.2 (fun n hn=>hC _ _ hn)
 have HL:=hid (Jc hL1 hL2)
 clear hL1 hL2
 go_loopg [7,30] 2 (fun gk v i wr=>∃ k:Nat,k≤2∧2 - k≤gk∧i=.int .i64 k∧v=.int .i64 (if k=0 then a else if k=1 then L1 else L2)∧Below ((w.alloc (.cells #[.int .i64 t1,.int .i64 t2] 79)).alloc (.cells #[.int .i64 m1,.int .i64 m2] 79)).heap.size ((w.alloc (.cells #[.int .i64 t1,.int .i64 t2] 79)).alloc (.cells #[.int .i64 m1,.int .i64 m2] 79)) wr)
 case atStart=>exact ⟨0,by omega,by omega,rfl,rfl,(Jd _ _).drew.drew⟩
 case round =>
  obtain ⟨k,hk,hgk,rfl,rfl,hbw⟩:=hrel
  have hp:=hp1.below hbw
  obtain ⟨k1,k2,k3,k4⟩:=boxes2 hbw
  have c3:=hp.c3
  have c1:=hp.c1
  have hpw:=hp.lt
  have hz:=hbw.size
  have hz1:w.heap.size<wr.heap.size:=by simp at hz; omega
  have hz2:w.heap.size+1<wr.heap.size:=by simp at hz; omega
  clear hz
  obtain rfl | rfl | rfl:k=0∨k=1∨k=2:=by omega
  ·cases hq:get ((t1,t2),(m1,m2)) l3 with
   | none =>
    have e3:∀ o,(Instr.lookup 72 (.map (some b3)) (.agg #[.int .i64 t1,.int .i64 t2,.int .i64 m1,.int .i64 m2]) true).run Try.prog (wr.alloc o).drew=.ok (.tuple #[.int .i64 0,.bool false]) (wr.alloc o).drew:=fun o=>run_look_no kt86 Try.underlying72 (hp.m3.alloc o).drew ((t1,t2),(m1,m2)) hq _ (zero3 _)
    have Hl:=hid (show a=L1 by have:=HL.out.1; rw [hq] at this; exact this)
    clear hq
    go_wp2
    go_region
    all_goals go_wp2
    all_goals
     go_roundg 1
     case measure=>omega
     case rel=>exact ⟨1,by omega,by omega,rfl,by simp [Hl.out],(hbw.alloc hbw.size _).drew⟩
   | some c =>
    have e3:∀ o,(Instr.lookup 72 (.map (some b3)) (.agg #[.int .i64 t1,.int .i64 t2,.int .i64 m1,.int .i64 m2]) true).run Try.prog (wr.alloc o).drew=.ok (.tuple #[.int .i64 c,.bool true]) (wr.alloc o).drew:=fun o=>run_look_yes kt86 Try.underlying72 (hp.m3.alloc o).drew ((t1,t2),(m1,m2)) hq _ (zero3 _)
    have hl:min a c=L1:=by have:=HL.out.1; rw [hq] at this; exact this
    have Hl:=hid hl
    have hcb:=hC _ _ hq
    clear hq hl
    go_wp2
    go_region
    all_goals go_wp2
    all_goals
     go_roundg 1
     case measure=>omega
     case rel=>exact ⟨1,by omega,by omega,rfl,congrArg (Value.int .i64) (by have:=Hl.out; simp; omega),(hbw.alloc hbw.size _).drew⟩
  ·cases hq:get ((t1,t2),(r1,r2)) l3 with
   | none =>
    have e3:∀ o,(Instr.lookup 72 (.map (some b3)) (.agg #[.int .i64 t1,.int .i64 t2,.int .i64 r1,.int .i64 r2]) true).run Try.prog (wr.alloc o).drew=.ok (.tuple #[.int .i64 0,.bool false]) (wr.alloc o).drew:=fun o=>run_look_no kt86 Try.underlying72 (hp.m3.alloc o).drew ((t1,t2),(r1,r2)) hq _ (zero3 _)
    have Hl:=hid (show L1=L2 by have:=HL.out.2; rw [hq] at this; exact this)
    clear hq
    go_wp2
    go_region
    all_goals go_wp2
    all_goals
     go_roundg 0
     case measure=>omega
     case rel=>exact ⟨2,by omega,by omega,rfl,by simp [Hl.out],(hbw.alloc hbw.size _).drew⟩
   | some c =>
    have e3:∀ o,(Instr.lookup 72 (.map (some b3)) (.agg #[.int .i64 t1,.int .i64 t2,.int .i64 r1,.int .i64 r2]) true).run Try.prog (wr.alloc o).drew=.ok (.tuple #[.int .i64 c,.bool true]) (wr.alloc o).drew:=fun o=>run_look_yes kt86 Try.underlying72 (hp.m3.alloc o).drew ((t1,t2),(r1,r2)) hq _ (zero3 _)
    have hl:min L1 c=L2:=by have:=HL.out.2; rw [hq] at this; exact this
    have Hl:=hid hl
    have hcb:=hC _ _ hq
    clear hq hl
    go_wp2
    go_region
    all_goals go_wp2
    all_goals
     go_roundg 0
     case measure=>omega
     case rel=>exact ⟨2,by omega,by omega,rfl,congrArg (Value.int .i64) (by have:=Hl.out; simp; omega),(hbw.alloc hbw.size _).drew⟩
  ·cases hr:get (t1,t2) l1 with
   | none =>
    have e4:(Instr.lookup 71 (.map (some b1)) (.agg #[.int .i64 t1,.int .i64 t2]) true).run Try.prog wr.drew=.ok (.tuple #[.agg #[.int .i64 0,.int .i64 0],.bool false]) wr.drew:=run_look_no kt79 Try.underlying71 hp.m1.drew (t1,t2) hr _ (zero79 _)
    have e5:∀ o,(Instr.lookup 71 (.map (some b1)) (.agg #[.int .i64 t1,.int .i64 t2]) true).run Try.prog (wr.alloc o).drew=.ok (.tuple #[.agg #[.int .i64 0,.int .i64 0],.bool false]) (wr.alloc o).drew:=fun o=>run_look_no kt79 Try.underlying71 (hp.m1.alloc o).drew (t1,t2) hr _ (zero79 _)
    have Hm:=hid (show movesTo l1 (t1,t2) (m1,m2)=0 by simp [movesTo,hr])
    clear hr
    go_wp2
    go_region
    all_goals go_wp2
    all_goals
     go_ret
     exact ⟨ret_int (by rw [HL.out.1,HL.out.2,Hm.out,Int.add_zero]),next2 hb1 ((hbw.alloc hbw.size _).drew)⟩
   | some n =>
    obtain ⟨n1,n2⟩:=n
    have e4:(Instr.lookup 71 (.map (some b1)) (.agg #[.int .i64 t1,.int .i64 t2]) true).run Try.prog wr.drew=.ok (.tuple #[.agg #[.int .i64 n1,.int .i64 n2],.bool true]) wr.drew:=run_look_yes kt79 Try.underlying71 hp.m1.drew (t1,t2) hr _ (zero79 _)
    have e5:∀ o,(Instr.lookup 71 (.map (some b1)) (.agg #[.int .i64 t1,.int .i64 t2]) true).run Try.prog (wr.alloc o).drew=.ok (.tuple #[.agg #[.int .i64 n1,.int .i64 n2],.bool true]) (wr.alloc o).drew:=fun o=>run_look_yes kt79 Try.underlying71 (hp.m1.alloc o).drew (t1,t2) hr _ (zero79 _)
    have hne:∀ w':World,(binOp .neq 79 (.agg #[.int .i64 n1,.int .i64 n2]) (.agg #[.int .i64 m1,.int .i64 m2])).run Try.prog w'=.ok (.bool (!decide ((n1,n2)=(m1,m2)))) w':=fun w'=>neq79 w' (n1,n2) (m1,m2)
    by_cases hn:n1=m1∧n2=m2
    ·obtain ⟨rfl,rfl⟩:=hn
     have hne':∀ w':World,(binOp .neq 79 (.agg #[.int .i64 n1,.int .i64 n2]) (.agg #[.int .i64 n1,.int .i64 n2])).run Try.prog w'=.ok (.bool false) w':=fun w'=>by rw [hne w']; simp
     clear hne
     have Hm:=hid (show movesTo l1 (t1,t2) (n1,n2)=0 by simp [movesTo,hr])
     clear hr
     go_wp2
     go_region
     all_goals go_wp2
     all_goals
      go_ret
      exact ⟨ret_int (by rw [HL.out.1,HL.out.2,Hm.out,Int.add_zero]),next2 hb1 ((hbw.alloc hbw.size _).drew)⟩
    ·have Hm:=hid (show movesTo l1 (t1,t2) (m1,m2)=50 by simp [movesTo,hr,hn])
     clear hr
     have hne':∀ w':World,(binOp .neq 79 (.agg #[.int .i64 n1,.int .i64 n2]) (.agg #[.int .i64 m1,.int .i64 m2])).run Try.prog w'=.ok (.bool true) w':=fun w'=>by rw [hne w']; simp [hn]
     clear hne hn
     go_wp2
     go_region
     all_goals go_wp2
     all_goals
      go_ret
      exact ⟨ret_int (by rw [HL.out.1,HL.out.2,Hm.out]),next2 hb1 ((hbw.alloc hbw.size _).drew)⟩
end
end
section
open Go.RowKit
theorem step_del {P:Program}{ops:Array Oper}{o:Oper}{a:Act}{w:World}{K:Act→World→Prop}{Q:Exit→Act→World→Prop}{E:Prop}(hg:o.guard=none)(m x:Operand)(t kt:TypeId)
  (hop:o.op=Op.call { callee:=Callee.builtin Builtin.delete,args:=#[m,x],argTypes:=#[t,kt] }) (b:Nat) (key:Value) (hm:a.eval m=.map (some b)) (hx:a.eval x=key) (w':World)
  (hrun:∀ ty,(Builtin.delete_ #[t,kt] ty #[.map (some b),key]).run P w=.ok (.tuple #[]) w') (hK:K (a.put o.dst (.tuple #[])) w') :
  if Region.wanted o (yielded ops a.tmps)=true then Oper.wp P o a w K Q else E:=by
 have hw:Region.wanted o (yielded ops a.tmps)=true:=by simp [Region.wanted,hg]
 rw [if_pos hw]
 unfold Oper.wp execOp
 simp only [hop,resolve,invoke,builtin,Sem.run_bind,Sem.run_pure,Result.andThen_ok,List.map_toArray,List.map_cons,List.map_nil,hm,hx,hrun]
 exact hK
theorem grown_of_below {w w':World}(h:Below w.heap.size w w')(row:Option Nat):w.grownBy w' row:=⟨h.os,h.tape,h.output,h.size,fun k hk _=>h.block k hk⟩
end
section
open Go.RowKit
section
variable {w:World}{pb b0 b1 b2 b3:Nat}{l0:Things}{l1:Runs}{l2:Waits}{l3:Prefs}
theorem cost_none (h:PlanAt w pb b0 b1 b2 b3 l0 l1 l2 l3)(task j1 j2 s a i1 i2 s' base:Int)(ht:get (3,task) l0=some ((j1,j2),s,a))(hj:get (j1,j2) l0=some ((i1,i2),s',base))(hB0:0≤base)(hB1:base≤1000)(hw:Waited l2) :
  Calls Try.prog 37 #[.pointer (some ⟨pb,0,none⟩),.int .i64 task,.int .i64 (-1)] w fun e w'=>e=.returned (.tuple #[.int .i64 (base+(get (3,task) l2).getD 0+moves l1 (3,task)),.int .i64 0])∧Below w.heap.size w w':=by
 have hp1:=(h.alloc (.cells #[.int .i64 3,.int .i64 task] 79)).alloc (.cells #[.int .i64 1,.int .i64 (-1)] 79)
 have hb1:Below w.heap.size w ((w.alloc (.cells #[.int .i64 3,.int .i64 task] 79)).alloc (.cells #[.int .i64 1,.int .i64 (-1)] 79)):=((Jd _ _).alloc (Jb _) _).alloc (by simp) _
 have Hc:=hid (fun (w3:World) (hb:Below ((w.alloc (.cells #[.int .i64 3,.int .i64 task] 79)).alloc (.cells #[.int .i64 1,.int .i64 (-1)] 79)).heap.size ((w.alloc (.cells #[.int .i64 3,.int .i64 task] 79)).alloc (.cells #[.int .i64 1,.int .i64 (-1)] 79)) w3)=>costOnNone_any (hp1.below hb) 3 task j1 j2 s a i1 i2 s' base ht hj hB0 hB1 hw)
 have Ht:=hid ht
 clear ht hj
 generalize base+(get (3,task) l2).getD 0+moves l1 (3,task)=r at Hc ⊢
 go_enter Try.func37,Try.ntmps37
 go_wp2_with fail
 refine (has_any hp1 3 task).mono ?_
 rw [Ht.out]
 rintro e w2 ⟨rfl,hb2⟩
 obtain ⟨k1,k2,k3,k4⟩:=boxes2 hb2
 go_wp2_with fail
 refine (Hc.out _ hb2).mono ?_
 rintro e w3 ⟨rfl,hb3⟩
 go_wp2
 go_ret2
 exact ⟨rfl,next2 (next2 hb1 hb2) hb3⟩
theorem cost_on (h:PlanAt w pb b0 b1 b2 b3 l0 l1 l2 l3)(task machine j1 j2 s a r1 r2 s' c':Int)(hm1:machine≠-1)(ht:get (3,task) l0=some ((j1,j2),s,a))(hm:get (1,machine) l0=some ((r1,r2),s',c'))(ha0:0≤a)(ha1:a≤1000)(hC:Costs l3) :
  Calls Try.prog 37 #[.pointer (some ⟨pb,0,none⟩),.int .i64 task,.int .i64 machine] w fun e w'=>e=.returned (.tuple #[.int .i64 (lesser (lesser a (get ((3,task),(1,machine)) l3)) (get ((3,task),(r1,r2)) l3)+movesTo l1 (3,task) (1,machine)),.int .i64 0])∧Below w.heap.size w w':=by
 have hp1:=(h.alloc (.cells #[.int .i64 3,.int .i64 task] 79)).alloc (.cells #[.int .i64 1,.int .i64 machine] 79)
 have hb1:Below w.heap.size w ((w.alloc (.cells #[.int .i64 3,.int .i64 task] 79)).alloc (.cells #[.int .i64 1,.int .i64 machine] 79)):=((Jd _ _).alloc (Jb _) _).alloc (by simp) _
 have Hc:=hid (fun (w3:World) (hb:Below ((w.alloc (.cells #[.int .i64 3,.int .i64 task] 79)).alloc (.cells #[.int .i64 1,.int .i64 machine] 79)).heap.size ((w.alloc (.cells #[.int .i64 3,.int .i64 task] 79)).alloc (.cells #[.int .i64 1,.int .i64 machine] 79)) w3)=>costOn_any (hp1.below hb) 3 task 1 machine j1 j2 s a r1 r2 s' c' ht hm ha0 ha1 hC)
 have Ht:=hid ht
 have Hm:=hid hm
 have hmb:(machine == -1)=false:=by simpa using hm1
 clear ht hm hm1
 generalize lesser (lesser a (get ((3,task),(1,machine)) l3)) (get ((3,task),(r1,r2)) l3)+movesTo l1 (3,task) (1,machine)=r at Hc ⊢
 go_enter Try.func37,Try.ntmps37
 go_wp2_with fail
 refine (has_any hp1 3 task).mono ?_
 rw [Ht.out]
 rintro e w2 ⟨rfl,hb2⟩
 obtain ⟨k1,k2,k3,k4⟩:=boxes2 hb2
 go_wp2_with fail
 refine (has_any (hp1.below hb2) 1 machine).mono ?_
 rw [Hm.out]
 rintro e w3 ⟨rfl,hb3⟩
 obtain ⟨k5,k6,k7,k8⟩:=boxes2 (next2 hb2 hb3)
 go_wp2_with fail
 refine (Hc.out _ (next2 hb2 hb3)).mono ?_
 rintro e w4 ⟨rfl,hb4⟩
 go_wp2
 go_ret2
 exact ⟨rfl,next2 (next2 (next2 hb1 hb2) hb3) hb4⟩
end
end
section
open Go.RowKit
section
variable {w:World}{pb b0 b1 b2 b3:Nat}{l0:Things}{l2:Waits}{l3:Prefs}
theorem PlanAt.del2 {l1:Runs}(h:PlanAt w pb b0 b1 b2 b3 l0 l1 l2 l3)(hn:KN l2)(a:Int×Int) :
  (∀ ty,(Builtin.delete_ #[64,79] ty #[.map (some b2),tv a]).run Try.prog w=.ok (.tuple #[]) (dropped Try.prog 64 79 b2 (tv a) w))∧PlanAt (dropped Try.prog 64 79 b2 (tv a) w) pb b0 b1 b2 b3 l0 l1 (del a l2) l3∧Only [b0,b1,b2,b3] w (dropped Try.prog 64 79 b2 (tv a) w)∧w.grownBy (dropped Try.prog 64 79 b2 (tv a) w) (some b2):=by
 obtain ⟨_,h2,h3⟩:=run_del kt79 Try.underlying64 h.m2 hn a 0
 obtain ⟨n1,n2,n3,n4,n5,n6⟩:=h.ne
 refine ⟨fun ty=>(run_del kt79 Try.underlying64 h.m2 hn a ty).1,⟨?_,h.m0.grown h3 (by simpa using n2),h.m1.grown h3 (by simpa using n4),h2,h.m3.grown h3 (by simpa using n6.symm),h.ne⟩,Only.of_grown h3 (by simp),h3⟩
 exact h.cells.move (h3.block pb h.lt (by simpa using h.pne.2.2.1))
end
end
end Go.Proofs.Ytjdindfjfpdikab
