import Derived.Test.YtjdindfjfpdikaaGreatB03
import Derived.Test.YtjdindfjfpdikaaGreatPre
set_option maxRecDepth 100000
set_option maxHeartbeats 8000000
namespace Go.Proofs.YtjdindfjfpdikaaGreat
section
open Go.RowKit
section
variable {w:World}{rb:Nat}{V:RVs}{x7 x8 x9 x10 x11:Value}{R:RSt}
theorem ZiT (h:RefAt w rb V x7 x8 x9 x10 x11 R)(id o n:Int)(hl:R.t0.length<4)(h0:0≤id)(h1:id≤99)(hat:atOf id R.t0<0) :
  Calls Tryz.prog 34 #[.pointer (some ⟨rb,0,none⟩),.int .i64 0,.agg #[.int .i64 id,.int .i64 o,.int .i64 n]] w fun e w'=>e=.returned (.int .i64 0)∧∃ V',RefAt w' rb V' x7 x8 x9 x10 x11 { R with t0:=R.t0 ++ [(id,o,n)] }∧Only (foot rb V) w w'∧(∀ b∈V'.blocks,b∈V.blocks∨w.heap.size≤b):=by
 have hp1:=h.alloc (.cells #[.int .i64 id,.int .i64 o,.int .i64 n] 76)
 have hb1:Below w.heap.size w (w.alloc (.cells #[.int .i64 id,.int .i64 o,.int .i64 n] 76)):=(Jd _ _).alloc (Jb _) _
 have A1:=hid (Zap _ rb 0 V.v0 R.t0 id (by decide) hp1.c0 hp1.r0 (by omega))
 generalize atOf id R.t0=q at A1 hat
 have hqb:decide (0≤q)=false:=by simpa using hat
 have hid0:decide (id<0)=false:=by simp; omega
 have hid1:decide (99<id)=false:=by simp; omega
 obtain ⟨pp,cap,hv⟩:=Zah h.r0
 have c0:=h.c0
 have hrb:=h.lt
 rw [hv] at c0
 have hlb:decide ((4:Int)≤(R.t0.length:Int))=false:=by simp; omega
 go_enter Tryz.func34,Tryz.ntmps34
 go_wp2_with fail
 refine A1.out.mono ?_
 rintro e w2 ⟨rfl,rfl⟩
 go_wp2_with fail
 go_quiet ((go_at_call 63; exact Calls.quiet_of_same (Zls _)))
 go_wp2_with fail
 have hp2:=hp1.drewN nq
 have hb2:Below w.heap.size w ((w.alloc (.cells #[.int .i64 id,.int .i64 o,.int .i64 n] 76)).drewN nq):=⟨hb1.os,hb1.tape,hb1.output,hb1.size,hb1.block⟩
 have k0:((w.alloc (.cells #[.int .i64 id,.int .i64 o,.int .i64 n] 76)).drewN nq).cell? ⟨w.heap.size,0,none⟩=some (.int .i64 id):=by show (w.alloc _).cell? _=_; rw [World.cell?_alloc_at _ _ _ _ rfl]; rfl
 have k1:((w.alloc (.cells #[.int .i64 id,.int .i64 o,.int .i64 n] 76)).drewN nq).cell? ⟨w.heap.size,1,none⟩=some (.int .i64 o):=by show (w.alloc _).cell? _=_; rw [World.cell?_alloc_at _ _ _ _ rfl]; rfl
 have k2:((w.alloc (.cells #[.int .i64 id,.int .i64 o,.int .i64 n] 76)).drewN nq).cell? ⟨w.heap.size,2,none⟩=some (.int .i64 n):=by show (w.alloc _).cell? _=_; rw [World.cell?_alloc_at _ _ _ _ rfl]; rfl
 have hz:w.heap.size<((w.alloc (.cells #[.int .i64 id,.int .i64 o,.int .i64 n] 76)).drewN nq).heap.size:=by simp [World.drewN]
 clear A1 hp1 hb1 c0 h
 generalize (w.alloc (.cells #[.int .i64 id,.int .i64 o,.int .i64 n] 76)).drewN nq=W2 at hp2 hb2 k0 k1 k2 hz ⊢
 have c0:=hp2.c0
 have hrb2:=hp2.lt
 obtain ⟨i0,hi,hz0,hz1,hz2⟩:=info_parts Zcd
 go_cut [82] (fun _ wx=>∃ V',RefAt wx rb V' x7 x8 x9 x10 x11 { R with t0:=R.t0 ++ [(id,o,n)] }∧Only (foot rb V) w wx∧(∀ b∈V'.blocks,b∈V.blocks∨w.heap.size≤b))
 case first =>
  have hp3:=(hp2.alloc (.cells #[.int .i64 id,.int .i64 o,.int .i64 n] 76)).drew
  have hO3:Only (foot rb V) w (W2.alloc (.cells #[.int .i64 id,.int .i64 o,.int .i64 n] 76)).drew:=(Only.of_below (Zai hb2 ((Jd _ _).alloc (Jb _) _))).drew
  rw [hv] at c0
  go_region_law (refine Zbs rfl _ _ 41 rfl 0 76 i0 (.agg #[.int .i64 0,.int .i64 0,.int .i64 0]) 3 24 Tryz.underlying41 hi hz0 hz1 hz2 rfl (by decide) _ _ _ hv.symm hp3.r0 ⟨W2.heap.size,0,none⟩ 1 1 [.int .i64 id,.int .i64 o,.int .i64 n] rfl rfl (Zlv _ _ _ _ _) (by intro u hu; simp at hu; rcases hu with rfl | rfl | rfl <;> rfl) (by unfold maxLen; omega) (by omega) (Jq _) ?_; intro u w3 hrow hg hloc; obtain ⟨pu,cu,rfl⟩:=Zae hrow; have q0:=(hp3.kept hg 0 (fun e=>hp3.ne (Zab.2 (by simp [e])))).1.trans hp3.c0; have q1:=(hp3.kept hg 0 (fun e=>hp3.ne (Zab.2 (by simp [e])))).2)
  all_goals go_wp2_with fail
  all_goals go_meet
  all_goals
   have hs:=hp3.set_t0 hg (u:=.slice pu (R.t0.length+1) cu) (ys:=R.t0 ++ [(id,o,n)]) (by unfold RowAt; simpa [cellsT] using hrow) (hloc.imp_right (fun e m hm=>by rw [e] at hm; cases hm; exact Jb _))
   exact ⟨_,hs.1,hO3.trans hs.2.1,fun b hb=>(hs.2.2 b hb).imp_right (fun hh=>Nat.le_trans hO3.size hh)⟩
 case rest =>
  obtain ⟨V',hq⟩:=hcut
  go_wp2
  go_ret
  exact ⟨rfl,V',hq⟩
theorem ZiV (h:RefAt w rb V x7 x8 x9 x10 x11 R)(id o n:Int)(hl:R.t1.length<8)(h0:0≤id)(h1:id≤99)(hat:atOf id R.t1<0)(hnd:0≤atOf o R.t0)(hn0:1≤n)(hn1:n≤4)(hln:R.t0.length≤1000) :
  Calls Tryz.prog 34 #[.pointer (some ⟨rb,0,none⟩),.int .i64 1,.agg #[.int .i64 id,.int .i64 o,.int .i64 n]] w fun e w'=>e=.returned (.int .i64 0)∧∃ V',RefAt w' rb V' x7 x8 x9 x10 x11 { R with t1:=R.t1 ++ [(id,o,n)] }∧Only (foot rb V) w w'∧(∀ b∈V'.blocks,b∈V.blocks∨w.heap.size≤b):=by
 have hp1:=h.alloc (.cells #[.int .i64 id,.int .i64 o,.int .i64 n] 76)
 have hb1:Below w.heap.size w (w.alloc (.cells #[.int .i64 id,.int .i64 o,.int .i64 n] 76)):=(Jd _ _).alloc (Jb _) _
 have A1:=hid (Zap _ rb 1 V.v1 R.t1 id (by decide) hp1.c1 hp1.r1 (by omega))
 have A2:=hid (Zap _ rb 0 V.v0 R.t0 o (by decide) hp1.c0 hp1.r0 hln)
 generalize atOf o R.t0=q2 at A2 hnd
 have hq2:decide (q2<0)=false:=by simp; omega
 generalize atOf id R.t1=q at A1 hat
 have hqb:decide (0≤q)=false:=by simpa using hat
 have hid0:decide (id<0)=false:=by simp; omega
 have hid1:decide (99<id)=false:=by simp; omega
 have hnb0:decide (n<1)=false:=by simp; omega
 have hnb1:decide (4<n)=false:=by simp; omega
 obtain ⟨pp,cap,hv⟩:=Zah h.r1
 have c0:=h.c1
 have hrb:=h.lt
 rw [hv] at c0
 have hlb:decide ((8:Int)≤(R.t1.length:Int))=false:=by simp; omega
 go_enter Tryz.func34,Tryz.ntmps34
 go_wp2_with fail
 refine A1.out.mono ?_
 rintro e w2 ⟨rfl,rfl⟩
 go_wp2_with fail
 refine A2.out.mono ?_
 rintro e w2 ⟨rfl,rfl⟩
 go_wp2_with fail
 go_quiet ((go_at_call 63; exact Calls.quiet_of_same (ZhP _)))
 go_wp2_with fail
 have hp2:=hp1.drewN nq
 have hb2:Below w.heap.size w ((w.alloc (.cells #[.int .i64 id,.int .i64 o,.int .i64 n] 76)).drewN nq):=⟨hb1.os,hb1.tape,hb1.output,hb1.size,hb1.block⟩
 have k0:((w.alloc (.cells #[.int .i64 id,.int .i64 o,.int .i64 n] 76)).drewN nq).cell? ⟨w.heap.size,0,none⟩=some (.int .i64 id):=by show (w.alloc _).cell? _=_; rw [World.cell?_alloc_at _ _ _ _ rfl]; rfl
 have k1:((w.alloc (.cells #[.int .i64 id,.int .i64 o,.int .i64 n] 76)).drewN nq).cell? ⟨w.heap.size,1,none⟩=some (.int .i64 o):=by show (w.alloc _).cell? _=_; rw [World.cell?_alloc_at _ _ _ _ rfl]; rfl
 have k2:((w.alloc (.cells #[.int .i64 id,.int .i64 o,.int .i64 n] 76)).drewN nq).cell? ⟨w.heap.size,2,none⟩=some (.int .i64 n):=by show (w.alloc _).cell? _=_; rw [World.cell?_alloc_at _ _ _ _ rfl]; rfl
 have hz:w.heap.size<((w.alloc (.cells #[.int .i64 id,.int .i64 o,.int .i64 n] 76)).drewN nq).heap.size:=by simp [World.drewN]
 clear A1 A2 hp1 hb1 c0 h
 generalize (w.alloc (.cells #[.int .i64 id,.int .i64 o,.int .i64 n] 76)).drewN nq=W2 at hp2 hb2 k0 k1 k2 hz ⊢
 have c0:=hp2.c1
 have hrb2:=hp2.lt
 obtain ⟨i0,hi,hz0,hz1,hz2⟩:=info_parts Zcd
 go_cut [82] (fun _ wx=>∃ V',RefAt wx rb V' x7 x8 x9 x10 x11 { R with t1:=R.t1 ++ [(id,o,n)] }∧Only (foot rb V) w wx∧(∀ b∈V'.blocks,b∈V.blocks∨w.heap.size≤b))
 case first =>
  have hp3:=(hp2.alloc (.cells #[.int .i64 id,.int .i64 o,.int .i64 n] 76)).drew
  have hO3:Only (foot rb V) w (W2.alloc (.cells #[.int .i64 id,.int .i64 o,.int .i64 n] 76)).drew:=(Only.of_below (Zai hb2 ((Jd _ _).alloc (Jb _) _))).drew
  rw [hv] at c0
  go_region_law (refine Zbs rfl _ _ 41 rfl 0 76 i0 (.agg #[.int .i64 0,.int .i64 0,.int .i64 0]) 3 24 Tryz.underlying41 hi hz0 hz1 hz2 rfl (by decide) _ _ _ hv.symm hp3.r1 ⟨W2.heap.size,0,none⟩ 1 1 [.int .i64 id,.int .i64 o,.int .i64 n] rfl rfl (Zlv _ _ _ _ _) (by intro u hu; simp at hu; rcases hu with rfl | rfl | rfl <;> rfl) (by unfold maxLen; omega) (by omega) (Jq _) ?_; intro u w3 hrow hg hloc; obtain ⟨pu,cu,rfl⟩:=Zae hrow; have q0:=(hp3.kept hg 1 (fun e=>hp3.ne (Zab.2 (by simp [e])))).1.trans hp3.c1; have q1:=(hp3.kept hg 1 (fun e=>hp3.ne (Zab.2 (by simp [e])))).2)
  all_goals go_wp2_with fail
  all_goals go_meet
  all_goals
   have hs:=hp3.set_t1 hg (u:=.slice pu (R.t1.length+1) cu) (ys:=R.t1 ++ [(id,o,n)]) (by unfold RowAt; simpa [cellsT] using hrow) (hloc.imp_right (fun e m hm=>by rw [e] at hm; cases hm; exact Jb _))
   exact ⟨_,hs.1,hO3.trans hs.2.1,fun b hb=>(hs.2.2 b hb).imp_right (fun hh=>Nat.le_trans hO3.size hh)⟩
 case rest =>
  obtain ⟨V',hq⟩:=hcut
  go_wp2
  go_ret
  exact ⟨rfl,V',hq⟩
theorem ZiX (h:RefAt w rb V x7 x8 x9 x10 x11 R)(id o n:Int)(hl:R.t2.length<4)(h0:0≤id)(h1:id≤99)(hat:atOf id R.t2<0)(hn0:0≤n)(hn1:n≤1000) :
  Calls Tryz.prog 34 #[.pointer (some ⟨rb,0,none⟩),.int .i64 2,.agg #[.int .i64 id,.int .i64 o,.int .i64 n]] w fun e w'=>e=.returned (.int .i64 0)∧∃ V',RefAt w' rb V' x7 x8 x9 x10 x11 { R with t2:=R.t2 ++ [(id,o,n)] }∧Only (foot rb V) w w'∧(∀ b∈V'.blocks,b∈V.blocks∨w.heap.size≤b):=by
 have hp1:=h.alloc (.cells #[.int .i64 id,.int .i64 o,.int .i64 n] 76)
 have hb1:Below w.heap.size w (w.alloc (.cells #[.int .i64 id,.int .i64 o,.int .i64 n] 76)):=(Jd _ _).alloc (Jb _) _
 have A1:=hid (Zap _ rb 2 V.v2 R.t2 id (by decide) hp1.c2 hp1.r2 (by omega))
 generalize atOf id R.t2=q at A1 hat
 have hqb:decide (0≤q)=false:=by simpa using hat
 have hid0:decide (id<0)=false:=by simp; omega
 have hid1:decide (99<id)=false:=by simp; omega
 have hnb0:decide (n<0)=false:=by simp; omega
 have hnb1:decide (1000<n)=false:=by simp; omega
 obtain ⟨pp,cap,hv⟩:=Zah h.r2
 have c0:=h.c2
 have hrb:=h.lt
 rw [hv] at c0
 have hlb:decide ((4:Int)≤(R.t2.length:Int))=false:=by simp; omega
 go_enter Tryz.func34,Tryz.ntmps34
 go_wp2_with fail
 refine A1.out.mono ?_
 rintro e w2 ⟨rfl,rfl⟩
 go_wp2_with fail
 go_quiet ((go_at_call 63; exact Calls.quiet_of_same (Zi2 _)))
 go_wp2_with fail
 have hp2:=hp1.drewN nq
 have hb2:Below w.heap.size w ((w.alloc (.cells #[.int .i64 id,.int .i64 o,.int .i64 n] 76)).drewN nq):=⟨hb1.os,hb1.tape,hb1.output,hb1.size,hb1.block⟩
 have k0:((w.alloc (.cells #[.int .i64 id,.int .i64 o,.int .i64 n] 76)).drewN nq).cell? ⟨w.heap.size,0,none⟩=some (.int .i64 id):=by show (w.alloc _).cell? _=_; rw [World.cell?_alloc_at _ _ _ _ rfl]; rfl
 have k1:((w.alloc (.cells #[.int .i64 id,.int .i64 o,.int .i64 n] 76)).drewN nq).cell? ⟨w.heap.size,1,none⟩=some (.int .i64 o):=by show (w.alloc _).cell? _=_; rw [World.cell?_alloc_at _ _ _ _ rfl]; rfl
 have k2:((w.alloc (.cells #[.int .i64 id,.int .i64 o,.int .i64 n] 76)).drewN nq).cell? ⟨w.heap.size,2,none⟩=some (.int .i64 n):=by show (w.alloc _).cell? _=_; rw [World.cell?_alloc_at _ _ _ _ rfl]; rfl
 have hz:w.heap.size<((w.alloc (.cells #[.int .i64 id,.int .i64 o,.int .i64 n] 76)).drewN nq).heap.size:=by simp [World.drewN]
 clear A1 hp1 hb1 c0 h
 generalize (w.alloc (.cells #[.int .i64 id,.int .i64 o,.int .i64 n] 76)).drewN nq=W2 at hp2 hb2 k0 k1 k2 hz ⊢
 have c0:=hp2.c2
 have hrb2:=hp2.lt
 obtain ⟨i0,hi,hz0,hz1,hz2⟩:=info_parts Zcd
 go_cut [82] (fun _ wx=>∃ V',RefAt wx rb V' x7 x8 x9 x10 x11 { R with t2:=R.t2 ++ [(id,o,n)] }∧Only (foot rb V) w wx∧(∀ b∈V'.blocks,b∈V.blocks∨w.heap.size≤b))
 case first =>
  have hp3:=(hp2.alloc (.cells #[.int .i64 id,.int .i64 o,.int .i64 n] 76)).drew
  have hO3:Only (foot rb V) w (W2.alloc (.cells #[.int .i64 id,.int .i64 o,.int .i64 n] 76)).drew:=(Only.of_below (Zai hb2 ((Jd _ _).alloc (Jb _) _))).drew
  rw [hv] at c0
  go_region_law (refine Zbs rfl _ _ 41 rfl 0 76 i0 (.agg #[.int .i64 0,.int .i64 0,.int .i64 0]) 3 24 Tryz.underlying41 hi hz0 hz1 hz2 rfl (by decide) _ _ _ hv.symm hp3.r2 ⟨W2.heap.size,0,none⟩ 1 1 [.int .i64 id,.int .i64 o,.int .i64 n] rfl rfl (Zlv _ _ _ _ _) (by intro u hu; simp at hu; rcases hu with rfl | rfl | rfl <;> rfl) (by unfold maxLen; omega) (by omega) (Jq _) ?_; intro u w3 hrow hg hloc; obtain ⟨pu,cu,rfl⟩:=Zae hrow; have q0:=(hp3.kept hg 2 (fun e=>hp3.ne (Zab.2 (by simp [e])))).1.trans hp3.c2; have q1:=(hp3.kept hg 2 (fun e=>hp3.ne (Zab.2 (by simp [e])))).2)
  all_goals go_wp2_with fail
  all_goals go_meet
  all_goals
   have hs:=hp3.set_t2 hg (u:=.slice pu (R.t2.length+1) cu) (ys:=R.t2 ++ [(id,o,n)]) (by unfold RowAt; simpa [cellsT] using hrow) (hloc.imp_right (fun e m hm=>by rw [e] at hm; cases hm; exact Jb _))
   exact ⟨_,hs.1,hO3.trans hs.2.1,fun b hb=>(hs.2.2 b hb).imp_right (fun hh=>Nat.le_trans hO3.size hh)⟩
 case rest =>
  obtain ⟨V',hq⟩:=hcut
  go_wp2
  go_ret
  exact ⟨rfl,V',hq⟩
end
end
section
open Go.RowKit
section
variable {w:World}{rb:Nat}{V:RVs}{x7 x8 x9 x10 x11:Value}{R:RSt}
theorem ZiS (h:RefAt w rb V x7 x8 x9 x10 x11 R)(id o n:Int)(hl:R.t0.length≤1000)(hne:makeOf (atOf id R.t0) R.t0.length 4 0 n 0 1000 false id≠0) :
  Calls Tryz.prog 34 #[.pointer (some ⟨rb,0,none⟩),.int .i64 0,.agg #[.int .i64 id,.int .i64 o,.int .i64 n]] w fun e w'=>e=.returned (.int .i64 (makeOf (atOf id R.t0) R.t0.length 4 0 n 0 1000 false id))∧Below w.heap.size w w':=by
 have hp1:=h.alloc (.cells #[.int .i64 id,.int .i64 o,.int .i64 n] 76)
 have hb1:Below w.heap.size w (w.alloc (.cells #[.int .i64 id,.int .i64 o,.int .i64 n] 76)):=(Jd _ _).alloc (Jb _) _
 have A1:=hid (Zap _ rb 0 V.v0 R.t0 id (by decide) hp1.c0 hp1.r0 hl)
 generalize atOf id R.t0=q at A1 hne ⊢
 obtain ⟨pp,cap,hv⟩:=Zah h.r0
 have c0:=h.c0
 have hrb:=h.lt
 rw [hv] at c0
 clear hp1 h
 by_cases c1:id<0
 ·have e1:makeOf q R.t0.length 4 0 n 0 1000 false id=1:=by simp [makeOf,c1]
  rw [e1]
  clear e1 hne
  go_enter Tryz.func34,Tryz.ntmps34
  go_wp2_with fail
  refine A1.out.mono ?_
  rintro e w2 ⟨rfl,rfl⟩
  go_wp2
  go_ret
  exact ⟨rfl,hb1⟩
 by_cases c2:99<id
 ·have e1:makeOf q R.t0.length 4 0 n 0 1000 false id=1:=by simp [makeOf,c2]
  have d1:decide (id<0)=false:=by simpa using c1
  rw [e1]
  clear e1 hne
  go_enter Tryz.func34,Tryz.ntmps34
  go_wp2_with fail
  refine A1.out.mono ?_
  rintro e w2 ⟨rfl,rfl⟩
  go_wp2
  go_ret
  exact ⟨rfl,hb1⟩
 have d1:decide (id<0)=false:=by simpa using c1
 have d2:decide (99<id)=false:=by simpa using c2
 have cc:¬ (id<0∨99<id):=by omega
 by_cases c3:0≤q
 ·have e1:makeOf q R.t0.length 4 0 n 0 1000 false id=2:=by unfold makeOf; rw [if_neg cc,if_pos c3]
  rw [e1]
  clear e1 hne
  go_enter Tryz.func34,Tryz.ntmps34
  go_wp2_with fail
  refine A1.out.mono ?_
  rintro e w2 ⟨rfl,rfl⟩
  go_wp2
  go_ret
  exact ⟨rfl,hb1⟩
 have d3:decide (0≤q)=false:=by simpa using c3
 by_cases c4:(4:Int)≤R.t0.length
 ·have e1:makeOf q R.t0.length 4 0 n 0 1000 false id=3:=by unfold makeOf; rw [if_neg cc,if_neg c3,if_pos c4]
  rw [e1]
  clear e1 hne
  go_enter Tryz.func34,Tryz.ntmps34
  go_wp2_with fail
  refine A1.out.mono ?_
  rintro e w2 ⟨rfl,rfl⟩
  go_wp2_with fail
  go_quiet ((go_at_call 63; exact Calls.quiet_of_same (Zls _)))
  go_wp2
  go_ret
  exact ⟨rfl,⟨hb1.os,hb1.tape,hb1.output,hb1.size,hb1.block⟩⟩
 have d4:decide ((4:Int)≤(R.t0.length:Int))=false:=by simpa using c4
 exact absurd (by unfold makeOf; rw [if_neg cc,if_neg c3,if_neg c4,if_neg (by decide),if_neg (by simp)]) hne
theorem ZiU (h:RefAt w rb V x7 x8 x9 x10 x11 R)(id o n:Int)(hl:R.t1.length≤1000)(hln:R.t0.length≤1000)(hne:makeOf (atOf id R.t1) R.t1.length 8 (atOf o R.t0) n 1 4 true id≠0) :
  Calls Tryz.prog 34 #[.pointer (some ⟨rb,0,none⟩),.int .i64 1,.agg #[.int .i64 id,.int .i64 o,.int .i64 n]] w fun e w'=>e=.returned (.int .i64 (makeOf (atOf id R.t1) R.t1.length 8 (atOf o R.t0) n 1 4 true id))∧Below w.heap.size w w':=by
 have hp1:=h.alloc (.cells #[.int .i64 id,.int .i64 o,.int .i64 n] 76)
 have hb1:Below w.heap.size w (w.alloc (.cells #[.int .i64 id,.int .i64 o,.int .i64 n] 76)):=(Jd _ _).alloc (Jb _) _
 have A1:=hid (Zap _ rb 1 V.v1 R.t1 id (by decide) hp1.c1 hp1.r1 hl)
 have A2:=hid (Zap _ rb 0 V.v0 R.t0 o (by decide) hp1.c0 hp1.r0 hln)
 generalize atOf o R.t0=q2 at A2 hne ⊢
 generalize atOf id R.t1=q at A1 hne ⊢
 obtain ⟨pp,cap,hv⟩:=Zah h.r1
 have c0:=h.c1
 have hrb:=h.lt
 rw [hv] at c0
 clear hp1 h
 by_cases c1:id<0
 ·have e1:makeOf q R.t1.length 8 q2 n 1 4 true id=1:=by simp [makeOf,c1]
  rw [e1]
  clear e1 hne
  go_enter Tryz.func34,Tryz.ntmps34
  go_wp2_with fail
  refine A1.out.mono ?_
  rintro e w2 ⟨rfl,rfl⟩
  go_wp2_with fail
  refine A2.out.mono ?_
  rintro e w2 ⟨rfl,rfl⟩
  go_wp2
  go_ret
  exact ⟨rfl,hb1⟩
 by_cases c2:99<id
 ·have e1:makeOf q R.t1.length 8 q2 n 1 4 true id=1:=by simp [makeOf,c2]
  have d1:decide (id<0)=false:=by simpa using c1
  rw [e1]
  clear e1 hne
  go_enter Tryz.func34,Tryz.ntmps34
  go_wp2_with fail
  refine A1.out.mono ?_
  rintro e w2 ⟨rfl,rfl⟩
  go_wp2_with fail
  refine A2.out.mono ?_
  rintro e w2 ⟨rfl,rfl⟩
  go_wp2
  go_ret
  exact ⟨rfl,hb1⟩
 have d1:decide (id<0)=false:=by simpa using c1
 have d2:decide (99<id)=false:=by simpa using c2
 have cc:¬ (id<0∨99<id):=by omega
 by_cases c3:0≤q
 ·have e1:makeOf q R.t1.length 8 q2 n 1 4 true id=2:=by unfold makeOf; rw [if_neg cc,if_pos c3]
  rw [e1]
  clear e1 hne
  go_enter Tryz.func34,Tryz.ntmps34
  go_wp2_with fail
  refine A1.out.mono ?_
  rintro e w2 ⟨rfl,rfl⟩
  go_wp2_with fail
  refine A2.out.mono ?_
  rintro e w2 ⟨rfl,rfl⟩
  go_wp2
  go_ret
  exact ⟨rfl,hb1⟩
 have d3:decide (0≤q)=false:=by simpa using c3
 by_cases c4:(8:Int)≤R.t1.length
 ·have e1:makeOf q R.t1.length 8 q2 n 1 4 true id=3:=by unfold makeOf; rw [if_neg cc,if_neg c3,if_pos c4]
  rw [e1]
  clear e1 hne
  go_enter Tryz.func34,Tryz.ntmps34
  go_wp2_with fail
  refine A1.out.mono ?_
  rintro e w2 ⟨rfl,rfl⟩
  go_wp2_with fail
  refine A2.out.mono ?_
  rintro e w2 ⟨rfl,rfl⟩
  go_wp2_with fail
  go_quiet ((go_at_call 63; exact Calls.quiet_of_same (ZhP _)))
  go_wp2
  go_ret
  exact ⟨rfl,⟨hb1.os,hb1.tape,hb1.output,hb1.size,hb1.block⟩⟩
 have d4:decide ((8:Int)≤(R.t1.length:Int))=false:=by simpa using c4
 by_cases c5:q2<0
 ·have e1:makeOf q R.t1.length 8 q2 n 1 4 true id=4:=by unfold makeOf; rw [if_neg cc,if_neg c3,if_neg c4,if_pos c5]
  rw [e1]
  clear e1 hne
  go_enter Tryz.func34,Tryz.ntmps34
  go_wp2_with fail
  refine A1.out.mono ?_
  rintro e w2 ⟨rfl,rfl⟩
  go_wp2_with fail
  refine A2.out.mono ?_
  rintro e w2 ⟨rfl,rfl⟩
  go_wp2_with fail
  go_quiet ((go_at_call 63; exact Calls.quiet_of_same (ZhP _)))
  go_wp2
  go_ret
  exact ⟨rfl,⟨hb1.os,hb1.tape,hb1.output,hb1.size,hb1.block⟩⟩
 have d5:decide (q2<0)=false:=by simpa using c5
 by_cases c6:n<1
 ·have e1:makeOf q R.t1.length 8 q2 n 1 4 true id=5:=by unfold makeOf; rw [if_neg cc,if_neg c3,if_neg c4,if_neg c5,if_pos ⟨rfl,Jr c6⟩]
  rw [e1]
  clear e1 hne
  go_enter Tryz.func34,Tryz.ntmps34
  go_wp2_with fail
  refine A1.out.mono ?_
  rintro e w2 ⟨rfl,rfl⟩
  go_wp2_with fail
  refine A2.out.mono ?_
  rintro e w2 ⟨rfl,rfl⟩
  go_wp2_with fail
  go_quiet ((go_at_call 63; exact Calls.quiet_of_same (ZhP _)))
  go_wp2
  go_ret
  exact ⟨rfl,⟨hb1.os,hb1.tape,hb1.output,hb1.size,hb1.block⟩⟩
 have d6:decide (n<1)=false:=by simpa using c6
 by_cases c7:4<n
 ·have e1:makeOf q R.t1.length 8 q2 n 1 4 true id=5:=by unfold makeOf; rw [if_neg cc,if_neg c3,if_neg c4,if_neg c5,if_pos ⟨rfl,Js c7⟩]
  rw [e1]
  clear e1 hne
  go_enter Tryz.func34,Tryz.ntmps34
  go_wp2_with fail
  refine A1.out.mono ?_
  rintro e w2 ⟨rfl,rfl⟩
  go_wp2_with fail
  refine A2.out.mono ?_
  rintro e w2 ⟨rfl,rfl⟩
  go_wp2_with fail
  go_quiet ((go_at_call 63; exact Calls.quiet_of_same (ZhP _)))
  go_wp2
  go_ret
  exact ⟨rfl,⟨hb1.os,hb1.tape,hb1.output,hb1.size,hb1.block⟩⟩
 exact absurd (by unfold makeOf; rw [if_neg cc,if_neg c3,if_neg c4,if_neg c5,if_neg (by omega)]) hne
theorem ZiW (h:RefAt w rb V x7 x8 x9 x10 x11 R)(id o n:Int)(hl:R.t2.length≤1000)(hne:makeOf (atOf id R.t2) R.t2.length 4 0 n 0 1000 true id≠0) :
  Calls Tryz.prog 34 #[.pointer (some ⟨rb,0,none⟩),.int .i64 2,.agg #[.int .i64 id,.int .i64 o,.int .i64 n]] w fun e w'=>e=.returned (.int .i64 (makeOf (atOf id R.t2) R.t2.length 4 0 n 0 1000 true id))∧Below w.heap.size w w':=by
 have hp1:=h.alloc (.cells #[.int .i64 id,.int .i64 o,.int .i64 n] 76)
 have hb1:Below w.heap.size w (w.alloc (.cells #[.int .i64 id,.int .i64 o,.int .i64 n] 76)):=(Jd _ _).alloc (Jb _) _
 have A1:=hid (Zap _ rb 2 V.v2 R.t2 id (by decide) hp1.c2 hp1.r2 hl)
 generalize atOf id R.t2=q at A1 hne ⊢
 obtain ⟨pp,cap,hv⟩:=Zah h.r2
 have c0:=h.c2
 have hrb:=h.lt
 rw [hv] at c0
 clear hp1 h
 by_cases c1:id<0
 ·have e1:makeOf q R.t2.length 4 0 n 0 1000 true id=1:=by simp [makeOf,c1]
  rw [e1]
  clear e1 hne
  go_enter Tryz.func34,Tryz.ntmps34
  go_wp2_with fail
  refine A1.out.mono ?_
  rintro e w2 ⟨rfl,rfl⟩
  go_wp2
  go_ret
  exact ⟨rfl,hb1⟩
 by_cases c2:99<id
 ·have e1:makeOf q R.t2.length 4 0 n 0 1000 true id=1:=by simp [makeOf,c2]
  have d1:decide (id<0)=false:=by simpa using c1
  rw [e1]
  clear e1 hne
  go_enter Tryz.func34,Tryz.ntmps34
  go_wp2_with fail
  refine A1.out.mono ?_
  rintro e w2 ⟨rfl,rfl⟩
  go_wp2
  go_ret
  exact ⟨rfl,hb1⟩
 have d1:decide (id<0)=false:=by simpa using c1
 have d2:decide (99<id)=false:=by simpa using c2
 have cc:¬ (id<0∨99<id):=by omega
 by_cases c3:0≤q
 ·have e1:makeOf q R.t2.length 4 0 n 0 1000 true id=2:=by unfold makeOf; rw [if_neg cc,if_pos c3]
  rw [e1]
  clear e1 hne
  go_enter Tryz.func34,Tryz.ntmps34
  go_wp2_with fail
  refine A1.out.mono ?_
  rintro e w2 ⟨rfl,rfl⟩
  go_wp2
  go_ret
  exact ⟨rfl,hb1⟩
 have d3:decide (0≤q)=false:=by simpa using c3
 by_cases c4:(4:Int)≤R.t2.length
 ·have e1:makeOf q R.t2.length 4 0 n 0 1000 true id=3:=by unfold makeOf; rw [if_neg cc,if_neg c3,if_pos c4]
  rw [e1]
  clear e1 hne
  go_enter Tryz.func34,Tryz.ntmps34
  go_wp2_with fail
  refine A1.out.mono ?_
  rintro e w2 ⟨rfl,rfl⟩
  go_wp2_with fail
  go_quiet ((go_at_call 63; exact Calls.quiet_of_same (Zi2 _)))
  go_wp2
  go_ret
  exact ⟨rfl,⟨hb1.os,hb1.tape,hb1.output,hb1.size,hb1.block⟩⟩
 have d4:decide ((4:Int)≤(R.t2.length:Int))=false:=by simpa using c4
 by_cases c6:n<0
 ·have e1:makeOf q R.t2.length 4 0 n 0 1000 true id=5:=by unfold makeOf; rw [if_neg cc,if_neg c3,if_neg c4,if_neg (by decide),if_pos ⟨rfl,Jr c6⟩]
  rw [e1]
  clear e1 hne
  go_enter Tryz.func34,Tryz.ntmps34
  go_wp2_with fail
  refine A1.out.mono ?_
  rintro e w2 ⟨rfl,rfl⟩
  go_wp2_with fail
  go_quiet ((go_at_call 63; exact Calls.quiet_of_same (Zi2 _)))
  go_wp2
  go_ret
  exact ⟨rfl,⟨hb1.os,hb1.tape,hb1.output,hb1.size,hb1.block⟩⟩
 have d6:decide (n<0)=false:=by simpa using c6
 by_cases c7:1000<n
 ·have e1:makeOf q R.t2.length 4 0 n 0 1000 true id=5:=by unfold makeOf; rw [if_neg cc,if_neg c3,if_neg c4,if_neg (by decide),if_pos ⟨rfl,Js c7⟩]
  rw [e1]
  clear e1 hne
  go_enter Tryz.func34,Tryz.ntmps34
  go_wp2_with fail
  refine A1.out.mono ?_
  rintro e w2 ⟨rfl,rfl⟩
  go_wp2_with fail
  go_quiet ((go_at_call 63; exact Calls.quiet_of_same (Zi2 _)))
  go_wp2
  go_ret
  exact ⟨rfl,⟨hb1.os,hb1.tape,hb1.output,hb1.size,hb1.block⟩⟩
 exact absurd (by unfold makeOf; rw [if_neg cc,if_neg c3,if_neg c4,if_neg (by decide),if_neg (by omega)]) hne
theorem ZiY (h:RefAt w rb V x7 x8 x9 x10 x11 R)(id o n:Int)(hl:R.t3.length≤1000)(hln:R.t2.length≤1000)(hne:makeOf (atOf id R.t3) R.t3.length 16 (atOf o R.t2) n 0 1000 true id≠0) :
  Calls Tryz.prog 34 #[.pointer (some ⟨rb,0,none⟩),.int .i64 3,.agg #[.int .i64 id,.int .i64 o,.int .i64 n]] w fun e w'=>e=.returned (.int .i64 (makeOf (atOf id R.t3) R.t3.length 16 (atOf o R.t2) n 0 1000 true id))∧Below w.heap.size w w':=by
 have hp1:=h.alloc (.cells #[.int .i64 id,.int .i64 o,.int .i64 n] 76)
 have hb1:Below w.heap.size w (w.alloc (.cells #[.int .i64 id,.int .i64 o,.int .i64 n] 76)):=(Jd _ _).alloc (Jb _) _
 have A1:=hid (Zap _ rb 3 V.v3 R.t3 id (by decide) hp1.c3 hp1.r3 hl)
 have A2:=hid (Zap _ rb 2 V.v2 R.t2 o (by decide) hp1.c2 hp1.r2 hln)
 generalize atOf o R.t2=q2 at A2 hne ⊢
 generalize atOf id R.t3=q at A1 hne ⊢
 obtain ⟨pp,cap,hv⟩:=Zah h.r3
 have c0:=h.c3
 have hrb:=h.lt
 rw [hv] at c0
 clear hp1 h
 by_cases c1:id<0
 ·have e1:makeOf q R.t3.length 16 q2 n 0 1000 true id=1:=by simp [makeOf,c1]
  rw [e1]
  clear e1 hne
  go_enter Tryz.func34,Tryz.ntmps34
  go_wp2_with fail
  refine A1.out.mono ?_
  rintro e w2 ⟨rfl,rfl⟩
  go_wp2_with fail
  refine A2.out.mono ?_
  rintro e w2 ⟨rfl,rfl⟩
  go_wp2
  go_ret
  exact ⟨rfl,hb1⟩
 by_cases c2:99<id
 ·have e1:makeOf q R.t3.length 16 q2 n 0 1000 true id=1:=by simp [makeOf,c2]
  have d1:decide (id<0)=false:=by simpa using c1
  rw [e1]
  clear e1 hne
  go_enter Tryz.func34,Tryz.ntmps34
  go_wp2_with fail
  refine A1.out.mono ?_
  rintro e w2 ⟨rfl,rfl⟩
  go_wp2_with fail
  refine A2.out.mono ?_
  rintro e w2 ⟨rfl,rfl⟩
  go_wp2
  go_ret
  exact ⟨rfl,hb1⟩
 have d1:decide (id<0)=false:=by simpa using c1
 have d2:decide (99<id)=false:=by simpa using c2
 have cc:¬ (id<0∨99<id):=by omega
 by_cases c3:0≤q
 ·have e1:makeOf q R.t3.length 16 q2 n 0 1000 true id=2:=by unfold makeOf; rw [if_neg cc,if_pos c3]
  rw [e1]
  clear e1 hne
  go_enter Tryz.func34,Tryz.ntmps34
  go_wp2_with fail
  refine A1.out.mono ?_
  rintro e w2 ⟨rfl,rfl⟩
  go_wp2_with fail
  refine A2.out.mono ?_
  rintro e w2 ⟨rfl,rfl⟩
  go_wp2
  go_ret
  exact ⟨rfl,hb1⟩
 have d3:decide (0≤q)=false:=by simpa using c3
 by_cases c4:(16:Int)≤R.t3.length
 ·have e1:makeOf q R.t3.length 16 q2 n 0 1000 true id=3:=by unfold makeOf; rw [if_neg cc,if_neg c3,if_pos c4]
  rw [e1]
  clear e1 hne
  go_enter Tryz.func34,Tryz.ntmps34
  go_wp2_with fail
  refine A1.out.mono ?_
  rintro e w2 ⟨rfl,rfl⟩
  go_wp2_with fail
  refine A2.out.mono ?_
  rintro e w2 ⟨rfl,rfl⟩
  go_wp2_with fail
  go_quiet ((go_at_call 63; exact Calls.quiet_of_same (ZhQ _)))
  go_wp2
  go_ret
  exact ⟨rfl,⟨hb1.os,hb1.tape,hb1.output,hb1.size,hb1.block⟩⟩
 have d4:decide ((16:Int)≤(R.t3.length:Int))=false:=by simpa using c4
 by_cases c5:q2<0
 ·have e1:makeOf q R.t3.length 16 q2 n 0 1000 true id=4:=by unfold makeOf; rw [if_neg cc,if_neg c3,if_neg c4,if_pos c5]
  rw [e1]
  clear e1 hne
  go_enter Tryz.func34,Tryz.ntmps34
  go_wp2_with fail
  refine A1.out.mono ?_
  rintro e w2 ⟨rfl,rfl⟩
  go_wp2_with fail
  refine A2.out.mono ?_
  rintro e w2 ⟨rfl,rfl⟩
  go_wp2_with fail
  go_quiet ((go_at_call 63; exact Calls.quiet_of_same (ZhQ _)))
  go_wp2
  go_ret
  exact ⟨rfl,⟨hb1.os,hb1.tape,hb1.output,hb1.size,hb1.block⟩⟩
 have d5:decide (q2<0)=false:=by simpa using c5
 by_cases c6:n<0
 ·have e1:makeOf q R.t3.length 16 q2 n 0 1000 true id=5:=by unfold makeOf; rw [if_neg cc,if_neg c3,if_neg c4,if_neg c5,if_pos ⟨rfl,Jr c6⟩]
  rw [e1]
  clear e1 hne
  go_enter Tryz.func34,Tryz.ntmps34
  go_wp2_with fail
  refine A1.out.mono ?_
  rintro e w2 ⟨rfl,rfl⟩
  go_wp2_with fail
  refine A2.out.mono ?_
  rintro e w2 ⟨rfl,rfl⟩
  go_wp2_with fail
  go_quiet ((go_at_call 63; exact Calls.quiet_of_same (ZhQ _)))
  go_wp2
  go_ret
  exact ⟨rfl,⟨hb1.os,hb1.tape,hb1.output,hb1.size,hb1.block⟩⟩
 have d6:decide (n<0)=false:=by simpa using c6
 by_cases c7:1000<n
 ·have e1:makeOf q R.t3.length 16 q2 n 0 1000 true id=5:=by unfold makeOf; rw [if_neg cc,if_neg c3,if_neg c4,if_neg c5,if_pos ⟨rfl,Js c7⟩]
  rw [e1]
  clear e1 hne
  go_enter Tryz.func34,Tryz.ntmps34
  go_wp2_with fail
  refine A1.out.mono ?_
  rintro e w2 ⟨rfl,rfl⟩
  go_wp2_with fail
  refine A2.out.mono ?_
  rintro e w2 ⟨rfl,rfl⟩
  go_wp2_with fail
  go_quiet ((go_at_call 63; exact Calls.quiet_of_same (ZhQ _)))
  go_wp2
  go_ret
  exact ⟨rfl,⟨hb1.os,hb1.tape,hb1.output,hb1.size,hb1.block⟩⟩
 exact absurd (by unfold makeOf; rw [if_neg cc,if_neg c3,if_neg c4,if_neg c5,if_neg (by omega)]) hne
end
end
section
open Go.RowKit
section
variable {w:World}{rb:Nat}{V:RVs}{x7 x8 x9 x10 x11:Value}{R:RSt}
theorem Zk1 (h:RefAt w rb V x7 x8 x9 x10 x11 R)(t kd i c:Int)(hl3:R.t3.length≤1000)(hat:atOf t R.t3<0) :
  Calls Tryz.prog 35 #[.pointer (some ⟨rb,0,none⟩),.int .i64 t,.int .i64 kd,.int .i64 i,.int .i64 c] w fun e w'=>e=.returned (.int .i64 4)∧w'=w:=by
 have A1:=hid (Zap _ rb 3 V.v3 R.t3 t (by decide) h.c3 h.r3 hl3)
 generalize atOf t R.t3=q at A1 hat
 go_enter Tryz.func35,Tryz.ntmps35
 go_wp2_with fail
 refine A1.out.mono ?_
 rintro e w2 ⟨rfl,rfl⟩
 go_wp2
 go_ret
 exact ⟨rfl,rfl⟩
theorem Zk2 (h:RefAt w rb V x7 x8 x9 x10 x11 R)(t kd i c:Int)(hl3:R.t3.length≤1000)(hat:0≤atOf t R.t3)(h0:kd≠0)(h1:kd≠1) :
  Calls Tryz.prog 35 #[.pointer (some ⟨rb,0,none⟩),.int .i64 t,.int .i64 kd,.int .i64 i,.int .i64 c] w fun e w'=>e=.returned (.int .i64 7)∧w'=w:=by
 have A1:=hid (Zap _ rb 3 V.v3 R.t3 t (by decide) h.c3 h.r3 hl3)
 generalize atOf t R.t3=q at A1 hat
 have d1:decide (q<0)=false:=by simp; omega
 have d2:(kd != 0)=true:=by simpa using h0
 have d3:(kd != 1)=true:=by simpa using h1
 clear h0 h1
 go_enter Tryz.func35,Tryz.ntmps35
 go_wp2_with fail
 refine A1.out.mono ?_
 rintro e w2 ⟨rfl,rfl⟩
 go_wp2
 go_ret
 exact ⟨rfl,rfl⟩
theorem Zjp (h:RefAt w rb V x7 x8 x9 x10 x11 R)(t i c:Int)(hl3:R.t3.length≤1000)(hlk:R.t0.length≤1000)(hat:0≤atOf t R.t3)(hak:atOf i R.t0<0) :
  Calls Tryz.prog 35 #[.pointer (some ⟨rb,0,none⟩),.int .i64 t,.int .i64 0,.int .i64 i,.int .i64 c] w fun e w'=>e=.returned (.int .i64 4)∧w'=w:=by
 have A1:=hid (Zap _ rb 3 V.v3 R.t3 t (by decide) h.c3 h.r3 hl3)
 have A2:=hid (Zap _ rb 0 V.v0 R.t0 i (by decide) h.c0 h.r0 hlk)
 generalize atOf t R.t3=q at A1 hat
 generalize atOf i R.t0=q2 at A2 hak
 have d1:decide (q<0)=false:=by simp; omega
 go_enter Tryz.func35,Tryz.ntmps35
 go_wp2_with fail
 refine A1.out.mono ?_
 rintro e w2 ⟨rfl,rfl⟩
 go_wp2_with fail
 refine A2.out.mono ?_
 rintro e w2 ⟨rfl,rfl⟩
 go_wp2
 go_ret
 exact ⟨rfl,rfl⟩
theorem Zjq (h:RefAt w rb V x7 x8 x9 x10 x11 R)(t i c:Int)(hl3:R.t3.length≤1000)(hlk:R.t0.length≤1000)(hat:0≤atOf t R.t3)(hak:0≤atOf i R.t0)(hc:c<0∨1000<c) :
  Calls Tryz.prog 35 #[.pointer (some ⟨rb,0,none⟩),.int .i64 t,.int .i64 0,.int .i64 i,.int .i64 c] w fun e w'=>e=.returned (.int .i64 5)∧w'=w:=by
 have A1:=hid (Zap _ rb 3 V.v3 R.t3 t (by decide) h.c3 h.r3 hl3)
 have A2:=hid (Zap _ rb 0 V.v0 R.t0 i (by decide) h.c0 h.r0 hlk)
 generalize atOf t R.t3=q at A1 hat
 generalize atOf i R.t0=q2 at A2 hak
 have d1:decide (q<0)=false:=by simp; omega
 have d2:decide (q2<0)=false:=by simp; omega
 by_cases hc0:c<0
 ·clear hc
  go_enter Tryz.func35,Tryz.ntmps35
  go_wp2_with fail
  refine A1.out.mono ?_
  rintro e w2 ⟨rfl,rfl⟩
  go_wp2_with fail
  refine A2.out.mono ?_
  rintro e w2 ⟨rfl,rfl⟩
  go_wp2
  go_ret
  exact ⟨rfl,rfl⟩
 ·have d3:decide (c<0)=false:=by simpa using hc0
  have hc1:1000<c:=by omega
  clear hc
  go_enter Tryz.func35,Tryz.ntmps35
  go_wp2_with fail
  refine A1.out.mono ?_
  rintro e w2 ⟨rfl,rfl⟩
  go_wp2_with fail
  refine A2.out.mono ?_
  rintro e w2 ⟨rfl,rfl⟩
  go_wp2
  go_ret
  exact ⟨rfl,rfl⟩
theorem Zjr (h:RefAt w rb V x7 x8 x9 x10 x11 R)(t i c:Int)(hl3:R.t3.length≤1000)(hlk:R.t1.length≤1000)(hat:0≤atOf t R.t3)(hak:atOf i R.t1<0) :
  Calls Tryz.prog 35 #[.pointer (some ⟨rb,0,none⟩),.int .i64 t,.int .i64 1,.int .i64 i,.int .i64 c] w fun e w'=>e=.returned (.int .i64 4)∧w'=w:=by
 have A1:=hid (Zap _ rb 3 V.v3 R.t3 t (by decide) h.c3 h.r3 hl3)
 have A2:=hid (Zap _ rb 1 V.v1 R.t1 i (by decide) h.c1 h.r1 hlk)
 generalize atOf t R.t3=q at A1 hat
 generalize atOf i R.t1=q2 at A2 hak
 have d1:decide (q<0)=false:=by simp; omega
 go_enter Tryz.func35,Tryz.ntmps35
 go_wp2_with fail
 refine A1.out.mono ?_
 rintro e w2 ⟨rfl,rfl⟩
 go_wp2_with fail
 refine A2.out.mono ?_
 rintro e w2 ⟨rfl,rfl⟩
 go_wp2
 go_ret
 exact ⟨rfl,rfl⟩
theorem Zjs (h:RefAt w rb V x7 x8 x9 x10 x11 R)(t i c:Int)(hl3:R.t3.length≤1000)(hlk:R.t1.length≤1000)(hat:0≤atOf t R.t3)(hak:0≤atOf i R.t1)(hc:c<0∨1000<c) :
  Calls Tryz.prog 35 #[.pointer (some ⟨rb,0,none⟩),.int .i64 t,.int .i64 1,.int .i64 i,.int .i64 c] w fun e w'=>e=.returned (.int .i64 5)∧w'=w:=by
 have A1:=hid (Zap _ rb 3 V.v3 R.t3 t (by decide) h.c3 h.r3 hl3)
 have A2:=hid (Zap _ rb 1 V.v1 R.t1 i (by decide) h.c1 h.r1 hlk)
 generalize atOf t R.t3=q at A1 hat
 generalize atOf i R.t1=q2 at A2 hak
 have d1:decide (q<0)=false:=by simp; omega
 have d2:decide (q2<0)=false:=by simp; omega
 by_cases hc0:c<0
 ·clear hc
  go_enter Tryz.func35,Tryz.ntmps35
  go_wp2_with fail
  refine A1.out.mono ?_
  rintro e w2 ⟨rfl,rfl⟩
  go_wp2_with fail
  refine A2.out.mono ?_
  rintro e w2 ⟨rfl,rfl⟩
  go_wp2
  go_ret
  exact ⟨rfl,rfl⟩
 ·have d3:decide (c<0)=false:=by simpa using hc0
  have hc1:1000<c:=by omega
  clear hc
  go_enter Tryz.func35,Tryz.ntmps35
  go_wp2_with fail
  refine A1.out.mono ?_
  rintro e w2 ⟨rfl,rfl⟩
  go_wp2_with fail
  refine A2.out.mono ?_
  rintro e w2 ⟨rfl,rfl⟩
  go_wp2
  go_ret
  exact ⟨rfl,rfl⟩
end
end
end Go.Proofs.YtjdindfjfpdikaaGreat
