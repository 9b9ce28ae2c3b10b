import Derived.Test.YtjdindfjfpdikaaGreatB00
import Derived.Test.YtjdindfjfpdikaaGreatB01
import Derived.Test.YtjdindfjfpdikaaGreatB08
import Derived.Test.YtjdindfjfpdikaaGreatB09
import Derived.Test.YtjdindfjfpdikaaGreatB17
import Derived.Test.YtjdindfjfpdikaaGreatPre
set_option maxRecDepth 100000
set_option maxHeartbeats 8000000
namespace Go.Proofs.YtjdindfjfpdikaaGreat
section
open Go.RowKit
def code (R:RSt)(k a b c d:Int):Int:=if k=2 then c2 R a else if k=3 then c3 R a b c else if k=4 then c4 R a b else if k=5 then c5 R a b c else if k=6 then c6 R a b c d else if k=7 then c7 R a b else 0
def next (R:RSt)(k a b c d:Int):RSt:=if k=2 then n2 R a else if k=3 then n3 R a b c else if k=4 then n4 R a b else if k=5 then n5 R a b c else if k=6 then n6 R a b c d else if k=7 then n7 R a b else n8 R
def opV (k m a b c d:Int)(y6 y7 y8 y9 y10:Value):Value:=.agg #[.int .i64 k,.int .i64 m,.int .i64 a,.int .i64 b,.int .i64 c,.int .i64 d,y6,y7,y8,y9,y10]
def PPost (w:World)(pb b0 b1 b2 b3:Nat)(R:RSt)(a:Value)(e:Ending)(w':World):Prop :=
 e=.returned a∧∃ l0 l1 l2 l3,PlanAt w' pb b0 b1 b2 b3 l0 l1 l2 l3∧Sim l0 l1 l2 l3 R∧Only [b0,b1,b2,b3] w w'
section
variable {w:World}{pb b0 b1 b2 b3:Nat}{l0:Things}{l1:Runs}{l2:Waits}{l3:Prefs}{R:RSt}
theorem Zkk (h:PlanAt w pb b0 b1 b2 b3 l0 l1 l2 l3)(hs:Sim l0 l1 l2 l3 R)(m a b c d:Int)(y6 y7 y8 y9 y10:Value) :
  Calls Tryz.prog 15 #[.pointer (some ⟨pb,0,none⟩),.agg #[.int .i64 2,.int .i64 m,.int .i64 a,.int .i64 b,.int .i64 c,.int .i64 d,y6,y7,y8,y9,y10]] w (PPost w pb b0 b1 b2 b3 (n2 R a) (.int .i64 (c2 R a))):=by
 have hp1:=h.alloc (.cells #[.int .i64 2,.int .i64 m,.int .i64 a,.int .i64 b,.int .i64 c,.int .i64 d,y6,y7,y8,y9,y10] 37)
 have hb1:Below w.heap.size w (w.alloc (.cells #[.int .i64 2,.int .i64 m,.int .i64 a,.int .i64 b,.int .i64 c,.int .i64 d,y6,y7,y8,y9,y10] 37)):=(Jd _ _).alloc (Jb _) _
 have hq:=ZjI hs a
 have A1:=hid (Zjk Zcp hp1 a hs.len)
 rw [hq.1] at A1
 have HS:=hid hq.2
 clear hq
 go_enter Tryz.func15,Tryz.ntmps15
 go_wp2_with fail
 refine A1.out.mono ?_
 rintro e w2 ⟨rfl,hp2,ho2⟩
 go_wp2_with fail
 go_ret
 exact ⟨rfl,_,_,_,_,hp2,HS.out,(Only.of_below hb1).trans ho2⟩
theorem Zkl (h:PlanAt w pb b0 b1 b2 b3 l0 l1 l2 l3)(hs:Sim l0 l1 l2 l3 R)(m a b c d:Int)(y6 y7 y8 y9 y10:Value) :
  Calls Tryz.prog 15 #[.pointer (some ⟨pb,0,none⟩),.agg #[.int .i64 3,.int .i64 m,.int .i64 a,.int .i64 b,.int .i64 c,.int .i64 d,y6,y7,y8,y9,y10]] w (PPost w pb b0 b1 b2 b3 (n3 R a b c) (.int .i64 (c3 R a b c))):=by
 have hp1:=h.alloc (.cells #[.int .i64 3,.int .i64 m,.int .i64 a,.int .i64 b,.int .i64 c,.int .i64 d,y6,y7,y8,y9,y10] 37)
 have hb1:Below w.heap.size w (w.alloc (.cells #[.int .i64 3,.int .i64 m,.int .i64 a,.int .i64 b,.int .i64 c,.int .i64 d,y6,y7,y8,y9,y10] 37)):=(Jd _ _).alloc (Jb _) _
 have hq:=ZjG hs a b c
 have A1:=hid (ZfK Zcp hp1 a b c hs.len)
 rw [hq.1] at A1
 have HS:=hid hq.2
 clear hq
 go_enter Tryz.func15,Tryz.ntmps15
 go_wp2_with fail
 refine A1.out.mono ?_
 rintro e w2 ⟨rfl,hp2,ho2⟩
 go_wp2_with fail
 go_ret
 exact ⟨rfl,_,_,_,_,hp2,HS.out,(Only.of_below hb1).trans ho2⟩
theorem Zkm (h:PlanAt w pb b0 b1 b2 b3 l0 l1 l2 l3)(hs:Sim l0 l1 l2 l3 R)(m a b c d:Int)(y6 y7 y8 y9 y10:Value) :
  Calls Tryz.prog 15 #[.pointer (some ⟨pb,0,none⟩),.agg #[.int .i64 4,.int .i64 m,.int .i64 a,.int .i64 b,.int .i64 c,.int .i64 d,y6,y7,y8,y9,y10]] w (PPost w pb b0 b1 b2 b3 (n4 R a b) (.int .i64 (c4 R a b))):=by
 have hp1:=h.alloc (.cells #[.int .i64 4,.int .i64 m,.int .i64 a,.int .i64 b,.int .i64 c,.int .i64 d,y6,y7,y8,y9,y10] 37)
 have hb1:Below w.heap.size w (w.alloc (.cells #[.int .i64 4,.int .i64 m,.int .i64 a,.int .i64 b,.int .i64 c,.int .i64 d,y6,y7,y8,y9,y10] 37)):=(Jd _ _).alloc (Jb _) _
 have hq:=Zk3 hs a b
 have A1:=hid (ZkO Zcp hp1 a b hs.len)
 rw [hq.1] at A1
 have HS:=hid hq.2
 clear hq
 go_enter Tryz.func15,Tryz.ntmps15
 go_wp2_with fail
 refine A1.out.mono ?_
 rintro e w2 ⟨rfl,hp2,ho2⟩
 go_wp2_with fail
 go_ret
 exact ⟨rfl,_,_,_,_,hp2,HS.out,(Only.of_below hb1).trans ho2⟩
theorem Zkn (h:PlanAt w pb b0 b1 b2 b3 l0 l1 l2 l3)(hs:Sim l0 l1 l2 l3 R)(m a b c d:Int)(y6 y7 y8 y9 y10:Value) :
  Calls Tryz.prog 15 #[.pointer (some ⟨pb,0,none⟩),.agg #[.int .i64 5,.int .i64 m,.int .i64 a,.int .i64 b,.int .i64 c,.int .i64 d,y6,y7,y8,y9,y10]] w (PPost w pb b0 b1 b2 b3 (n5 R a b c) (.int .i64 (c5 R a b c))):=by
 have hp1:=h.alloc (.cells #[.int .i64 5,.int .i64 m,.int .i64 a,.int .i64 b,.int .i64 c,.int .i64 d,y6,y7,y8,y9,y10] 37)
 have hb1:Below w.heap.size w (w.alloc (.cells #[.int .i64 5,.int .i64 m,.int .i64 a,.int .i64 b,.int .i64 c,.int .i64 d,y6,y7,y8,y9,y10] 37)):=(Jd _ _).alloc (Jb _) _
 have hq:=ZjN hs a b c
 have A1:=hid (ZjW Zcp hp1 a b c hs.len)
 rw [hq.1] at A1
 have HS:=hid hq.2
 clear hq
 go_enter Tryz.func15,Tryz.ntmps15
 go_wp2_with fail
 refine A1.out.mono ?_
 rintro e w2 ⟨rfl,hp2,ho2⟩
 go_wp2_with fail
 go_ret
 exact ⟨rfl,_,_,_,_,hp2,HS.out,(Only.of_below hb1).trans ho2⟩
theorem Zko (h:PlanAt w pb b0 b1 b2 b3 l0 l1 l2 l3)(hs:Sim l0 l1 l2 l3 R)(m a b c d:Int)(y6 y7 y8 y9 y10:Value) :
  Calls Tryz.prog 15 #[.pointer (some ⟨pb,0,none⟩),.agg #[.int .i64 6,.int .i64 m,.int .i64 a,.int .i64 b,.int .i64 c,.int .i64 d,y6,y7,y8,y9,y10]] w (PPost w pb b0 b1 b2 b3 (n6 R a b c d) (.int .i64 (c6 R a b c d))):=by
 have hp1:=h.alloc (.cells #[.int .i64 6,.int .i64 m,.int .i64 a,.int .i64 b,.int .i64 c,.int .i64 d,y6,y7,y8,y9,y10] 37)
 have hb1:Below w.heap.size w (w.alloc (.cells #[.int .i64 6,.int .i64 m,.int .i64 a,.int .i64 b,.int .i64 c,.int .i64 d,y6,y7,y8,y9,y10] 37)):=(Jd _ _).alloc (Jb _) _
 have hq:=ZjH hs a b c d
 have A1:=hid (ZgW hp1 a b c d)
 rw [hq.1] at A1
 have HS:=hid hq.2
 clear hq
 go_enter Tryz.func15,Tryz.ntmps15
 go_wp2_with fail
 refine A1.out.mono ?_
 rintro e w2 ⟨rfl,hp2,ho2⟩
 go_wp2_with fail
 go_ret
 exact ⟨rfl,_,_,_,_,hp2,HS.out,(Only.of_below hb1).trans ho2⟩
theorem Zkp (h:PlanAt w pb b0 b1 b2 b3 l0 l1 l2 l3)(hs:Sim l0 l1 l2 l3 R)(m a b c d:Int)(y6 y7 y8 y9 y10:Value) :
  Calls Tryz.prog 15 #[.pointer (some ⟨pb,0,none⟩),.agg #[.int .i64 7,.int .i64 m,.int .i64 a,.int .i64 b,.int .i64 c,.int .i64 d,y6,y7,y8,y9,y10]] w (PPost w pb b0 b1 b2 b3 (n7 R a b) (.int .i64 (c7 R a b))):=by
 have hp1:=h.alloc (.cells #[.int .i64 7,.int .i64 m,.int .i64 a,.int .i64 b,.int .i64 c,.int .i64 d,y6,y7,y8,y9,y10] 37)
 have hb1:Below w.heap.size w (w.alloc (.cells #[.int .i64 7,.int .i64 m,.int .i64 a,.int .i64 b,.int .i64 c,.int .i64 d,y6,y7,y8,y9,y10] 37)):=(Jd _ _).alloc (Jb _) _
 have hq:=Zk4 hs a b
 have A1:=hid (ZfS hp1 hs.kn0 hs.runs.kn1 hs.kn2 hs.kn3 a b)
 rw [hq.1] at A1
 have HS:=hid hq.2
 clear hq
 go_enter Tryz.func15,Tryz.ntmps15
 go_wp2_with fail
 refine A1.out.mono ?_
 rintro e w2 ⟨rfl,hp2,ho2⟩
 go_wp2_with fail
 go_ret
 exact ⟨rfl,_,_,_,_,hp2,HS.out,(Only.of_below hb1).trans ho2⟩
theorem Zkq (h:PlanAt w pb b0 b1 b2 b3 l0 l1 l2 l3)(hs:Sim l0 l1 l2 l3 R)(m a b c d:Int)(y6 y7 y8 y9 y10:Value) :
  Calls Tryz.prog 15 #[.pointer (some ⟨pb,0,none⟩),.agg #[.int .i64 8,.int .i64 m,.int .i64 a,.int .i64 b,.int .i64 c,.int .i64 d,y6,y7,y8,y9,y10]] w (PPost w pb b0 b1 b2 b3 (n8 R) (.int .i64 (0))):=by
 have hp1:=h.alloc (.cells #[.int .i64 8,.int .i64 m,.int .i64 a,.int .i64 b,.int .i64 c,.int .i64 d,y6,y7,y8,y9,y10] 37)
 have hb1:Below w.heap.size w (w.alloc (.cells #[.int .i64 8,.int .i64 m,.int .i64 a,.int .i64 b,.int .i64 c,.int .i64 d,y6,y7,y8,y9,y10] 37)):=(Jd _ _).alloc (Jb _) _
 have A1:=hid (ZjX Zcp hp1 hs.len hs.wd)
 go_enter Tryz.func15,Tryz.ntmps15
 go_wp2_with fail
 refine A1.out.mono ?_
 rintro e w2 ⟨rfl,⟨ys,hy,hp2⟩,ho2⟩
 go_wp2_with fail
 go_ret
 exact ⟨rfl,_,_,_,_,hp2,ZjO hs ys hy,(Only.of_below hb1).trans ho2⟩
theorem Zd4 (h:PlanAt w pb b0 b1 b2 b3 l0 l1 l2 l3)(hs:Sim l0 l1 l2 l3 R)(k m a b c d:Int)(y6 y7 y8 y9 y10:Value)(hk:2≤k∧k≤8) :
  Calls Tryz.prog 15 #[.pointer (some ⟨pb,0,none⟩),opV k m a b c d y6 y7 y8 y9 y10] w (PPost w pb b0 b1 b2 b3 (next R k a b c d) (.int .i64 (code R k a b c d))):=by
 obtain rfl | rfl | rfl | rfl | rfl | rfl | rfl:k=2∨k=3∨k=4∨k=5∨k=6∨k=7∨k=8:=by omega
 ·exact Zkk h hs m a b c d y6 y7 y8 y9 y10
 ·exact Zkl h hs m a b c d y6 y7 y8 y9 y10
 ·exact Zkm h hs m a b c d y6 y7 y8 y9 y10
 ·exact Zkn h hs m a b c d y6 y7 y8 y9 y10
 ·exact Zko h hs m a b c d y6 y7 y8 y9 y10
 ·exact Zkp h hs m a b c d y6 y7 y8 y9 y10
 ·exact Zkq h hs m a b c d y6 y7 y8 y9 y10
end
section
variable {w:World}{rb:Nat}{V:RVs}{x7 x8 x9 x10 x11:Value}{R:RSt}
theorem Zld (h:RefAt w rb V x7 x8 x9 x10 x11 R)(hf:Fit R)(m a b c d:Int)(y6 y7 y8 y9 y10:Value) :
  Calls Tryz.prog 16 #[.pointer (some ⟨rb,0,none⟩),.agg #[.int .i64 2,.int .i64 m,.int .i64 a,.int .i64 b,.int .i64 c,.int .i64 d,y6,y7,y8,y9,y10]] w (RPost w rb V x7 x8 x9 x10 x11 (n2 R a) (.int .i64 (c2 R a))):=by
 have hp1:=h.alloc (.cells #[.int .i64 2,.int .i64 m,.int .i64 a,.int .i64 b,.int .i64 c,.int .i64 d,y6,y7,y8,y9,y10] 37)
 have hb1:Below w.heap.size w (w.alloc (.cells #[.int .i64 2,.int .i64 m,.int .i64 a,.int .i64 b,.int .i64 c,.int .i64 d,y6,y7,y8,y9,y10] 37)):=(Jd _ _).alloc (Jb _) _
 have A1:=hid (Zlz hp1 hf a)
 go_enter Tryz.func16,Tryz.ntmps16
 go_wp2_with fail
 refine A1.out.mono ?_
 rintro e w2 ⟨rfl,V2,hr2,ho2,hv2⟩
 go_wp2_with fail
 go_ret
 exact ⟨rfl,V2,hr2,(Only.of_below hb1).trans ho2,fun b hb=>(hv2 b hb).imp_right (fun hh=>Nat.le_trans hb1.size hh)⟩
theorem Zle (h:RefAt w rb V x7 x8 x9 x10 x11 R)(hf:Fit R)(m a b c d:Int)(y6 y7 y8 y9 y10:Value) :
  Calls Tryz.prog 16 #[.pointer (some ⟨rb,0,none⟩),.agg #[.int .i64 3,.int .i64 m,.int .i64 a,.int .i64 b,.int .i64 c,.int .i64 d,y6,y7,y8,y9,y10]] w (RPost w rb V x7 x8 x9 x10 x11 (n3 R a b c) (.int .i64 (c3 R a b c))):=by
 have hp1:=h.alloc (.cells #[.int .i64 3,.int .i64 m,.int .i64 a,.int .i64 b,.int .i64 c,.int .i64 d,y6,y7,y8,y9,y10] 37)
 have hb1:Below w.heap.size w (w.alloc (.cells #[.int .i64 3,.int .i64 m,.int .i64 a,.int .i64 b,.int .i64 c,.int .i64 d,y6,y7,y8,y9,y10] 37)):=(Jd _ _).alloc (Jb _) _
 have A1:=hid (ZlA hp1 hf a b c)
 go_enter Tryz.func16,Tryz.ntmps16
 go_wp2_with fail
 refine A1.out.mono ?_
 rintro e w2 ⟨rfl,V2,hr2,ho2,hv2⟩
 go_wp2_with fail
 go_ret
 exact ⟨rfl,V2,hr2,(Only.of_below hb1).trans ho2,fun b hb=>(hv2 b hb).imp_right (fun hh=>Nat.le_trans hb1.size hh)⟩
theorem Zlf (h:RefAt w rb V x7 x8 x9 x10 x11 R)(hf:Fit R)(m a b c d:Int)(y6 y7 y8 y9 y10:Value) :
  Calls Tryz.prog 16 #[.pointer (some ⟨rb,0,none⟩),.agg #[.int .i64 4,.int .i64 m,.int .i64 a,.int .i64 b,.int .i64 c,.int .i64 d,y6,y7,y8,y9,y10]] w (RPost w rb V x7 x8 x9 x10 x11 (n4 R a b) (.int .i64 (c4 R a b))):=by
 have hp1:=h.alloc (.cells #[.int .i64 4,.int .i64 m,.int .i64 a,.int .i64 b,.int .i64 c,.int .i64 d,y6,y7,y8,y9,y10] 37)
 have hb1:Below w.heap.size w (w.alloc (.cells #[.int .i64 4,.int .i64 m,.int .i64 a,.int .i64 b,.int .i64 c,.int .i64 d,y6,y7,y8,y9,y10] 37)):=(Jd _ _).alloc (Jb _) _
 have A1:=hid (ZlB hp1 hf a b)
 go_enter Tryz.func16,Tryz.ntmps16
 go_wp2_with fail
 refine A1.out.mono ?_
 rintro e w2 ⟨rfl,V2,hr2,ho2,hv2⟩
 go_wp2_with fail
 go_ret
 exact ⟨rfl,V2,hr2,(Only.of_below hb1).trans ho2,fun b hb=>(hv2 b hb).imp_right (fun hh=>Nat.le_trans hb1.size hh)⟩
theorem Zlg (h:RefAt w rb V x7 x8 x9 x10 x11 R)(hf:Fit R)(m a b c d:Int)(y6 y7 y8 y9 y10:Value) :
  Calls Tryz.prog 16 #[.pointer (some ⟨rb,0,none⟩),.agg #[.int .i64 5,.int .i64 m,.int .i64 a,.int .i64 b,.int .i64 c,.int .i64 d,y6,y7,y8,y9,y10]] w (RPost w rb V x7 x8 x9 x10 x11 (n5 R a b c) (.int .i64 (c5 R a b c))):=by
 have hp1:=h.alloc (.cells #[.int .i64 5,.int .i64 m,.int .i64 a,.int .i64 b,.int .i64 c,.int .i64 d,y6,y7,y8,y9,y10] 37)
 have hb1:Below w.heap.size w (w.alloc (.cells #[.int .i64 5,.int .i64 m,.int .i64 a,.int .i64 b,.int .i64 c,.int .i64 d,y6,y7,y8,y9,y10] 37)):=(Jd _ _).alloc (Jb _) _
 have A1:=hid (ZlC hp1 hf a b c)
 go_enter Tryz.func16,Tryz.ntmps16
 go_wp2_with fail
 refine A1.out.mono ?_
 rintro e w2 ⟨rfl,V2,hr2,ho2,hv2⟩
 go_wp2_with fail
 go_ret
 exact ⟨rfl,V2,hr2,(Only.of_below hb1).trans ho2,fun b hb=>(hv2 b hb).imp_right (fun hh=>Nat.le_trans hb1.size hh)⟩
theorem Zlh (h:RefAt w rb V x7 x8 x9 x10 x11 R)(hf:Fit R)(m a b c d:Int)(y6 y7 y8 y9 y10:Value) :
  Calls Tryz.prog 16 #[.pointer (some ⟨rb,0,none⟩),.agg #[.int .i64 6,.int .i64 m,.int .i64 a,.int .i64 b,.int .i64 c,.int .i64 d,y6,y7,y8,y9,y10]] w (RPost w rb V x7 x8 x9 x10 x11 (n6 R a b c d) (.int .i64 (c6 R a b c d))):=by
 have hp1:=h.alloc (.cells #[.int .i64 6,.int .i64 m,.int .i64 a,.int .i64 b,.int .i64 c,.int .i64 d,y6,y7,y8,y9,y10] 37)
 have hb1:Below w.heap.size w (w.alloc (.cells #[.int .i64 6,.int .i64 m,.int .i64 a,.int .i64 b,.int .i64 c,.int .i64 d,y6,y7,y8,y9,y10] 37)):=(Jd _ _).alloc (Jb _) _
 have A1:=hid (ZlD hp1 hf a b c d)
 go_enter Tryz.func16,Tryz.ntmps16
 go_wp2_with fail
 refine A1.out.mono ?_
 rintro e w2 ⟨rfl,V2,hr2,ho2,hv2⟩
 go_wp2_with fail
 go_ret
 exact ⟨rfl,V2,hr2,(Only.of_below hb1).trans ho2,fun b hb=>(hv2 b hb).imp_right (fun hh=>Nat.le_trans hb1.size hh)⟩
theorem Zli (h:RefAt w rb V x7 x8 x9 x10 x11 R)(hf:Fit R)(m a b c d:Int)(y6 y7 y8 y9 y10:Value) :
  Calls Tryz.prog 16 #[.pointer (some ⟨rb,0,none⟩),.agg #[.int .i64 7,.int .i64 m,.int .i64 a,.int .i64 b,.int .i64 c,.int .i64 d,y6,y7,y8,y9,y10]] w (RPost w rb V x7 x8 x9 x10 x11 (n7 R a b) (.int .i64 (c7 R a b))):=by
 have hp1:=h.alloc (.cells #[.int .i64 7,.int .i64 m,.int .i64 a,.int .i64 b,.int .i64 c,.int .i64 d,y6,y7,y8,y9,y10] 37)
 have hb1:Below w.heap.size w (w.alloc (.cells #[.int .i64 7,.int .i64 m,.int .i64 a,.int .i64 b,.int .i64 c,.int .i64 d,y6,y7,y8,y9,y10] 37)):=(Jd _ _).alloc (Jb _) _
 have A1:=hid (ZlE hp1 hf a b)
 go_enter Tryz.func16,Tryz.ntmps16
 go_wp2_with fail
 refine A1.out.mono ?_
 rintro e w2 ⟨rfl,V2,hr2,ho2,hv2⟩
 go_wp2_with fail
 go_ret
 exact ⟨rfl,V2,hr2,(Only.of_below hb1).trans ho2,fun b hb=>(hv2 b hb).imp_right (fun hh=>Nat.le_trans hb1.size hh)⟩
theorem Zlj (h:RefAt w rb V x7 x8 x9 x10 x11 R)(hf:Fit R)(m a b c d:Int)(y6 y7 y8 y9 y10:Value) :
  Calls Tryz.prog 16 #[.pointer (some ⟨rb,0,none⟩),.agg #[.int .i64 8,.int .i64 m,.int .i64 a,.int .i64 b,.int .i64 c,.int .i64 d,y6,y7,y8,y9,y10]] w (RPost w rb V x7 x8 x9 x10 x11 (n8 R) (.int .i64 (0))):=by
 have hp1:=h.alloc (.cells #[.int .i64 8,.int .i64 m,.int .i64 a,.int .i64 b,.int .i64 c,.int .i64 d,y6,y7,y8,y9,y10] 37)
 have hb1:Below w.heap.size w (w.alloc (.cells #[.int .i64 8,.int .i64 m,.int .i64 a,.int .i64 b,.int .i64 c,.int .i64 d,y6,y7,y8,y9,y10] 37)):=(Jd _ _).alloc (Jb _) _
 have A1:=hid (ZlF hp1 hf)
 go_enter Tryz.func16,Tryz.ntmps16
 go_wp2_with fail
 refine A1.out.mono ?_
 rintro e w2 ⟨rfl,V2,hr2,ho2,hv2⟩
 go_wp2_with fail
 go_ret
 exact ⟨rfl,V2,hr2,(Only.of_below hb1).trans ho2,fun b hb=>(hv2 b hb).imp_right (fun hh=>Nat.le_trans hb1.size hh)⟩
theorem Zhk (h:RefAt w rb V x7 x8 x9 x10 x11 R)(hf:Fit R)(k m a b c d:Int)(y6 y7 y8 y9 y10:Value)(hk:2≤k∧k≤8) :
  Calls Tryz.prog 16 #[.pointer (some ⟨rb,0,none⟩),opV k m a b c d y6 y7 y8 y9 y10] w (RPost w rb V x7 x8 x9 x10 x11 (next R k a b c d) (.int .i64 (code R k a b c d))):=by
 obtain rfl | rfl | rfl | rfl | rfl | rfl | rfl:k=2∨k=3∨k=4∨k=5∨k=6∨k=7∨k=8:=by omega
 ·exact Zld h hf m a b c d y6 y7 y8 y9 y10
 ·exact Zle h hf m a b c d y6 y7 y8 y9 y10
 ·exact Zlf h hf m a b c d y6 y7 y8 y9 y10
 ·exact Zlg h hf m a b c d y6 y7 y8 y9 y10
 ·exact Zlh h hf m a b c d y6 y7 y8 y9 y10
 ·exact Zli h hf m a b c d y6 y7 y8 y9 y10
 ·exact Zlj h hf m a b c d y6 y7 y8 y9 y10
end
end
section
open Go.RowKit
theorem ZaU {w w':World}{base size n:Nat}{e:TypeId}{v:Value}{xs:List Value}(h:w.ownsRow base e size v n xs)(hb:∀ b,v.ownBlock=some b→w'.heap[b]?=w.heap[b]?):w'.ownsRow base e size v n xs:=by
 refine ⟨h.1,?_⟩
 rcases h.2 with h2 | ⟨g,cap,cur,hv,h0,hg,hr⟩
 ·exact Jr h2
 ·exact Js ⟨g,cap,cur,hv,h0,(hb g (by rw [hv]; rfl)).trans hg,hr⟩
structure ShowOk (N c:Int)(sup:List Int)(arcs:List Ar)(fl pr:List Int):Prop where
 pos:1≤N
 net:NetOk N sup.length (fun i=>sup.getD i 0) arcs.length (fun i=>arcs.getD i ⟨0,0,0,0⟩)
 flow:FlowOk sup.length (fun i=>sup.getD i 0) arcs.length (fun i=>arcs.getD i ⟨0,0,0,0⟩) fl.length (fun i=>fl.getD i 0)
 price:PriceOk N arcs.length (fun i=>arcs.getD i ⟨0,0,0,0⟩) (fun i=>fl.getD i 0) pr.length (fun i=>pr.getD i 0)
 cost:cost (fun i=>arcs.getD i ⟨0,0,0,0⟩) (fun i=>fl.getD i 0) arcs.length=c
structure Shw (w:World)(S:List Nat)(pb:Nat)(x7 x8 x9 x10 x11 s1 s2 s3 s4:Value)(N c:Int)(sup:List Int)(arcs:List Ar)(fl pr:List Int):Prop where
 cells:∃ b0 b1 b2 b3,w.heap[pb]?=some (.cells #[.map (some b0),.map (some b1),.map (some b2),.map (some b3),.int .i64 N,s1,s2,s3,s4] 61)
 e7:x7=.int .i64 c
 e9:x9=.int .i64 N
 r1:NRow 0 w s1 sup
 r2:ARow 0 w s2 arcs
 r3:NRow 0 w s3 fl
 r4:NRow 0 w s4 pr
 rsup:NRow 0 w x10 sup
 rarcs:ARow 0 w x11 arcs
 inS:∀ v∈[s1,s2,s3,s4,x10,x11],∀ b,v.ownBlock=some b→b∈S
 lt:∀ b∈S,b<w.heap.size
 len:sup.length≤1000∧arcs.length≤1000∧fl.length≤1000∧pr.length≤1000
 said:(x8=.bool false∧N=0∧arcs=[]∧fl=[]∧pr=[])∨(x8=.bool true∧ShowOk N c sup arcs fl pr)
def ShOk (w:World)(S:List Nat)(pb:Nat)(x7 x8 x9 x10 x11:Value):Prop:=∃ s1 s2 s3 s4 N c sup arcs fl pr,Shw w S pb x7 x8 x9 x10 x11 s1 s2 s3 s4 N c sup arcs fl pr
theorem Shw.move {w w':World}{S:List Nat}{pb:Nat}{x7 x8 x9 x10 x11 s1 s2 s3 s4:Value}{N c:Int}{sup:List Int}{arcs:List Ar}{fl pr:List Int}(h:Shw w S pb x7 x8 x9 x10 x11 s1 s2 s3 s4 N c sup arcs fl pr)(hp:w'.heap[pb]?=w.heap[pb]?)(hb:∀ b∈S,w'.heap[b]?=w.heap[b]?):Shw w' S pb x7 x8 x9 x10 x11 s1 s2 s3 s4 N c sup arcs fl pr:=by
 have k:∀ v∈[s1,s2,s3,s4,x10,x11],∀ b,v.ownBlock=some b→w'.heap[b]?=w.heap[b]?:=fun v hv b e=>hb b (h.inS v hv b e)
 obtain ⟨b0,b1,b2,b3,hc⟩:=h.cells
 refine ⟨⟨b0,b1,b2,b3,hp.trans hc⟩,h.e7,h.e9,ZaU h.r1 (k _ (by simp)),ZaU h.r2 (k _ (by simp)),ZaU h.r3 (k _ (by simp)),ZaU h.r4 (k _ (by simp)),ZaU h.rsup (k _ (by simp)),ZaU h.rarcs (k _ (by simp)),h.inS,fun b hm=>?_,h.len,h.said⟩
 have h1:=hb b hm
 rw [Array.getElem?_eq_getElem (h.lt b hm)] at h1
 exact (Ja.1 h1).1
theorem ShOk.move {w w':World}{S:List Nat}{pb:Nat}{x7 x8 x9 x10 x11:Value}(h:ShOk w S pb x7 x8 x9 x10 x11)(hp:w'.heap[pb]?=w.heap[pb]?)(hb:∀ b∈S,w'.heap[b]?=w.heap[b]?):ShOk w' S pb x7 x8 x9 x10 x11:=by
 obtain ⟨s1,s2,s3,s4,N,c,sup,arcs,fl,pr,h⟩:=h
 exact ⟨s1,s2,s3,s4,N,c,sup,arcs,fl,pr,h.move hp hb⟩
theorem ShOk.lt {w:World}{S:List Nat}{pb:Nat}{x7 x8 x9 x10 x11:Value}(h:ShOk w S pb x7 x8 x9 x10 x11):∀ b∈S,b<w.heap.size:=by
 obtain ⟨s1,s2,s3,s4,N,c,sup,arcs,fl,pr,h⟩:=h
 exact h.lt
theorem ShOk.new {w:World}{pb b0 b1 b2 b3:Nat}(h:w.heap[pb]?=some (.cells #[.map (some b0),.map (some b1),.map (some b2),.map (some b3),.int .i64 0,.slice none 0 0,.slice none 0 0,.slice none 0 0,.slice none 0 0] 61)):ShOk w [] pb (.int .i64 0) (.bool false) (.int .i64 0) (.slice none 0 0) (.slice none 0 0) :=
 ⟨_,_,_,_,0,0,[],[],[],[],⟨b0,b1,b2,b3,h⟩,rfl,rfl,NRow.nil _ _,ARow.nil _ _,NRow.nil _ _,NRow.nil _ _,NRow.nil _ _,ARow.nil _ _,(fun v hv b e=>by simp at hv; rw [hv] at e; cases e),fun b hb=>by simp at hb,by simp,Jr ⟨rfl,rfl,rfl,rfl,rfl⟩⟩
end
section
open Go.RowKit
theorem ZbY {w w2:World}{o1 o2:Obj}(hb:Below ((w.alloc o1).alloc o2).heap.size ((w.alloc o1).alloc o2) w2) :
  w2.heap[w.heap.size]?=some o1∧w2.heap[w.heap.size+1]?=some o2∧w.heap.size<w2.heap.size∧w.heap.size+1<w2.heap.size:=by
 have hz:((w.alloc o1).alloc o2).heap.size=w.heap.size+1+1:=by simp
 have hs:=hb.size
 rw [hz] at hs
 refine ⟨?_,?_,by omega,by omega⟩
 ·rw [hb.block _ (by omega),Below.heap_alloc _ _ _ (by simp)]
  exact (MapKept.heap_alloc w o1).1
 ·rw [hb.block _ (by omega)]
  have:=(MapKept.heap_alloc (w.alloc o1) o2).1
  rwa [show (w.alloc o1).heap.size=w.heap.size+1 by simp] at this
theorem Zbo {w:World}{b:Nat}{cs:Array Value}{t:TypeId}(h:w.heap[b]?=some (.cells cs t))(i:Nat):w.cell? ⟨b,i,none⟩=cs[i]?:=by simp [World.cell?,h]
section
variable {w:World}{pb qb rb b0 b1 b2 b3:Nat}{l0:Things}{l1:Runs}{l2:Waits}{l3:Prefs}{V:RVs}{x7 x8 x9 x10 x11:Value}{R:RSt}
theorem asks9 (h:PlanAt w pb b0 b1 b2 b3 l0 l1 l2 l3)(hr:RefAt w rb V x7 x8 x9 x10 x11 R)(hs:Sim l0 l1 l2 l3 R)(m a b c d:Int)(y6 y7 y8 y9 y10:Value) :
  Calls Tryz.prog 17 #[.agg #[.pointer (some ⟨pb,0,none⟩),.pointer (some ⟨qb,0,none⟩),.pointer (some ⟨rb,0,none⟩)],.agg #[.int .i64 9,.int .i64 m,.int .i64 a,.int .i64 b,.int .i64 c,.int .i64 d,y6,y7,y8,y9,y10]] w fun e w'=>e=.returned (.bool true)∧Below w.heap.size w w':=by
 obtain ⟨x,y,A1,A2⟩:=ZiH hs a b
 have HA:=hid (Jc A1 A2)
 clear A1 A2
 have hb1:Below w.heap.size w ((w.alloc (.cells #[.pointer (some ⟨pb,0,none⟩),.pointer (some ⟨qb,0,none⟩),.pointer (some ⟨rb,0,none⟩)] 47)).alloc (.cells #[.int .i64 9,.int .i64 m,.int .i64 a,.int .i64 b,.int .i64 c,.int .i64 d,y6,y7,y8,y9,y10] 37)):=((Jd _ _).alloc (Jb _) _).alloc (by simp) _
 have Hp:=hid (h.below hb1)
 have Hr:=hid (hr.below hb1)
 clear h hr
 go_enter Tryz.func17,Tryz.ntmps17
 go_wp2_with fail
 refine (HA.out.1 _ _ _ _ _ _ Hp.out).mono ?_
 rintro e w2 ⟨rfl,hb2⟩
 obtain ⟨o1,o2,s1,s2⟩:=ZbY hb2
 have k2:=Zbo o1 2
 have j2:=Zbo o2 2
 have j3:=Zbo o2 3
 simp only [Jg,Jf,Je] at k2 j2 j3
 clear o1 o2
 have Hr2:=hid (Hr.out.below hb2)
 go_wp2_with fail
 refine (HA.out.2 _ _ _ _ _ _ _ _ Hr2.out).mono ?_
 rintro e w3 ⟨rfl,hb3⟩
 go_wp2_with fail
 go_ret
 exact ⟨rfl,Zai hb1 (Zai hb2 hb3)⟩
theorem Zlb (h:PlanAt w pb b0 b1 b2 b3 l0 l1 l2 l3)(hr:RefAt w rb V x7 x8 x9 x10 x11 R)(hs:Sim l0 l1 l2 l3 R)(m a b c d:Int)(y6 y7 y8 y9 y10:Value) :
  Calls Tryz.prog 17 #[.agg #[.pointer (some ⟨pb,0,none⟩),.pointer (some ⟨qb,0,none⟩),.pointer (some ⟨rb,0,none⟩)],.agg #[.int .i64 10,.int .i64 m,.int .i64 a,.int .i64 b,.int .i64 c,.int .i64 d,y6,y7,y8,y9,y10]] w fun e w'=>e=.returned (.bool true)∧Below w.heap.size w w':=by
 obtain ⟨x,y,A1,A2⟩:=Zhj hs a
 have HA:=hid (Jc A1 A2)
 clear A1 A2
 have hb1:Below w.heap.size w ((w.alloc (.cells #[.pointer (some ⟨pb,0,none⟩),.pointer (some ⟨qb,0,none⟩),.pointer (some ⟨rb,0,none⟩)] 47)).alloc (.cells #[.int .i64 10,.int .i64 m,.int .i64 a,.int .i64 b,.int .i64 c,.int .i64 d,y6,y7,y8,y9,y10] 37)):=((Jd _ _).alloc (Jb _) _).alloc (by simp) _
 have Hp:=hid (h.below hb1)
 have Hr:=hid (hr.below hb1)
 clear h hr
 go_enter Tryz.func17,Tryz.ntmps17
 go_wp2_with fail
 refine (HA.out.1 _ _ _ _ _ _ Hp.out).mono ?_
 rintro e w2 ⟨rfl,hb2⟩
 obtain ⟨o1,o2,s1,s2⟩:=ZbY hb2
 have k2:=Zbo o1 2
 have j2:=Zbo o2 2
 have j3:=Zbo o2 3
 simp only [Jg,Jf,Je] at k2 j2 j3
 clear o1 o2
 have Hr2:=hid (Hr.out.below hb2)
 go_wp2_with fail
 refine (HA.out.2 _ _ _ _ _ _ _ _ Hr2.out).mono ?_
 rintro e w3 ⟨rfl,hb3⟩
 go_wp2_with fail
 go_ret
 exact ⟨rfl,Zai hb1 (Zai hb2 hb3)⟩
end
end
section
open Go.RowKit
abbrev Pa:=Nat×Nat×Nat
def cellsP (x:Pa):List Value:=[.pointer (some ⟨x.1,0,none⟩),.pointer (some ⟨x.2.1,0,none⟩),.pointer (some ⟨x.2.2,0,none⟩)]
theorem ZkI:(Tryz.prog.info? 47).map (fun i=>(i.zero,i.size,i.bytes))=some (some (.agg #[.pointer none,.pointer none,.pointer none]),3,24):=by kernel_rfl
def R0:RSt:=⟨[],[],[],[],[],[],[]⟩
def V0:RVs:=⟨.slice none 0 0,.slice none 0 0,.slice none 0 0,.slice none 0 0,.slice none 0 0,.slice none 0 0,.slice none 0 0⟩
theorem Zia {w:World}{rb:Nat}{x7 x8 x9 x10 x11:Value}(h:w.heap[rb]?=some (.cells #[.slice none 0 0,.slice none 0 0,.slice none 0 0,.slice none 0 0,.slice none 0 0,.slice none 0 0,.slice none 0 0,x7,x8,x9,x10,x11] 45)):RefAt w rb V0 x7 x8 x9 x10 x11 R0 :=
 ⟨h,World.ownsRow_nil _ _ _ _,World.ownsRow_nil _ _ _ _,World.ownsRow_nil _ _ _ _,World.ownsRow_nil _ _ _ _,World.ownsRow_nil _ _ _ _,World.ownsRow_nil _ _ _ _,World.ownsRow_nil _ _ _ _,by show ([]:List Nat).Nodup; exact List.nodup_nil⟩
theorem fit0:Fit R0:=by
 refine ⟨by simp [R0],by simp [R0],by simp [R0],by simp [R0],?_,?_,?_,?_,?_,?_,?_,rfl,rfl,?_,?_,?_,⟨?_,?_,?_,?_⟩⟩ <;> simp [R0,encP,KN]
theorem sim0:Sim [] [] [] [] R0:=⟨fit0,List.Perm.refl _,List.Perm.refl _,List.nodup_nil,rfl,fun a h=>absurd rfl h,(fun a n h=>by cases h),⟨List.nodup_nil,rfl,(fun a m h=>by cases h)⟩,(fun a m h=>by cases h)⟩
theorem RowAt.move {α:Type}{w w':World}{e size:Nat}{enc:α→List Value}{v:Value}{xs:List α}(h:RowAt w e size enc v xs)(hb:∀ b,v.ownBlock=some b→w'.heap[b]?=w.heap[b]?):RowAt w' e size enc v xs:=by
 refine ⟨h.1,?_⟩
 rcases h.2 with h2 | ⟨g,cap,cur,hv,h0,hg,hr⟩
 ·exact Jr h2
 ·exact Js ⟨g,cap,cur,hv,h0,(hb g (by rw [hv]; rfl)).trans hg,hr⟩
structure Begun (w:World)(wb:Nat)(v vh:Value)(ps:List Pa)(w':World)(v':Value)(p b0 b1 b2 b3 q c0 c1 c2 c3 r m:Nat):Prop where
 hp:PlanAt w' p b0 b1 b2 b3 [] [] [] []
 hc:w'.heap[p]?=some (.cells #[.map (some b0),.map (some b1),.map (some b2),.map (some b3),.int .i64 0,.slice none 0 0,.slice none 0 0,.slice none 0 0,.slice none 0 0] 61)
 hq:PlanAt w' q c0 c1 c2 c3 [] [] [] []
 hr:RefAt w' r V0 (.int .i64 0) (.bool false) (.int .i64 0) (.slice none 0 0) (.slice none 0 0) R0
 cells:w'.heap[wb]?=some (.cells #[v',vh] 29)
 row:RowAt w' 47 3 cellsP v' (ps ++ [(p,q,r)])
 only:Only (wb :: v.ownBlock.toList) w w'
 loc:v'.ownBlock=v.ownBlock∨(∀ n,v'.ownBlock=some n→r<n)
 bp:∀ b∈[p,b0,b1,b2,b3],w.heap.size≤b∧b<m
 bq:∀ b∈[q,c0,c1,c2,c3],m≤b∧b<r
 br:w.heap.size≤m∧m≤r
theorem PlanAt.move {w w':World}{pb b0 b1 b2 b3:Nat}{l0:Things}{l1:Runs}{l2:Waits}{l3:Prefs}(h:PlanAt w pb b0 b1 b2 b3 l0 l1 l2 l3)(hb:∀ b∈[pb,b0,b1,b2,b3],w'.heap[b]?=w.heap[b]?):PlanAt w' pb b0 b1 b2 b3 l0 l1 l2 l3 :=
 ⟨h.cells.move (hb pb (by simp)),h.m0.of_block (hb b0 (by simp)),h.m1.of_block (hb b1 (by simp)),h.m2.of_block (hb b2 (by simp)),h.m3.of_block (hb b3 (by simp)),h.ne⟩
theorem PlanAt.lts {w:World}{pb b0 b1 b2 b3:Nat}{l0:Things}{l1:Runs}{l2:Waits}{l3:Prefs}(h:PlanAt w pb b0 b1 b2 b3 l0 l1 l2 l3):∀ b∈[pb,b0,b1,b2,b3],b<w.heap.size:=by
 intro b hb
 simp only [List.mem_cons,List.not_mem_nil,or_false] at hb
 rcases hb with rfl | rfl | rfl | rfl | rfl
 ·exact h.lt
 ·exact h.m0.lt
 ·exact h.m1.lt
 ·exact h.m2.lt
 ·exact h.m3.lt
theorem new3b (w:World)(o:Obj)(x y z:Value)(t:TypeId):∀ (j:Nat)(u:Value),[x,y,z][j]?=some u→((w.alloc o).alloc (.cells #[x,y,z] t)).cell? ((⟨w.heap.size+1,0,none⟩:Addr).add j)=some u:=by
 have:=Zlv (w.alloc o) x y z t
 rwa [show (w.alloc o).heap.size=w.heap.size+1 by simp] at this
theorem ZiK {w w1 w2 W w5:World}{wb:Nat}{v vh u:Value}{ps:List Pa}(h:w.heap[wb]?=some (.cells #[v,vh] 29))(hr:RowAt w 47 3 cellsP v ps)(hne:v.ownBlock≠some wb)
  (hp1:PlanAt w1 (w.heap.size+1+1+1+1) w.heap.size (w.heap.size+1) (w.heap.size+1+1) (w.heap.size+1+1+1) [] [] [] []) (hc1:w1.heap[w.heap.size+1+1+1+1]?=some (.cells #[.map (some w.heap.size),.map (some (w.heap.size+1)),.map (some (w.heap.size+1+1)),.map (some (w.heap.size+1+1+1)),.int .i64 0,.slice none 0 0,.slice none 0 0,.slice none 0 0,.slice none 0 0] 61)) (hb1:Below w.heap.size w w1)
  (hp2:PlanAt w2 (w1.heap.size+1+1+1+1) w1.heap.size (w1.heap.size+1) (w1.heap.size+1+1) (w1.heap.size+1+1+1) [] [] [] []) (hb2:Below w1.heap.size w1 w2)
  (hbW:Below w2.heap.size w2 W) (hR:W.heap[w2.heap.size]?=some (.cells #[.slice none 0 0,.slice none 0 0,.slice none 0 0,.slice none 0 0,.slice none 0 0,.slice none 0 0,.slice none 0 0,.int .i64 0,.bool false,.int .i64 0,.slice none 0 0,.slice none 0 0] 45))
  (hg5:W.grownBy w5 v.ownBlock) (h5:w5.heap[wb]?=some (.cells #[v,vh] 29))
  (hrow5:RowAt w5 47 3 cellsP u (ps ++ [(w.heap.size+1+1+1+1,w1.heap.size+1+1+1+1,w2.heap.size)])) (hloc:u.ownBlock=v.ownBlock∨u.ownBlock=some W.heap.size) :
  Begun w wb v vh ps (w5.setCell ⟨wb,0,none⟩ u) u (w.heap.size+1+1+1+1) w.heap.size (w.heap.size+1) (w.heap.size+1+1) (w.heap.size+1+1+1) (w1.heap.size+1+1+1+1) w1.heap.size (w1.heap.size+1) (w1.heap.size+1+1) (w1.heap.size+1+1+1) w2.heap.size w1.heap.size:=by
 have hl:wb<w.heap.size:=(Ja.1 h).1
 have s1:=hb1.size
 have s2:=hb2.size
 have sW:w2.heap.size<W.heap.size:=(Ja.1 hR).1
 have bp:∀ b∈[w.heap.size+1+1+1+1,w.heap.size,w.heap.size+1,w.heap.size+1+1,w.heap.size+1+1+1],w.heap.size≤b∧b<w1.heap.size:=fun b hb=>⟨by simp at hb; omega,hp1.lts b hb⟩
 have bq:∀ b∈[w1.heap.size+1+1+1+1,w1.heap.size,w1.heap.size+1,w1.heap.size+1+1,w1.heap.size+1+1+1],w1.heap.size≤b∧b<w2.heap.size:=fun b hb=>⟨by simp at hb; omega,hp2.lts b hb⟩
 have mv:∀ b,w.heap.size≤b→b<W.heap.size→(w5.setCell ⟨wb,0,none⟩ u).heap[b]?=W.heap[b]?:=fun b h1 h2=>by
  rw [Below.heap_setCell w5 ⟨wb,0,none⟩ u b (by simp; omega)]
  refine hg5.block b h2 (fun e=>?_)
  have:=hr.lt e.symm
  omega
 have hset:=Zaa w5 ⟨wb,0,none⟩ u
 have hub:u.ownBlock≠some wb:=by
  rcases hloc with e | e
  ·rw [e]; exact hne
  ·rw [e]; simp; omega
 refine ⟨hp1.move (fun b hb=>?_),Eq.trans ?_ hc1,hp2.move (fun b hb=>?_),Zia ((mv _ (by omega) sW).trans hR),?_,hrow5.kept hset (Js (by simpa using hub)),?_,?_,bp,bq,s1,s2⟩
 ·obtain ⟨h1,h2⟩:=bp b hb
  rw [mv b h1 (by omega),hbW.block b (by omega),hb2.block b h2]
 ·obtain ⟨h1,h2⟩:=bp (w.heap.size+1+1+1+1) (by simp)
  rw [mv _ h1 (by omega),hbW.block _ (by omega),hb2.block _ h2]
 ·obtain ⟨h1,h2⟩:=bq b hb
  rw [mv b (by omega) (by omega),hbW.block b h2]
 ·exact heap_setCell h5 0 u
 ·have hbw:Below w.heap.size w W:=Zai (Zai hb1 hb2) hbW
  exact (Only.of_below hbw).trans ((Only.of_grown' hg5 (fun b hb=>by simp [hb])).trans (Only.of_grown' hset (fun b hb=>by cases hb; exact Jp)))
 ·rcases hloc with e | e
  ·exact Jr e
  ·exact Js (fun n hn=>by rw [e] at hn; cases hn; exact sW)
theorem ZeS (w:World)(wb:Nat)(v vh:Value)(ps:List Pa)(h:w.heap[wb]?=some (.cells #[v,vh] 29))(hr:RowAt w 47 3 cellsP v ps)(hlen:ps.length<1000000000000) :
  Calls Tryz.prog 10 #[.pointer (some ⟨wb,0,none⟩)] w fun e w'=>e=.returned (.bool true)∧∃ v' p b0 b1 b2 b3 q c0 c1 c2 c3 r m,Begun w wb v vh ps w' v' p b0 b1 b2 b3 q c0 c1 c2 c3 r m:=by
 have hl:wb<w.heap.size:=(Ja.1 h).1
 have hne:v.ownBlock≠some wb:=fun e=>by
  obtain ⟨cur,hq⟩:=hr.elem e
  rw [h] at hq
  simp at hq
 obtain ⟨pv,cv,rfl⟩:=Zah hr
 obtain ⟨i4,hi4,hy0,hy1,hy2⟩:=info_parts ZkI
 go_enter Tryz.func10,Tryz.ntmps10
 go_wp2_with fail
 refine (ZhU w).mono ?_
 rintro e w1 ⟨rfl,hp1,hc1,hb1⟩
 go_wp2_with fail
 refine (ZhU w1).mono ?_
 rintro e w2 ⟨rfl,hp2,_,hb2⟩
 have hb12:=Zai hb1 hb2
 have h2:=(hb12.block wb hl).trans h
 have hl2:wb<w2.heap.size:=(Ja.1 h2).1
 have hl3:wb<w2.heap.size+1:=by omega
 have c0:=Zbo h2 0
 simp only [Jg,Je] at c0
 have Hp:=hid (Jc hp1 (Jc hp2 hc1))
 have hb4:Below w2.heap.size w2 ((w2.alloc (.cells #[.slice none 0 0,.slice none 0 0,.slice none 0 0,.slice none 0 0,.slice none 0 0,.slice none 0 0,.slice none 0 0,.int .i64 0,.bool false,.int .i64 0,.slice none 0 0,.slice none 0 0] 45)).alloc (.cells #[.pointer (some ⟨w.heap.size+1+1+1+1,0,none⟩),.pointer (some ⟨w1.heap.size+1+1+1+1,0,none⟩),.pointer (some ⟨w2.heap.size,0,none⟩)] 47)):=((Jd _ _).alloc (Jb _) _).alloc (by simp) _
 have hr4:=(hr.below hb12).below hb4
 have h4:=(hb4.block wb hl2).trans h2
 have HR:=hid (ZbY (Jd _ ((w2.alloc (.cells #[.slice none 0 0,.slice none 0 0,.slice none 0 0,.slice none 0 0,.slice none 0 0,.slice none 0 0,.slice none 0 0,.int .i64 0,.bool false,.int .i64 0,.slice none 0 0,.slice none 0 0] 45)).alloc (.cells #[.pointer (some ⟨w.heap.size+1+1+1+1,0,none⟩),.pointer (some ⟨w1.heap.size+1+1+1+1,0,none⟩),.pointer (some ⟨w2.heap.size,0,none⟩)] 47)))).1
 have Hb:=hid hb4
 clear hp1 hp2 hc1 hb4
 go_wp2_with (first
  | (at_builtin; refine wpList_append_own_at _ rfl _ _ 26 rfl 0 47 i4 (.agg #[.pointer none,.pointer none,.pointer none]) 3 24 Tryz.underlying26 hi4 hy0 hy1 hy2 rfl (by decide) _ _ _ rfl hr4 ⟨w2.heap.size+1,0,none⟩ 1 1 [.pointer (some ⟨w.heap.size+1+1+1+1,0,none⟩),.pointer (some ⟨w1.heap.size+1+1+1+1,0,none⟩),.pointer (some ⟨w2.heap.size,0,none⟩)] rfl rfl (new3b _ _ _ _ _ _) (by intro u hu; simp at hu; rcases hu with rfl | rfl | rfl <;> rfl) (by unfold maxLen; omega) (by omega) (Jq _) ?_; intro u w5 hrow5 hg5 _ hloc5; obtain ⟨pu,cu,rfl⟩:=Zae hrow5; have h5:=(hg5.block wb (by have:=Hb.out.size; omega) hne.symm).trans h4; have q0:=Zbo h5 0; simp only [Jg,Je] at q0; have q1:w5.frozen? ⟨wb,0,none⟩=false:=(by simp [World.frozen?,h5]); have q2:wb<w5.heap.size:=(Ja.1 h5).1; have Hrow5:=hid hrow5; clear hrow5)
  | go_in)
 go_ret
 exact ⟨rfl,_,_,_,_,_,_,_,_,_,_,_,_,_,ZiK h hr hne Hp.out.1 Hp.out.2.2 hb1 Hp.out.2.1 hb2 Hb.out HR.out hg5 h5 (by unfold RowAt; simpa [cellsP] using Hrow5.out) hloc5⟩
end
section
open Go.RowKit
structure Pr where
 pb:Nat
 b0:Nat
 b1:Nat
 b2:Nat
 b3:Nat
 qb:Nat
 c0:Nat
 c1:Nat
 c2:Nat
 c3:Nat
 rb:Nat
 V:RVs
 x7:Value
 x8:Value
 x9:Value
 x10:Value
 x11:Value
 R:RSt
 l0:Things
 l1:Runs
 l2:Waits
 l3:Prefs
 m0:Things
 m1:Runs
 m2:Waits
 m3:Prefs
 S:List Nat
def Pr.P (x:Pr):List Nat:=[x.pb,x.b0,x.b1,x.b2,x.b3]
def Pr.Q (x:Pr):List Nat:=[x.qb,x.c0,x.c1,x.c2,x.c3]
def Pr.F (x:Pr):List Nat:=x.P ++ (x.Q ++ (foot x.rb x.V ++ x.S))
def Pr.a (x:Pr):Pa:=(x.pb,x.qb,x.rb)
structure Pr.ok (x:Pr)(w:World):Prop where
 p:PlanAt w x.pb x.b0 x.b1 x.b2 x.b3 x.l0 x.l1 x.l2 x.l3
 q:PlanAt w x.qb x.c0 x.c1 x.c2 x.c3 x.m0 x.m1 x.m2 x.m3
 r:RefAt w x.rb x.V x.x7 x.x8 x.x9 x.x10 x.x11 x.R
 sp:Sim x.l0 x.l1 x.l2 x.l3 x.R
 sq:Sim x.m0 x.m1 x.m2 x.m3 x.R
 d1:∀ b∈x.P,b∉x.Q
 d2:∀ b∈x.P,b∉foot x.rb x.V
 d3:∀ b∈x.Q,b∉foot x.rb x.V
 sh:ShOk w x.S x.pb x.x7 x.x8 x.x9 x.x10 x.x11
 d4:∀ b∈x.S,b∉x.P∧b∉x.Q∧b∉foot x.rb x.V
theorem RefAt.move {w w':World}{rb:Nat}{V:RVs}{x7 x8 x9 x10 x11:Value}{R:RSt}(h:RefAt w rb V x7 x8 x9 x10 x11 R)(hb:∀ b∈foot rb V,w'.heap[b]?=w.heap[b]?):RefAt w' rb V x7 x8 x9 x10 x11 R:=by
 have hv:∀ b∈V.blocks,w'.heap[b]?=w.heap[b]?:=fun b hm=>hb b (Jk _ hm)
 exact ⟨(hb rb Jp).trans h.cells,h.r0.move (fun b e=>hv b (Zab.2 (by simp [e]))),h.r1.move (fun b e=>hv b (Zab.2 (by simp [e]))),h.r2.move (fun b e=>hv b (Zab.2 (by simp [e]))),h.r3.move (fun b e=>hv b (Zab.2 (by simp [e]))),h.rw.move (fun b e=>hv b (Zab.2 (by simp [e]))),h.ro.move (fun b e=>hv b (Zab.2 (by simp [e]))),h.rt.move (fun b e=>hv b (Zab.2 (by simp [e]))),h.apart⟩
theorem RefAt.lts {w:World}{rb:Nat}{V:RVs}{x7 x8 x9 x10 x11:Value}{R:RSt}(h:RefAt w rb V x7 x8 x9 x10 x11 R):∀ b∈foot rb V,b<w.heap.size:=fun b hb=>by
 rcases List.mem_cons.1 hb with rfl | hb
 ·exact h.lt
 ·exact h.rlt b hb
theorem Pr.inP {x:Pr}{b:Nat}(h:b∈x.P):b∈x.F:=Ju _ h
theorem Pr.inQ {x:Pr}{b:Nat}(h:b∈x.Q):b∈x.F:=Jt _ (Ju _ h)
theorem Pr.inR {x:Pr}{b:Nat}(h:b∈foot x.rb x.V):b∈x.F:=Jt _ (Jt _ (Ju _ h))
theorem Pr.inS {x:Pr}{b:Nat}(h:b∈x.S):b∈x.F:=Jt _ (Jt _ (Jt _ h))
theorem Pr.mem {x:Pr}{b:Nat}(h:b∈x.F):b∈x.P∨b∈x.Q∨b∈foot x.rb x.V∨b∈x.S:=by
 rcases List.mem_append.1 h with h | h
 ·exact Jr h
 ·rcases List.mem_append.1 h with h | h
  ·exact Js (Jr h)
  ·exact Js (Js (List.mem_append.1 h))
theorem Pr.ok.lt {x:Pr}{w:World}(h:x.ok w):∀ b∈x.F,b<w.heap.size:=fun b hb=>by
 rcases Pr.mem hb with hb | hb | hb | hb
 ·exact h.p.lts b hb
 ·exact h.q.lts b hb
 ·exact h.r.lts b hb
 ·exact h.sh.lt b hb
theorem Pr.ok.move {x:Pr}{w w':World}(h:x.ok w)(hb:∀ b∈x.F,w'.heap[b]?=w.heap[b]?):x.ok w' :=
 ⟨h.p.move (fun b hm=>hb b (Pr.inP hm)),h.q.move (fun b hm=>hb b (Pr.inQ hm)),h.r.move (fun b hm=>hb b (Pr.inR hm)),h.sp,h.sq,h.d1,h.d2,h.d3,h.sh.move (hb _ (Pr.inP Jp)) (fun b hm=>hb b (Pr.inS hm)),h.d4⟩
theorem Pr.ok.only {x:Pr}{w w':World}{S:List Nat}(h:x.ok w)(ho:Only S w w')(hd:∀ b∈x.F,b∉S):x.ok w' :=
 h.move (fun b hb=>ho.block b (h.lt b hb) (hd b hb))
theorem Only.mono {S T:List Nat}{w w':World}(h:Only S w w')(hs:∀ b∈S,b∈T):Only T w w':=⟨h.os,h.tape,h.output,h.size,fun k hk hn=>h.block k hk (fun hm=>hn (hs k hm))⟩
structure WAt (w:World)(base wb:Nat)(v vh:Value)(xs:List Pr):Prop where
 cells:w.heap[wb]?=some (.cells #[v,vh] 29)
 row:RowAt w 47 3 cellsP v (xs.map Pr.a)
 ok:∀ x∈xs,x.ok w
 dis:xs.Pairwise (fun x y=>∀ b∈x.F,b∉y.F)
 dw:∀ x∈xs,wb∉x.F
 dv:∀ x∈xs,∀ b,v.ownBlock=some b→b∉x.F
 lw:base≤wb
 lv:∀ b,v.ownBlock=some b→base≤b
 lx:∀ x∈xs,∀ b∈x.F,base≤b
def FW (wb:Nat)(v:Value)(xs:List Pr):List Nat:=wb :: (v.ownBlock.toList ++ xs.flatMap Pr.F)
section
variable {w:World}{base wb:Nat}{v vh:Value}{xs:List Pr}
theorem WAt.foots (h:WAt w base wb v vh xs):∀ b∈FW wb v xs,base≤b∧b<w.heap.size:=fun b hb=>by
 rcases List.mem_cons.1 hb with rfl | hb
 ·exact ⟨h.lw,(Ja.1 h.cells).1⟩
 ·rcases List.mem_append.1 hb with hb | hb
  ·have e:v.ownBlock=some b:=by simpa using hb
   exact ⟨h.lv b e,h.row.lt e⟩
  ·obtain ⟨x,hx,hm⟩:=List.mem_flatMap.1 hb
   exact ⟨h.lx x hx b hm,(h.ok x hx).lt b hm⟩
theorem WAt.below {w':World}(h:WAt w base wb v vh xs)(hb:Below w.heap.size w w'):WAt w' base wb v vh xs :=
 ⟨(hb.block wb (Ja.1 h.cells).1).trans h.cells,h.row.below hb,fun x hx=>(h.ok x hx).move (fun b hm=>hb.block b ((h.ok x hx).lt b hm)),h.dis,h.dw,h.dv,h.lw,h.lv,h.lx⟩
theorem Zbn {S:List Nat}{w w':World}(h:Only S w w')(hs:∀ b∈S,base≤b)(hl:base≤w.heap.size):Below base w w' :=
 ⟨h.os,h.tape,h.output,h.size,fun k hk=>h.block k (by omega) (fun hm=>by have:=hs k hm; omega)⟩
theorem WAt.upd {w':World}(h:WAt w base wb v vh xs){i:Nat}(hi:i<xs.length){y:Pr}(hy:y.ok w')(ho:Only xs[i].F w w')(hF:∀ b∈y.F,b∈xs[i].F∨w.heap.size≤b)(ha:y.a=xs[i].a):WAt w' base wb v vh (xs.set i y):=by
 have hm:=Jl hi
 have hlw:wb<w.heap.size:=(Ja.1 h.cells).1
 have hb:base≤w.heap.size:=by have:=h.lw; omega
 have hmap:(xs.set i y).map Pr.a=xs.map Pr.a:=by
  rw [List.map_set,ha]
  have:(xs.map Pr.a)[i]'(by simpa using hi)=xs[i].a:=by simp
  rw [← this,List.set_getElem_self]
 have sym:∀ x y:Pr,(∀ b∈x.F,b∉y.F)→(∀ b∈y.F,b∉x.F):=fun x y hh b hb hx=>hh b hx hb
 have hother:∀ j,(hj:j<xs.length)→j≠i→∀ b∈xs[j].F,b∉xs[i].F:=fun j hj hne=>by
  rcases Nat.lt_or_gt_of_ne hne with hlt | hgt
  ·exact (List.pairwise_iff_getElem.1 h.dis) j i hj hi hlt
  ·exact sym _ _ ((List.pairwise_iff_getElem.1 h.dis) i j hi hj hgt)
 have hyo:∀ j,(hj:j<xs.length)→j≠i→∀ b∈y.F,b∉xs[j].F:=fun j hj hne b hb hx=>by
  rcases hF b hb with h1 | h1
  ·exact hother j hj hne b hx h1
  ·have:=(h.ok _ (Jl hj)).lt b hx
   omega
 have each:∀ {p:Pr→Prop},p y→(∀ j,(hj:j<xs.length)→j≠i→p xs[j])→∀ x∈xs.set i y,p x:=fun {p} h1 h2 x hx=>by
  obtain ⟨j,hj,rfl⟩:=List.mem_iff_getElem.1 hx
  rw [List.getElem_set]
  by_cases e:i=j
  ·rw [if_pos e]; exact h1
  ·rw [if_neg e]; exact h2 j (by simpa using hj) (Ne.symm e)
 refine ⟨(ho.block wb hlw (h.dw _ hm)).trans h.cells,?_,?_,?_,?_,?_,h.lw,h.lv,?_⟩
 ·rw [hmap]
  exact h.row.move (fun b e=>ho.block b (h.row.lt e) (h.dv _ hm b e))
 ·exact each hy (fun j hj hne=>(h.ok _ (Jl hj)).only ho (hother j hj hne))
 ·rw [List.pairwise_iff_getElem]
  intro j k hj hk hjk
  have hj':j<xs.length:=by simpa using hj
  have hk':k<xs.length:=by simpa using hk
  rw [List.getElem_set,List.getElem_set]
  by_cases e1:i=j
  ·rw [if_pos e1,if_neg (by omega)]
   exact hyo k hk' (by omega)
  ·rw [if_neg e1]
   by_cases e2:i=k
   ·rw [if_pos e2]
    exact sym _ _ (hyo j hj' (by omega))
   ·rw [if_neg e2]
    exact (List.pairwise_iff_getElem.1 h.dis) j k hj' hk' hjk
 ·refine each (fun hx=>?_) (fun j hj _=>h.dw _ (Jl hj))
  rcases hF wb hx with h1 | h1
  ·exact h.dw _ hm h1
  ·omega
 ·refine each (fun b e hx=>?_) (fun j hj _=>h.dv _ (Jl hj))
  rcases hF b hx with h1 | h1
  ·exact h.dv _ hm b e h1
  ·have:=h.row.lt e
   omega
 ·refine each (fun b hx=>?_) (fun j hj _=>h.lx _ (Jl hj))
  rcases hF b hx with h1 | h1
  ·exact h.lx _ hm b h1
  ·omega
theorem WAt.begun {w':World}{v':Value}{p b0 b1 b2 b3 q c0 c1 c2 c3 r m:Nat}(h:WAt w base wb v vh xs)(hb:Begun w wb v vh (xs.map Pr.a) w' v' p b0 b1 b2 b3 q c0 c1 c2 c3 r m) :
  ∃ y:Pr,WAt w' base wb v' vh (xs ++ [y])∧Only (FW wb v xs) w w'∧∀ b∈FW wb v' (xs ++ [y]),b∈FW wb v xs∨w.heap.size≤b:=by
 have hlw:wb<w.heap.size:=(Ja.1 h.cells).1
 have hlb:=h.lw
 have hbr:=hb.br
 let y:Pr:=⟨p,b0,b1,b2,b3,q,c0,c1,c2,c3,r,V0,.int .i64 0,.bool false,.int .i64 0,.slice none 0 0,.slice none 0 0,R0,[],[],[],[],[],[],[],[],[]⟩
 have hfoot:∀ b∈foot r V0,b=r:=fun b hm=>by
  rcases List.mem_cons.1 hm with rfl | hm
  ·rfl
  ·exact absurd hm (by show b∉([]:List Nat); simp)
 have hyF:∀ b∈y.F,w.heap.size≤b∧b≤r:=fun b hm=>by
  rcases Pr.mem hm with hm | hm | hm | hm
  ·have:=hb.bp b hm; omega
  ·have:=hb.bq b hm; omega
  ·have:=hfoot b hm; omega
  ·exact absurd hm (by show b∉([]:List Nat); simp)
 have hyok:y.ok w':=⟨hb.hp,hb.hq,hb.hr,sim0,sim0,fun b h1 h2=>by
   have:=hb.bp b h1
   have:=hb.bq b h2
   omega,fun b h1 h2=>by
   have:=hb.bp b h1
   have:=hfoot b h2
   omega,fun b h1 h2=>by
   have:=hb.bq b h1
   have:=hfoot b h2
   omega,ShOk.new hb.hc,fun b hm=>absurd hm (by show b∉([]:List Nat); simp)⟩
 have hS:∀ x∈xs,∀ b∈x.F,b∉wb :: v.ownBlock.toList:=fun x hx b hm hs=>by
  rcases List.mem_cons.1 hs with rfl | hs
  ·exact h.dw x hx hm
  ·exact h.dv x hx b (by simpa using hs) hm
 have hv':∀ b,v'.ownBlock=some b→v.ownBlock=some b∨r<b:=fun b e=>by
  rcases hb.loc with h1 | h1
  ·left; rw [← h1]; exact e
  ·right; exact h1 b e
 refine ⟨y,⟨hb.cells,by simpa [Pr.a] using hb.row,fun x hx=>?_,?_,fun x hx=>?_,fun x hx b e=>?_,h.lw,fun b e=>?_,fun x hx b hm=>?_⟩,hb.only.mono (fun b hm=>?_),fun b hm=>?_⟩
 ·rcases ZaD.1 hx with hx | rfl
  ·exact (h.ok x hx).only hb.only (hS x hx)
  ·exact hyok
 ·rw [List.pairwise_append]
  refine ⟨h.dis,List.pairwise_singleton _ _,fun x hx z hz b h1 h2=>?_⟩
  rw [List.mem_singleton.1 hz] at h2
  have:=(h.ok x hx).lt b h1
  have:=hyF b h2
  omega
 ·rcases ZaD.1 hx with hx | rfl
  ·exact h.dw x hx
  ·intro hm
   have:=hyF wb hm
   omega
 ·rcases ZaD.1 hx with hx | rfl
  ·rcases hv' b e with h1 | h1
   ·exact h.dv x hx b h1
   ·intro hm
    have:=(h.ok x hx).lt b hm
    omega
  ·intro hm
   have h2:=hyF b hm
   rcases hv' b e with h1 | h1
   ·have:=h.row.lt h1; omega
   ·omega
 ·rcases hv' b e with h1 | h1
  ·exact h.lv b h1
  ·omega
 ·rcases ZaD.1 hx with hx | rfl
  ·exact h.lx x hx b hm
  ·have:=hyF b hm; omega
 ·rcases List.mem_cons.1 hm with rfl | hm
  ·exact Jp
  ·exact Jk _ (Ju _ hm)
 ·rcases List.mem_cons.1 hm with rfl | hm
  ·exact Jr Jp
  rcases List.mem_append.1 hm with hm | hm
  ·rcases hv' b (by simpa using hm) with h1 | h1
   ·exact Jr (Jk _ (Ju _ (by simpa using h1)))
   ·exact Js (by omega)
  ·obtain ⟨x,hx,hxm⟩:=List.mem_flatMap.1 hm
   rcases ZaD.1 hx with hx | rfl
   ·exact Jr (Jk _ (Jt _ (List.mem_flatMap.2 ⟨x,hx,hxm⟩)))
   ·exact Js (hyF b hxm).1
theorem Zj1 {i:Nat}(hi:i<xs.length){y:Pr}{n:Nat}(hF:∀ b∈y.F,b∈xs[i].F∨n≤b):∀ b∈FW wb v (xs.set i y),b∈FW wb v xs∨n≤b:=fun b hm=>by
 rcases List.mem_cons.1 hm with rfl | hm
 ·exact Jr Jp
 rcases List.mem_append.1 hm with hm | hm
 ·exact Jr (Jk _ (Ju _ hm))
 ·obtain ⟨x,hx,hxm⟩:=List.mem_flatMap.1 hm
  rcases List.mem_or_eq_of_mem_set hx with hx | rfl
  ·exact Jr (Jk _ (Jt _ (List.mem_flatMap.2 ⟨x,hx,hxm⟩)))
  ·rcases hF b hxm with h1 | h1
   ·exact Jr (Jk _ (Jt _ (List.mem_flatMap.2 ⟨_,Jl hi,h1⟩)))
   ·exact Js h1
end
end
end Go.Proofs.YtjdindfjfpdikaaGreat
