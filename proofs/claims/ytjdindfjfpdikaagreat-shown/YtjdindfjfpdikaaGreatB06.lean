import Derived.Test.YtjdindfjfpdikaaGreatB05
import Derived.Test.YtjdindfjfpdikaaGreatPre
set_option maxRecDepth 100000
set_option maxHeartbeats 8000000
namespace Go.Proofs.YtjdindfjfpdikaaGreat
section
open Go.RowKit
section
variable {w:World}{rb:Nat}{V:RVs}{x7 x8 x9 x10 x11:Value}{R:RSt}
theorem Zju (h:RefAt w rb V x7 x8 x9 x10 x11 R)(id:Int)(k:Nat)(hk:k<R.t0.length)(hat:atOf id R.t0=k)(hl1:R.t1.length≤1000)(hl3:R.t3.length≤1000)(hlk:R.t0.length≤1000)(hlw:R.ws.length≤1000000000)(hlo:R.on.length=R.t3.length)(hlt:R.wt.length=R.t3.length)(hbusy:∀ j,(hj:j<R.t1.length)→R.t1[j].2.1≠id) :
  Calls Tryz.prog 36 #[.pointer (some ⟨rb,0,none⟩),.int .i64 0,.int .i64 id] w fun e w'=>e=.returned (.int .i64 0)∧∃ V',RefAt w' rb V' x7 x8 x9 x10 x11 { R with t0:=R.t0.eraseIdx k,ws:=R.ws.filter (fun x=>!goneW 0 id x) }∧Only (foot rb V) w w'∧(∀ b∈V'.blocks,b∈V.blocks∨w.heap.size≤b):=by
 have hon:True:=trivial
 have A1:=hid (Zap _ rb 0 V.v0 R.t0 id (by decide) h.c0 h.r0 hlk)
 rw [hat] at A1
 obtain ⟨p1,cp1,hv1⟩:=Zah h.r1
 obtain ⟨p3,cp3,hv3⟩:=Zah h.r3
 have c1:=h.c1
 have c3:=h.c3
 have Hs1:=hid (h.r1.shape (fun _=>rfl))
 have Hs3:=hid (h.r3.shape (fun _=>rfl))
 rw [hv1] at c1
 rw [hv3] at c3
 have hrb:=h.lt
 obtain ⟨i0,hi,hz0,hz1,hz2⟩:=info_parts Zcd
 have hkneg:decide ((k:Int)<0)=false:=by simp
 have Hlo:=hid (Jc hlo (Jc hlt hon))
 clear hlo hlt hon
 go_enter Tryz.func36,Tryz.ntmps36
 go_wp2_with fail
 refine A1.out.mono ?_
 rintro e w2 ⟨rfl,rfl⟩
 go_wp2_with fail
 clear A1
 go_loop [8] (fun i=>∃ j:Nat,j≤R.t1.length∧i=.int .i64 j) (fun i=>R.t1.length - (intOf i).toNat)
 case atStart=>exact ⟨0,Jq _,rfl⟩
 case' round=>skip
 obtain ⟨j,hj',rfl⟩:=hrel
 by_cases hj:j<R.t1.length
 ·have hjI:(j:Int)<(R.t1.length:Int):=by omega
  have hsh:=Hs1.out
  rcases hsh with ⟨e,e0⟩ | ⟨g,cap,cur,e,_,hgl,_,_,hc⟩
  ·rw [e0] at hj; simp at hj
  have ee:=hv1.symm.trans e
  simp only [Value.slice.injEq] at ee
  obtain ⟨rfl,_,rfl⟩:=ee
  have q1:=(hc j 1 hj (by decide)).1
  simp only [cellsT,Je,Jf] at q1
  have hnb:(R.t1[j].2.1 == id)=false:=by simpa using hbusy j hj
  clear hc e
  go_wp2
  go_round
  case rel=>exact ⟨j+1,by omega,by go_num⟩
  case measure=>simp [intOf]; omega
 go_wp2_with fail
 clear hj hj'
 go_loop [9] (fun i=>∃ j:Nat,j≤R.t3.length∧i=.int .i64 j) (fun i=>R.t3.length - (intOf i).toNat)
 case atStart=>exact ⟨0,Jq _,rfl⟩
 case' round=>skip
 obtain ⟨j,hj',rfl⟩:=hrel
 by_cases hj:j<R.t3.length
 ·have hjI:(j:Int)<(R.t3.length:Int):=by omega
  go_wp2
  go_round
  case rel=>exact ⟨j+1,by omega,by go_num⟩
  case measure=>simp [intOf]; omega
 have hjI:¬ (j:Int)<(R.t3.length:Int):=by omega
 clear hj hj'
 rcases h.r0.shape (fun _=>rfl) with ⟨e,e0⟩ | ⟨g,cap,cur,hvk,hg,hgl,hle,hcm,hc⟩
 ·rw [e0] at hk; simp at hk
 have ck:=h.c0
 rw [hvk] at ck
 have hk1:(k:Int)<(R.t0.length:Int):=by omega
 have hk2:(R.t0.length:Int)≤(cap:Int):=by omega
 have hk3:(k:Int)≤(cap:Int):=by omega
 have hk4:(k:Int)+1≤(cap:Int):=by omega
 have hk5:(k:Int)+1≤(R.t0.length:Int):=by omega
 have F1:=hid (RowAt.from hc 0 k (by omega))
 rw [Nat.zero_mul,List.drop_zero] at F1
 have F2:=hid (RowAt.from hc (k+1) (R.t0.length - (k+1)) (by omega))
 rw [List.take_of_length_le (by simp)] at F2
 have hlk1:((R.t0.take k).flatMap cellsT).length=k*3:=by rw [Zax (enc:=cellsT) (size:=3) (fun _=>rfl)]; simp; omega
 have hld1:((R.t0.drop (k+1)).flatMap cellsT).length=(R.t0.length - (k+1))*3:=by rw [Zax (enc:=cellsT) (size:=3) (fun _=>rfl)]; simp
 have O1:=hid (Zkd (R.t0.take k))
 have O2:=hid (Zkd (R.t0.drop (k+1)))
 have Her:=hid (show (R.t0.eraseIdx k).length=k+(R.t0.length - (k+1))∧(R.t0.eraseIdx k).flatMap cellsT=(R.t0.take k).flatMap cellsT ++ (R.t0.drop (k+1)).flatMap cellsT from ⟨by rw [List.length_eraseIdx_of_lt hk]; omega,by rw [List.eraseIdx_eq_take_drop_succ,List.flatMap_append]⟩)
 clear hc hg
 go_upto_region 18 with (first
  | (at_builtin; refine wpList_append_own _ rfl _ _ 41 rfl w2.heap.size 76 i0 (.agg #[.int .i64 0,.int .i64 0,.int .i64 0]) 3 24 Tryz.underlying41 hi hz0 hz1 hz2 rfl (by decide) (.slice none 0 0) 0 [] rfl (World.ownsRow_nil _ _ _ _) ⟨g,0,none⟩ k cap ((R.t0.take k).flatMap cellsT) rfl hlk1 F1.out O1.out (by unfold maxLen; omega) (by omega) (Jb _) ?_; intro v1 w1 hrow1 hg1 _; simp only [Nat.zero_add,List.nil_append] at hrow1; obtain ⟨p1,cp1,rfl⟩:=Zae hrow1; have hb1:Below w2.heap.size w2 w1:=(Jd _ _).grown hg1 (Jb _) (fun j hj=>by cases hj); clear hlk1)
  | go_in)
 have ck1:=(h.below hb1).c0
 rw [hvk] at ck1
 have hrb1:=(h.below hb1).lt
 clear ck c1 c3 hjI
 have hjI:True:=trivial
 by_cases hcap:cap=k+1
 ·have hx:R.t0.length=k+1:=by omega
  subst hcap
  have hd0:R.t0.drop (k+1)=[]:=List.drop_eq_nil_of_le (by omega)
  have hx0:R.t0.length - (k+1)=0:=by omega
  rw [hd0,hx0] at Her
  have Hx:=hid (Jc hx hd0)
  clear hx hd0 F2 hld1
  go_wp2_with (first
   | (at_builtin; refine wpList_append_own _ rfl _ _ 41 rfl w2.heap.size 76 i0 (.agg #[.int .i64 0,.int .i64 0,.int .i64 0]) 3 24 Tryz.underlying41 hi hz0 hz1 hz2 rfl (by decide) _ _ _ rfl hrow1 ⟨g,0,none⟩ 0 0 [] rfl rfl (by simp) (by simp) (by unfold maxLen; omega) (by omega) hb1.size ?_; intro v2 wB hrow2 hg2 _; have hrow3:wB.ownsRow w2.heap.size 76 3 v2 (R.t0.eraseIdx k).length ((R.t0.eraseIdx k).flatMap cellsT):=(by rw [Her.out.1,Her.out.2]; simpa using hrow2); clear hrow2; have hb2:=hb1.grown hg2 hb1.size (fun j hj=>(hrow1.lt j hj).1); have hs:=hid (h.set_t0 (Zaj hb2 _) (Zba hrow3) (Js (fun n hn=>(hrow3.lt n hn).1))); obtain ⟨p2,cp2,rfl⟩:=Zae hrow3; have fK:=(h.below hb2).fr 0; have cK:=(h.below hb2).c0; have hrbB:=(h.below hb2).lt; have Hrow3:=hid hrow3; clear hrow3 hrow1 hg2 hg1)
   | (go_at_call 64; refine (Za9 hs.out.1 0 id hlw).mono ?_; rintro e w3 ⟨rfl,V3,h3,ho3⟩)
   | go_in)
  have st3:=hid (ZbN hs.out.2 ho3)
  have h3ro:RowAt w3 3 1 cellsI V3.vo R.on:=h3.ro
  obtain ⟨po,cpo,hvo⟩:=Zah h3ro
  have c5:=h3.c5
  rw [hvo] at c5
  have hrb3:=h3.lt
  clear hs ho3 fK cK hrbB hb2 hb1 hjI
  have H3:=hid h3
  clear h3
  go_loop [11] (fun i=>∃ j:Nat,j≤R.on.length∧i=.int .i64 j) (fun i=>R.on.length - (intOf i).toNat)
  case atStart=>exact ⟨0,Jq _,rfl⟩
  case' round=>skip
  obtain ⟨j,hj',rfl⟩:=hrel
  have hlo3:=Hlo.out.1
  by_cases hj:j<R.on.length
  ·have hjI:(j:Int)<(R.on.length:Int):=by omega
   go_wp2
   go_round
   case rel=>exact ⟨j+1,by omega,by go_num⟩
   case measure=>simp [intOf]; omega
  go_wp2_with fail
  go_ret
  exact ⟨rfl,V3,H3.out,st3.out⟩
 ·have hcap':(k:Int)+1<(cap:Int):=by omega
  have hcapn:k+1<cap:=by omega
  clear hcap
  go_wp2_with (first
   | (at_builtin; refine wpList_append_own _ rfl _ _ 41 rfl w2.heap.size 76 i0 (.agg #[.int .i64 0,.int .i64 0,.int .i64 0]) 3 24 Tryz.underlying41 hi hz0 hz1 hz2 rfl (by decide) _ _ _ rfl hrow1 ⟨g,(k+1)*3,none⟩ (R.t0.length - (k+1)) (cap - (k+1)) ((R.t0.drop (k+1)).flatMap cellsT) rfl hld1 (fun j u hu=>by rw [hb1.cell (p:=(⟨g,(k+1)*3,none⟩:Addr).add j) (by rw [Addr.add_lit]; exact hgl)]; exact F2.out j u hu) O2.out (by unfold maxLen; omega) (by omega) hb1.size ?_; intro v2 wB hrow2 hg2 _; have hrow3:wB.ownsRow w2.heap.size 76 3 v2 (R.t0.eraseIdx k).length ((R.t0.eraseIdx k).flatMap cellsT):=(by rw [Her.out.1,Her.out.2]; exact hrow2); clear hrow2; have hb2:=hb1.grown hg2 hb1.size (fun j hj=>(hrow1.lt j hj).1); have hs:=hid (h.set_t0 (Zaj hb2 _) (Zba hrow3) (Js (fun n hn=>(hrow3.lt n hn).1))); obtain ⟨p2,cp2,rfl⟩:=Zae hrow3; have fK:=(h.below hb2).fr 0; have cK:=(h.below hb2).c0; have hrbB:=(h.below hb2).lt; have Hrow3:=hid hrow3; clear hrow3 hrow1 hg2 hg1)
   | (go_at_call 64; refine (Za9 hs.out.1 0 id hlw).mono ?_; rintro e w3 ⟨rfl,V3,h3,ho3⟩)
   | go_in)
  have st3:=hid (ZbN hs.out.2 ho3)
  have h3ro:RowAt w3 3 1 cellsI V3.vo R.on:=h3.ro
  obtain ⟨po,cpo,hvo⟩:=Zah h3ro
  have c5:=h3.c5
  rw [hvo] at c5
  have hrb3:=h3.lt
  clear hs ho3 fK cK hrbB hb2 hb1 hjI
  have H3:=hid h3
  clear h3
  go_loop [11] (fun i=>∃ j:Nat,j≤R.on.length∧i=.int .i64 j) (fun i=>R.on.length - (intOf i).toNat)
  case atStart=>exact ⟨0,Jq _,rfl⟩
  case' round=>skip
  obtain ⟨j,hj',rfl⟩:=hrel
  have hlo3:=Hlo.out.1
  by_cases hj:j<R.on.length
  ·have hjI:(j:Int)<(R.on.length:Int):=by omega
   go_wp2
   go_round
   case rel=>exact ⟨j+1,by omega,by go_num⟩
   case measure=>simp [intOf]; omega
  go_wp2_with fail
  go_ret
  exact ⟨rfl,V3,H3.out,st3.out⟩
end
end
section
open Go.RowKit
section
variable {w:World}{rb:Nat}{V:RVs}{x7 x8 x9 x10 x11:Value}{R:RSt}
theorem Zjy (h:RefAt w rb V x7 x8 x9 x10 x11 R)(id:Int)(k:Nat)(hk:k<R.t2.length)(hat:atOf id R.t2=k)(hl1:R.t1.length≤1000)(hl3:R.t3.length≤1000)(hlk:R.t2.length≤1000)(hlw:R.ws.length≤1000000000)(hlo:R.on.length=R.t3.length)(hlt:R.wt.length=R.t3.length)(hbusy:∀ j,(hj:j<R.t3.length)→R.t3[j].2.1≠id) :
  Calls Tryz.prog 36 #[.pointer (some ⟨rb,0,none⟩),.int .i64 2,.int .i64 id] w fun e w'=>e=.returned (.int .i64 0)∧∃ V',RefAt w' rb V' x7 x8 x9 x10 x11 { R with t2:=R.t2.eraseIdx k,ws:=R.ws.filter (fun x=>!goneW 2 id x) }∧Only (foot rb V) w w'∧(∀ b∈V'.blocks,b∈V.blocks∨w.heap.size≤b):=by
 have hon:True:=trivial
 have A1:=hid (Zap _ rb 2 V.v2 R.t2 id (by decide) h.c2 h.r2 hlk)
 rw [hat] at A1
 obtain ⟨p1,cp1,hv1⟩:=Zah h.r1
 obtain ⟨p3,cp3,hv3⟩:=Zah h.r3
 have c1:=h.c1
 have c3:=h.c3
 have Hs1:=hid (h.r1.shape (fun _=>rfl))
 have Hs3:=hid (h.r3.shape (fun _=>rfl))
 rw [hv1] at c1
 rw [hv3] at c3
 have hrb:=h.lt
 obtain ⟨i0,hi,hz0,hz1,hz2⟩:=info_parts Zcd
 have hkneg:decide ((k:Int)<0)=false:=by simp
 have Hlo:=hid (Jc hlo (Jc hlt hon))
 clear hlo hlt hon
 go_enter Tryz.func36,Tryz.ntmps36
 go_wp2_with fail
 refine A1.out.mono ?_
 rintro e w2 ⟨rfl,rfl⟩
 go_wp2_with fail
 clear A1
 go_loop [8] (fun i=>∃ j:Nat,j≤R.t1.length∧i=.int .i64 j) (fun i=>R.t1.length - (intOf i).toNat)
 case atStart=>exact ⟨0,Jq _,rfl⟩
 case' round=>skip
 obtain ⟨j,hj',rfl⟩:=hrel
 by_cases hj:j<R.t1.length
 ·have hjI:(j:Int)<(R.t1.length:Int):=by omega
  go_wp2
  go_round
  case rel=>exact ⟨j+1,by omega,by go_num⟩
  case measure=>simp [intOf]; omega
 go_wp2_with fail
 clear hj hj'
 go_loop [9] (fun i=>∃ j:Nat,j≤R.t3.length∧i=.int .i64 j) (fun i=>R.t3.length - (intOf i).toNat)
 case atStart=>exact ⟨0,Jq _,rfl⟩
 case' round=>skip
 obtain ⟨j,hj',rfl⟩:=hrel
 by_cases hj:j<R.t3.length
 ·have hjI:(j:Int)<(R.t3.length:Int):=by omega
  have hsh:=Hs3.out
  rcases hsh with ⟨e,e0⟩ | ⟨g,cap,cur,e,_,hgl,_,_,hc⟩
  ·rw [e0] at hj; simp at hj
  have ee:=hv3.symm.trans e
  simp only [Value.slice.injEq] at ee
  obtain ⟨rfl,_,rfl⟩:=ee
  have q1:=(hc j 1 hj (by decide)).1
  simp only [cellsT,Je,Jf] at q1
  have hnb:(R.t3[j].2.1 == id)=false:=by simpa using hbusy j hj
  clear hc e
  go_wp2
  go_round
  case rel=>exact ⟨j+1,by omega,by go_num⟩
  case measure=>simp [intOf]; omega
 have hjI:¬ (j:Int)<(R.t3.length:Int):=by omega
 clear hj hj'
 rcases h.r2.shape (fun _=>rfl) with ⟨e,e0⟩ | ⟨g,cap,cur,hvk,hg,hgl,hle,hcm,hc⟩
 ·rw [e0] at hk; simp at hk
 have ck:=h.c2
 rw [hvk] at ck
 have hk1:(k:Int)<(R.t2.length:Int):=by omega
 have hk2:(R.t2.length:Int)≤(cap:Int):=by omega
 have hk3:(k:Int)≤(cap:Int):=by omega
 have hk4:(k:Int)+1≤(cap:Int):=by omega
 have hk5:(k:Int)+1≤(R.t2.length:Int):=by omega
 have F1:=hid (RowAt.from hc 0 k (by omega))
 rw [Nat.zero_mul,List.drop_zero] at F1
 have F2:=hid (RowAt.from hc (k+1) (R.t2.length - (k+1)) (by omega))
 rw [List.take_of_length_le (by simp)] at F2
 have hlk1:((R.t2.take k).flatMap cellsT).length=k*3:=by rw [Zax (enc:=cellsT) (size:=3) (fun _=>rfl)]; simp; omega
 have hld1:((R.t2.drop (k+1)).flatMap cellsT).length=(R.t2.length - (k+1))*3:=by rw [Zax (enc:=cellsT) (size:=3) (fun _=>rfl)]; simp
 have O1:=hid (Zkd (R.t2.take k))
 have O2:=hid (Zkd (R.t2.drop (k+1)))
 have Her:=hid (show (R.t2.eraseIdx k).length=k+(R.t2.length - (k+1))∧(R.t2.eraseIdx k).flatMap cellsT=(R.t2.take k).flatMap cellsT ++ (R.t2.drop (k+1)).flatMap cellsT from ⟨by rw [List.length_eraseIdx_of_lt hk]; omega,by rw [List.eraseIdx_eq_take_drop_succ,List.flatMap_append]⟩)
 clear hc hg
 go_upto_region 18 with (first
  | (at_builtin; refine wpList_append_own _ rfl _ _ 41 rfl w2.heap.size 76 i0 (.agg #[.int .i64 0,.int .i64 0,.int .i64 0]) 3 24 Tryz.underlying41 hi hz0 hz1 hz2 rfl (by decide) (.slice none 0 0) 0 [] rfl (World.ownsRow_nil _ _ _ _) ⟨g,0,none⟩ k cap ((R.t2.take k).flatMap cellsT) rfl hlk1 F1.out O1.out (by unfold maxLen; omega) (by omega) (Jb _) ?_; intro v1 w1 hrow1 hg1 _; simp only [Nat.zero_add,List.nil_append] at hrow1; obtain ⟨p1,cp1,rfl⟩:=Zae hrow1; have hb1:Below w2.heap.size w2 w1:=(Jd _ _).grown hg1 (Jb _) (fun j hj=>by cases hj); clear hlk1)
  | go_in)
 have ck1:=(h.below hb1).c2
 rw [hvk] at ck1
 have hrb1:=(h.below hb1).lt
 clear ck c1 c3 hjI
 have hjI:True:=trivial
 by_cases hcap:cap=k+1
 ·have hx:R.t2.length=k+1:=by omega
  subst hcap
  have hd0:R.t2.drop (k+1)=[]:=List.drop_eq_nil_of_le (by omega)
  have hx0:R.t2.length - (k+1)=0:=by omega
  rw [hd0,hx0] at Her
  have Hx:=hid (Jc hx hd0)
  clear hx hd0 F2 hld1
  go_wp2_with (first
   | (at_builtin; refine wpList_append_own _ rfl _ _ 41 rfl w2.heap.size 76 i0 (.agg #[.int .i64 0,.int .i64 0,.int .i64 0]) 3 24 Tryz.underlying41 hi hz0 hz1 hz2 rfl (by decide) _ _ _ rfl hrow1 ⟨g,0,none⟩ 0 0 [] rfl rfl (by simp) (by simp) (by unfold maxLen; omega) (by omega) hb1.size ?_; intro v2 wB hrow2 hg2 _; have hrow3:wB.ownsRow w2.heap.size 76 3 v2 (R.t2.eraseIdx k).length ((R.t2.eraseIdx k).flatMap cellsT):=(by rw [Her.out.1,Her.out.2]; simpa using hrow2); clear hrow2; have hb2:=hb1.grown hg2 hb1.size (fun j hj=>(hrow1.lt j hj).1); have hs:=hid (h.set_t2 (Zaj hb2 _) (Zba hrow3) (Js (fun n hn=>(hrow3.lt n hn).1))); obtain ⟨p2,cp2,rfl⟩:=Zae hrow3; have fK:=(h.below hb2).fr 2; have cK:=(h.below hb2).c2; have hrbB:=(h.below hb2).lt; have Hrow3:=hid hrow3; clear hrow3 hrow1 hg2 hg1)
   | (go_at_call 64; refine (Za9 hs.out.1 2 id hlw).mono ?_; rintro e w3 ⟨rfl,V3,h3,ho3⟩)
   | go_in)
  have st3:=hid (ZbN hs.out.2 ho3)
  have h3ro:RowAt w3 3 1 cellsI V3.vo R.on:=h3.ro
  obtain ⟨po,cpo,hvo⟩:=Zah h3ro
  have c5:=h3.c5
  rw [hvo] at c5
  have hrb3:=h3.lt
  clear hs ho3 fK cK hrbB hb2 hb1 hjI
  have H3:=hid h3
  clear h3
  go_loop [11] (fun i=>∃ j:Nat,j≤R.on.length∧i=.int .i64 j) (fun i=>R.on.length - (intOf i).toNat)
  case atStart=>exact ⟨0,Jq _,rfl⟩
  case' round=>skip
  obtain ⟨j,hj',rfl⟩:=hrel
  have hlo3:=Hlo.out.1
  by_cases hj:j<R.on.length
  ·have hjI:(j:Int)<(R.on.length:Int):=by omega
   go_wp2
   go_round
   case rel=>exact ⟨j+1,by omega,by go_num⟩
   case measure=>simp [intOf]; omega
  go_wp2_with fail
  go_ret
  exact ⟨rfl,V3,H3.out,st3.out⟩
 ·have hcap':(k:Int)+1<(cap:Int):=by omega
  have hcapn:k+1<cap:=by omega
  clear hcap
  go_wp2_with (first
   | (at_builtin; refine wpList_append_own _ rfl _ _ 41 rfl w2.heap.size 76 i0 (.agg #[.int .i64 0,.int .i64 0,.int .i64 0]) 3 24 Tryz.underlying41 hi hz0 hz1 hz2 rfl (by decide) _ _ _ rfl hrow1 ⟨g,(k+1)*3,none⟩ (R.t2.length - (k+1)) (cap - (k+1)) ((R.t2.drop (k+1)).flatMap cellsT) rfl hld1 (fun j u hu=>by rw [hb1.cell (p:=(⟨g,(k+1)*3,none⟩:Addr).add j) (by rw [Addr.add_lit]; exact hgl)]; exact F2.out j u hu) O2.out (by unfold maxLen; omega) (by omega) hb1.size ?_; intro v2 wB hrow2 hg2 _; have hrow3:wB.ownsRow w2.heap.size 76 3 v2 (R.t2.eraseIdx k).length ((R.t2.eraseIdx k).flatMap cellsT):=(by rw [Her.out.1,Her.out.2]; exact hrow2); clear hrow2; have hb2:=hb1.grown hg2 hb1.size (fun j hj=>(hrow1.lt j hj).1); have hs:=hid (h.set_t2 (Zaj hb2 _) (Zba hrow3) (Js (fun n hn=>(hrow3.lt n hn).1))); obtain ⟨p2,cp2,rfl⟩:=Zae hrow3; have fK:=(h.below hb2).fr 2; have cK:=(h.below hb2).c2; have hrbB:=(h.below hb2).lt; have Hrow3:=hid hrow3; clear hrow3 hrow1 hg2 hg1)
   | (go_at_call 64; refine (Za9 hs.out.1 2 id hlw).mono ?_; rintro e w3 ⟨rfl,V3,h3,ho3⟩)
   | go_in)
  have st3:=hid (ZbN hs.out.2 ho3)
  have h3ro:RowAt w3 3 1 cellsI V3.vo R.on:=h3.ro
  obtain ⟨po,cpo,hvo⟩:=Zah h3ro
  have c5:=h3.c5
  rw [hvo] at c5
  have hrb3:=h3.lt
  clear hs ho3 fK cK hrbB hb2 hb1 hjI
  have H3:=hid h3
  clear h3
  go_loop [11] (fun i=>∃ j:Nat,j≤R.on.length∧i=.int .i64 j) (fun i=>R.on.length - (intOf i).toNat)
  case atStart=>exact ⟨0,Jq _,rfl⟩
  case' round=>skip
  obtain ⟨j,hj',rfl⟩:=hrel
  have hlo3:=Hlo.out.1
  by_cases hj:j<R.on.length
  ·have hjI:(j:Int)<(R.on.length:Int):=by omega
   go_wp2
   go_round
   case rel=>exact ⟨j+1,by omega,by go_num⟩
   case measure=>simp [intOf]; omega
  go_wp2_with fail
  go_ret
  exact ⟨rfl,V3,H3.out,st3.out⟩
end
end
section
open Go.RowKit
section
variable {w:World}{rb:Nat}{V:RVs}{x7 x8 x9 x10 x11:Value}{R:RSt}
theorem ZjA (h:RefAt w rb V x7 x8 x9 x10 x11 R)(id:Int)(k:Nat)(hk:k<R.t3.length)(hat:atOf id R.t3=k)(hl1:R.t1.length≤1000)(hl3:R.t3.length≤1000)(hlk:R.t3.length≤1000)(hlw:R.ws.length≤1000000000)(hlo:R.on.length=R.t3.length)(hlt:R.wt.length=R.t3.length) :
  Calls Tryz.prog 36 #[.pointer (some ⟨rb,0,none⟩),.int .i64 3,.int .i64 id] w fun e w'=>e=.returned (.int .i64 0)∧∃ V',RefAt w' rb V' x7 x8 x9 x10 x11 { R with t3:=R.t3.eraseIdx k,ws:=R.ws.filter (fun x=>!goneW 3 id x),on:=R.on.eraseIdx k,wt:=R.wt.eraseIdx k }∧Only (foot rb V) w w'∧(∀ b∈V'.blocks,b∈V.blocks∨w.heap.size≤b):=by
 have hon:True:=trivial
 have A1:=hid (Zap _ rb 3 V.v3 R.t3 id (by decide) h.c3 h.r3 hlk)
 rw [hat] at A1
 obtain ⟨p1,cp1,hv1⟩:=Zah h.r1
 obtain ⟨p3,cp3,hv3⟩:=Zah h.r3
 have c1:=h.c1
 have c3:=h.c3
 have Hs1:=hid (h.r1.shape (fun _=>rfl))
 have Hs3:=hid (h.r3.shape (fun _=>rfl))
 rw [hv1] at c1
 rw [hv3] at c3
 have hrb:=h.lt
 obtain ⟨i0,hi,hz0,hz1,hz2⟩:=info_parts Zcd
 have hkneg:decide ((k:Int)<0)=false:=by simp
 have Hlo:=hid (Jc hlo (Jc hlt hon))
 clear hlo hlt hon
 go_enter Tryz.func36,Tryz.ntmps36
 go_wp2_with fail
 refine A1.out.mono ?_
 rintro e w2 ⟨rfl,rfl⟩
 go_wp2_with fail
 clear A1
 go_loop [8] (fun i=>∃ j:Nat,j≤R.t1.length∧i=.int .i64 j) (fun i=>R.t1.length - (intOf i).toNat)
 case atStart=>exact ⟨0,Jq _,rfl⟩
 case' round=>skip
 obtain ⟨j,hj',rfl⟩:=hrel
 by_cases hj:j<R.t1.length
 ·have hjI:(j:Int)<(R.t1.length:Int):=by omega
  go_wp2
  go_round
  case rel=>exact ⟨j+1,by omega,by go_num⟩
  case measure=>simp [intOf]; omega
 go_wp2_with fail
 clear hj hj'
 go_loop [9] (fun i=>∃ j:Nat,j≤R.t3.length∧i=.int .i64 j) (fun i=>R.t3.length - (intOf i).toNat)
 case atStart=>exact ⟨0,Jq _,rfl⟩
 case' round=>skip
 obtain ⟨j,hj',rfl⟩:=hrel
 by_cases hj:j<R.t3.length
 ·have hjI:(j:Int)<(R.t3.length:Int):=by omega
  go_wp2
  go_round
  case rel=>exact ⟨j+1,by omega,by go_num⟩
  case measure=>simp [intOf]; omega
 have hjI:¬ (j:Int)<(R.t3.length:Int):=by omega
 clear hj hj'
 rcases h.r3.shape (fun _=>rfl) with ⟨e,e0⟩ | ⟨g,cap,cur,hvk,hg,hgl,hle,hcm,hc⟩
 ·rw [e0] at hk; simp at hk
 rw [hv3.symm.trans hvk] at c3
 have hk1:(k:Int)<(R.t3.length:Int):=by omega
 have hk2:(R.t3.length:Int)≤(cap:Int):=by omega
 have hk3:(k:Int)≤(cap:Int):=by omega
 have hk4:(k:Int)+1≤(cap:Int):=by omega
 have hk5:(k:Int)+1≤(R.t3.length:Int):=by omega
 have F1:=hid (RowAt.from hc 0 k (by omega))
 rw [Nat.zero_mul,List.drop_zero] at F1
 have F2:=hid (RowAt.from hc (k+1) (R.t3.length - (k+1)) (by omega))
 rw [List.take_of_length_le (by simp)] at F2
 have hlk1:((R.t3.take k).flatMap cellsT).length=k*3:=by rw [Zax (enc:=cellsT) (size:=3) (fun _=>rfl)]; simp; omega
 have hld1:((R.t3.drop (k+1)).flatMap cellsT).length=(R.t3.length - (k+1))*3:=by rw [Zax (enc:=cellsT) (size:=3) (fun _=>rfl)]; simp
 have O1:=hid (Zkd (R.t3.take k))
 have O2:=hid (Zkd (R.t3.drop (k+1)))
 have Her:=hid (show (R.t3.eraseIdx k).length=k+(R.t3.length - (k+1))∧(R.t3.eraseIdx k).flatMap cellsT=(R.t3.take k).flatMap cellsT ++ (R.t3.drop (k+1)).flatMap cellsT from ⟨by rw [List.length_eraseIdx_of_lt hk]; omega,by rw [List.eraseIdx_eq_take_drop_succ,List.flatMap_append]⟩)
 clear hc hg
 go_upto_region 18 with (first
  | (at_builtin; refine wpList_append_own _ rfl _ _ 41 rfl w2.heap.size 76 i0 (.agg #[.int .i64 0,.int .i64 0,.int .i64 0]) 3 24 Tryz.underlying41 hi hz0 hz1 hz2 rfl (by decide) (.slice none 0 0) 0 [] rfl (World.ownsRow_nil _ _ _ _) ⟨g,0,none⟩ k cap ((R.t3.take k).flatMap cellsT) rfl hlk1 F1.out O1.out (by unfold maxLen; omega) (by omega) (Jb _) ?_; intro v1 w1 hrow1 hg1 _; simp only [Nat.zero_add,List.nil_append] at hrow1; obtain ⟨p1,cp1,rfl⟩:=Zae hrow1; have hb1:Below w2.heap.size w2 w1:=(Jd _ _).grown hg1 (Jb _) (fun j hj=>by cases hj); clear hlk1)
  | go_in)
 have ck1:=(h.below hb1).c3
 rw [hvk] at ck1
 have hrb1:=(h.below hb1).lt
 clear c1 c3 hjI
 have hjI:True:=trivial
 by_cases hcap:cap=k+1
 ·have hx:R.t3.length=k+1:=by omega
  subst hcap
  have hd0:R.t3.drop (k+1)=[]:=List.drop_eq_nil_of_le (by omega)
  have hx0:R.t3.length - (k+1)=0:=by omega
  rw [hd0,hx0] at Her
  have Hx:=hid (Jc hx hd0)
  clear hx hd0 F2 hld1
  go_upto_region 22 with (first
   | (at_builtin; refine wpList_append_own _ rfl _ _ 41 rfl w2.heap.size 76 i0 (.agg #[.int .i64 0,.int .i64 0,.int .i64 0]) 3 24 Tryz.underlying41 hi hz0 hz1 hz2 rfl (by decide) _ _ _ rfl hrow1 ⟨g,0,none⟩ 0 0 [] rfl rfl (by simp) (by simp) (by unfold maxLen; omega) (by omega) hb1.size ?_; intro v2 wB hrow2 hg2 _; have hrow3:wB.ownsRow w2.heap.size 76 3 v2 (R.t3.eraseIdx k).length ((R.t3.eraseIdx k).flatMap cellsT):=(by rw [Her.out.1,Her.out.2]; simpa using hrow2); clear hrow2; have hb2:=hb1.grown hg2 hb1.size (fun j hj=>(hrow1.lt j hj).1); have hs:=hid (h.set_t3 (Zaj hb2 _) (Zba hrow3) (Js (fun n hn=>(hrow3.lt n hn).1))); obtain ⟨p2,cp2,rfl⟩:=Zae hrow3; have fK:=(h.below hb2).fr 3; have cK:=(h.below hb2).c3; have hrbB:=(h.below hb2).lt; have Hrow3:=hid hrow3; clear hrow3 hrow1 hg2 hg1)
   | (go_at_call 64; refine (Za9 hs.out.1 3 id hlw).mono ?_; rintro e w3 ⟨rfl,V3,h3,ho3⟩)
   | go_in)
  have st3:=hid (ZbN hs.out.2 ho3)
  have h3ro:RowAt w3 3 1 cellsI V3.vo R.on:=h3.ro
  have W1:=hid (Zb6 V3.vo R.on k h3ro (by have:=Hlo.out.1; omega) (by have:=Hlo.out.1; omega))
  have c5:=h3.c5
  obtain ⟨po,cpo,hvo⟩:=Zah h3ro
  rw [hvo] at c5 W1
  have f5:=h3.fr 5
  have hrb3:=h3.lt
  clear hs ho3 fK cK hrbB hb2 hb1 hjI
  go_wp2_with fail
  refine W1.out.mono ?_
  rintro e w4 ⟨u4,rfl,hrow4,hb4⟩
  have hs4:=hid (h3.set_on (Zaj hb4 _) (Zba hrow4) (Js (fun n hn=>(hrow4.lt n hn).1)))
  have st4:=hid (ZbN st3.out hs4.out.2)
  have f5:=(h3.below hb4).fr 5
  have c5b:=(h3.below hb4).c5
  have hrb4:=(h3.below hb4).lt
  have h4:=hs4.out.1
  have h4rt:RowAt _ 3 1 cellsI V3.vt R.wt:=h4.rt
  have W2:=hid (Zb6 V3.vt R.wt k h4rt (by have:=Hlo.out.2.1; omega) (by have:=Hlo.out.2.1; omega))
  have c6:=h4.c6
  obtain ⟨pt,cpt,hvt⟩:=Zah h4rt
  have c6v:=c6.trans (congrArg some hvt)
  rw [hvt] at W2
  clear c6
  have hrb4b:=h4.lt
  obtain ⟨p4,cp4,rfl⟩:=Zae hrow4
  clear W1 c5
  go_wp2_with fail
  refine W2.out.mono ?_
  rintro e w5 ⟨u5,rfl,hrow5,hb5⟩
  have hs5:=hid (h4.set_wt (Zaj hb5 _) (Zba hrow5) (Js (fun n hn=>(hrow5.lt n hn).1)))
  have st5:=hid (ZbN st4.out hs5.out.2)
  have f6:=(h4.below hb5).fr 6
  have c6b:=(h4.below hb5).c6
  have hrb5:=(h4.below hb5).lt
  have h5:=hs5.out.1
  have c5:=h5.c5
  have hrb5b:=h5.lt
  obtain ⟨p5,cp5,rfl⟩:=Zae hrow5
  go_wp2_with fail
  clear W2 c6v f5 f6
  go_loop [11] (fun i=>∃ j:Nat,j≤(R.on.eraseIdx k).length∧i=.int .i64 j) (fun i=>(R.on.eraseIdx k).length - (intOf i).toNat)
  case atStart=>exact ⟨0,Jq _,rfl⟩
  case' round=>skip
  obtain ⟨j,hj',rfl⟩:=hrel
  have hlo4:(R.on.eraseIdx k).length≤1000:=by have:=List.length_eraseIdx_le R.on k; have:=Hlo.out.1; omega
  by_cases hj:j<(R.on.eraseIdx k).length
  ·have hjI:(j:Int)<((R.on.eraseIdx k).length:Int):=by omega
   go_wp2
   go_round
   case rel=>exact ⟨j+1,by omega,by go_num⟩
   case measure=>simp [intOf]; omega
  go_wp2_with fail
  go_ret
  exact ⟨rfl,_,h5,st5.out⟩
 ·have hcap':(k:Int)+1<(cap:Int):=by omega
  have hcapn:k+1<cap:=by omega
  clear hcap
  go_upto_region 22 with (first
   | (at_builtin; refine wpList_append_own _ rfl _ _ 41 rfl w2.heap.size 76 i0 (.agg #[.int .i64 0,.int .i64 0,.int .i64 0]) 3 24 Tryz.underlying41 hi hz0 hz1 hz2 rfl (by decide) _ _ _ rfl hrow1 ⟨g,(k+1)*3,none⟩ (R.t3.length - (k+1)) (cap - (k+1)) ((R.t3.drop (k+1)).flatMap cellsT) rfl hld1 (fun j u hu=>by rw [hb1.cell (p:=(⟨g,(k+1)*3,none⟩:Addr).add j) (by rw [Addr.add_lit]; exact hgl)]; exact F2.out j u hu) O2.out (by unfold maxLen; omega) (by omega) hb1.size ?_; intro v2 wB hrow2 hg2 _; have hrow3:wB.ownsRow w2.heap.size 76 3 v2 (R.t3.eraseIdx k).length ((R.t3.eraseIdx k).flatMap cellsT):=(by rw [Her.out.1,Her.out.2]; exact hrow2); clear hrow2; have hb2:=hb1.grown hg2 hb1.size (fun j hj=>(hrow1.lt j hj).1); have hs:=hid (h.set_t3 (Zaj hb2 _) (Zba hrow3) (Js (fun n hn=>(hrow3.lt n hn).1))); obtain ⟨p2,cp2,rfl⟩:=Zae hrow3; have fK:=(h.below hb2).fr 3; have cK:=(h.below hb2).c3; have hrbB:=(h.below hb2).lt; have Hrow3:=hid hrow3; clear hrow3 hrow1 hg2 hg1)
   | (go_at_call 64; refine (Za9 hs.out.1 3 id hlw).mono ?_; rintro e w3 ⟨rfl,V3,h3,ho3⟩)
   | go_in)
  have st3:=hid (ZbN hs.out.2 ho3)
  have h3ro:RowAt w3 3 1 cellsI V3.vo R.on:=h3.ro
  have W1:=hid (Zb6 V3.vo R.on k h3ro (by have:=Hlo.out.1; omega) (by have:=Hlo.out.1; omega))
  have c5:=h3.c5
  obtain ⟨po,cpo,hvo⟩:=Zah h3ro
  rw [hvo] at c5 W1
  have f5:=h3.fr 5
  have hrb3:=h3.lt
  clear hs ho3 fK cK hrbB hb2 hb1 hjI
  go_wp2_with fail
  refine W1.out.mono ?_
  rintro e w4 ⟨u4,rfl,hrow4,hb4⟩
  have hs4:=hid (h3.set_on (Zaj hb4 _) (Zba hrow4) (Js (fun n hn=>(hrow4.lt n hn).1)))
  have st4:=hid (ZbN st3.out hs4.out.2)
  have f5:=(h3.below hb4).fr 5
  have c5b:=(h3.below hb4).c5
  have hrb4:=(h3.below hb4).lt
  have h4:=hs4.out.1
  have h4rt:RowAt _ 3 1 cellsI V3.vt R.wt:=h4.rt
  have W2:=hid (Zb6 V3.vt R.wt k h4rt (by have:=Hlo.out.2.1; omega) (by have:=Hlo.out.2.1; omega))
  have c6:=h4.c6
  obtain ⟨pt,cpt,hvt⟩:=Zah h4rt
  have c6v:=c6.trans (congrArg some hvt)
  rw [hvt] at W2
  clear c6
  have hrb4b:=h4.lt
  obtain ⟨p4,cp4,rfl⟩:=Zae hrow4
  clear W1 c5
  go_wp2_with fail
  refine W2.out.mono ?_
  rintro e w5 ⟨u5,rfl,hrow5,hb5⟩
  have hs5:=hid (h4.set_wt (Zaj hb5 _) (Zba hrow5) (Js (fun n hn=>(hrow5.lt n hn).1)))
  have st5:=hid (ZbN st4.out hs5.out.2)
  have f6:=(h4.below hb5).fr 6
  have c6b:=(h4.below hb5).c6
  have hrb5:=(h4.below hb5).lt
  have h5:=hs5.out.1
  have c5:=h5.c5
  have hrb5b:=h5.lt
  obtain ⟨p5,cp5,rfl⟩:=Zae hrow5
  go_wp2_with fail
  clear W2 c6v f5 f6
  go_loop [11] (fun i=>∃ j:Nat,j≤(R.on.eraseIdx k).length∧i=.int .i64 j) (fun i=>(R.on.eraseIdx k).length - (intOf i).toNat)
  case atStart=>exact ⟨0,Jq _,rfl⟩
  case' round=>skip
  obtain ⟨j,hj',rfl⟩:=hrel
  have hlo4:(R.on.eraseIdx k).length≤1000:=by have:=List.length_eraseIdx_le R.on k; have:=Hlo.out.1; omega
  by_cases hj:j<(R.on.eraseIdx k).length
  ·have hjI:(j:Int)<((R.on.eraseIdx k).length:Int):=by omega
   go_wp2
   go_round
   case rel=>exact ⟨j+1,by omega,by go_num⟩
   case measure=>simp [intOf]; omega
  go_wp2_with fail
  go_ret
  exact ⟨rfl,_,h5,st5.out⟩
end
end
section
open Go.RowKit
section
variable {w:World}{rb:Nat}{V:RVs}{x7 x8 x9 x10 x11:Value}{R:RSt}
theorem Zig (w:World)(p:Value)(kd id:Int)(hk:kd<0∨3<kd) :
  Calls Tryz.prog 36 #[p,.int .i64 kd,.int .i64 id] w fun e w'=>e=.returned (.int .i64 7)∧w'=w:=by
 go_enter Tryz.func36,Tryz.ntmps36
 rcases hk with hk | hk
 ·go_wp2_with fail
  go_ret
  exact ⟨rfl,rfl⟩
 ·have hk0:decide (kd<0)=false:=by simp; omega
  go_wp2_with fail
  go_ret
  exact ⟨rfl,rfl⟩
theorem Zjt (h:RefAt w rb V x7 x8 x9 x10 x11 R)(id:Int)(hlk:R.t0.length≤1000)(hat:atOf id R.t0<0) :
  Calls Tryz.prog 36 #[.pointer (some ⟨rb,0,none⟩),.int .i64 0,.int .i64 id] w fun e w'=>e=.returned (.int .i64 4)∧w'=w:=by
 have A1:=hid (Zap _ rb 0 V.v0 R.t0 id (by decide) h.c0 h.r0 hlk)
 generalize atOf id R.t0=q at A1 hat
 have hrb:=h.lt
 go_enter Tryz.func36,Tryz.ntmps36
 go_wp2_with fail
 refine A1.out.mono ?_
 rintro e w2 ⟨rfl,rfl⟩
 go_wp2_with fail
 go_ret
 exact ⟨rfl,rfl⟩
theorem Zjv (h:RefAt w rb V x7 x8 x9 x10 x11 R)(id:Int)(hlk:R.t1.length≤1000)(hat:atOf id R.t1<0) :
  Calls Tryz.prog 36 #[.pointer (some ⟨rb,0,none⟩),.int .i64 1,.int .i64 id] w fun e w'=>e=.returned (.int .i64 4)∧w'=w:=by
 have A1:=hid (Zap _ rb 1 V.v1 R.t1 id (by decide) h.c1 h.r1 hlk)
 generalize atOf id R.t1=q at A1 hat
 have hrb:=h.lt
 go_enter Tryz.func36,Tryz.ntmps36
 go_wp2_with fail
 refine A1.out.mono ?_
 rintro e w2 ⟨rfl,rfl⟩
 go_wp2_with fail
 go_ret
 exact ⟨rfl,rfl⟩
theorem Zjx (h:RefAt w rb V x7 x8 x9 x10 x11 R)(id:Int)(hlk:R.t2.length≤1000)(hat:atOf id R.t2<0) :
  Calls Tryz.prog 36 #[.pointer (some ⟨rb,0,none⟩),.int .i64 2,.int .i64 id] w fun e w'=>e=.returned (.int .i64 4)∧w'=w:=by
 have A1:=hid (Zap _ rb 2 V.v2 R.t2 id (by decide) h.c2 h.r2 hlk)
 generalize atOf id R.t2=q at A1 hat
 have hrb:=h.lt
 go_enter Tryz.func36,Tryz.ntmps36
 go_wp2_with fail
 refine A1.out.mono ?_
 rintro e w2 ⟨rfl,rfl⟩
 go_wp2_with fail
 go_ret
 exact ⟨rfl,rfl⟩
theorem Zjz (h:RefAt w rb V x7 x8 x9 x10 x11 R)(id:Int)(hlk:R.t3.length≤1000)(hat:atOf id R.t3<0) :
  Calls Tryz.prog 36 #[.pointer (some ⟨rb,0,none⟩),.int .i64 3,.int .i64 id] w fun e w'=>e=.returned (.int .i64 4)∧w'=w:=by
 have A1:=hid (Zap _ rb 3 V.v3 R.t3 id (by decide) h.c3 h.r3 hlk)
 generalize atOf id R.t3=q at A1 hat
 have hrb:=h.lt
 go_enter Tryz.func36,Tryz.ntmps36
 go_wp2_with fail
 refine A1.out.mono ?_
 rintro e w2 ⟨rfl,rfl⟩
 go_wp2_with fail
 go_ret
 exact ⟨rfl,rfl⟩
theorem Zg0 (h:RefAt w rb V x7 x8 x9 x10 x11 R)(id:Int)(hlk:R.t0.length≤1000)(hl1:R.t1.length≤1000)(hat:0≤atOf id R.t0)(hbusy:∃ j,∃ hj:j<R.t1.length,R.t1[j].2.1=id) :
  Calls Tryz.prog 36 #[.pointer (some ⟨rb,0,none⟩),.int .i64 0,.int .i64 id] w fun e w'=>e=.returned (.int .i64 6)∧w'=w:=by
 have A1:=hid (Zap _ rb 0 V.v0 R.t0 id (by decide) h.c0 h.r0 hlk)
 generalize atOf id R.t0=q at A1 hat
 have hqb:decide (q<0)=false:=by simp; omega
 obtain ⟨p1,cp1,hv1⟩:=Zah h.r1
 obtain ⟨p3,cp3,hv3⟩:=Zah h.r3
 have c1:=h.c1
 have c3:=h.c3
 have Hs:=hid (h.r1.shape (fun _=>rfl))
 rw [hv1] at c1
 rw [hv3] at c3
 have hrb:=h.lt
 have Hbu:=hid hbusy
 clear hbusy
 go_enter Tryz.func36,Tryz.ntmps36
 go_wp2_with fail
 refine A1.out.mono ?_
 rintro e w2 ⟨rfl,rfl⟩
 go_wp2_with fail
 clear A1
 go_loop [8] (fun i=>∃ j:Nat,j≤R.t1.length∧i=.int .i64 j∧∀ m,(hm:m<R.t1.length)→m<j→R.t1[m].2.1≠id) (fun i=>R.t1.length - (intOf i).toNat)
 case atStart=>exact ⟨0,Jq _,rfl,fun m _ hm=>by omega⟩
 case' round=>skip
 obtain ⟨j,hj',rfl,hno⟩:=hrel
 have Hno:=hid hno
 clear hno
 by_cases hj:j<R.t1.length
 ·have hjI:(j:Int)<(R.t1.length:Int):=by omega
  have hsh:=Hs.out
  rcases hsh with ⟨e,e0⟩ | ⟨g,cap,cur,e,_,hgl,_,_,hc⟩
  ·rw [e0] at hj; simp at hj
  have ee:=hv1.symm.trans e
  simp only [Value.slice.injEq] at ee
  obtain ⟨rfl,_,rfl⟩:=ee
  have q1:=(hc j 1 hj (by decide)).1
  simp only [cellsT,Je,Jf] at q1
  clear hc e
  by_cases hb:R.t1[j].2.1=id
  ·rw [hb] at q1
   clear hb
   go_wp2
   go_ret
   exact ⟨rfl,rfl⟩
  ·have hnb:(R.t1[j].2.1 == id)=false:=by simpa using hb
   have Hb:=hid hb
   clear hb
   go_wp2
   go_round
   case rel=>exact ⟨j+1,by omega,by go_num,fun m hm hmj=>by
    by_cases hmj':m<j
    ·exact Hno.out m hm hmj'
    ·obtain rfl:m=j:=by omega
     exact Hb.out⟩
   case measure=>simp [intOf]; omega
 obtain ⟨m,hm,hmb⟩:=Hbu.out
 exact absurd hmb (Hno.out m hm (by omega))
theorem Zg1 (h:RefAt w rb V x7 x8 x9 x10 x11 R)(id:Int)(hlk:R.t2.length≤1000)(hl1:R.t1.length≤1000)(hl3:R.t3.length≤1000)(hat:0≤atOf id R.t2)(hbusy:∃ j,∃ hj:j<R.t3.length,R.t3[j].2.1=id) :
  Calls Tryz.prog 36 #[.pointer (some ⟨rb,0,none⟩),.int .i64 2,.int .i64 id] w fun e w'=>e=.returned (.int .i64 6)∧w'=w:=by
 have A1:=hid (Zap _ rb 2 V.v2 R.t2 id (by decide) h.c2 h.r2 hlk)
 generalize atOf id R.t2=q at A1 hat
 have hqb:decide (q<0)=false:=by simp; omega
 obtain ⟨p1,cp1,hv1⟩:=Zah h.r1
 obtain ⟨p3,cp3,hv3⟩:=Zah h.r3
 have c1:=h.c1
 have c3:=h.c3
 have Hs:=hid (h.r3.shape (fun _=>rfl))
 rw [hv1] at c1
 rw [hv3] at c3
 have hrb:=h.lt
 have Hbu:=hid hbusy
 clear hbusy
 go_enter Tryz.func36,Tryz.ntmps36
 go_wp2_with fail
 refine A1.out.mono ?_
 rintro e w2 ⟨rfl,rfl⟩
 go_wp2_with fail
 clear A1
 go_loop [8] (fun i=>∃ j:Nat,j≤R.t1.length∧i=.int .i64 j) (fun i=>R.t1.length - (intOf i).toNat)
 case atStart=>exact ⟨0,Jq _,rfl⟩
 case' round=>skip
 obtain ⟨j,hj',rfl⟩:=hrel
 by_cases hj:j<R.t1.length
 ·have hjI:(j:Int)<(R.t1.length:Int):=by omega
  go_wp2
  go_round
  case rel=>exact ⟨j+1,by omega,by go_num⟩
  case measure=>simp [intOf]; omega
 go_wp2_with fail
 clear hj hj'
 go_loop [9] (fun i=>∃ j:Nat,j≤R.t3.length∧i=.int .i64 j∧∀ m,(hm:m<R.t3.length)→m<j→R.t3[m].2.1≠id) (fun i=>R.t3.length - (intOf i).toNat)
 case atStart=>exact ⟨0,Jq _,rfl,fun m _ hm=>by omega⟩
 case' round=>skip
 obtain ⟨j,hj',rfl,hno⟩:=hrel
 have Hno:=hid hno
 clear hno
 by_cases hj:j<R.t3.length
 ·have hjI:(j:Int)<(R.t3.length:Int):=by omega
  have hsh:=Hs.out
  rcases hsh with ⟨e,e0⟩ | ⟨g,cap,cur,e,_,hgl,_,_,hc⟩
  ·rw [e0] at hj; simp at hj
  have ee:=hv3.symm.trans e
  simp only [Value.slice.injEq] at ee
  obtain ⟨rfl,_,rfl⟩:=ee
  have q1:=(hc j 1 hj (by decide)).1
  simp only [cellsT,Je,Jf] at q1
  clear hc e
  by_cases hb:R.t3[j].2.1=id
  ·rw [hb] at q1
   clear hb
   go_wp2
   go_ret
   exact ⟨rfl,rfl⟩
  ·have hnb:(R.t3[j].2.1 == id)=false:=by simpa using hb
   have Hb:=hid hb
   clear hb
   go_wp2
   go_round
   case rel=>exact ⟨j+1,by omega,by go_num,fun m hm hmj=>by
    by_cases hmj':m<j
    ·exact Hno.out m hm hmj'
    ·obtain rfl:m=j:=by omega
     exact Hb.out⟩
   case measure=>simp [intOf]; omega
 obtain ⟨m,hm,hmb⟩:=Hbu.out
 exact absurd hmb (Hno.out m hm (by omega))
end
end
section
open Go.RowKit
section
variable {w:World}{rb:Nat}{V:RVs}{x7 x8 x9 x10 x11:Value}{R:RSt}
theorem ZkY (h:RefAt w rb V x7 x8 x9 x10 x11 R)(t m:Int)(hl3:R.t3.length≤1000)(hat:atOf t R.t3<0) :
  Calls Tryz.prog 39 #[.pointer (some ⟨rb,0,none⟩),.int .i64 t,.int .i64 m] w fun e w'=>e=.returned (.tuple #[.int .i64 0,.int .i64 4])∧Below w.heap.size w w':=by
 have A1:=hid (Zap _ rb 3 V.v3 R.t3 t (by decide) h.c3 h.r3 hl3)
 generalize atOf t R.t3=q at A1 hat
 have hqb:decide (q<0)=true:=by simpa using hat
 go_enter Tryz.func39,Tryz.ntmps39
 go_wp2_with fail
 refine A1.out.mono ?_
 rintro e w2 ⟨rfl,rfl⟩
 go_wp2_with fail
 go_ret2
 exact ⟨rfl,Jd _ _⟩
theorem ZkZ (h:RefAt w rb V x7 x8 x9 x10 x11 R)(t m:Int)(hl3:R.t3.length≤1000)(hl1:R.t1.length≤1000)(hat:0≤atOf t R.t3)(hm:m≠-1)(hat1:atOf m R.t1<0) :
  Calls Tryz.prog 39 #[.pointer (some ⟨rb,0,none⟩),.int .i64 t,.int .i64 m] w fun e w'=>e=.returned (.tuple #[.int .i64 0,.int .i64 4])∧Below w.heap.size w w':=by
 have A1:=hid (Zap _ rb 3 V.v3 R.t3 t (by decide) h.c3 h.r3 hl3)
 have A2:=hid (Zap _ rb 1 V.v1 R.t1 m (by decide) h.c1 h.r1 hl1)
 generalize atOf t R.t3=q at A1 hat
 generalize atOf m R.t1=q1 at A2 hat1
 have hqb:decide (q<0)=false:=by simpa using hat
 have hqb1:decide (q1<0)=true:=by simpa using hat1
 have hmb:¬ m=-1:=hm
 clear hm
 go_enter Tryz.func39,Tryz.ntmps39
 go_wp2_with fail
 refine A1.out.mono ?_
 rintro e w2 ⟨rfl,rfl⟩
 go_wp2_with fail
 refine A2.out.mono ?_
 rintro e w3 ⟨rfl,rfl⟩
 go_wp2_with fail
 go_ret2
 exact ⟨rfl,Jd _ _⟩
theorem ZgX (h:RefAt w rb V x7 x8 x9 x10 x11 R)(t:Int)(i j:Nat)(hl3:R.t3.length≤1000)(hi:i<R.t3.length)(hat:atOf t R.t3=i)(hio:i<R.on.length)(hit:i<R.wt.length)(hl2:R.t2.length≤1000)(hj:j<R.t2.length)(hat2:atOf R.t3[i].2.1 R.t2=j)(hb0:0≤R.t2[j].2.2)(hb1:R.t2[j].2.2≤1000)(hw0:0≤R.wt[i])(hw1:R.wt[i]≤100) :
  Calls Tryz.prog 39 #[.pointer (some ⟨rb,0,none⟩),.int .i64 t,.int .i64 (-1)] w fun e w'=>e=.returned (.tuple #[.int .i64 (R.t2[j].2.2+R.wt[i]+mvR R.on[i] (-1)),.int .i64 0])∧Below w.heap.size w w':=by
 have A1:=hid (Zap _ rb 3 V.v3 R.t3 t (by decide) h.c3 h.r3 hl3)
 rw [hat] at A1
 have A2:=hid (ZbA h i j hi hio hit hl2 hj hat2 hb0 hb1 hw0 hw1)
 have hqb:decide ((i:Int)<0)=false:=by simp
 generalize R.t2[j].2.2+R.wt[i]+mvR R.on[i] (-1)=ans at A2 ⊢
 clear hat2 hb0 hb1 hw0 hw1
 go_enter Tryz.func39,Tryz.ntmps39
 go_wp2_with fail
 refine A1.out.mono ?_
 rintro e w2 ⟨rfl,rfl⟩
 go_wp2_with fail
 refine A2.out.mono ?_
 rintro e w3 ⟨rfl,hb⟩
 go_wp2_with fail
 go_ret2
 exact ⟨rfl,hb⟩
theorem Zjl (h:RefAt w rb V x7 x8 x9 x10 x11 R)(t m:Int)(i j:Nat)(hm:0≤m)(hl3:R.t3.length≤1000)(hi:i<R.t3.length)(hat:atOf t R.t3=i)(hio:i<R.on.length)(hl1:R.t1.length≤1000)(hj:j<R.t1.length)(hat1:atOf m R.t1=j)(hlw:R.ws.length≤1000000000)(hn:0≤R.t3[i].2.2∧R.t3[i].2.2≤1000)(hws:∀ x∈R.ws,0≤x.2.2.2) :
  Calls Tryz.prog 39 #[.pointer (some ⟨rb,0,none⟩),.int .i64 t,.int .i64 m] w fun e w'=>e=.returned (.tuple #[.int .i64 (minW R.t3[i].1 m R.t1[j].2.1 R.t3[i].2.2 R.ws+mvR R.on[i] m),.int .i64 0])∧Below w.heap.size w w':=by
 have A1:=hid (Zap _ rb 3 V.v3 R.t3 t (by decide) h.c3 h.r3 hl3)
 rw [hat] at A1
 have A3:=hid (Zap _ rb 1 V.v1 R.t1 m (by decide) h.c1 h.r1 hl1)
 rw [hat1] at A3
 have A2:=hid (Zcn h i j m hm hi hio hl1 hj hat1 hlw hn hws)
 have hqb:decide ((i:Int)<0)=false:=by simp
 have hqb1:decide ((j:Int)<0)=false:=by simp
 have hmb:¬ m=-1:=by omega
 generalize minW R.t3[i].1 m R.t1[j].2.1 R.t3[i].2.2 R.ws+mvR R.on[i] m=ans at A2 ⊢
 clear hat1 hm hn hws
 go_enter Tryz.func39,Tryz.ntmps39
 go_wp2_with fail
 refine A1.out.mono ?_
 rintro e w2 ⟨rfl,rfl⟩
 go_wp2_with fail
 refine A3.out.mono ?_
 rintro e w4 ⟨rfl,rfl⟩
 go_wp2_with fail
 refine A2.out.mono ?_
 rintro e w3 ⟨rfl,hb⟩
 go_wp2_with fail
 go_ret2
 exact ⟨rfl,hb⟩
theorem ZjD (h:RefAt w rb V x7 x8 x9 x10 x11 R)(t:Int)(hl3:R.t3.length≤1000)(hat:atOf t R.t3<0) :
  Calls Tryz.prog 41 #[.pointer (some ⟨rb,0,none⟩),.int .i64 t] w fun e w'=>e=.returned (.tuple #[.int .i64 0,.int .i64 4])∧Below w.heap.size w w':=by
 have A1:=hid (Zap _ rb 3 V.v3 R.t3 t (by decide) h.c3 h.r3 hl3)
 generalize atOf t R.t3=q at A1 hat
 go_enter Tryz.func41,Tryz.ntmps41
 go_wp2_with fail
 refine A1.out.mono ?_
 rintro e w2 ⟨rfl,rfl⟩
 go_wp2_with fail
 go_ret2
 exact ⟨rfl,Jd _ _⟩
theorem ZjE (h:RefAt w rb V x7 x8 x9 x10 x11 R)(t:Int)(i:Nat)(hl3:R.t3.length≤1000)(hat:atOf t R.t3=i)(hio:i<R.on.length) :
  Calls Tryz.prog 41 #[.pointer (some ⟨rb,0,none⟩),.int .i64 t] w fun e w'=>e=.returned (.tuple #[.int .i64 R.on[i],.int .i64 0])∧Below w.heap.size w w':=by
 have A1:=hid (Zap _ rb 3 V.v3 R.t3 t (by decide) h.c3 h.r3 hl3)
 rw [hat] at A1
 have hqb:decide ((i:Int)<0)=false:=by simp
 rcases h.ro.shape (fun _=>rfl) with ⟨_,e0⟩ | ⟨go,capo,curo,eo,_,hglo,hleo,_,hco⟩
 ·rw [e0] at hio; simp at hio
 have q4:=(hco i 0 hio (by decide)).1
 simp only [cellsI,Je,Nat.add_zero,Nat.mul_one] at q4
 have c5:=h.c5
 rw [eo] at c5
 have hrb:=h.lt
 have hioI:(i:Int)<(R.on.length:Int):=by omega
 generalize R.on[i]=ans at q4 ⊢
 clear hco
 go_enter Tryz.func41,Tryz.ntmps41
 go_wp2_with fail
 refine A1.out.mono ?_
 rintro e w2 ⟨rfl,rfl⟩
 go_wp2_with fail
 go_ret2
 exact ⟨rfl,Jd _ _⟩
end
end
end Go.Proofs.YtjdindfjfpdikaaGreat
