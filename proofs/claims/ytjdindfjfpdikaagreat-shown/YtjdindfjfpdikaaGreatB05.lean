import Derived.Deep.LoopGhost
import Derived.Deep.QuietTactic
import Derived.BigQuiet
import Derived.Test.YtjdindfjfpdikaaGreatB03
import Derived.Test.YtjdindfjfpdikaaGreatPre
set_option maxRecDepth 100000
set_option maxHeartbeats 8000000
namespace Go.Proofs.YtjdindfjfpdikaaGreat
section
open Go.RowKit
def isW (t k i:Int)(x:Wi):Bool:=decide (x.1=t) && (decide (x.2.1=k) && decide (x.2.2.1=i))
def putW (t k i c:Int):List Wi→List Wi
 | []=>[(t,k,i,c)]
 | x :: r=>if isW t k i x then (x.1,x.2.1,x.2.2.1,c) :: r else x :: putW t k i c r
theorem Zc6 {t kd i c:Int}:∀ {ws:List Wi}{k:Nat}(hk:k<ws.length),(∀ j,(hj:j<ws.length)→j<k→isW t kd i ws[j]=false)→isW t kd i ws[k]=true→putW t kd i c ws=ws.set k (ws[k].1,ws[k].2.1,ws[k].2.2.1,c)
 | [],k,hk,_,_=>by simp at hk
 | x :: r,0,_,_,h=>by simp at h; simp [putW,h]
 | x :: r,k+1,hk,hn,h=>by
  have h0:=hn 0 (by simp) (by omega)
  simp at h0
  have ih:=Zc6 (c:=c) (ws:=r) (k:=k) (by simpa using hk) (fun j hj hjk=>by have:=hn (j+1) (by simpa using hj) (by omega); simpa using this) (by simpa using h)
  simp [putW,h0,ih]
theorem ZdL {t kd i c:Int}:∀ {ws:List Wi},(∀ j,(hj:j<ws.length)→isW t kd i ws[j]=false)→putW t kd i c ws=ws ++ [(t,kd,i,c)]
 | [],_=>rfl
 | x :: r,hn=>by
  have h0:=hn 0 (by simp)
  simp at h0
  have ih:=ZdL (c:=c) (ws:=r) (fun j hj=>by have:=hn (j+1) (by simpa using hj); simpa using this)
  simp [putW,h0,ih]
section
variable {w:World}{rb:Nat}{V:RVs}{x7 x8 x9 x10 x11:Value}{R:RSt}
theorem new4 (w:World)(x y z u0:Value)(t:TypeId):∀ (j:Nat)(u:Value),[x,y,z,u0][j]?=some u→(w.alloc (.cells #[x,y,z,u0] t)).cell? ((⟨w.heap.size,0,none⟩:Addr).add j)=some u:=by
 intro j u hu
 rcases j with _ | _ | _ | _ | j
 ·rw [Addr.add_lit,World.cell?_alloc_at _ _ _ _ rfl]; simpa using hu
 ·rw [Addr.add_lit,World.cell?_alloc_at _ _ _ _ rfl]; simpa using hu
 ·rw [Addr.add_lit,World.cell?_alloc_at _ _ _ _ rfl]; simpa using hu
 ·rw [Addr.add_lit,World.cell?_alloc_at _ _ _ _ rfl]; simpa using hu
 ·simp at hu
theorem ZeY:∀ (ws:List Wi)(k:Nat)(hk:k<ws.length)(c:Int),(ws.set k (ws[k].1,ws[k].2.1,ws[k].2.2.1,c)).flatMap cellsW=(ws.flatMap cellsW).set (k*4+3) (.int .i64 c)
 | [],k,hk,_=>by simp at hk
 | x :: r,0,_,c=>by simp [cellsW]
 | x :: r,k+1,hk,c=>by
  have ih:=ZeY r k (by simpa using hk) c
  rw [Ji,List.flatMap_cons,List.flatMap_cons,show (k+1)*4+3=(k*4+3)+4 by omega]
  simp only [List.getElem_cons_succ]
  rw [ih]
  simp [cellsW]
theorem RefAt.put_ws {g cap:Nat}(h:RefAt w rb V x7 x8 x9 x10 x11 R)(hv:V.vw=.slice (some ⟨g,0,none⟩) R.ws.length cap)(k:Nat)(hk:k<R.ws.length)(c:Int) :
  RefAt (w.setCell ⟨g,k*4+3,none⟩ (.int .i64 c)) rb V x7 x8 x9 x10 x11 { R with ws:=R.ws.set k (R.ws[k].1,R.ws[k].2.1,R.ws[k].2.2.1,c) }∧Only (foot rb V) w (w.setCell ⟨g,k*4+3,none⟩ (.int .i64 c)):=by
 have hp:=h.pair
 simp only [List.pairwise_cons,List.mem_cons,List.not_mem_nil,or_false,forall_eq_or_imp,forall_eq,List.Pairwise.nil,and_true,false_implies,implies_true] at hp
 have ho:V.vw.ownBlock=some g:=by rw [hv]; rfl
 have hset:=Zaa w ⟨g,k*4+3,none⟩ (.int .i64 c)
 have hgn:g≠rb:=fun e=>h.ne (Zab.2 (by simp [ho,e]))
 have keep:∀ {α:Type} {e size:Nat} {enc:α→List Value} {v:Value} {xs:List α},RowAt w e size enc v xs→(∀ m,v.ownBlock=some m→V.vw.ownBlock≠some m)→RowAt (w.setCell ⟨g,k*4+3,none⟩ (.int .i64 c)) e size enc v xs:=fun {α e size enc v xs} hq h1=>by
  refine RowAt.kept hq hset ?_
  cases hz:v.ownBlock with
  | none=>exact Jr rfl
  | some m=>exact Js (fun e=>h1 m hz (by rw [ho]; exact e.symm))
 refine ⟨⟨(hset.block rb h.lt (by simpa using hgn.symm)).trans h.cells,keep h.r0 (fun m hm e=>by simp only [hm,e] at hp; simp at hp),keep h.r1 (fun m hm e=>by simp only [hm,e] at hp; simp at hp),keep h.r2 (fun m hm e=>by simp only [hm,e] at hp; simp at hp),keep h.r3 (fun m hm e=>by simp only [hm,e] at hp; simp at hp),?_,keep h.ro (fun m hm e=>by simp only [hm,e] at hp; simp at hp),keep h.rt (fun m hm e=>by simp only [hm,e] at hp; simp at hp),h.apart⟩,Only.of_grown' hset (fun b hb=>by cases hb; exact Jk _ (Zab.2 (by simp [ho])))⟩
 have hrt:=h.rw
 rcases hrt.2 with ⟨hq,_⟩ | ⟨g',cap',cur,hv',hb,hg,h1,h2,h3,h4⟩
 ·rw [hv] at hq; cases hq
 ·have eg:g'=g:=by have:=congrArg Value.ownBlock (hv.symm.trans hv'); simpa [Value.ownBlock] using this.symm
  subst eg
  refine ⟨Zax (enc:=cellsW) (size:=4) (fun _=>rfl) _,.inr ⟨g',cap',cur.setIfInBounds (k*4+3) (.int .i64 c),by simpa using hv',hb,heap_setCell hg _ _,by simpa using h1,h2,by simpa using h3,?_⟩⟩
  rw [List.length_set,ZeY R.ws k hk c,← h4,Array.toList_setIfInBounds,List.take_set]
theorem Zie (h:RefAt w rb V x7 x8 x9 x10 x11 R)(t i c:Int)(hl3:R.t3.length≤1000)(hlk:R.t0.length≤1000)(hat:0≤atOf t R.t3)(hak:0≤atOf i R.t0)(hc0:0≤c)(hc1:c≤1000)(hlw:R.ws.length≤1000000000) :
  Calls Tryz.prog 35 #[.pointer (some ⟨rb,0,none⟩),.int .i64 t,.int .i64 0,.int .i64 i,.int .i64 c] w fun e w'=>e=.returned (.int .i64 0)∧∃ V',RefAt w' rb V' x7 x8 x9 x10 x11 { R with ws:=putW t 0 i c R.ws }∧Only (foot rb V) w w'∧(∀ b∈V'.blocks,b∈V.blocks∨w.heap.size≤b):=by
 have A1:=hid (Zap _ rb 3 V.v3 R.t3 t (by decide) h.c3 h.r3 hl3)
 have A2:=hid (Zap _ rb 0 V.v0 R.t0 i (by decide) h.c0 h.r0 hlk)
 generalize atOf t R.t3=q at A1 hat
 generalize atOf i R.t0=q2 at A2 hak
 have d1:decide (q<0)=false:=by simp; omega
 have d2:decide (q2<0)=false:=by simp; omega
 have d3:decide (c<0)=false:=by simp; omega
 have d4:decide (1000<c)=false:=by simp; omega
 obtain ⟨pw,cw,hv⟩:=Zah h.rw
 go_enter Tryz.func35,Tryz.ntmps35
 go_wp2_with fail
 refine A1.out.mono ?_
 rintro e w2 ⟨rfl,rfl⟩
 go_wp2_with fail
 refine A2.out.mono ?_
 rintro e w2 ⟨rfl,rfl⟩
 go_wp2_with fail
 have Hv:=hid hv
 clear hv A1 A2
 go_loopg [11] R.ws.length (fun gk iv wr=>∃ k:Nat,k≤R.ws.length∧R.ws.length - k≤gk∧iv=.int .i64 k∧Below w2.heap.size w2 wr∧Hid (∀ j,(hj:j<R.ws.length)→j<k→isW t 0 i R.ws[j]=false))
 case atStart=>exact ⟨0,Jq _,Jb _,rfl,Jd _ _,fun j _ hj=>by omega⟩
 case round =>
  obtain ⟨k,hk,hgk,rfl,hb,hno⟩:=hrel
  have hp:=h.below hb
  have c4:=hp.c4
  rw [Hv.out] at c4
  have hrb:=hp.lt
  by_cases hlt:k<R.ws.length
  ·rcases hp.rw.shape (fun _=>rfl) with ⟨e,_⟩ | ⟨g,cap,cur,e,_,hgl,_,_,hc⟩
   ·rw [Hv.out] at e; injection e with _ e2 _; omega
   have ee:=Hv.out.symm.trans e
   simp only [Value.slice.injEq] at ee
   obtain ⟨rfl,_,rfl⟩:=ee
   have q0:=(hc k 0 hlt (by decide)).1
   have q1:=(hc k 1 hlt (by decide)).1
   have q3:=(hc k 2 hlt (by decide)).1
   have q4:=(hc k 3 hlt (by decide)).1
   have q5:=(hc k 3 hlt (by decide)).2
   simp only [cellsW,Je,Jf,Nat.add_zero] at q0 q1 q3 q4
   have hkI:(k:Int)<(R.ws.length:Int):=by omega
   have hno':isW t 0 i R.ws[k]=false→Hid (∀ j,(hj:j<R.ws.length)→j<k+1→isW t 0 i R.ws[j]=false):=fun hk0 j hj hjk=>by
    by_cases hjk':j<k
    ·exact hno.out j hj hjk'
    ·obtain rfl:j=k:=by omega
     exact hk0
   have hput:=fun hk0:isW t 0 i R.ws[k]=true=>Zc6 (c:=c) hlt hno.out hk0
   have hset:=fun (W:World) (hW:RefAt W rb V x7 x8 x9 x10 x11 R)=>hW.put_ws (g:=g) (cap:=cw) e k hlt c
   have Hs:=hid (Jc hno' (Jc hput hset))
   clear hno' hput hset hc hno e
   by_cases e1:R.ws[k].1=t
   ·by_cases e2:R.ws[k].2.1=0
    ·by_cases e3:R.ws[k].2.2.1=i
     ·have Hp:=hid (Hs.out.2.1 (by simp [isW,e1,e2,e3]))
      have Hq:=hid (Hs.out.2.2 wr hp)
      rw [e1] at q0
      rw [e2] at q1
      rw [e3] at q3
      clear e1 e2 e3
      go_wp2
      go_ret
      refine ⟨rfl,V,?_,(Only.of_below hb).trans (Hq.out.2.trans (Only.of_below ((Jd _ _).alloc (Jb _) _))),fun b hb=>Jr hb⟩
      rw [Hp.out]
      exact Hq.out.1.alloc _
     ·have e3b:(R.ws[k].2.2.1 == i)=false:=by simpa using e3
      have Hk:=hid (Hs.out.1 (by simp [isW,e1,e2,e3]))
      go_wp2
      go_roundg (R.ws.length - (k+1))
      case measure=>omega
      case rel=>exact ⟨k+1,by omega,Jb _,by go_num,hb.alloc hb.size _,Hk.out⟩
    ·have e2b:(R.ws[k].2.1 == 0)=false:=by simpa using e2
     have Hk:=hid (Hs.out.1 (by simp [isW,e1,e2]))
     go_wp2
     go_roundg (R.ws.length - (k+1))
     case measure=>omega
     case rel=>exact ⟨k+1,by omega,Jb _,by go_num,hb.alloc hb.size _,Hk.out⟩
   ·have e1b:(R.ws[k].1 == t)=false:=by simpa using e1
    have Hk:=hid (Hs.out.1 (by simp [isW,e1]))
    go_wp2
    go_roundg (R.ws.length - (k+1))
    case measure=>omega
    case rel=>exact ⟨k+1,by omega,Jb _,by go_num,hb.alloc hb.size _,Hk.out⟩
  ·have Hn:=hid (ZdL (c:=c) (fun j hj=>hno.out j hj (by omega)))
   obtain ⟨i4,hi4,hy0,hy1,hy2⟩:=info_parts ZfC
   have hp5:=hp.alloc (.cells #[.int .i64 t,.int .i64 0,.int .i64 i,.int .i64 c] 117)
   have f4:=hp.fr 4
   go_wp2_with (first
    | (at_builtin; refine wpList_append_own_at _ rfl _ _ 43 rfl 0 117 i4 (.agg #[.int .i64 0,.int .i64 0,.int .i64 0,.int .i64 0]) 4 32 Tryz.underlying43 hi4 hy0 hy1 hy2 rfl (by decide) _ _ _ Hv.out.symm hp5.rw ⟨wr.heap.size,0,none⟩ 1 1 [.int .i64 t,.int .i64 0,.int .i64 i,.int .i64 c] rfl rfl (new4 _ _ _ _ _ _) (by intro u hu; simp at hu; rcases hu with rfl | rfl | rfl | rfl <;> rfl) (by unfold maxLen; omega) (by omega) (Jq _) ?_; intro u w5 hrow5 hg5 _ hloc5; obtain ⟨pu,cu,rfl⟩:=Zae hrow5; have q0:=(hp5.kept hg5 4 (fun e=>hp5.ne (Zab.2 (by simp [e])))).1.trans hp5.c4; have q1:=(hp5.kept hg5 4 (fun e=>hp5.ne (Zab.2 (by simp [e])))).2)
    | go_in)
   go_ret
   have hs5:=hp5.set_ws hg5 (u:=.slice pu (R.ws.length+1) cu) (ys:=R.ws ++ [(t,0,i,c)]) (by unfold RowAt; simpa [cellsW] using hrow5) (hloc5.imp_right (fun e m hm=>by rw [e] at hm; cases hm; exact Jb _))
   have hOa:Only (foot rb V) w2 (wr.alloc (.cells #[.int .i64 t,.int .i64 0,.int .i64 i,.int .i64 c] 117)):=(Only.of_below hb).trans (Only.of_below ((Jd _ _).alloc (Jb _) _))
   refine ⟨rfl,_,?_,hOa.trans hs5.2.1,fun b hb=>(hs5.2.2 b hb).imp_right (fun hh=>Nat.le_trans hOa.size hh)⟩
   rw [Hn.out]
   exact hs5.1
theorem Zif (h:RefAt w rb V x7 x8 x9 x10 x11 R)(t i c:Int)(hl3:R.t3.length≤1000)(hlk:R.t1.length≤1000)(hat:0≤atOf t R.t3)(hak:0≤atOf i R.t1)(hc0:0≤c)(hc1:c≤1000)(hlw:R.ws.length≤1000000000) :
  Calls Tryz.prog 35 #[.pointer (some ⟨rb,0,none⟩),.int .i64 t,.int .i64 1,.int .i64 i,.int .i64 c] w fun e w'=>e=.returned (.int .i64 0)∧∃ V',RefAt w' rb V' x7 x8 x9 x10 x11 { R with ws:=putW t 1 i c R.ws }∧Only (foot rb V) w w'∧(∀ b∈V'.blocks,b∈V.blocks∨w.heap.size≤b):=by
 have A1:=hid (Zap _ rb 3 V.v3 R.t3 t (by decide) h.c3 h.r3 hl3)
 have A2:=hid (Zap _ rb 1 V.v1 R.t1 i (by decide) h.c1 h.r1 hlk)
 generalize atOf t R.t3=q at A1 hat
 generalize atOf i R.t1=q2 at A2 hak
 have d1:decide (q<0)=false:=by simp; omega
 have d2:decide (q2<0)=false:=by simp; omega
 have d3:decide (c<0)=false:=by simp; omega
 have d4:decide (1000<c)=false:=by simp; omega
 obtain ⟨pw,cw,hv⟩:=Zah h.rw
 go_enter Tryz.func35,Tryz.ntmps35
 go_wp2_with fail
 refine A1.out.mono ?_
 rintro e w2 ⟨rfl,rfl⟩
 go_wp2_with fail
 refine A2.out.mono ?_
 rintro e w2 ⟨rfl,rfl⟩
 go_wp2_with fail
 have Hv:=hid hv
 clear hv A1 A2
 go_loopg [11] R.ws.length (fun gk iv wr=>∃ k:Nat,k≤R.ws.length∧R.ws.length - k≤gk∧iv=.int .i64 k∧Below w2.heap.size w2 wr∧Hid (∀ j,(hj:j<R.ws.length)→j<k→isW t 1 i R.ws[j]=false))
 case atStart=>exact ⟨0,Jq _,Jb _,rfl,Jd _ _,fun j _ hj=>by omega⟩
 case round =>
  obtain ⟨k,hk,hgk,rfl,hb,hno⟩:=hrel
  have hp:=h.below hb
  have c4:=hp.c4
  rw [Hv.out] at c4
  have hrb:=hp.lt
  by_cases hlt:k<R.ws.length
  ·rcases hp.rw.shape (fun _=>rfl) with ⟨e,_⟩ | ⟨g,cap,cur,e,_,hgl,_,_,hc⟩
   ·rw [Hv.out] at e; injection e with _ e2 _; omega
   have ee:=Hv.out.symm.trans e
   simp only [Value.slice.injEq] at ee
   obtain ⟨rfl,_,rfl⟩:=ee
   have q0:=(hc k 0 hlt (by decide)).1
   have q1:=(hc k 1 hlt (by decide)).1
   have q3:=(hc k 2 hlt (by decide)).1
   have q4:=(hc k 3 hlt (by decide)).1
   have q5:=(hc k 3 hlt (by decide)).2
   simp only [cellsW,Je,Jf,Nat.add_zero] at q0 q1 q3 q4
   have hkI:(k:Int)<(R.ws.length:Int):=by omega
   have hno':isW t 1 i R.ws[k]=false→Hid (∀ j,(hj:j<R.ws.length)→j<k+1→isW t 1 i R.ws[j]=false):=fun hk0 j hj hjk=>by
    by_cases hjk':j<k
    ·exact hno.out j hj hjk'
    ·obtain rfl:j=k:=by omega
     exact hk0
   have hput:=fun hk0:isW t 1 i R.ws[k]=true=>Zc6 (c:=c) hlt hno.out hk0
   have hset:=fun (W:World) (hW:RefAt W rb V x7 x8 x9 x10 x11 R)=>hW.put_ws (g:=g) (cap:=cw) e k hlt c
   have Hs:=hid (Jc hno' (Jc hput hset))
   clear hno' hput hset hc hno e
   by_cases e1:R.ws[k].1=t
   ·by_cases e2:R.ws[k].2.1=1
    ·by_cases e3:R.ws[k].2.2.1=i
     ·have Hp:=hid (Hs.out.2.1 (by simp [isW,e1,e2,e3]))
      have Hq:=hid (Hs.out.2.2 wr hp)
      rw [e1] at q0
      rw [e2] at q1
      rw [e3] at q3
      clear e1 e2 e3
      go_wp2
      go_ret
      refine ⟨rfl,V,?_,(Only.of_below hb).trans (Hq.out.2.trans (Only.of_below ((Jd _ _).alloc (Jb _) _))),fun b hb=>Jr hb⟩
      rw [Hp.out]
      exact Hq.out.1.alloc _
     ·have e3b:(R.ws[k].2.2.1 == i)=false:=by simpa using e3
      have Hk:=hid (Hs.out.1 (by simp [isW,e1,e2,e3]))
      go_wp2
      go_roundg (R.ws.length - (k+1))
      case measure=>omega
      case rel=>exact ⟨k+1,by omega,Jb _,by go_num,hb.alloc hb.size _,Hk.out⟩
    ·have e2b:(R.ws[k].2.1 == 1)=false:=by simpa using e2
     have Hk:=hid (Hs.out.1 (by simp [isW,e1,e2]))
     go_wp2
     go_roundg (R.ws.length - (k+1))
     case measure=>omega
     case rel=>exact ⟨k+1,by omega,Jb _,by go_num,hb.alloc hb.size _,Hk.out⟩
   ·have e1b:(R.ws[k].1 == t)=false:=by simpa using e1
    have Hk:=hid (Hs.out.1 (by simp [isW,e1]))
    go_wp2
    go_roundg (R.ws.length - (k+1))
    case measure=>omega
    case rel=>exact ⟨k+1,by omega,Jb _,by go_num,hb.alloc hb.size _,Hk.out⟩
  ·have Hn:=hid (ZdL (c:=c) (fun j hj=>hno.out j hj (by omega)))
   obtain ⟨i4,hi4,hy0,hy1,hy2⟩:=info_parts ZfC
   have hp5:=hp.alloc (.cells #[.int .i64 t,.int .i64 1,.int .i64 i,.int .i64 c] 117)
   have f4:=hp.fr 4
   go_wp2_with (first
    | (at_builtin; refine wpList_append_own_at _ rfl _ _ 43 rfl 0 117 i4 (.agg #[.int .i64 0,.int .i64 0,.int .i64 0,.int .i64 0]) 4 32 Tryz.underlying43 hi4 hy0 hy1 hy2 rfl (by decide) _ _ _ Hv.out.symm hp5.rw ⟨wr.heap.size,0,none⟩ 1 1 [.int .i64 t,.int .i64 1,.int .i64 i,.int .i64 c] rfl rfl (new4 _ _ _ _ _ _) (by intro u hu; simp at hu; rcases hu with rfl | rfl | rfl | rfl <;> rfl) (by unfold maxLen; omega) (by omega) (Jq _) ?_; intro u w5 hrow5 hg5 _ hloc5; obtain ⟨pu,cu,rfl⟩:=Zae hrow5; have q0:=(hp5.kept hg5 4 (fun e=>hp5.ne (Zab.2 (by simp [e])))).1.trans hp5.c4; have q1:=(hp5.kept hg5 4 (fun e=>hp5.ne (Zab.2 (by simp [e])))).2)
    | go_in)
   go_ret
   have hs5:=hp5.set_ws hg5 (u:=.slice pu (R.ws.length+1) cu) (ys:=R.ws ++ [(t,1,i,c)]) (by unfold RowAt; simpa [cellsW] using hrow5) (hloc5.imp_right (fun e m hm=>by rw [e] at hm; cases hm; exact Jb _))
   have hOa:Only (foot rb V) w2 (wr.alloc (.cells #[.int .i64 t,.int .i64 1,.int .i64 i,.int .i64 c] 117)):=(Only.of_below hb).trans (Only.of_below ((Jd _ _).alloc (Jb _) _))
   refine ⟨rfl,_,?_,hOa.trans hs5.2.1,fun b hb=>(hs5.2.2 b hb).imp_right (fun hh=>Nat.le_trans hOa.size hh)⟩
   rw [Hn.out]
   exact hs5.1
end
end
section
open Go.RowKit
def goneW (kd i:Int)(x:Wi):Bool:=(decide (kd=3) && decide (x.1=i)) || (decide (kd<2) && (decide (x.2.1=kd) && decide (x.2.2.1=i)))
section
variable {w:World}{rb:Nat}{V:RVs}{x7 x8 x9 x10 x11:Value}{R:RSt}
theorem Zi5 (w:World)(o:Obj)(x y z u0:Value)(t:TypeId):∀ (j:Nat)(u:Value),[x,y,z,u0][j]?=some u→((w.alloc o).alloc (.cells #[x,y,z,u0] t)).cell? ((⟨w.heap.size+1,0,none⟩:Addr).add j)=some u:=by
 have:=new4 (w.alloc o) x y z u0 t
 rwa [show (w.alloc o).heap.size=w.heap.size+1 by simp] at this
theorem Zba {w:World}{base e size n:Nat}{v:Value}{xs:List Value}(h:w.ownsRow base e size v n xs):w.ownsRow 0 e size v n xs:=by
 refine ⟨h.1,?_⟩
 rcases h.2 with h2 | ⟨g,cap,cur,hv,_,hr⟩
 ·exact Jr h2
 ·exact Js ⟨g,cap,cur,hv,Jq _,hr⟩
theorem Za9 (h:RefAt w rb V x7 x8 x9 x10 x11 R)(kd i:Int)(hlw:R.ws.length≤1000000000) :
  Calls Tryz.prog 64 #[.pointer (some ⟨rb,0,none⟩),.int .i64 kd,.int .i64 i] w fun e w'=>e=.returned (.tuple #[])∧∃ V',RefAt w' rb V' x7 x8 x9 x10 x11 { R with ws:=R.ws.filter (fun x=>!goneW kd i x) }∧Only (foot rb V) w w'∧(∀ b∈V'.blocks,b∈V.blocks∨w.heap.size≤b):=by
 obtain ⟨pw,cw,hv⟩:=Zah h.rw
 have Hv:=hid hv
 clear hv
 obtain ⟨i4,hi4,hy0,hy1,hy2⟩:=info_parts ZfC
 go_enter Tryz.func64,Tryz.ntmps64
 go_wp2_with fail
 go_loopg [6,7] R.ws.length (fun gk v iv wr=>∃ k:Nat,k≤R.ws.length∧R.ws.length - k≤gk∧iv=.int .i64 k∧Below w.heap.size w wr∧wr.ownsRow w.heap.size 117 4 v ((R.ws.take k).filter (fun x=>!goneW kd i x)).length (((R.ws.take k).filter (fun x=>!goneW kd i x)).flatMap cellsW))
 case atStart=>exact ⟨0,Jq _,Jb _,rfl,Jd _ _,World.ownsRow_nil _ _ _ _⟩
 case round =>
  obtain ⟨k,hk,hgk,rfl,hb,hrow⟩:=hrel
  have hp:=h.below hb
  have c4:=hp.c4
  rw [Hv.out] at c4
  have hrb:=hp.lt
  by_cases hlt:k<R.ws.length
  ·rcases hp.rw.shape (fun _=>rfl) with ⟨e,_⟩ | ⟨g,cap,cur,e,_,hgl,_,_,hc⟩
   ·rw [Hv.out] at e; injection e with _ e2 _; omega
   have ee:=Hv.out.symm.trans e
   simp only [Value.slice.injEq] at ee
   obtain ⟨rfl,_,rfl⟩:=ee
   have q0:=(hc k 0 hlt (by decide)).1
   have q1:=(hc k 1 hlt (by decide)).1
   have q3:=(hc k 2 hlt (by decide)).1
   have q4:=(hc k 3 hlt (by decide)).1
   simp only [cellsW,Je,Jf,Nat.add_zero] at q0 q1 q3 q4
   have hkI:(k:Int)<(R.ws.length:Int):=by omega
   have htk:R.ws.take (k+1)=R.ws.take k ++ [R.ws[k]]:=List.take_succ_eq_append_getElem hlt
   have hlen:((R.ws.take k).filter (fun x=>!goneW kd i x)).length≤1000000000:=by
    have h1:=List.length_filter_le (fun x=>!goneW kd i x) (R.ws.take k)
    have h2:=List.length_take_le k R.ws
    omega
   have Htk:=hid htk
   clear htk hc e
   generalize hF:(R.ws.take k).filter (fun x=>!goneW kd i x)=F at hrow hlen
   have HF:=hid hF
   clear hF
   obtain ⟨z1,z2,z3,z4,hz⟩:∃ z1 z2 z3 z4,R.ws[k]=(z1,z2,z3,z4):=⟨_,_,_,_,rfl⟩
   rw [hz] at q0 q1 q3 q4
   have hgo:goneW kd i (z1,z2,z3,z4)=true→(R.ws.take (k+1)).filter (fun x=>!goneW kd i x)=F:=fun e=>by
    rw [Htk.out,List.filter_append,HF.out,hz]; simp [e]
   have hng:goneW kd i (z1,z2,z3,z4)=false→(R.ws.take (k+1)).filter (fun x=>!goneW kd i x)=F ++ [(z1,z2,z3,z4)]:=fun e=>by
    rw [Htk.out,List.filter_append,HF.out,hz]; simp [e]
   have Keep:=hid (fun (o1 o2:Obj) (W:World) (hg:((wr.alloc o1).alloc o2).grownBy W u6.ownBlock)=>show Below w.heap.size w W from by
    have hb2:Below w.heap.size w ((wr.alloc o1).alloc o2):=(hb.alloc hb.size _).alloc (Nat.le_trans hb.size (by simp)) _
    exact hb2.grown hg hb2.size (fun j hj=>(hrow.lt j hj).1))
   have Hgn:=hid (Jc hgo hng)
   clear hgo hng hz
   by_cases a1:kd=3
   ·subst a1
    by_cases a2:z1=i
    ·have Hgo:=hid (Hgn.out.1 (by simp [goneW,a2]))
     subst a2
     go_wp2
     go_roundg (R.ws.length - (k+1))
     case measure=>omega
     case rel=>exact ⟨k+1,by omega,Jb _,by go_num,hb.alloc hb.size _,by rw [Hgo.out]; exact hrow.alloc _⟩
    ·have Hng:=hid (Hgn.out.2 (by simp [goneW,a2]))
     have a2b:(z1 == i)=false:=by simpa using a2
     go_wp2_with (first
      | (at_builtin; refine wpList_append_own _ rfl _ _ 43 rfl w.heap.size 117 i4 (.agg #[.int .i64 0,.int .i64 0,.int .i64 0,.int .i64 0]) 4 32 Tryz.underlying43 hi4 hy0 hy1 hy2 rfl (by decide) _ _ _ rfl ((hrow.alloc _).alloc _) ⟨wr.heap.size+1,0,none⟩ 1 1 [.int .i64 z1,.int .i64 z2,.int .i64 z3,.int .i64 z4] rfl rfl (Zi5 _ _ _ _ _ _ _) (by intro u hu; simp at hu; rcases hu with rfl | rfl | rfl | rfl <;> rfl) (by unfold maxLen; omega) (by omega) (by have:=hb.size; simp; omega) ?_; intro v' w' hrow' hg' _)
      | go_in)
     go_roundg (R.ws.length - (k+1))
     case measure=>omega
     case rel=>exact ⟨k+1,by omega,Jb _,by go_num,Keep.out _ _ _ hg',by rw [Hng.out]; simpa [cellsW,List.flatMap_append] using hrow'⟩
   ·have a1b:(kd == 3)=false:=by simpa using a1
    by_cases b1:kd<2
    ·by_cases b2:z2=kd
     ·by_cases b3:z3=i
      ·have Hgo:=hid (Hgn.out.1 (by simp [goneW,b1,b2,b3]))
       subst b2 b3
       go_wp2
       go_roundg (R.ws.length - (k+1))
       case measure=>omega
       case rel=>exact ⟨k+1,by omega,Jb _,by go_num,hb.alloc hb.size _,by rw [Hgo.out]; exact hrow.alloc _⟩
      ·have Hng:=hid (Hgn.out.2 (by simp [goneW,a1,b3]))
       have b3b:(z3 == i)=false:=by simpa using b3
       subst b2
       go_wp2_with (first
        | (at_builtin; refine wpList_append_own _ rfl _ _ 43 rfl w.heap.size 117 i4 (.agg #[.int .i64 0,.int .i64 0,.int .i64 0,.int .i64 0]) 4 32 Tryz.underlying43 hi4 hy0 hy1 hy2 rfl (by decide) _ _ _ rfl ((hrow.alloc _).alloc _) ⟨wr.heap.size+1,0,none⟩ 1 1 [.int .i64 z1,.int .i64 z2,.int .i64 z3,.int .i64 z4] rfl rfl (Zi5 _ _ _ _ _ _ _) (by intro u hu; simp at hu; rcases hu with rfl | rfl | rfl | rfl <;> rfl) (by unfold maxLen; omega) (by omega) (by have:=hb.size; simp; omega) ?_; intro v' w' hrow' hg' _)
        | go_in)
       go_roundg (R.ws.length - (k+1))
       case measure=>omega
       case rel=>exact ⟨k+1,by omega,Jb _,by go_num,Keep.out _ _ _ hg',by rw [Hng.out]; simpa [cellsW,List.flatMap_append] using hrow'⟩
     ·have Hng:=hid (Hgn.out.2 (by simp [goneW,a1,b2]))
      have b2b:(z2 == kd)=false:=by simpa using b2
      go_wp2_with (first
       | (at_builtin; refine wpList_append_own _ rfl _ _ 43 rfl w.heap.size 117 i4 (.agg #[.int .i64 0,.int .i64 0,.int .i64 0,.int .i64 0]) 4 32 Tryz.underlying43 hi4 hy0 hy1 hy2 rfl (by decide) _ _ _ rfl ((hrow.alloc _).alloc _) ⟨wr.heap.size+1,0,none⟩ 1 1 [.int .i64 z1,.int .i64 z2,.int .i64 z3,.int .i64 z4] rfl rfl (Zi5 _ _ _ _ _ _ _) (by intro u hu; simp at hu; rcases hu with rfl | rfl | rfl | rfl <;> rfl) (by unfold maxLen; omega) (by omega) (by have:=hb.size; simp; omega) ?_; intro v' w' hrow' hg' _)
       | go_in)
      go_roundg (R.ws.length - (k+1))
      case measure=>omega
      case rel=>exact ⟨k+1,by omega,Jb _,by go_num,Keep.out _ _ _ hg',by rw [Hng.out]; simpa [cellsW,List.flatMap_append] using hrow'⟩
    ·have Hng:=hid (Hgn.out.2 (by simp [goneW,a1,b1]))
     have b1b:decide (kd<2)=false:=by simpa using b1
     go_wp2_with (first
      | (at_builtin; refine wpList_append_own _ rfl _ _ 43 rfl w.heap.size 117 i4 (.agg #[.int .i64 0,.int .i64 0,.int .i64 0,.int .i64 0]) 4 32 Tryz.underlying43 hi4 hy0 hy1 hy2 rfl (by decide) _ _ _ rfl ((hrow.alloc _).alloc _) ⟨wr.heap.size+1,0,none⟩ 1 1 [.int .i64 z1,.int .i64 z2,.int .i64 z3,.int .i64 z4] rfl rfl (Zi5 _ _ _ _ _ _ _) (by intro u hu; simp at hu; rcases hu with rfl | rfl | rfl | rfl <;> rfl) (by unfold maxLen; omega) (by omega) (by have:=hb.size; simp; omega) ?_; intro v' w' hrow' hg' _)
      | go_in)
     go_roundg (R.ws.length - (k+1))
     case measure=>omega
     case rel=>exact ⟨k+1,by omega,Jb _,by go_num,Keep.out _ _ _ hg',by rw [Hng.out]; simpa [cellsW,List.flatMap_append] using hrow'⟩
  ·obtain rfl:k=R.ws.length:=by omega
   rw [List.take_length] at hrow
   have f4:=hp.fr 4
   obtain ⟨pu,cu,rfl⟩:=Zae hrow
   have Hr:=hid hrow
   clear hrow
   go_wp2
   go_end0
   have hs:=h.set_ws (Zaj hb _) (Zba Hr.out) (Js (fun n hn=>(Hr.out.lt n hn).1))
   exact ⟨rfl,_,hs.1,hs.2.1,hs.2.2⟩
end
end
section
open Go.RowKit
section
variable {w:World}
theorem flatI (xs:List Int):xs.flatMap cellsI=xs.map (fun n=>Value.int .i64 n):=by
 induction xs with
 | nil=>rfl
 | cons y ys ih=>rw [List.flatMap_cons,ih]; rfl
theorem Zb6 (v:Value)(xs:List Int)(k:Nat)(h:RowAt w 3 1 cellsI v xs)(hk:k<xs.length)(hl:xs.length≤1000) :
  Calls Tryz.prog 65 #[v,.int .i64 k] w fun e w'=>∃ u,e=.returned u∧w'.ownsRow w.heap.size 3 1 u (xs.eraseIdx k).length ((xs.eraseIdx k).flatMap cellsI)∧Below w.heap.size w w':=by
 rcases h.shape (fun _=>rfl) with ⟨_,rfl⟩ | ⟨g,cap,cur,rfl,hg,hgl,h1,h2,hc⟩
 ·simp at hk
 obtain ⟨i3,hi3,hy0,hy1,hy2⟩:=info_parts Zlp
 have hk1:(k:Int)<(xs.length:Int):=by omega
 have hk2:(xs.length:Int)≤(cap:Int):=by omega
 have hk3:(k:Int)≤(cap:Int):=by omega
 have hk4:(k:Int)+1≤(cap:Int):=by omega
 have hk5:(k:Int)+1≤(xs.length:Int):=by omega
 go_enter Tryz.func65,Tryz.ntmps65
 have hcell:∀ j,(hj:j<xs.length)→w.cell? ⟨g,j,none⟩=some (.int .i64 xs[j]):=fun j hj=>by
  have:=(hc j 0 hj (by decide)).1
  simpa [cellsI] using this
 have Hc:=hid hcell
 clear hcell hc
 have F1:=hid (show ∀ j u,((xs.take k).map (fun n=>Value.int .i64 n))[j]?=some u→w.cell? ((⟨g,0,none⟩:Addr).add j)=some u from fun j u hu=>by
  rw [List.getElem?_map] at hu
  have hj:j<k:=by
   rcases Nat.lt_or_ge j k with h | h
   ·exact h
   ·rw [List.getElem?_eq_none (by simp; omega)] at hu; simp at hu
  have hjx:j<xs.length:=by omega
  rw [List.getElem?_take_of_lt hj,List.getElem?_eq_getElem hjx] at hu
  simp at hu
  rw [Addr.add_lit,Nat.zero_add,Hc.out j hjx,hu])
 have hlk:((xs.take k).map (fun n=>Value.int .i64 n)).length=k*1:=by simp; omega
 have F2:=hid (show ∀ j u,((xs.drop (k+1)).map (fun n=>Value.int .i64 n))[j]?=some u→w.cell? ((⟨g,k+1,none⟩:Addr).add j)=some u from fun j u hu=>by
  rw [List.getElem?_map,List.getElem?_drop] at hu
  have hjx:k+1+j<xs.length:=by
   rcases Nat.lt_or_ge (k+1+j) xs.length with h | h
   ·exact h
   ·rw [List.getElem?_eq_none h] at hu; simp at hu
  rw [List.getElem?_eq_getElem hjx] at hu
  simp at hu
  rw [Addr.add_lit,Hc.out (k+1+j) hjx,hu])
 have hld:((xs.drop (k+1)).map (fun n=>Value.int .i64 n)).length=(xs.length - (k+1))*1:=by simp
 have Her:=hid (show (xs.eraseIdx k).length=k+(xs.length - (k+1))∧(xs.eraseIdx k).flatMap cellsI=(xs.take k).map (fun n=>Value.int .i64 n) ++ (xs.drop (k+1)).map (fun n=>Value.int .i64 n) from ⟨by rw [List.length_eraseIdx_of_lt hk]; omega,by rw [flatI,List.eraseIdx_eq_take_drop_succ,List.map_append]⟩)
 clear h hg
 by_cases hcap:cap=k+1
 ·have hx:xs.length=k+1:=by omega
  subst hcap
  have hd0:xs.drop (k+1)=[]:=List.drop_eq_nil_of_le (by omega)
  have hx0:xs.length - (k+1)=0:=by omega
  rw [hd0,hx0] at Her
  have Hx:=hid (Jc hx hd0)
  clear hx hd0 F2 hld
  go_wp2_with (first
   | (at_builtin; refine wpList_append_own _ rfl _ _ 32 rfl w.heap.size 3 i3 (.int .i64 0) 1 8 Tryz.underlying32 hi3 hy0 hy1 hy2 rfl (by decide) (.slice none 0 0) 0 [] rfl (World.ownsRow_nil _ _ _ _) ⟨g,0,none⟩ k (k+1) ((xs.take k).map (fun n=>Value.int .i64 n)) rfl hlk F1.out (by intro u hu; obtain ⟨n,_,rfl⟩:=List.mem_map.1 hu; rfl) (by unfold maxLen; omega) (by omega) (Jb _) ?_; intro v1 w1 hrow1 hg1 _; simp only [Nat.zero_add,List.nil_append] at hrow1; obtain ⟨p1,cp1,rfl⟩:=Zae hrow1; have hb1:Below w.heap.size w w1:=(Jd _ _).grown hg1 (Jb _) (fun j hj=>by cases hj); clear hlk)
   | (at_builtin; refine wpList_append_own _ rfl _ _ 32 rfl w.heap.size 3 i3 (.int .i64 0) 1 8 Tryz.underlying32 hi3 hy0 hy1 hy2 rfl (by decide) _ _ _ rfl hrow1 ⟨g,0,none⟩ 0 0 [] rfl rfl (by simp) (by simp) (by unfold maxLen; omega) (by omega) hb1.size ?_; intro v2 w2 hrow2 hg2 _)
   | go_in)
  go_ret
  refine ⟨_,rfl,?_,hb1.grown hg2 hb1.size (fun j hj=>(hrow1.lt j hj).1)⟩
  rw [Her.out.1,Her.out.2]
  simpa using hrow2
 ·have hcap':(k:Int)+1<(cap:Int):=by omega
  have hcapn:k+1<cap:=by omega
  clear hcap
  go_wp2_with (first
   | (at_builtin; refine wpList_append_own _ rfl _ _ 32 rfl w.heap.size 3 i3 (.int .i64 0) 1 8 Tryz.underlying32 hi3 hy0 hy1 hy2 rfl (by decide) (.slice none 0 0) 0 [] rfl (World.ownsRow_nil _ _ _ _) ⟨g,0,none⟩ k cap ((xs.take k).map (fun n=>Value.int .i64 n)) rfl hlk F1.out (by intro u hu; obtain ⟨n,_,rfl⟩:=List.mem_map.1 hu; rfl) (by unfold maxLen; omega) (by omega) (Jb _) ?_; intro v1 w1 hrow1 hg1 _; simp only [Nat.zero_add,List.nil_append] at hrow1; obtain ⟨p1,cp1,rfl⟩:=Zae hrow1; have hb1:Below w.heap.size w w1:=(Jd _ _).grown hg1 (Jb _) (fun j hj=>by cases hj); clear hlk)
   | (at_builtin; refine wpList_append_own _ rfl _ _ 32 rfl w.heap.size 3 i3 (.int .i64 0) 1 8 Tryz.underlying32 hi3 hy0 hy1 hy2 rfl (by decide) _ _ _ rfl hrow1 ⟨g,k+1,none⟩ (xs.length - (k+1)) (cap - (k+1)) ((xs.drop (k+1)).map (fun n=>Value.int .i64 n)) rfl hld (fun j u hu=>by rw [hb1.cell (p:=(⟨g,k+1,none⟩:Addr).add j) (by rw [Addr.add_lit]; exact hgl)]; exact F2.out j u hu) (by intro u hu; obtain ⟨n,_,rfl⟩:=List.mem_map.1 hu; rfl) (by unfold maxLen; omega) (by omega) hb1.size ?_; intro v2 w2 hrow2 hg2 _)
   | go_in)
  go_ret
  refine ⟨_,rfl,?_,hb1.grown hg2 hb1.size (fun j hj=>(hrow1.lt j hj).1)⟩
  rw [Her.out.1,Her.out.2]
  exact hrow2
end
end
section
open Go.RowKit
theorem Zag {id:Int}{xs:List Th}(h:0≤atOf id xs):∃ k,∃ hk:k<xs.length,atOf id xs=k∧xs[k].1=id:=by
 have key:∀ (xs:List Th) (i:Nat),0≤posT id xs i→∃ k,∃ hk:k<xs.length,posT id xs i=((i+k:Nat):Int)∧xs[k].1=id:=by
  intro xs
  induction xs with
  | nil=>intro i h; simp [posT] at h
  | cons x r ih =>
   intro i h
   unfold posT at h ⊢
   by_cases hx:x.1=id
   ·exact ⟨0,by simp,by simp [hx],by simpa using hx⟩
   ·rw [if_neg hx] at h ⊢
    obtain ⟨k,hk,e,he⟩:=ih (i+1) h
    exact ⟨k+1,by simpa using hk,by rw [e]; congr 1; omega,by simpa using he⟩
 obtain ⟨k,hk,e,he⟩:=key xs 0 h
 exact ⟨k,hk,by unfold atOf; rw [e,Nat.zero_add],he⟩
theorem Zkd (xs:List Th):∀ u∈xs.flatMap cellsT,u.oneCell'=true:=by
 intro u hu
 obtain ⟨x,_,hx⟩:=List.mem_flatMap.1 hu
 simp [cellsT] at hx
 rcases hx with rfl | rfl | rfl <;> rfl
section
variable {w:World}{rb:Nat}{V:RVs}{x7 x8 x9 x10 x11:Value}{R:RSt}
theorem RowAt.from {g:Nat}{xs:List Th}(hc:∀ k c,(hk:k<xs.length)→c<3→w.cell? ⟨g,k*3+c,none⟩=(cellsT xs[k])[c]?∧w.frozen? ⟨g,k*3+c,none⟩=false)(s m:Nat)(hm:s+m≤xs.length) :
  ∀ j u,(((xs.drop s).take m).flatMap cellsT)[j]?=some u→w.cell? ((⟨g,s*3,none⟩:Addr).add j)=some u:=by
 intro j u hu
 have hlen:(((xs.drop s).take m).flatMap cellsT).length=m*3:=by rw [Zax (enc:=cellsT) (size:=3) (fun _=>rfl)]; simp; omega
 have hj:j<m*3:=by
  rcases Nat.lt_or_ge j (m*3) with h | h
  ·exact h
  ·rw [List.getElem?_eq_none (by omega)] at hu; cases hu
 have hq:j / 3<m:=by omega
 have hmod:j % 3<3:=Nat.mod_lt _ (by decide)
 have e1:=ZbC (enc:=cellsT) (size:=3) (fun _=>rfl) ((xs.drop s).take m) (j / 3) (j % 3) (by simp; omega) hmod
 rw [show j / 3*3+j % 3=j by omega] at e1
 rw [e1] at hu
 have e2:=(hc (s+j / 3) (j % 3) (by omega) hmod).1
 rw [Addr.add_lit,show s*3+j=(s+j / 3)*3+j % 3 by omega,e2,← hu]
 simp
theorem ZbN {w w1 w2:World}{rb:Nat}{V V1 V2:RVs}(h:Only (foot rb V) w w1∧(∀ b∈V1.blocks,b∈V.blocks∨w.heap.size≤b))(k:Only (foot rb V1) w1 w2∧(∀ b∈V2.blocks,b∈V1.blocks∨w1.heap.size≤b)) :
  Only (foot rb V) w w2∧(∀ b∈V2.blocks,b∈V.blocks∨w.heap.size≤b):=by
 refine ⟨h.1.chain k.1 (fun x hx=>?_),fun b hb=>?_⟩
 ·rcases List.mem_cons.1 hx with rfl | hx
  ·exact Jr Jp
  ·exact (h.2 x hx).imp_left (Jk _)
 ·rcases k.2 b hb with h1 | h1
  ·exact h.2 b h1
  ·exact Js (Nat.le_trans h.1.size h1)
end
end
section
open Go.RowKit
def off (id n:Int):Int:=if n=id then -1 else n
def offTo (id:Int)(on:List Int)(k:Nat):List Int:=(List.range on.length).map fun i=>if i<k then off id (on.getD i 0) else on.getD i 0
theorem ZaH (id:Int)(on:List Int)(k:Nat):(offTo id on k).length=on.length:=by simp [offTo]
theorem Zeg (id:Int)(on:List Int):offTo id on 0=on:=by
 apply List.ext_getElem (by simp [offTo])
 intro i h1 h2
 simp [offTo,h2]
theorem Ze8 (id:Int)(on:List Int):offTo id on on.length=on.map (off id):=by
 apply List.ext_getElem (by simp [offTo])
 intro i h1 h2
 have h3:i<on.length:=by simpa using h2
 simp [offTo,h3]
theorem ZcL (id:Int)(on:List Int)(k i:Nat)(hi:i<on.length):(offTo id on k)[i]'(by rw [ZaH]; exact hi)=if i<k then off id on[i] else on[i]:=by
 simp [offTo,hi]
theorem Zc5 (id:Int)(on:List Int)(k:Nat)(hk:k<on.length):offTo id on (k+1)=(offTo id on k).set k (off id on[k]):=by
 apply List.ext_getElem (by simp [offTo])
 intro i h1 h2
 have h3:i<on.length:=by simpa [offTo] using h1
 rw [ZcL id on (k+1) i h3,List.getElem_set]
 by_cases e:k=i
 ·subst e; simp
 ·rw [if_neg e,ZcL id on k i h3]
  by_cases q:i<k
  ·rw [if_pos q,if_pos (by omega)]
  ·rw [if_neg q,if_neg (by omega)]
theorem Zef (id:Int)(on:List Int)(k:Nat)(hk:k<on.length)(h:on[k]≠id):offTo id on (k+1)=offTo id on k:=by
 rw [Zc5 id on k hk]
 have:off id on[k]=(offTo id on k)[k]'(by rw [ZaH]; exact hk):=by rw [ZcL id on k k hk,if_neg (by omega)]; simp [off,h]
 rw [this,List.set_getElem_self]
section
variable {w:World}{rb:Nat}{V:RVs}{x7 x8 x9 x10 x11:Value}{R:RSt}
theorem Zjw (h:RefAt w rb V x7 x8 x9 x10 x11 R)(id:Int)(k:Nat)(hk:k<R.t1.length)(hat:atOf id R.t1=k)(hl1:R.t1.length≤1000)(hl3:R.t3.length≤1000)(hlk:R.t1.length≤1000)(hlw:R.ws.length≤1000000000)(hlo:R.on.length=R.t3.length)(hlt:R.wt.length=R.t3.length) :
  Calls Tryz.prog 36 #[.pointer (some ⟨rb,0,none⟩),.int .i64 1,.int .i64 id] w fun e w'=>e=.returned (.int .i64 0)∧∃ V',RefAt w' rb V' x7 x8 x9 x10 x11 { R with t1:=R.t1.eraseIdx k,ws:=R.ws.filter (fun x=>!goneW 1 id x),on:=R.on.map (off id) }∧Only (foot rb V) w w'∧(∀ b∈V'.blocks,b∈V.blocks∨w.heap.size≤b):=by
 have A1:=hid (Zap _ rb 1 V.v1 R.t1 id (by decide) h.c1 h.r1 hlk)
 rw [hat] at A1
 obtain ⟨p1,cp1,hv1⟩:=Zah h.r1
 obtain ⟨p3,cp3,hv3⟩:=Zah h.r3
 have c1:=h.c1
 have c3:=h.c3
 have Hs1:=hid (h.r1.shape (fun _=>rfl))
 have Hs3:=hid (h.r3.shape (fun _=>rfl))
 rw [hv1] at c1
 rw [hv3] at c3
 have hrb:=h.lt
 obtain ⟨i0,hi,hz0,hz1,hz2⟩:=info_parts Zcd
 have hkneg:decide ((k:Int)<0)=false:=by simp
 have Hlo:=hid (Jc hlo hlt)
 clear hlo hlt
 go_enter Tryz.func36,Tryz.ntmps36
 go_wp2_with fail
 refine A1.out.mono ?_
 rintro e w2 ⟨rfl,rfl⟩
 go_wp2_with fail
 clear A1
 go_loop [8] (fun i=>∃ j:Nat,j≤R.t1.length∧i=.int .i64 j) (fun i=>R.t1.length - (intOf i).toNat)
 case atStart=>exact ⟨0,Jq _,rfl⟩
 case' round=>skip
 obtain ⟨j,hj',rfl⟩:=hrel
 by_cases hj:j<R.t1.length
 ·have hjI:(j:Int)<(R.t1.length:Int):=by omega
  go_wp2
  go_round
  case rel=>exact ⟨j+1,by omega,by go_num⟩
  case measure=>simp [intOf]; omega
 go_wp2_with fail
 clear hj hj'
 go_loop [9] (fun i=>∃ j:Nat,j≤R.t3.length∧i=.int .i64 j) (fun i=>R.t3.length - (intOf i).toNat)
 case atStart=>exact ⟨0,Jq _,rfl⟩
 case' round=>skip
 obtain ⟨j,hj',rfl⟩:=hrel
 by_cases hj:j<R.t3.length
 ·have hjI:(j:Int)<(R.t3.length:Int):=by omega
  go_wp2
  go_round
  case rel=>exact ⟨j+1,by omega,by go_num⟩
  case measure=>simp [intOf]; omega
 have hjI:¬ (j:Int)<(R.t3.length:Int):=by omega
 clear hj hj'
 rcases h.r1.shape (fun _=>rfl) with ⟨e,e0⟩ | ⟨g,cap,cur,hvk,hg,hgl,hle,hcm,hc⟩
 ·rw [e0] at hk; simp at hk
 rw [hv1.symm.trans hvk] at c1
 have hk1:(k:Int)<(R.t1.length:Int):=by omega
 have hk2:(R.t1.length:Int)≤(cap:Int):=by omega
 have hk3:(k:Int)≤(cap:Int):=by omega
 have hk4:(k:Int)+1≤(cap:Int):=by omega
 have hk5:(k:Int)+1≤(R.t1.length:Int):=by omega
 have F1:=hid (RowAt.from hc 0 k (by omega))
 rw [Nat.zero_mul,List.drop_zero] at F1
 have F2:=hid (RowAt.from hc (k+1) (R.t1.length - (k+1)) (by omega))
 rw [List.take_of_length_le (by simp)] at F2
 have hlk1:((R.t1.take k).flatMap cellsT).length=k*3:=by rw [Zax (enc:=cellsT) (size:=3) (fun _=>rfl)]; simp; omega
 have hld1:((R.t1.drop (k+1)).flatMap cellsT).length=(R.t1.length - (k+1))*3:=by rw [Zax (enc:=cellsT) (size:=3) (fun _=>rfl)]; simp
 have O1:=hid (Zkd (R.t1.take k))
 have O2:=hid (Zkd (R.t1.drop (k+1)))
 have Her:=hid (show (R.t1.eraseIdx k).length=k+(R.t1.length - (k+1))∧(R.t1.eraseIdx k).flatMap cellsT=(R.t1.take k).flatMap cellsT ++ (R.t1.drop (k+1)).flatMap cellsT from ⟨by rw [List.length_eraseIdx_of_lt hk]; omega,by rw [List.eraseIdx_eq_take_drop_succ,List.flatMap_append]⟩)
 clear hc hg
 go_upto_region 18 with (first
  | (at_builtin; refine wpList_append_own _ rfl _ _ 41 rfl w2.heap.size 76 i0 (.agg #[.int .i64 0,.int .i64 0,.int .i64 0]) 3 24 Tryz.underlying41 hi hz0 hz1 hz2 rfl (by decide) (.slice none 0 0) 0 [] rfl (World.ownsRow_nil _ _ _ _) ⟨g,0,none⟩ k cap ((R.t1.take k).flatMap cellsT) rfl hlk1 F1.out O1.out (by unfold maxLen; omega) (by omega) (Jb _) ?_; intro v1 w1 hrow1 hg1 _; simp only [Nat.zero_add,List.nil_append] at hrow1; obtain ⟨p1,cp1,rfl⟩:=Zae hrow1; have hb1:Below w2.heap.size w2 w1:=(Jd _ _).grown hg1 (Jb _) (fun j hj=>by cases hj); clear hlk1)
  | go_in)
 have ck1:=(h.below hb1).c1
 rw [hvk] at ck1
 have hrb1:=(h.below hb1).lt
 clear c1 c3 hjI
 have hjI:True:=trivial
 by_cases hcap:cap=k+1
 ·have hx:R.t1.length=k+1:=by omega
  subst hcap
  have hd0:R.t1.drop (k+1)=[]:=List.drop_eq_nil_of_le (by omega)
  have hx0:R.t1.length - (k+1)=0:=by omega
  rw [hd0,hx0] at Her
  have Hx:=hid (Jc hx hd0)
  clear hx hd0 F2 hld1
  go_wp2_with (first
   | (at_builtin; refine wpList_append_own _ rfl _ _ 41 rfl w2.heap.size 76 i0 (.agg #[.int .i64 0,.int .i64 0,.int .i64 0]) 3 24 Tryz.underlying41 hi hz0 hz1 hz2 rfl (by decide) _ _ _ rfl hrow1 ⟨g,0,none⟩ 0 0 [] rfl rfl (by simp) (by simp) (by unfold maxLen; omega) (by omega) hb1.size ?_; intro v2 wB hrow2 hg2 _; have hrow3:wB.ownsRow w2.heap.size 76 3 v2 (R.t1.eraseIdx k).length ((R.t1.eraseIdx k).flatMap cellsT):=(by rw [Her.out.1,Her.out.2]; simpa using hrow2); clear hrow2; have hb2:=hb1.grown hg2 hb1.size (fun j hj=>(hrow1.lt j hj).1); have hs:=hid (h.set_t1 (Zaj hb2 _) (Zba hrow3) (Js (fun n hn=>(hrow3.lt n hn).1))); obtain ⟨p2,cp2,rfl⟩:=Zae hrow3; have fK:=(h.below hb2).fr 1; have cK:=(h.below hb2).c1; have hrbB:=(h.below hb2).lt; have Hrow3:=hid hrow3; clear hrow3 hrow1 hg2 hg1)
   | (go_at_call 64; refine (Za9 hs.out.1 1 id hlw).mono ?_; rintro e w3 ⟨rfl,V3,h3,ho3⟩)
   | go_in)
  have st3:=hid (ZbN hs.out.2 ho3)
  have h3ro:RowAt w3 3 1 cellsI V3.vo R.on:=h3.ro
  obtain ⟨po,cpo,hvo⟩:=Zah h3ro
  have c5:=h3.c5
  rw [hvo] at c5
  have hrb3:=h3.lt
  clear hs ho3 fK cK hrbB hb2 hb1 hjI
  have hzo:=Zeg id R.on
  have hlo3:=Hlo.out.1
  have hlon:R.on.length≤1000:=by omega
  go_loopg [11] R.on.length (fun gk i wr=>∃ j:Nat,j≤R.on.length∧R.on.length - j≤gk∧i=.int .i64 j∧RefAt wr rb V3 x7 x8 x9 x10 x11 { R with t1:=R.t1.eraseIdx k,ws:=R.ws.filter (fun x=>!goneW 1 id x),on:=offTo id R.on j }∧Only (foot rb V3) w3 wr)
  case atStart=>exact ⟨0,Jq _,by omega,rfl,by rw [hzo]; exact h3,Only.of_below (Jd _ _)⟩
  case' round=>skip
  obtain ⟨j,hj',hgk,rfl,hr,hO⟩:=hrel
  clear h3ro c5 hrb3 hzo
  obtain ⟨c5,hrb3⟩:wr.cell? ⟨rb,5,none⟩=some V3.vo∧rb<wr.heap.size:=⟨hr.c5,hr.lt⟩
  rw [hvo] at c5
  by_cases hj:j<R.on.length
  ·have hjI:(j:Int)<(R.on.length:Int):=by omega
   have hsh:=hr.ro.shape (fun _=>rfl)
   rcases hsh with ⟨e,e0⟩ | ⟨go,capo,curo,eo,_,hglo,_,_,hco⟩
   ·have e0:offTo id R.on j=[]:=e0
    have:(offTo id R.on j).length=0:=by rw [e0]; rfl
    rw [ZaH] at this; omega
   have ee:=hvo.symm.trans eo
   simp only [Value.slice.injEq] at ee
   obtain ⟨rfl,_,rfl⟩:=ee
   have q1:=(hco j 0 (by rw [ZaH]; exact hj) (by decide)).1
   have q2:=(hco j 0 (by rw [ZaH]; exact hj) (by decide)).2
   rw [ZcL id R.on j j hj,if_neg (by omega)] at q1
   simp only [cellsI,Je,Nat.mul_one,Nat.add_zero] at q1 q2
   have hput:=hid (hr.put_on (g:=go) (cap:=cpo) (by rw [hvo,ZaH]) j (-1))
   have H3:=hid (Jc hr hO)
   clear hco eo hr hO
   by_cases hnb:R.on[j]=id
   ·have hnb':(R.on[j] == id)=true:=by simpa using hnb
    have hsx:=Zc5 id R.on j hj
    rw [show off id R.on[j]=-1 by simp [off,hnb]] at hsx
    have Hsx:=hid (Jc hsx hnb)
    clear hsx hnb
    go_wp2
    go_roundg (R.on.length - (j+1))
    case measure=>omega
    case rel =>
     refine ⟨j+1,by omega,Jb _,by go_num,?_,H3.out.2.trans hput.out.2⟩
     rw [Hsx.out.1]
     exact hput.out.1
   ·have hnb':(R.on[j] == id)=false:=by simpa using hnb
    have Hsx:=hid (Zef id R.on j hj hnb)
    clear hnb
    go_wp2
    go_roundg (R.on.length - (j+1))
    case measure=>omega
    case rel =>
     refine ⟨j+1,by omega,Jb _,by go_num,?_,H3.out.2⟩
     rw [Hsx.out]
     exact H3.out.1
  have hjI:¬ (j:Int)<(R.on.length:Int):=by omega
  obtain rfl:j=R.on.length:=by omega
  rw [Ze8] at hr
  have H3:=hid (Jc hr hO)
  clear hr hO
  go_wp2_with fail
  go_ret
  exact ⟨rfl,V3,H3.out.1,(ZbN st3.out ⟨H3.out.2,fun b hb=>Jr hb⟩)⟩
 ·have hcap':(k:Int)+1<(cap:Int):=by omega
  have hcapn:k+1<cap:=by omega
  clear hcap
  go_wp2_with (first
   | (at_builtin; refine wpList_append_own _ rfl _ _ 41 rfl w2.heap.size 76 i0 (.agg #[.int .i64 0,.int .i64 0,.int .i64 0]) 3 24 Tryz.underlying41 hi hz0 hz1 hz2 rfl (by decide) _ _ _ rfl hrow1 ⟨g,(k+1)*3,none⟩ (R.t1.length - (k+1)) (cap - (k+1)) ((R.t1.drop (k+1)).flatMap cellsT) rfl hld1 (fun j u hu=>by rw [hb1.cell (p:=(⟨g,(k+1)*3,none⟩:Addr).add j) (by rw [Addr.add_lit]; exact hgl)]; exact F2.out j u hu) O2.out (by unfold maxLen; omega) (by omega) hb1.size ?_; intro v2 wB hrow2 hg2 _; have hrow3:wB.ownsRow w2.heap.size 76 3 v2 (R.t1.eraseIdx k).length ((R.t1.eraseIdx k).flatMap cellsT):=(by rw [Her.out.1,Her.out.2]; exact hrow2); clear hrow2; have hb2:=hb1.grown hg2 hb1.size (fun j hj=>(hrow1.lt j hj).1); have hs:=hid (h.set_t1 (Zaj hb2 _) (Zba hrow3) (Js (fun n hn=>(hrow3.lt n hn).1))); obtain ⟨p2,cp2,rfl⟩:=Zae hrow3; have fK:=(h.below hb2).fr 1; have cK:=(h.below hb2).c1; have hrbB:=(h.below hb2).lt; have Hrow3:=hid hrow3; clear hrow3 hrow1 hg2 hg1)
   | (go_at_call 64; refine (Za9 hs.out.1 1 id hlw).mono ?_; rintro e w3 ⟨rfl,V3,h3,ho3⟩)
   | go_in)
  have st3:=hid (ZbN hs.out.2 ho3)
  have h3ro:RowAt w3 3 1 cellsI V3.vo R.on:=h3.ro
  obtain ⟨po,cpo,hvo⟩:=Zah h3ro
  have c5:=h3.c5
  rw [hvo] at c5
  have hrb3:=h3.lt
  clear hs ho3 fK cK hrbB hb2 hb1 hjI
  have hzo:=Zeg id R.on
  have hlo3:=Hlo.out.1
  have hlon:R.on.length≤1000:=by omega
  go_loopg [11] R.on.length (fun gk i wr=>∃ j:Nat,j≤R.on.length∧R.on.length - j≤gk∧i=.int .i64 j∧RefAt wr rb V3 x7 x8 x9 x10 x11 { R with t1:=R.t1.eraseIdx k,ws:=R.ws.filter (fun x=>!goneW 1 id x),on:=offTo id R.on j }∧Only (foot rb V3) w3 wr)
  case atStart=>exact ⟨0,Jq _,by omega,rfl,by rw [hzo]; exact h3,Only.of_below (Jd _ _)⟩
  case' round=>skip
  obtain ⟨j,hj',hgk,rfl,hr,hO⟩:=hrel
  clear h3ro c5 hrb3 hzo
  obtain ⟨c5,hrb3⟩:wr.cell? ⟨rb,5,none⟩=some V3.vo∧rb<wr.heap.size:=⟨hr.c5,hr.lt⟩
  rw [hvo] at c5
  by_cases hj:j<R.on.length
  ·have hjI:(j:Int)<(R.on.length:Int):=by omega
   have hsh:=hr.ro.shape (fun _=>rfl)
   rcases hsh with ⟨e,e0⟩ | ⟨go,capo,curo,eo,_,hglo,_,_,hco⟩
   ·have e0:offTo id R.on j=[]:=e0
    have:(offTo id R.on j).length=0:=by rw [e0]; rfl
    rw [ZaH] at this; omega
   have ee:=hvo.symm.trans eo
   simp only [Value.slice.injEq] at ee
   obtain ⟨rfl,_,rfl⟩:=ee
   have q1:=(hco j 0 (by rw [ZaH]; exact hj) (by decide)).1
   have q2:=(hco j 0 (by rw [ZaH]; exact hj) (by decide)).2
   rw [ZcL id R.on j j hj,if_neg (by omega)] at q1
   simp only [cellsI,Je,Nat.mul_one,Nat.add_zero] at q1 q2
   have hput:=hid (hr.put_on (g:=go) (cap:=cpo) (by rw [hvo,ZaH]) j (-1))
   have H3:=hid (Jc hr hO)
   clear hco eo hr hO
   by_cases hnb:R.on[j]=id
   ·have hnb':(R.on[j] == id)=true:=by simpa using hnb
    have hsx:=Zc5 id R.on j hj
    rw [show off id R.on[j]=-1 by simp [off,hnb]] at hsx
    have Hsx:=hid (Jc hsx hnb)
    clear hsx hnb
    go_wp2
    go_roundg (R.on.length - (j+1))
    case measure=>omega
    case rel =>
     refine ⟨j+1,by omega,Jb _,by go_num,?_,H3.out.2.trans hput.out.2⟩
     rw [Hsx.out.1]
     exact hput.out.1
   ·have hnb':(R.on[j] == id)=false:=by simpa using hnb
    have Hsx:=hid (Zef id R.on j hj hnb)
    clear hnb
    go_wp2
    go_roundg (R.on.length - (j+1))
    case measure=>omega
    case rel =>
     refine ⟨j+1,by omega,Jb _,by go_num,?_,H3.out.2⟩
     rw [Hsx.out]
     exact H3.out.1
  have hjI:¬ (j:Int)<(R.on.length:Int):=by omega
  obtain rfl:j=R.on.length:=by omega
  rw [Ze8] at hr
  have H3:=hid (Jc hr hO)
  clear hr hO
  go_wp2_with fail
  go_ret
  exact ⟨rfl,V3,H3.out.1,(ZbN st3.out ⟨H3.out.2,fun b hb=>Jr hb⟩)⟩
end
end
section
open Go.RowKit
def mineW (t m r:Int)(x:Wi):Bool:=decide (x.1=t) && ((decide (x.2.1=1) && decide (x.2.2.1=m)) || (decide (x.2.1=0) && decide (x.2.2.1=r)))
def lessW (t m r:Int)(c:Int)(x:Wi):Int:=if mineW t m r x=true∧x.2.2.2<c then x.2.2.2 else c
def minW (t m r c:Int)(ws:List Wi):Int:=ws.foldl (lessW t m r) c
theorem ZhO {t m r c:Int}{ws:List Wi}{k:Nat}(hk:k<ws.length):minW t m r c (ws.take (k+1))=lessW t m r (minW t m r c (ws.take k)) ws[k]:=by
 unfold minW
 rw [List.take_succ_eq_append_getElem hk,List.foldl_append]
 rfl
end
section
open Go.RowKit
def mvR (o m:Int):Int:=if 0≤o∧o≠m then 50 else 0
theorem Ze7 (o m:Int):0≤mvR o m∧mvR o m≤50:=by unfold mvR; split <;> omega
theorem ZfI {t m r c:Int}{x:Wi}(hc:0≤c∧c≤1000)(hx:0≤x.2.2.2):0≤lessW t m r c x∧lessW t m r c x≤1000:=by
 unfold lessW
 split
 ·rename_i h; have:=h.2; omega
 ·exact hc
theorem Zc4 {t m r:Int}:∀ {ws:List Wi}{c:Int},0≤c∧c≤1000→(∀ x∈ws,0≤x.2.2.2)→0≤minW t m r c ws∧minW t m r c ws≤1000
 | [],c,hc,_=>hc
 | x :: ws,c,hc,h=>by
  have h1:=ZfI (t:=t) (m:=m) (r:=r) hc (h x Jp)
  exact Zc4 (ws:=ws) h1 (fun y hy=>h y (Jk _ hy))
section
variable {w:World}{rb:Nat}{V:RVs}{x7 x8 x9 x10 x11:Value}{R:RSt}
theorem ZbA (h:RefAt w rb V x7 x8 x9 x10 x11 R)(i j:Nat)(hi:i<R.t3.length)(hio:i<R.on.length)(hit:i<R.wt.length)(hl2:R.t2.length≤1000)(hj:j<R.t2.length)(hat:atOf R.t3[i].2.1 R.t2=j)(hb0:0≤R.t2[j].2.2)(hb1:R.t2[j].2.2≤1000)(hw0:0≤R.wt[i])(hw1:R.wt[i]≤100) :
  Calls Tryz.prog 68 #[.pointer (some ⟨rb,0,none⟩),.int .i64 i,.int .i64 (-1)] w fun e w'=>e=.returned (.int .i64 (R.t2[j].2.2+R.wt[i]+mvR R.on[i] (-1)))∧Below w.heap.size w w':=by
 obtain ⟨z1,z2,z3,hz⟩:∃ z1 z2 z3,R.t3[i]=(z1,z2,z3):=⟨_,_,_,rfl⟩
 rw [hz] at hat
 have hp1:=h.alloc (.cells #[.int .i64 z1,.int .i64 z2,.int .i64 z3] 76)
 have A1:=hid (fun n=>Zap ((w.alloc (.cells #[.int .i64 z1,.int .i64 z2,.int .i64 z3] 76)).drewN n) rb 2 V.v2 R.t2 z2 (by decide) (hp1.drewN n).c2 (hp1.drewN n).r2 hl2)
 rw [hat] at A1
 rcases h.r3.shape (fun _=>rfl) with ⟨_,e0⟩ | ⟨g3,cap3,cur3,hv3,_,hgl3,hle3,_,hc3⟩
 ·rw [e0] at hi; simp at hi
 rcases h.r2.shape (fun _=>rfl) with ⟨_,e0⟩ | ⟨g2,cap2,cur2,hv2,_,hgl2,hle2,_,hc2⟩
 ·rw [e0] at hj; simp at hj
 rcases h.ro.shape (fun _=>rfl) with ⟨_,e0⟩ | ⟨go,capo,curo,hvo,_,hglo,hleo,_,hco⟩
 ·rw [e0] at hio; simp at hio
 rcases h.rt.shape (fun _=>rfl) with ⟨_,e0⟩ | ⟨gt,capt,curt,hvt,_,hglt,hlet,_,hct⟩
 ·rw [e0] at hit; simp at hit
 have q0:=(hc3 i 0 hi (by decide)).1
 have q1:=(hc3 i 1 hi (by decide)).1
 have q2:=(hc3 i 2 hi (by decide)).1
 rw [hz] at q0 q1 q2
 have q3:=(hc2 j 2 hj (by decide)).1
 have q4:=(hco i 0 hio (by decide)).1
 have q5:=(hct i 0 hit (by decide)).1
 simp only [cellsT,cellsI,Je,Jf,Nat.add_zero,Nat.mul_one] at q0 q1 q2 q3 q4 q5
 generalize R.t2[j].2.2=b at q3 hb0 hb1
 generalize R.wt[i]=t at q5 hw0 hw1
 generalize R.on[i]=o at q4
 have c3:=h.c3
 have c2:=h.c2
 have c5:=h.c5
 have c6:=h.c6
 rw [hv3] at c3
 rw [hv2] at c2
 rw [hvo] at c5
 rw [hvt] at c6
 have hrb:=h.lt
 have hrb1:rb<w.heap.size+1:=by omega
 have hiI:(i:Int)<(R.t3.length:Int):=by omega
 have hjI:(j:Int)<(R.t2.length:Int):=by omega
 have hioI:(i:Int)<(R.on.length:Int):=by omega
 have hitI:(i:Int)<(R.wt.length:Int):=by omega
 clear hc3 hc2 hco hct
 have hbb:Below w.heap.size w (w.alloc (.cells #[.int .i64 z1,.int .i64 z2,.int .i64 z3] 76)):=(Jd _ _).alloc (Jb _) _
 by_cases ho:0≤o
 ·have e50:mvR o (-1)=50:=by simp only [mvR]; rw [if_pos ⟨ho,by omega⟩]
  rw [e50]
  have d1:decide (0≤o)=true:=by simpa using ho
  have d2:(o == (-1:Int))=false:=by simp; omega
  clear e50
  go_enter Tryz.func68,Tryz.ntmps68
  go_wp2_with fail
  go_quiet ((go_at_call 62; exact Calls.quiet_of_same (A1.out _)))
  go_wp2_with fail
  go_ret
  exact ⟨rfl,⟨hbb.os,hbb.tape,hbb.output,hbb.size,hbb.block⟩⟩
 ·have e50:mvR o (-1)=0:=by simp only [mvR]; rw [if_neg (fun q=>ho q.1)]
  rw [e50,Int.add_zero]
  have d1:decide (0≤o)=false:=by simpa using ho
  clear e50
  go_enter Tryz.func68,Tryz.ntmps68
  go_wp2_with fail
  go_quiet ((go_at_call 62; exact Calls.quiet_of_same (A1.out _)))
  go_wp2_with fail
  go_ret
  exact ⟨rfl,⟨hbb.os,hbb.tape,hbb.output,hbb.size,hbb.block⟩⟩
theorem Zcn (h:RefAt w rb V x7 x8 x9 x10 x11 R)(i j:Nat)(m:Int)(hm:0≤m)(hi:i<R.t3.length)(hio:i<R.on.length)(hl1:R.t1.length≤1000)(hj:j<R.t1.length)(hat:atOf m R.t1=j)(hlw:R.ws.length≤1000000000)(hn:0≤R.t3[i].2.2∧R.t3[i].2.2≤1000)(hws:∀ x∈R.ws,0≤x.2.2.2) :
  Calls Tryz.prog 68 #[.pointer (some ⟨rb,0,none⟩),.int .i64 i,.int .i64 m] w fun e w'=>e=.returned (.int .i64 (minW R.t3[i].1 m R.t1[j].2.1 R.t3[i].2.2 R.ws+mvR R.on[i] m))∧Below w.heap.size w w':=by
 obtain ⟨z1,z2,z3,hz⟩:∃ z1 z2 z3,R.t3[i]=(z1,z2,z3):=⟨_,_,_,rfl⟩
 have hp1:=h.alloc (.cells #[.int .i64 z1,.int .i64 z2,.int .i64 z3] 76)
 have A1:=hid (fun n=>Zap ((w.alloc (.cells #[.int .i64 z1,.int .i64 z2,.int .i64 z3] 76)).drewN n) rb 1 V.v1 R.t1 m (by decide) (hp1.drewN n).c1 (hp1.drewN n).r1 hl1)
 rw [hat] at A1
 rcases h.r3.shape (fun _=>rfl) with ⟨_,e0⟩ | ⟨g3,cap3,cur3,hv3,_,hgl3,hle3,_,hc3⟩
 ·rw [e0] at hi; simp at hi
 rcases h.r1.shape (fun _=>rfl) with ⟨_,e0⟩ | ⟨g2,cap2,cur2,hv2,_,hgl2,hle2,_,hc2⟩
 ·rw [e0] at hj; simp at hj
 have q0:=(hc3 i 0 hi (by decide)).1
 have q1:=(hc3 i 1 hi (by decide)).1
 have q2:=(hc3 i 2 hi (by decide)).1
 rw [hz] at q0 q1 q2 hn
 rw [hz]
 have q3:=(hc2 j 1 hj (by decide)).1
 simp only [cellsT,Je,Jf,Nat.add_zero] at q0 q1 q2 q3
 generalize R.t1[j].2.1=r at q3
 have c3:=h.c3
 have c2:=h.c1
 rw [hv3] at c3
 rw [hv2] at c2
 have hrb:=h.lt
 have hrb1:rb<w.heap.size+1:=by omega
 have hiI:(i:Int)<(R.t3.length:Int):=by omega
 have hjI:(j:Int)<(R.t1.length:Int):=by omega
 have hmb:decide (m<0)=false:=by simp; omega
 clear hc3 hc2
 go_enter Tryz.func68,Tryz.ntmps68
 go_wp2_with fail
 go_quiet ((go_at_call 62; exact Calls.quiet_of_same (A1.out _)))
 go_wp2_with fail
 have hp2:=hp1.drewN nq
 have hb1:Below w.heap.size w (w.alloc (.cells #[.int .i64 z1,.int .i64 z2,.int .i64 z3] 76)):=(Jd _ _).alloc (Jb _) _
 have hb2:Below w.heap.size w ((w.alloc (.cells #[.int .i64 z1,.int .i64 z2,.int .i64 z3] 76)).drewN nq):=⟨hb1.os,hb1.tape,hb1.output,hb1.size,hb1.block⟩
 have k0:((w.alloc (.cells #[.int .i64 z1,.int .i64 z2,.int .i64 z3] 76)).drewN nq).cell? ⟨w.heap.size,0,none⟩=some (.int .i64 z1):=by show (w.alloc _).cell? _=_; rw [World.cell?_alloc_at _ _ _ _ rfl]; rfl
 have hzz:w.heap.size<((w.alloc (.cells #[.int .i64 z1,.int .i64 z2,.int .i64 z3] 76)).drewN nq).heap.size:=by simp [World.drewN]
 clear A1 hp1 hb1 c3 c2 q0 q1 q2 q3 h hrb hrb1
 generalize (w.alloc (.cells #[.int .i64 z1,.int .i64 z2,.int .i64 z3] 76)).drewN nq=W2 at hp2 hb2 k0 hzz ⊢
 obtain ⟨pw,cw,hvw⟩:=Zah hp2.rw
 obtain ⟨po,co,hvo⟩:=Zah hp2.ro
 have Hv:=hid hvw
 have Hvo:=hid hvo
 have Hz:=hid hz
 have Hk:=hid (Jc k0 hzz)
 clear hvw hvo hz k0 hzz
 go_loopg [8,10] R.ws.length (fun gk v iv wr=>∃ k:Nat,k≤R.ws.length∧R.ws.length - k≤gk∧iv=.int .i64 k∧v=.int .i64 (minW z1 m r z3 (R.ws.take k))∧Below W2.heap.size W2 wr)
 case atStart=>exact ⟨0,Jq _,Jb _,rfl,rfl,Jd _ _⟩
 case' round=>skip
 obtain ⟨k,hk,hgk,rfl,rfl,hb⟩:=hrel
 have hp:=hp2.below hb
 have c4:=hp.c4
 rw [Hv.out] at c4
 have hrb:=hp.lt
 have k0:=(hb.cell (p:=⟨w.heap.size,0,none⟩) Hk.out.2).trans Hk.out.1
 have hzw:w.heap.size<wr.heap.size:=Jm Hk.out.2 hb.size
 have hzw1:w.heap.size<wr.heap.size+1:=by omega
 by_cases hlt:k<R.ws.length
 ·rcases hp.rw.shape (fun _=>rfl) with ⟨e,_⟩ | ⟨g,cap,cur,e,_,hgl,_,_,hc⟩
  ·rw [Hv.out] at e; injection e with _ e2 _; omega
  have ee:=Hv.out.symm.trans e
  simp only [Value.slice.injEq] at ee
  obtain ⟨rfl,_,rfl⟩:=ee
  have p0:=(hc k 0 hlt (by decide)).1
  have p1:=(hc k 1 hlt (by decide)).1
  have p2:=(hc k 2 hlt (by decide)).1
  have p3:=(hc k 3 hlt (by decide)).1
  simp only [cellsW,Je,Jf,Nat.add_zero] at p0 p1 p2 p3
  have hkI:(k:Int)<(R.ws.length:Int):=by omega
  have htk:=ZhO (t:=z1) (m:=m) (r:=r) (c:=z3) hlt
  obtain ⟨y1,y2,y3,y4,hy⟩:∃ y1 y2 y3 y4,R.ws[k]=(y1,y2,y3,y4):=⟨_,_,_,_,rfl⟩
  rw [hy] at p0 p1 p2 p3 htk
  generalize minW z1 m r z3 (R.ws.take k)=c at htk ⊢
  have Htk:=hid htk
  clear hc e htk hy
  have Fin:=hid (fun (c':Int) (hc':lessW z1 m r c (y1,y2,y3,y4)=c')=>show (Value.int .i64 c')=.int .i64 (minW z1 m r z3 (R.ws.take (k+1))) from by rw [Htk.out,hc'])
  clear Htk
  by_cases a1:y1=z1
  ·by_cases a2:y2=1
   ·by_cases a3:y3=m
    ·by_cases a4:y4<c
     ·have F:=hid (Fin.out y4 (by simp [lessW,mineW,a1,a2,a3,a4]))
      subst a1 a2 a3
      go_wp2
      go_roundg (R.ws.length - (k+1))
      case measure=>omega
      case rel=>exact ⟨k+1,by omega,Jb _,by go_num,F.out,hb.alloc hb.size _⟩
     ·have F:=hid (Fin.out c (by simp [lessW,a4]))
      have a4b:decide (y4<c)=false:=by simpa using a4
      subst a1 a2 a3
      go_wp2
      go_roundg (R.ws.length - (k+1))
      case measure=>omega
      case rel=>exact ⟨k+1,by omega,Jb _,by go_num,F.out,hb.alloc hb.size _⟩
    ·have F:=hid (Fin.out c (by simp [lessW,mineW,a2,a3]))
     have a3b:(y3 == m)=false:=by simpa using a3
     subst a1 a2
     clear a3
     go_wp2
     go_roundg (R.ws.length - (k+1))
     case measure=>omega
     case rel=>exact ⟨k+1,by omega,Jb _,by go_num,F.out,hb.alloc hb.size _⟩
   ·have a2b:(y2 == 1)=false:=by simpa using a2
    by_cases b2:y2=0
    ·by_cases b3:y3=r
     ·by_cases a4:y4<c
      ·have F:=hid (Fin.out y4 (by simp [lessW,mineW,a1,b2,b3,a4]))
       subst a1 b2 b3
       clear a2
       go_wp2
       go_roundg (R.ws.length - (k+1))
       case measure=>omega
       case rel=>exact ⟨k+1,by omega,Jb _,by go_num,F.out,hb.alloc hb.size _⟩
      ·have F:=hid (Fin.out c (by simp [lessW,a4]))
       have a4b:decide (y4<c)=false:=by simpa using a4
       subst a1 b2 b3
       clear a2
       go_wp2
       go_roundg (R.ws.length - (k+1))
       case measure=>omega
       case rel=>exact ⟨k+1,by omega,Jb _,by go_num,F.out,hb.alloc hb.size _⟩
     ·have F:=hid (Fin.out c (by simp [lessW,mineW,b2,b3]))
      have b3b:(y3 == r)=false:=by simpa using b3
      subst a1 b2
      clear a2 b3
      go_wp2
      go_roundg (R.ws.length - (k+1))
      case measure=>omega
      case rel=>exact ⟨k+1,by omega,Jb _,by go_num,F.out,hb.alloc hb.size _⟩
    ·have F:=hid (Fin.out c (by simp [lessW,mineW,a2,b2]))
     have b2b:(y2 == 0)=false:=by simpa using b2
     subst a1
     clear a2 b2
     go_wp2
     go_roundg (R.ws.length - (k+1))
     case measure=>omega
     case rel=>exact ⟨k+1,by omega,Jb _,by go_num,F.out,hb.alloc hb.size _⟩
  ·have F:=hid (Fin.out c (by simp [lessW,mineW,a1]))
   have a1b:(y1 == z1)=false:=by simpa using a1
   clear a1
   go_wp2
   go_roundg (R.ws.length - (k+1))
   case measure=>omega
   case rel=>exact ⟨k+1,by omega,Jb _,by go_num,F.out,hb.alloc hb.size _⟩
 ·obtain rfl:k=R.ws.length:=by omega
  rw [List.take_length]
  rcases hp.ro.shape (fun _=>rfl) with ⟨_,e0⟩ | ⟨go,capo,curo,eo,_,hglo,hleo,_,hco⟩
  ·rw [e0] at hio; simp at hio
  have q4:=(hco i 0 hio (by decide)).1
  simp only [cellsI,Je,Nat.add_zero,Nat.mul_one] at q4
  obtain ⟨o,hoo⟩:∃ o,R.on[i]=o:=⟨_,rfl⟩
  rw [hoo] at q4
  have hmb:=Zc4 (t:=z1) (m:=m) (r:=r) (ws:=R.ws) hn hws
  obtain ⟨c,hcc⟩:∃ c,minW z1 m r z3 R.ws=c:=⟨_,rfl⟩
  rw [hcc] at hmb ⊢
  have c5:=hp.c5
  rw [eo] at c5
  have hioI:(i:Int)<(R.on.length:Int):=by omega
  clear hco
  have Fin:=hid (fun (y:Int) (hy:c+mvR o m=y)=>show Ending.returned (.int .i64 y)=.returned (.int .i64 (minW z1 m r z3 R.ws+mvR R.on[i] m)) by rw [hcc,hoo,hy])
  by_cases ho:0≤o
  ·have d1:decide (0≤o)=true:=by simpa using ho
   by_cases hom:o=m
   ·have F:=hid (Fin.out c (by simp only [mvR]; rw [if_neg (fun q=>q.2 hom),Int.add_zero]))
    clear hoo hcc Fin
    subst hom
    go_wp2
    go_ret
    exact ⟨F.out,Zai hb2 hb⟩
   ·have F:=hid (Fin.out (c+50) (by simp only [mvR]; rw [if_pos ⟨ho,hom⟩]))
    have d2:(o == m)=false:=by simpa using hom
    clear hoo hcc Fin
    go_wp2
    go_ret
    exact ⟨F.out,Zai hb2 hb⟩
  ·have F:=hid (Fin.out c (by simp only [mvR]; rw [if_neg (fun q=>ho q.1),Int.add_zero]))
   have d1:decide (0≤o)=false:=by simpa using ho
   clear hoo hcc Fin
   go_wp2
   go_ret
   exact ⟨F.out,Zai hb2 hb⟩
end
end
end Go.Proofs.YtjdindfjfpdikaaGreat
