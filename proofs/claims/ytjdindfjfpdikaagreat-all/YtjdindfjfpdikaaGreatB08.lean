import Derived.Test.YtjdindfjfpdikaaGreatB02
import Derived.Test.YtjdindfjfpdikaaGreatB03
import Derived.Test.YtjdindfjfpdikaaGreatB04
import Derived.Test.YtjdindfjfpdikaaGreatB05
import Derived.Test.YtjdindfjfpdikaaGreatB06
import Derived.Test.YtjdindfjfpdikaaGreatB07
import Derived.Test.YtjdindfjfpdikaaGreatPre
set_option maxRecDepth 100000
set_option maxHeartbeats 8000000
namespace Go.Proofs.YtjdindfjfpdikaaGreat
section
open Go.RowKit
def RPost (w:World)(rb:Nat)(V:RVs)(x7 x8 x9 x10 x11:Value)(R:RSt)(a:Value)(e:Ending)(w':World):Prop :=
 e=.returned a∧∃ V',RefAt w' rb V' x7 x8 x9 x10 x11 R∧Only (foot rb V) w w'∧(∀ b∈V'.blocks,b∈V.blocks∨w.heap.size≤b)
section
variable {w:World}{rb:Nat}{V:RVs}{x7 x8 x9 x10 x11:Value}{R:RSt}
theorem RPost.of_below {w':World}{e:Ending}{a:Value}(h:RefAt w rb V x7 x8 x9 x10 x11 R)(he:e=.returned a)(hb:Below w.heap.size w w'):RPost w rb V x7 x8 x9 x10 x11 R a e w' :=
 ⟨he,V,h.below hb,Only.of_below hb,fun _ hb=>Jr hb⟩
theorem RPost.of_same {w':World}{e:Ending}{a:Value}(h:RefAt w rb V x7 x8 x9 x10 x11 R)(he:e=.returned a)(hw:w'=w):RPost w rb V x7 x8 x9 x10 x11 R a e w':=by
 subst hw
 exact RPost.of_below h he (Jd _ _)
theorem Zlz (h:RefAt w rb V x7 x8 x9 x10 x11 R)(hf:Fit R)(a:Int) :
  Calls Tryz.prog 34 #[.pointer (some ⟨rb,0,none⟩),.int .i64 0,.agg #[.int .i64 a,.int .i64 0,.int .i64 0]] w (RPost w rb V x7 x8 x9 x10 x11 (n2 R a) (.int .i64 (c2 R a))):=by
 have:=hf.len0
 by_cases hz:c2 R a=0
 ·obtain ⟨h1,h2,h3,_,_⟩:=Za8 hz
  have e:n2 R a={ R with t0:=R.t0 ++ [(a,0,0)] }:=by unfold n2; rw [if_pos hz]
  rw [hz,e]
  exact ZiT h a 0 0 (by omega) h1.1 h1.2 h2
 ·have e:n2 R a=R:=by unfold n2; rw [if_neg hz]
  rw [e]
  exact (ZiS h a 0 0 (by omega) hz).mono fun e w' hh=>RPost.of_below h hh.1 hh.2
theorem ZlA (h:RefAt w rb V x7 x8 x9 x10 x11 R)(hf:Fit R)(a b c:Int) :
  Calls Tryz.prog 34 #[.pointer (some ⟨rb,0,none⟩),.int .i64 1,.agg #[.int .i64 a,.int .i64 b,.int .i64 c]] w (RPost w rb V x7 x8 x9 x10 x11 (n3 R a b c) (.int .i64 (c3 R a b c))):=by
 have:=hf.len0
 have:=hf.len1
 by_cases hz:c3 R a b c=0
 ·obtain ⟨h1,h2,h3,h4,h5⟩:=Za8 hz
  have e:n3 R a b c={ R with t1:=R.t1 ++ [(a,b,c)] }:=by unfold n3; rw [if_pos hz]
  rw [hz,e]
  exact ZiV h a b c (by omega) h1.1 h1.2 h2 h4 (h5 rfl).1 (h5 rfl).2 (by omega)
 ·have e:n3 R a b c=R:=by unfold n3; rw [if_neg hz]
  rw [e]
  exact (ZiU h a b c (by omega) (by omega) hz).mono fun e w' hh=>RPost.of_below h hh.1 hh.2
theorem ZlB (h:RefAt w rb V x7 x8 x9 x10 x11 R)(hf:Fit R)(a b:Int) :
  Calls Tryz.prog 34 #[.pointer (some ⟨rb,0,none⟩),.int .i64 2,.agg #[.int .i64 a,.int .i64 0,.int .i64 b]] w (RPost w rb V x7 x8 x9 x10 x11 (n4 R a b) (.int .i64 (c4 R a b))):=by
 have:=hf.len2
 by_cases hz:c4 R a b=0
 ·obtain ⟨h1,h2,h3,h4,h5⟩:=Za8 hz
  have e:n4 R a b={ R with t2:=R.t2 ++ [(a,0,b)] }:=by unfold n4; rw [if_pos hz]
  rw [hz,e]
  exact ZiX h a 0 b (by omega) h1.1 h1.2 h2 (h5 rfl).1 (h5 rfl).2
 ·have e:n4 R a b=R:=by unfold n4; rw [if_neg hz]
  rw [e]
  exact (ZiW h a 0 b (by omega) hz).mono fun e w' hh=>RPost.of_below h hh.1 hh.2
theorem ZlC (h:RefAt w rb V x7 x8 x9 x10 x11 R)(hf:Fit R)(a b c:Int) :
  Calls Tryz.prog 34 #[.pointer (some ⟨rb,0,none⟩),.int .i64 3,.agg #[.int .i64 a,.int .i64 b,.int .i64 c]] w (RPost w rb V x7 x8 x9 x10 x11 (n5 R a b c) (.int .i64 (c5 R a b c))):=by
 have:=hf.len2
 have:=hf.len3
 have hlo:R.on.length=R.t3.length:=hf.lo
 have hlt:=hf.wl
 by_cases hz:c5 R a b c=0
 ·obtain ⟨h1,h2,h3,h4,h5⟩:=Za8 hz
  have e:n5 R a b c={ R with t3:=R.t3 ++ [(a,b,c)],on:=R.on ++ [-1],wt:=R.wt ++ [0] }:=by unfold n5; rw [if_pos hz]
  rw [hz,e]
  exact ZiZ h a b c (by omega) h1.1 h1.2 h2 h4 (h5 rfl).1 (h5 rfl).2 (by omega) (by omega) (by omega)
 ·have e:n5 R a b c=R:=by unfold n5; rw [if_neg hz]
  rw [e]
  exact (ZiY h a b c (by omega) (by omega) hz).mono fun e w' hh=>RPost.of_below h hh.1 hh.2
theorem ZlD (h:RefAt w rb V x7 x8 x9 x10 x11 R)(hf:Fit R)(t k i c:Int) :
  Calls Tryz.prog 35 #[.pointer (some ⟨rb,0,none⟩),.int .i64 t,.int .i64 k,.int .i64 i,.int .i64 c] w (RPost w rb V x7 x8 x9 x10 x11 (n6 R t k i c) (.int .i64 (c6 R t k i c))):=by
 have:=hf.len0
 have:=hf.len1
 have:=hf.len3
 have hlw:=hf.wsl
 by_cases g1:atOf t R.t3<0
 ·have e1:c6 R t k i c=4:=by unfold c6; rw [if_pos g1]
  have e2:n6 R t k i c=R:=by unfold n6; rw [e1]; rfl
  rw [e1,e2]
  exact (Zk1 h t k i c (by omega) g1).mono fun e w' hh=>RPost.of_same h hh.1 hh.2
 by_cases g2:k≠0∧k≠1
 ·have e1:c6 R t k i c=7:=by unfold c6; rw [if_neg g1,if_pos g2]
  have e2:n6 R t k i c=R:=by unfold n6; rw [e1]; rfl
  rw [e1,e2]
  exact (Zk2 h t k i c (by omega) (by omega) g2.1 g2.2).mono fun e w' hh=>RPost.of_same h hh.1 hh.2
 obtain rfl | rfl:k=0∨k=1:=by omega
 ·by_cases g3:atOf i R.t0<0
  ·have e1:c6 R t 0 i c=4:=by unfold c6; rw [if_neg g1,if_neg g2,if_pos rfl,if_pos g3]
   have e2:n6 R t 0 i c=R:=by unfold n6; rw [e1]; rfl
   rw [e1,e2]
   exact (Zjp h t i c (by omega) (by omega) (by omega) g3).mono fun e w' hh=>RPost.of_same h hh.1 hh.2
  by_cases g4:c<0∨1000<c
  ·have e1:c6 R t 0 i c=5:=by unfold c6; rw [if_neg g1,if_neg g2,if_pos rfl,if_neg g3,if_pos g4]
   have e2:n6 R t 0 i c=R:=by unfold n6; rw [e1]; rfl
   rw [e1,e2]
   exact (Zjq h t i c (by omega) (by omega) (by omega) (by omega) g4).mono fun e w' hh=>RPost.of_same h hh.1 hh.2
  have e1:c6 R t 0 i c=0:=by unfold c6; rw [if_neg g1,if_neg g2,if_pos rfl,if_neg g3,if_neg g4]
  have e2:n6 R t 0 i c={ R with ws:=putW t 0 i c R.ws }:=by unfold n6; rw [e1]; rfl
  rw [e1,e2]
  exact Zie h t i c (by omega) (by omega) (by omega) (by omega) (by omega) (by omega) (by omega)
 ·by_cases g3:atOf i R.t1<0
  ·have e1:c6 R t 1 i c=4:=by unfold c6; rw [if_neg g1,if_neg g2,if_neg (show ¬ (1:Int)=0 by decide),if_pos g3]
   have e2:n6 R t 1 i c=R:=by unfold n6; rw [e1]; rfl
   rw [e1,e2]
   exact (Zjr h t i c (by omega) (by omega) (by omega) g3).mono fun e w' hh=>RPost.of_same h hh.1 hh.2
  by_cases g4:c<0∨1000<c
  ·have e1:c6 R t 1 i c=5:=by unfold c6; rw [if_neg g1,if_neg g2,if_neg (show ¬ (1:Int)=0 by decide),if_neg g3,if_pos g4]
   have e2:n6 R t 1 i c=R:=by unfold n6; rw [e1]; rfl
   rw [e1,e2]
   exact (Zjs h t i c (by omega) (by omega) (by omega) (by omega) g4).mono fun e w' hh=>RPost.of_same h hh.1 hh.2
  have e1:c6 R t 1 i c=0:=by unfold c6; rw [if_neg g1,if_neg g2,if_neg (show ¬ (1:Int)=0 by decide),if_neg g3,if_neg g4]
  have e2:n6 R t 1 i c={ R with ws:=putW t 1 i c R.ws }:=by unfold n6; rw [e1]; rfl
  rw [e1,e2]
  exact Zif h t i c (by omega) (by omega) (by omega) (by omega) (by omega) (by omega) (by omega)
theorem ZlE (h:RefAt w rb V x7 x8 x9 x10 x11 R)(hf:Fit R)(k id:Int) :
  Calls Tryz.prog 36 #[.pointer (some ⟨rb,0,none⟩),.int .i64 k,.int .i64 id] w (RPost w rb V x7 x8 x9 x10 x11 (n7 R k id) (.int .i64 (c7 R k id))):=by
 have:=hf.len0
 have:=hf.len1
 have:=hf.len2
 have:=hf.len3
 have hlw:=hf.wsl
 have hlo:R.on.length=R.t3.length:=hf.lo
 have hlt:=hf.wl
 by_cases g1:k<0∨3<k
 ·have e1:c7 R k id=7:=by unfold c7; rw [if_pos g1]
  have e2:n7 R k id=R:=by unfold n7; rw [e1]; rfl
  rw [e1,e2]
  exact (Zig w _ k id g1).mono fun e w' hh=>RPost.of_same h hh.1 hh.2
 by_cases g2:atOf id (tkOf R k)<0
 ·have e1:c7 R k id=4:=by unfold c7; rw [if_neg g1,if_pos g2]
  have e2:n7 R k id=R:=by unfold n7; rw [e1]; rfl
  rw [e1,e2]
  obtain rfl | rfl | rfl | rfl:k=0∨k=1∨k=2∨k=3:=by omega
  ·exact (Zjt h id (by omega) g2).mono fun e w' hh=>RPost.of_same h hh.1 hh.2
  ·exact (Zjv h id (by omega) g2).mono fun e w' hh=>RPost.of_same h hh.1 hh.2
  ·exact (Zjx h id (by omega) g2).mono fun e w' hh=>RPost.of_same h hh.1 hh.2
  ·exact (Zjz h id (by omega) g2).mono fun e w' hh=>RPost.of_same h hh.1 hh.2
 by_cases g3:busyR R k id=true
 ·have e1:c7 R k id=6:=by unfold c7; rw [if_neg g1,if_neg g2,if_pos g3]
  have e2:n7 R k id=R:=by unfold n7; rw [e1]; rfl
  rw [e1,e2]
  simp only [busyR,Bool.or_eq_true,Bool.and_eq_true,List.any_eq_true,decide_eq_true_eq] at g3
  rcases g3 with ⟨rfl,x,hx,ex⟩ | ⟨rfl,x,hx,ex⟩
  ·obtain ⟨j,hj,rfl⟩:=List.mem_iff_getElem.1 hx
   exact (Zg0 h id (by omega) (by omega) (Int.not_lt.1 g2) ⟨j,hj,ex⟩).mono fun e w' hh=>RPost.of_same h hh.1 hh.2
  ·obtain ⟨j,hj,rfl⟩:=List.mem_iff_getElem.1 hx
   exact (Zg1 h id (by omega) (by omega) (by omega) (Int.not_lt.1 g2) ⟨j,hj,ex⟩).mono fun e w' hh=>RPost.of_same h hh.1 hh.2
 have e1:c7 R k id=0:=by unfold c7; rw [if_neg g1,if_neg g2,if_neg g3]
 unfold n7
 rw [if_pos e1,e1]
 obtain rfl | rfl | rfl | rfl:k=0∨k=1∨k=2∨k=3:=by omega
 ·obtain ⟨j,hj,e,rfl⟩:=Zag (id:=id) (xs:=R.t0) (Int.not_lt.1 g2)
  rw [if_pos rfl,e,Jn]
  exact Zju h _ j hj e (by omega) (by omega) (by omega) (by omega) hlo hlt (fun m hm hme=>g3 (by
   simp only [busyR,Bool.or_eq_true,Bool.and_eq_true,List.any_eq_true,decide_eq_true_eq]
   exact Jr ⟨trivial,_,Jl hm,hme⟩))
 ·obtain ⟨j,hj,e,rfl⟩:=Zag (id:=id) (xs:=R.t1) (Int.not_lt.1 g2)
  rw [if_neg (by decide),if_pos rfl,e,Jn]
  exact Zjw h _ j hj e (by omega) (by omega) (by omega) (by omega) hlo hlt
 ·obtain ⟨j,hj,e,rfl⟩:=Zag (id:=id) (xs:=R.t2) (Int.not_lt.1 g2)
  rw [if_neg (by decide),if_neg (by decide),if_pos rfl,e,Jn]
  exact Zjy h _ j hj e (by omega) (by omega) (by omega) (by omega) hlo hlt (fun m hm hme=>g3 (by
   simp only [busyR,Bool.or_eq_true,Bool.and_eq_true,List.any_eq_true,decide_eq_true_eq]
   exact Js ⟨trivial,_,Jl hm,hme⟩))
 ·obtain ⟨j,hj,e,rfl⟩:=Zag (id:=id) (xs:=R.t3) (Int.not_lt.1 g2)
  rw [if_neg (by decide),if_neg (by decide),if_neg (by decide),e,Jn]
  exact ZjA h _ j hj e (by omega) (by omega) (by omega) (by omega) hlo hlt
theorem ZlF (h:RefAt w rb V x7 x8 x9 x10 x11 R)(hf:Fit R) :
  Calls Tryz.prog 37 #[.pointer (some ⟨rb,0,none⟩)] w (RPost w rb V x7 x8 x9 x10 x11 (n8 R) (.tuple #[])):=by
 have:=hf.len3
 have hlo:R.on.length=R.t3.length:=hf.lo
 have hlt:=hf.wl
 exact (Zii h (by omega) (by omega) hf.wt).mono fun e w' hh=>⟨hh.1,V,hh.2.1,hh.2.2,fun _ hb=>Jr hb⟩
end
end
section
open Go.RowKit
theorem Zf6 {K V:Type} [DecidableEq K] (a:K)(x:K×V)(r:List (K×V)):get a (x :: r)=if a=x.1 then some x.2 else get a r:=rfl
theorem ZeE (t m r:Int):∀ (ws:List Wi)(c:Int),KN (ws.map encW)→minW t m r c ws=lesser (lesser c (get ((3,t),(1,m)) (ws.map encW))) (get ((3,t),(0,r)) (ws.map encW))
 | [],c,_=>rfl
 | x :: ws,c,hn=>by
  have hn':(encW x).1∉(ws.map encW).map (·.1)∧KN (ws.map encW):=List.nodup_cons.1 hn
  have ih:=fun c'=>ZeE t m r ws c' hn'.2
  have e1:minW t m r c (x :: ws)=minW t m r (lessW t m r c x) ws:=rfl
  have hno:=(Zaw (encW x).1 (ws.map encW)).2 hn'.1
  rw [e1,ih,List.map_cons]
  obtain ⟨y1,y2,y3,y4⟩:=x
  rw [Zf6,Zf6]
  by_cases h1:(y1,y2,y3)=(t,(1:Int),m)
  ·simp only [Prod.mk.injEq] at h1
   obtain ⟨rfl,rfl,rfl⟩:=h1
   simp only [encW] at hno
   rw [hno]
   have e:lessW y1 y3 r c (y1,1,y3,y4)=min c y4:=by simp [lessW,mineW]; omega
   rw [e]
   simp [encW,lesser]
  ·by_cases h0:(y1,y2,y3)=(t,(0:Int),r)
   ·simp only [Prod.mk.injEq] at h0
    obtain ⟨rfl,rfl,rfl⟩:=h0
    simp only [encW] at hno
    rw [hno]
    cases get ((3,y1),(1,m)) (ws.map encW) with
    | none=>simp [encW,lessW,mineW,lesser]; omega
    | some v=>simp [encW,lessW,mineW,lesser]; omega
   ·have hm:mineW t m r (y1,y2,y3,y4)=false:=by
     simp only [Prod.mk.injEq] at h1 h0
     simp only [mineW,Bool.and_eq_false_iff,Bool.or_eq_false_iff,decide_eq_false_iff_not]
     by_cases q:y1=t
     ·right
      refine ⟨?_,?_⟩
      ·by_cases q2:y2=1
       ·right; exact fun q3=>h1 ⟨q,q2,q3⟩
       ·left; exact q2
      ·by_cases q2:y2=0
       ·right; exact fun q3=>h0 ⟨q,q2,q3⟩
       ·left; exact q2
     ·left; exact q
    have f1:¬ (((3,t),(1,m)):(Int×Int)×(Int×Int))=(encW (y1,y2,y3,y4)).1:=fun e=>h1 (by simp only [encW,Prod.mk.injEq,true_and] at e; simp [e])
    have f0:¬ (((3,t),(0,r)):(Int×Int)×(Int×Int))=(encW (y1,y2,y3,y4)).1:=fun e=>h0 (by simp only [encW,Prod.mk.injEq,true_and] at e; simp [e])
    rw [if_neg f1,if_neg f0]
    simp [lessW,hm]
section
variable {l0:Things}{l1:Runs}{l2:Waits}{l3:Prefs}{R:RSt}
theorem Sim.costs (h:Sim l0 l1 l2 l3 R):Costs l3:=by
 intro k n hg
 have:=h.p3.mem_iff.1 (ZcZ hg)
 obtain ⟨x,hx,e⟩:=List.mem_map.1 this
 have h1:=(h.fit.ws x hx).2.2.2
 simp only [encW,Prod.mk.injEq] at e
 rw [e.2] at h1
 exact h1
theorem Sim.mv (h:Sim l0 l1 l2 l3 R){i:Nat}(hi:i<R.t3.length)(hio:i<R.on.length):R.on[i]=onL l1 R.t3[i].1:=by
 have:=congrArg (fun l=>l[i]?) h.runs.on
 simpa [hio,hi] using this
theorem Sim.mvN (h:Sim l0 l1 l2 l3 R)(t:Int):mvR (onL l1 t) (-1)=moves l1 (3,t):=by
 unfold mvR onL moves
 cases e:get (3,t) l1 with
 | none=>simp
 | some m =>
  obtain ⟨_,y,hy,rfl⟩:=h.runs.in1 _ _ e
  have:=(h.fit.id1 y hy).1
  show (if 0≤y.1∧y.1≠-1 then 50 else 0)=_
  rw [if_pos ⟨this,by omega⟩]
  rfl
theorem Sim.mvM (h:Sim l0 l1 l2 l3 R)(t m:Int):mvR (onL l1 t) m=movesTo l1 (3,t) (1,m):=by
 unfold mvR onL movesTo
 cases e:get (3,t) l1 with
 | none=>simp
 | some n =>
  obtain ⟨_,y,hy,rfl⟩:=h.runs.in1 _ _ e
  have:=(h.fit.id1 y hy).1
  show (if 0≤y.1∧y.1≠m then 50 else 0)=(if ((1,y.1):Int×Int)=(1,m) then 0 else 50)
  by_cases q:y.1=m
  ·rw [if_neg (fun r=>r.2 q),if_pos (by rw [q])]
  ·rw [if_pos ⟨this,q⟩,if_neg (fun r=>q (by cases r; rfl))]
theorem ZiH (h:Sim l0 l1 l2 l3 R)(t m:Int):∃ a e:Int,
  (∀ w pb b0 b1 b2 b3,PlanAt w pb b0 b1 b2 b3 l0 l1 l2 l3→Calls Tryz.prog 38 #[.pointer (some ⟨pb,0,none⟩),.int .i64 t,.int .i64 m] w fun x w'=>x=.returned (.tuple #[.int .i64 a,.int .i64 e])∧Below w.heap.size w w') ∧
  (∀ w rb V x7 x8 x9 x10 x11,RefAt w rb V x7 x8 x9 x10 x11 R→Calls Tryz.prog 39 #[.pointer (some ⟨rb,0,none⟩),.int .i64 t,.int .i64 m] w fun x w'=>x=.returned (.tuple #[.int .i64 a,.int .i64 e])∧Below w.heap.size w w'):=by
 have hf:=h.fit
 have hl1:=hf.len1
 have hl2:=hf.len2
 have hl3:=hf.len3
 have hlw:=hf.wsl
 have hlo:R.on.length=R.t3.length:=hf.lo
 have hlt:=hf.wl
 by_cases g1:atOf t R.t3<0
 ·exact ⟨0,4,fun w pb b0 b1 b2 b3 hp=>ZeT hp t m (h.no3 g1),fun w rb V x7 x8 x9 x10 x11 hr=>ZkY hr t m (by omega) g1⟩
 obtain ⟨i,hi,ei,rfl⟩:=Zag (id:=t) (xs:=R.t3) (by omega)
 have hon:=h.mv hi (by omega)
 have ht:=h.yes3 hi
 by_cases g2:m=-1
 ·subst g2
  obtain ⟨y,hy,ey⟩:=hf.job _ (Jl hi)
  obtain ⟨j,hj,rfl⟩:=List.mem_iff_getElem.1 hy
  have hjob:=h.yes2 hj
  have ej:=Zat hf.nd2 hj
  rw [ey] at hjob ej
  have hn2:=hf.n2 _ (Jl hj)
  have hw:=hf.wt _ (Jl (show i<R.wt.length by omega))
  have ew:R.wt[i]'(by omega)=(get (3,R.t3[i].1) l2).getD 0:=by
   have:=congrArg (fun l=>l[i]?) h.wt
   simpa [show i<R.wt.length by omega,hi] using this
  refine ⟨R.t2[j].2.2+R.wt[i]'(by omega)+mvR (R.on[i]'(by omega)) (-1),0,fun w pb b0 b1 b2 b3 hp=>?_,fun w rb V x7 x8 x9 x10 x11 hr=>ZgX hr _ i j (by omega) hi ei (by omega) (by omega) (by omega) hj ej hn2.1 hn2.2 hw.1 hw.2⟩
  have:=Zhv hp R.t3[i].1 2 R.t3[i].2.1 0 R.t3[i].2.2 4 0 0 R.t2[j].2.2 ht hjob hn2.1 hn2.2 h.wd
  rw [← ew] at this
  rw [hon,h.mvN]
  exact this
 ·by_cases g3:atOf m R.t1<0
  ·exact ⟨0,4,fun w pb b0 b1 b2 b3 hp=>Zds hp _ m g2 (by rw [ht]; rfl) (h.no1 g3),fun w rb V x7 x8 x9 x10 x11 hr=>ZkZ hr _ m (by omega) (by omega) (by rw [ei]; omega) g2 g3⟩
  ·obtain ⟨j,hj,ej,rfl⟩:=Zag (id:=m) (xs:=R.t1) (by omega)
   have hm:=h.yes1 hj
   have hm0:=(hf.id1 _ (Jl hj)).1
   have hn3:=hf.n3 _ (Jl hi)
   refine ⟨minW R.t3[i].1 R.t1[j].1 R.t1[j].2.1 R.t3[i].2.2 R.ws+mvR (R.on[i]'(by omega)) R.t1[j].1,0,fun w pb b0 b1 b2 b3 hp=>?_,fun w rb V x7 x8 x9 x10 x11 hr=>Zjl hr _ _ i j hm0 (by omega) hi ei (by omega) (by omega) hj ej (by omega) hn3 (fun x hx=>(hf.ws x hx).2.2.2.1)⟩
   have:=ZkC hp R.t3[i].1 R.t1[j].1 2 R.t3[i].2.1 0 R.t3[i].2.2 0 R.t1[j].2.1 R.t1[j].2.2 0 g2 ht hm hn3.1 hn3.2 h.costs
   rw [ZcE h.kn3 h.p3,ZcE h.kn3 h.p3,← ZeE _ _ _ _ _ hf.kw] at this
   rw [hon,h.mvM]
   exact this
theorem Zhj (h:Sim l0 l1 l2 l3 R)(t:Int):∃ a e:Int,
  (∀ w pb b0 b1 b2 b3,PlanAt w pb b0 b1 b2 b3 l0 l1 l2 l3→Calls Tryz.prog 40 #[.pointer (some ⟨pb,0,none⟩),.int .i64 t] w fun x w'=>x=.returned (.tuple #[.int .i64 a,.int .i64 e])∧Below w.heap.size w w') ∧
  (∀ w rb V x7 x8 x9 x10 x11,RefAt w rb V x7 x8 x9 x10 x11 R→Calls Tryz.prog 41 #[.pointer (some ⟨rb,0,none⟩),.int .i64 t] w fun x w'=>x=.returned (.tuple #[.int .i64 a,.int .i64 e])∧Below w.heap.size w w'):=by
 have hf:=h.fit
 have hl3:=hf.len3
 have hlo:R.on.length=R.t3.length:=hf.lo
 by_cases g1:atOf t R.t3<0
 ·exact ⟨0,4,fun w pb b0 b1 b2 b3 hp=>ZeL hp t (h.no3 g1),fun w rb V x7 x8 x9 x10 x11 hr=>ZjD hr t (by omega) g1⟩
 obtain ⟨i,hi,ei,rfl⟩:=Zag (id:=t) (xs:=R.t3) (by omega)
 have hon:=h.mv hi (by omega)
 refine ⟨R.on[i]'(by omega),0,fun w pb b0 b1 b2 b3 hp=>?_,fun w rb V x7 x8 x9 x10 x11 hr=>ZjE hr _ i (by omega) ei (by omega)⟩
 rw [hon]
 unfold onL
 cases e:get (3,R.t3[i].1) l1 with
 | none=>exact Zer hp _ (by rw [h.yes3 hi]; rfl) e
 | some m=>exact Zgw hp _ m.1 m.2 (by rw [h.yes3 hi]; rfl) e
end
end
end Go.Proofs.YtjdindfjfpdikaaGreat
