import Derived.Test.YtjdindfjfpdikaaGreatB14
import Derived.Test.YtjdindfjfpdikaaGreatPre
set_option maxRecDepth 100000
set_option maxHeartbeats 8000000
namespace Go.Proofs.YtjdindfjfpdikaaGreat
section
open Go.RowKit
theorem KeptOne.tag {w w':World}{wb g b:Nat}{v vh vh':Value}{hs:List (Nat×List Nat)}{x:Nat×List Nat}{cs:Array Value}{T:TypeId}(K:KeptOne w wb g v vh hs w' vh' x)(h:w.heap[wb]?=some (.cells #[v,vh] 29))(H:HoldsAt w wb vh hs)
  (hb:w.heap[b]?=some (.cells cs T)) (h1:T≠53) (h2:T≠29) (hg:b≠g):w'.heap[b]?=some (.cells cs T):=by
 refine (K.only.block b (Ja.1 hb).1 (fun hm=>?_)).trans hb
 rcases List.mem_cons.1 hm with e | hm
 ·exact hg e
 rcases List.mem_cons.1 hm with e | hm
 ·subst e
  rw [h] at hb
  cases hb
  exact h2 rfl
 ·obtain ⟨cur,hc⟩:=H.row.elem (Zcz.1 hm)
  rw [hb] at hc
  cases hc
  exact h1 rfl
structure KeptMore (w:World)(wb n:Nat)(v vh:Value)(hs:List (Nat×List Nat))(k:Nat)(w':World)(vh':Value)(hs':List (Nat×List Nat)):Prop where
 cells:w'.heap[wb]?=some (.cells #[v,vh'] 29)
 holds:HoldsAt w' wb vh' hs'
 len:hs'.length=hs.length+k
 old:∀ x∈hs',x∈hs∨∀ b∈x.2,n≤b
 only:∀ b,b<n→b≠wb→vh.ownBlock≠some b→w'.heap[b]?=w.heap[b]?
 loc:∀ b,vh'.ownBlock=some b→vh.ownBlock=some b∨n≤b
 size:w.heap.size≤w'.heap.size
 os:w'.os=w.os
 tape:w'.tape=w.tape
 output:w'.output=w.output
theorem KeptMore.zero {w:World}{wb n:Nat}{v vh:Value}{hs:List (Nat×List Nat)}(h:w.heap[wb]?=some (.cells #[v,vh] 29))(H:HoldsAt w wb vh hs):KeptMore w wb n v vh hs 0 w vh hs :=
 ⟨h,H,rfl,fun _ q=>Jr q,fun _ _ _ _=>rfl,fun _ q=>Jr q,Jb _,rfl,rfl,rfl⟩
theorem KeptMore.one {w w1 w2:World}{wb n g k:Nat}{v vh vh1 vh2:Value}{hs hs1:List (Nat×List Nat)}{x:Nat×List Nat}(M:KeptMore w wb n v vh hs k w1 vh1 hs1)(hg:n≤g)(hn:n≤w1.heap.size)(K:KeptOne w1 wb g v vh1 hs1 w2 vh2 x):KeptMore w wb n v vh hs (k+1) w2 vh2 (hs1 ++ [x]):=by
 refine ⟨K.cells,K.holds,by simp [M.len]; omega,fun y hy=>?_,fun b hb h1 h2=>?_,fun b e=>?_,Nat.le_trans M.size K.only.size,K.only.os.trans M.os,K.only.tape.trans M.tape,K.only.output.trans M.output⟩
 ·rcases List.mem_append.1 hy with hy | hy
  ·exact M.old y hy
  ·obtain rfl:=List.mem_singleton.1 hy
   right
   intro b hb
   rcases K.new b hb with rfl | h1
   ·exact hg
   ·omega
 ·refine (K.only.block b (by omega) (fun hm=>?_)).trans (M.only b hb h1 h2)
  rcases List.mem_cons.1 hm with e | hm
  ·omega
  rcases List.mem_cons.1 hm with e | hm
  ·exact h1 e
  ·rcases M.loc b (Zcz.1 hm) with q | q
   ·exact h2 q
   ·omega
 ·rcases K.loc b e with h1 | h1
  ·exact M.loc b h1
  ·right; omega
theorem Zio (w0 w:World)(wb lb g0 g1 g2 g3 ls lf lp la:Nat)(S F P:Nat→Int)(A:Nat→Ar)(cs':Array Value)(v vh:Value)(hs:List (Nat×List Nat))(L:Loan w0 w lb g0 g1 g2 g3 ls lf lp la S F P A cs')(h:w.heap[wb]?=some (.cells #[v,vh] 29))(H:HoldsAt w wb vh hs)(hn:hs.length≤9000000000000)(hy:∀ x∈hs,∀ b∈x.2,b<w0.heap.size)
  (hl0:(ls+8)*8≤140737488355000) (hl1:(lf+8)*8≤140737488355000) (hl2:(lp+8)*8≤140737488355000) (hl3:(la+8)*32≤140737488355000) :
  Calls Tryz.prog 26 #[.pointer (some ⟨wb,0,none⟩),.pointer (some ⟨lb,0,none⟩)] w fun e w'=>e=.returned (.tuple #[])∧∃ vh' hs',KeptMore w wb w0.heap.size v vh hs 4 w' vh' hs':=by
 have ord:=L.ord
 have hlw:w0.heap.size≤w.heap.size:=L.below.size
 have c0:=L.c0
 have hll:=L.lt
 have M0:=KeptMore.zero (n:=w0.heap.size) h H
 have A1:=Zan (Zce w wb g0 (ls+8) _ v vh hs h H (by omega) L.supply hl0 (fun x hx hm=>by have:=hy x hx _ hm; omega))
 have HL:=Zan (Jc L (Jc h (Jc H M0)))
 clear L h H M0
 go_enter Tryz.func26,Tryz.ntmps26
 go_wp2_with fail
 refine A1.out.mono ?_
 rintro e w1 ⟨rfl,vh1,x1,K1⟩
 have T1:∀ {b:Nat} {cs:Array Value} {T:TypeId},w.heap[b]?=some (.cells cs T)→T≠53→T≠29→b≠g0→w1.heap[b]?=some (.cells cs T):=fun q1 q2 q3 q4=>K1.tag HL.out.2.1 HL.out.2.2.1 q1 q2 q3 q4
 have X1:=T1 HL.out.1.cells (by decide) (by decide) (by omega)
 have c1:=ZaT X1 1
 simp only [Jg,Jf,Je] at c1
 have z1:=(Ja.1 X1).1
 have F1:Nums w1 g1 (lf+8) (lentF lf F):=T1 HL.out.1.flow (by decide) (by decide) (by omega)
 have P1:Nums w1 g2 (lp+8) (lentF lp P):=T1 HL.out.1.prices (by decide) (by decide) (by omega)
 have B1:ArcB w1 g3 (la+8) (lentG la A) cs':=⟨T1 HL.out.1.arcs.heap (by decide) (by decide) (by omega),HL.out.1.arcs.size,HL.out.1.arcs.cells⟩
 have M1:=HL.out.2.2.2.one (by omega) hlw K1
 have s1:=K1.only.size
 have y1:∀ x∈hs ++ [x1],g1∉x.2∧g2∉x.2∧g3∉x.2:=fun x hx=>by
  rcases List.mem_append.1 hx with hx | hx
  ·exact ⟨fun hm=>by have:=hy x hx _ hm; omega,fun hm=>by have:=hy x hx _ hm; omega,fun hm=>by have:=hy x hx _ hm; omega⟩
  ·obtain rfl:=List.mem_singleton.1 hx
   have l1:=HL.out.1.arcs.lt
   exact ⟨fun hm=>by have:=K1.new _ hm; omega,fun hm=>by have:=K1.new _ hm; omega,fun hm=>by have:=K1.new _ hm; omega⟩
 have A2:=Zan (Zce w1 wb g1 (lf+8) _ v vh1 (hs ++ [x1]) K1.cells K1.holds (by simp; omega) F1 hl1 (fun x hx=>(y1 x hx).1))
 have H1:=Zan (Jc K1 (Jc P1 (Jc B1 (Jc M1 (Jc y1 X1)))))
 clear A1 T1 F1 P1 B1 M1 y1 X1 K1
 go_wp2_with fail
 refine A2.out.mono ?_
 rintro e w2 ⟨rfl,vh2,x2,K2⟩
 have T2:∀ {b:Nat} {cs:Array Value} {T:TypeId},w1.heap[b]?=some (.cells cs T)→T≠53→T≠29→b≠g1→w2.heap[b]?=some (.cells cs T):=fun q1 q2 q3 q4=>K2.tag H1.out.1.cells H1.out.1.holds q1 q2 q3 q4
 have X2:=T2 H1.out.2.2.2.2.2 (by decide) (by decide) (by omega)
 have c2:=ZaT X2 2
 simp only [Jg,Jf,Je] at c2
 have z2:=(Ja.1 X2).1
 have P2:Nums w2 g2 (lp+8) (lentF lp P):=T2 H1.out.2.1 (by decide) (by decide) (by omega)
 have B2:ArcB w2 g3 (la+8) (lentG la A) cs':=⟨T2 H1.out.2.2.1.heap (by decide) (by decide) (by omega),HL.out.1.arcs.size,HL.out.1.arcs.cells⟩
 have M2:=H1.out.2.2.2.1.one (by omega) (by omega) K2
 have s2:=K2.only.size
 have y2:∀ x∈hs ++ [x1] ++ [x2],g2∉x.2∧g3∉x.2:=fun x hx=>by
  rcases List.mem_append.1 hx with hx | hx
  ·exact (H1.out.2.2.2.2.1 x hx).2
  ·obtain rfl:=List.mem_singleton.1 hx
   have l1:=HL.out.1.arcs.lt
   exact ⟨fun hm=>by have:=K2.new _ hm; omega,fun hm=>by have:=K2.new _ hm; omega⟩
 have A3:=Zan (Zce w2 wb g2 (lp+8) _ v vh2 (hs ++ [x1] ++ [x2]) K2.cells K2.holds (by simp; omega) P2 hl2 (fun x hx=>(y2 x hx).1))
 have H2:=Zan (Jc K2 (Jc B2 (Jc M2 (Jc y2 X2))))
 clear A2 T2 P2 B2 M2 y2 X2 K2 H1
 go_wp2_with fail
 refine A3.out.mono ?_
 rintro e w3 ⟨rfl,vh3,x3,K3⟩
 have T3:∀ {b:Nat} {cs:Array Value} {T:TypeId},w2.heap[b]?=some (.cells cs T)→T≠53→T≠29→b≠g2→w3.heap[b]?=some (.cells cs T):=fun q1 q2 q3 q4=>K3.tag H2.out.1.cells H2.out.1.holds q1 q2 q3 q4
 have X3:=T3 H2.out.2.2.2.2 (by decide) (by decide) (by omega)
 have c3:=ZaT X3 3
 simp only [Jg,Jf,Je] at c3
 have z3:=(Ja.1 X3).1
 have B3:ArcB w3 g3 (la+8) (lentG la A) cs':=⟨T3 H2.out.2.1.heap (by decide) (by decide) (by omega),HL.out.1.arcs.size,HL.out.1.arcs.cells⟩
 have M3:=H2.out.2.2.1.one (by omega) (by omega) K3
 have s3:=K3.only.size
 have y3:∀ x∈hs ++ [x1] ++ [x2] ++ [x3],g3∉x.2:=fun x hx=>by
  rcases List.mem_append.1 hx with hx | hx
  ·exact (H2.out.2.2.2.1 x hx).2
  ·obtain rfl:=List.mem_singleton.1 hx
   have l1:=HL.out.1.arcs.lt
   exact fun hm=>by have:=K3.new _ hm; omega
 have A4:=Zan (Ze3 w3 wb g3 (la+8) _ _ v vh3 (hs ++ [x1] ++ [x2] ++ [x3]) K3.cells K3.holds (by simp; omega) B3 hl3 y3)
 have H3:=Zan M3
 clear A3 T3 B3 M3 y3 X3 K3 H2
 go_wp2_with fail
 refine A4.out.mono ?_
 rintro e w4 ⟨rfl,vh4,x4,K4⟩
 have M4:=H3.out.one (by omega) (by omega) K4
 clear A4
 go_wp2_with fail
 go_end0
 exact ⟨rfl,_,_,M4⟩
end
end Go.Proofs.YtjdindfjfpdikaaGreat
