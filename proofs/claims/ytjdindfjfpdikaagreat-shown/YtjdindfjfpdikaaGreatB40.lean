import Derived.BigRegion
import Derived.Deep.LoopGhost
import Derived.Test.YtjdindfjfpdikaaGreatB08
import Derived.Test.YtjdindfjfpdikaaGreatB29
import Derived.Test.YtjdindfjfpdikaaGreatB35
import Derived.Test.YtjdindfjfpdikaaGreatB36
import Derived.Test.YtjdindfjfpdikaaGreatB38
import Derived.Test.YtjdindfjfpdikaaGreatB39
import Derived.Test.YtjdindfjfpdikaaGreatPre
set_option maxRecDepth 100000
set_option maxHeartbeats 8000000
namespace Go.Proofs.YtjdindfjfpdikaaGreat
section
open Go.RowKit
theorem Zj0 {l0:Things}{l1:Runs}{l2:Waits}{l3:Prefs}{R:RSt}(h:Sim l0 l1 l2 l3 R){i:Nat}(hi:i<R.t3.length){w:World}{pb b0 b1 b2 b3:Nat}(hp:PlanAt w pb b0 b1 b2 b3 l0 l1 l2 l3) :
  Calls Tryz.prog 40 #[.pointer (some ⟨pb,0,none⟩),.int .i64 R.t3[i].1] w fun x w'=>x=.returned (.tuple #[.int .i64 (R.on.getD i (-1)),.int .i64 0])∧Below w.heap.size w w':=by
 have hio:i<R.on.length:=by rw [h.fit.lo]; exact hi
 have hon:=h.mv hi hio
 rw [Zac hio,hon]
 unfold onL
 cases e:get (3,R.t3[i].1) l1 with
 | none=>exact Zer hp _ (by rw [h.yes3 hi]; rfl) e
 | some m=>exact Zgw hp _ m.1 m.2 (by rw [h.yes3 hi]; rfl) e
def S7 (bx qb rb:Nat)(v3:Value)(g o:Nat)(id:Int)(W:World):Prop:=W.cell? ⟨bx,1,none⟩=some (.pointer (some ⟨qb,0,none⟩))∧W.cell? ⟨bx,2,none⟩=some (.pointer (some ⟨rb,0,none⟩))∧W.cell? ⟨rb,3,none⟩=some v3∧W.cell? ⟨g,o,none⟩=some (.int .i64 id)∧bx<W.heap.size∧rb<W.heap.size∧g<W.heap.size
theorem S7.below {bx qb rb:Nat}{v3:Value}{g o:Nat}{id:Int}{W W':World}(h:S7 bx qb rb v3 g o id W)(hb:Below W.heap.size W W'):S7 bx qb rb v3 g o id W':=by
 obtain ⟨h1,h2,h3,h4,h5,h6,h7⟩:=h
 exact ⟨(hb.cell (p:=⟨bx,1,none⟩) h5).trans h1,(hb.cell (p:=⟨bx,2,none⟩) h5).trans h2,(hb.cell (p:=⟨rb,3,none⟩) h6).trans h3,(hb.cell (p:=⟨g,o,none⟩) h7).trans h4,Jm h5 hb.size,Jm h6 hb.size,Jm h7 hb.size⟩
theorem Rn_on {R:RSt}{P:Nat→Nat}{i:Nat}(hi:i<R.t3.length):(Rn R P R.t3.length).on.getD i (-1)=onId R P i:=by
 show (intL R.t3.length (onF R P R.t3.length)).getD i (-1)=_
 rw [Zac (by rw [Zad]; exact hi),ZaM]
 unfold onF
 rw [if_pos hi]
theorem RowAt.first {w:World}{p:Option Addr}{n cp:Nat}{xs:List Th}(h:RowAt w 76 3 cellsT (.slice p n cp) xs){k:Nat}(hk:k<xs.length):∃ g,p=some ⟨g,0,none⟩∧g<w.heap.size∧w.cell? ⟨g,k*3,none⟩=some (.int .i64 xs[k].1):=by
 rcases h.shape (fun _=>rfl) with ⟨_,e⟩ | ⟨g,cap,cur,e,_,hg,_,_,hc⟩
 ·rw [e] at hk; simp at hk
 ·cases e
  have:=(hc k 0 hk (by decide)).1
  simp only [cellsT,Je,Nat.add_zero] at this
  exact ⟨g,rfl,hg,this⟩
theorem Zg5 {W:World}{x:Pr}(hx:x.ok W) :
  Calls Tryz.prog 18 #[.agg #[.pointer (some ⟨x.pb,0,none⟩),.pointer (some ⟨x.qb,0,none⟩),.pointer (some ⟨x.rb,0,none⟩)]] W fun e W'=>e=.returned (.bool true)∧∃ y:Pr,y.ok W'∧Only x.F W W'∧(∀ b∈y.F,b∈x.F∨W.heap.size≤b)∧y.a=x.a:=by
 obtain ⟨W1,hW1⟩:∃ W1,W.alloc (.cells #[.pointer (some ⟨x.pb,0,none⟩),.pointer (some ⟨x.qb,0,none⟩),.pointer (some ⟨x.rb,0,none⟩)] 47)=W1:=⟨_,rfl⟩
 have b1:Below W.heap.size W W1:=by rw [← hW1]; exact (Jd _ _).alloc (Jb _) _
 have X1:W1.heap[W.heap.size]?=some (.cells #[.pointer (some ⟨x.pb,0,none⟩),.pointer (some ⟨x.qb,0,none⟩),.pointer (some ⟨x.rb,0,none⟩)] 47):=by rw [← hW1]; exact heap_alloc_new W _
 have A1:=hid (Zff hx.sp (hx.p.below b1))
 obtain ⟨k0,k1,k2⟩:=Za5 X1
 have z1:W.heap.size<W1.heap.size:=(Ja.1 X1).1
 obtain ⟨R,hR⟩:∃ R,x.R=R:=⟨_,rfl⟩
 have hlt:=hx.lt
 have H0:=hid (Jc hW1 (Jc b1 (Jc X1 (Jc hx (Jc hR hlt)))))
 rw [hR] at A1
 clear hW1 b1 X1 hx hR hlt
 go_enter Tryz.func18,Tryz.ntmps18
 go_upto_region 1 with fail
 rw [H0.out.1]
 go_upto_region 2 with (first
  | (go_at_call 42; refine A1.out.mono ?_; rintro e W2 ⟨P,q,m1,m2,vs,va,vf,g,fl,C,rfl,hS2⟩)
  | fail)
 have hx:=H0.out.2.2.2.1
 have hlt:=H0.out.2.2.2.2.2
 have nP:∀ b∈[x.pb,x.b0,x.b1,x.b2,x.b3],b<W.heap.size:=fun b hb=>hlt b (Pr.inP hb)
 have nQ:∀ b∈[x.qb,x.c0,x.c1,x.c2,x.c3],b<W.heap.size:=fun b hb=>hlt b (Pr.inQ hb)
 have nR:∀ b∈foot x.rb x.V,b<W.heap.size:=fun b hb=>hlt b (Pr.inR hb)
 have X2:=(hS2.only.block W.heap.size z1 (fun q=>by have:=nP _ q; omega)).trans H0.out.2.2.1
 obtain ⟨j0,j1,j2⟩:=Za5 X2
 have z2:W.heap.size<W2.heap.size:=(Ja.1 X2).1
 have q2:PlanAt W2 x.qb x.c0 x.c1 x.c2 x.c3 x.m0 x.m1 x.m2 x.m3:=(hx.q.below H0.out.2.1).move (fun b hb=>hS2.only.block b (by have:=nQ b hb; omega) (fun r=>hx.d1 b r hb))
 have hsq:=hx.sq
 have A2:=hid (Zff hsq q2)
 rw [H0.out.2.2.2.2.1] at A2
 have H2:=hid (Jc hS2 X2)
 clear hx hlt nP nQ nR X2 q2 hsq hS2 A1 k0 k1 k2
 go_upto_region 3 with (first
  | (go_at_call 42; refine A2.out.mono ?_; rintro e W3 ⟨P',q',m1',m2',vs',va',vf',g',fl',C',rfl,hS3⟩)
  | fail)
 have hx:=H0.out.2.2.2.1
 have hlt:=H0.out.2.2.2.2.2
 have hsp:=hx.sp
 rw [H0.out.2.2.2.2.1] at hsp
 obtain rfl:P=P':=H2.out.1.det.same hsp.fit hS3.det
 have nP:∀ b∈[x.pb,x.b0,x.b1,x.b2,x.b3],b<W.heap.size:=fun b hb=>hlt b (Pr.inP hb)
 have nQ:∀ b∈[x.qb,x.c0,x.c1,x.c2,x.c3],b<W.heap.size:=fun b hb=>hlt b (Pr.inQ hb)
 have nR:∀ b∈foot x.rb x.V,b<W.heap.size:=fun b hb=>hlt b (Pr.inR hb)
 have X3:=(hS3.only.block W.heap.size z2 (fun q=>by have:=nQ _ q; omega)).trans H2.out.2
 have z3:W.heap.size<W3.heap.size:=(Ja.1 X3).1
 have s12:W1.heap.size≤W2.heap.size:=H2.out.1.only.size
 have s23:W2.heap.size≤W3.heap.size:=hS3.only.size
 have p3:PlanAt W3 x.pb x.b0 x.b1 x.b2 x.b3 x.l0 m1 m2 x.l3:=H2.out.1.plan.move (fun b hb=>hS3.only.block b (by have:=nP b hb; omega) (fun r=>hx.d1 b hb r))
 have r3:RefAt W3 x.rb x.V x.x7 x.x8 x.x9 x.x10 x.x11 R:=by
  have h1:=hx.r
  rw [H0.out.2.2.2.2.1] at h1
  refine (h1.below H0.out.2.1).move (fun b hb=>?_)
  rw [hS3.only.block b (by have:=nR b hb; omega) (fun r=>hx.d3 b r hb),H2.out.1.only.block b (by have:=nR b hb; omega) (fun r=>hx.d2 b r hb)]
 have o3:Only (x.P ++ x.Q) W W3:=by
  refine ((Only.of_below H0.out.2.1).trans (H2.out.1.only.mono (fun b hb=>Ju _ hb))).trans (hS3.only.mono (fun b hb=>Jt _ hb))
 have HR:=hid (Jc hsp (Jc p3 (Jc r3 (Jc o3 (Jc nP (Jc nQ nR))))))
 have H3:=hid (Jc hS3 X3)
 clear hx hlt hsp nP nQ nR X3 p3 r3 o3 hS3 A2 j0 j1 j2
 go_wp2_with fail
 go_loopg [5,6] R.t3.length (fun gk v iv wr=>∃ k:Nat,k≤R.t3.length∧R.t3.length - k≤gk∧iv=.int .i64 k∧Hid (NRow W3.heap.size wr v (intL k (onId R P))∧Below W3.heap.size W3 wr))
 case atStart=>exact ⟨0,Jq _,by omega,rfl,(show _∧_ from ⟨NRow.nil _ _,Jd _ _⟩)⟩
 case' round=>skip
 obtain ⟨k,hk,hgk,rfl,H4⟩:=hrel
 rename World=>Z0
 rename Value=>v5
 have hl16:R.t3.length≤16:=HR.out.1.fit.len3
 have rZ:=HR.out.2.2.1.below H4.out.2
 have XZ:=(H4.out.2.block W.heap.size z3).trans H3.out.2
 obtain ⟨j0,j1,j2⟩:=Za5 XZ
 have z0:W.heap.size<Z0.heap.size:=(Ja.1 XZ).1
 obtain ⟨pt,c3,hv3⟩:=Zah rZ.r3
 have j3:=rZ.c3
 rw [hv3] at j3
 have jr:=rZ.lt
 by_cases hlt:k<R.t3.length
 ·have hrow:=rZ.r3
  rw [hv3] at hrow
  obtain ⟨g3,rfl,hg3,hid3⟩:=hrow.first hlt
  have hkI:(k:Int)<(R.t3.length:Int):=by omega
  obtain ⟨ID,hID⟩:∃ ID,R.t3[k].1=ID:=⟨_,rfl⟩
  rw [hID] at hid3
  have hS0:S7 W.heap.size x.qb x.rb (.slice (some ⟨g3,0,none⟩) R.t3.length c3) g3 (k*3) ID Z0.drew:=⟨j1,j2,j3,hid3,z0,jr,hg3⟩
  have A3:=Zj0 H3.out.1.sim (i:=k) hlt ((H3.out.1.plan.below H4.out.2).drew)
  have hID':(Rn R P R.t3.length).t3[k].1=ID:=hID
  rw [hID',Rn_on hlt] at A3
  have A3:=hid A3
  obtain ⟨ov,hov⟩:∃ ov,onId R P k=ov:=⟨_,rfl⟩
  rw [hov] at A3
  obtain ⟨p5,c5,hv5⟩:=H4.out.1.sl
  rw [Zad] at hv5
  subst hv5
  have HO:=hid hov
  clear hrow rZ XZ hID' hov hid3
  go_upto_region 7 with fail
  refine wp_region_held_drew (S:=S7 W.heap.size x.qb x.rb (.slice (some ⟨g3,0,none⟩) R.t3.length c3) g3 (k*3) ID) (by kernel_rfl) hS0 (fun _=>?_)
  refine tkH (v:=?_) 0 28 hS0 ?_ ?_; rotate_left 1
  ·(rintro w' ⟨e1,e2,e3,e4,e5,e6,e7⟩; go_simp; try with_reducible rfl)
  simp only [Act.put,Jh,Ji,Jj]
  refine tkH (v:=?_) 1 29 hS0 ?_ ?_; rotate_left 1
  ·(rintro w' ⟨e1,e2,e3,e4,e5,e6,e7⟩; go_simp; try with_reducible rfl)
  simp only [Act.put,Jh,Ji,Jj]
  refine tkH (v:=?_) 2 30 hS0 ?_ ?_; rotate_left 1
  ·(rintro w' ⟨e1,e2,e3,e4,e5,e6,e7⟩; go_simp; try with_reducible rfl)
  simp only [Act.put,Jh,Ji,Jj]
  refine tkH (v:=?_) 3 31 hS0 ?_ ?_; rotate_left 1
  ·(rintro w' ⟨e1,e2,e3,e4,e5,e6,e7⟩; go_simp; try with_reducible rfl)
  simp only [Act.put,Jh,Ji,Jj]
  refine tkH (v:=?_) 4 32 hS0 ?_ ?_; rotate_left 1
  ·(rintro w' ⟨e1,e2,e3,e4,e5,e6,e7⟩; go_simp; try with_reducible rfl)
  simp only [Act.put,Jh,Ji,Jj]
  refine tkH (v:=?_) 5 33 hS0 ?_ ?_; rotate_left 1
  ·(rintro w' ⟨e1,e2,e3,e4,e5,e6,e7⟩; go_simp; try with_reducible rfl)
  simp only [Act.put,Jh,Ji,Jj]
  refine tkH (v:=?_) 6 34 hS0 ?_ ?_; rotate_left 1
  ·(rintro w' ⟨e1,e2,e3,e4,e5,e6,e7⟩; go_simp; try with_reducible rfl)
  simp only [Act.put,Jh,Ji,Jj]
  refine tkH (v:=?_) 7 35 hS0 ?_ ?_; rotate_left 1
  ·(rintro w' ⟨e1,e2,e3,e4,e5,e6,e7⟩; go_simp; try with_reducible rfl)
  simp only [Act.put,Jh,Ji,Jj]
  refine tkH (v:=?_) 8 36 hS0 ?_ ?_; rotate_left 1
  ·(rintro w' ⟨e1,e2,e3,e4,e5,e6,e7⟩; go_simp; try with_reducible rfl)
  simp only [Act.put,Jh,Ji,Jj]
  refine tkH (v:=?_) 9 37 hS0 ?_ ?_; rotate_left 1
  ·(rintro w' ⟨e1,e2,e3,e4,e5,e6,e7⟩; go_simp; try with_reducible rfl)
  simp only [Act.put,Jh,Ji,Jj]
  refine tkH (v:=?_) 10 38 hS0 ?_ ?_; rotate_left 1
  ·(rintro w' ⟨e1,e2,e3,e4,e5,e6,e7⟩; go_simp; try with_reducible rfl)
  simp only [Act.put,Jh,Ji,Jj]
  refine tkH (v:=?_) 11 39 hS0 ?_ ?_; rotate_left 1
  ·(rintro w' ⟨e1,e2,e3,e4,e5,e6,e7⟩; go_simp; try with_reducible rfl)
  simp only [Act.put,Jh,Ji,Jj]
  refine wpAnyH_ready (rs:=[12]) (by kernel_rfl) (by simp) ?_
  refine AllReadyH.cons rfl (fun K hK=>?_) AllReadyH.nil
  go_simp
  refine A3.out.mono ?_
  rintro e Z2 ⟨rfl,bz2⟩
  have hS1:=hS0.below bz2
  refine hK.out _ _ hS1 (fun _=>?_)
  clear hK K
  refine tkH (v:=?_) 13 27 hS1 ?_ ?_; rotate_left 1
  ·(rintro w' ⟨e1,e2,e3,e4,e5,e6,e7⟩; go_simp; try with_reducible rfl)
  simp only [Act.put,Jh,Ji,Jj]
  refine tkH (v:=?_) 14 41 hS1 ?_ ?_; rotate_left 1
  ·(rintro w' ⟨e1,e2,e3,e4,e5,e6,e7⟩; go_simp; try with_reducible rfl)
  simp only [Act.put,Jh,Ji,Jj]
  refine tkH (v:=?_) 15 42 hS1 ?_ ?_; rotate_left 1
  ·(rintro w' ⟨e1,e2,e3,e4,e5,e6,e7⟩; go_simp; try with_reducible rfl)
  simp only [Act.put,Jh,Ji,Jj]
  refine tkH (v:=?_) 16 7 hS1 ?_ ?_; rotate_left 1
  ·(rintro w' ⟨e1,e2,e3,e4,e5,e6,e7⟩; go_simp; try with_reducible rfl)
  simp only [Act.put,Jh,Ji,Jj]
  refine tkH (v:=?_) 17 8 hS1 ?_ ?_; rotate_left 1
  ·(rintro w' ⟨e1,e2,e3,e4,e5,e6,e7⟩; go_simp; try with_reducible rfl)
  simp only [Act.put,Jh,Ji,Jj]
  refine wpAnyH_done (by kernel_rfl) ?_ _
  have bz0:Below Z0.heap.size Z0 Z2:=((Jd _ _).drew:Below Z0.heap.size Z0 Z0.drew).trans bz2
  have hb2:Below W3.heap.size W3 Z2:=H4.out.2.trans (bz0.mono H4.out.2.size)
  have r2:=H4.out.1.below bz0
  have b3:Below Z2.heap.size Z2 (Z2.alloc (.cells #[.int .i64 ov] 3)):=(Jd _ _).alloc (Jb _) _
  have hrA:=r2.below b3
  have hw3z:W3.heap.size≤Z2.heap.size:=hb2.size
  clear hS0 hS1
  go_wp2_with (first
   | (at_builtin; refine ZaJ _ W3.heap.size ov _ _ rfl _ _ rfl rfl hrA Z2.heap.size rfl (by simp) (by simp; omega) (by rw [Zad]; omega) ?_; intro v' Z4 hrow4 hg4 hloc4)
   | fail)
  have H5:=hid (show NRow W3.heap.size Z4 v' (intL (k+1) (onId R P))∧Below W3.heap.size W3 Z4 from ⟨by rw [← ZbF,HO.out]; exact hrow4,by
   have h1:Below W3.heap.size W3 (Z2.alloc (.cells #[.int .i64 ov] 3)):=hb2.trans (b3.mono hb2.size)
   exact ⟨hg4.os.trans h1.os,hg4.tape.trans h1.tape,hg4.output.trans h1.output,Nat.le_trans h1.size hg4.size,fun b hb=>(hg4.block b (Jm hb h1.size) (fun e=>by have:=hrA.base b e.symm; omega)).trans (h1.block b hb)⟩⟩)
  clear hrow4 hg4 hloc4 hrA b3 r2 hb2 bz2 A3
  go_roundg (R.t3.length - (k+1))
  case measure=>omega
  case rel=>exact ⟨k+1,by omega,Jb _,by go_num,H5.out⟩
 ·obtain rfl:k=R.t3.length:=by omega
  obtain ⟨p5,c5,hv5⟩:=H4.out.1.sl
  rw [Zad] at hv5
  subst hv5
  have A4:=hid (Zg3 rZ HR.out.1.solveFit P q (.slice p5 R.t3.length c5) H4.out.1.row H2.out.1.found.place H2.out.1.found.cert (fun b e q=>by
   have h1:=H4.out.1.base b e
   have h2:=HR.out.2.2.2.2.2.2 b q
   omega))
  have HZ:=hid rZ
  clear rZ XZ
  go_wp2_with (first
   | (go_at_call 43; refine A4.out.mono ?_; rintro e Z5 ⟨rfl,vs5,va5,hr5,hrs5,hra5,ho5⟩)
   | fail)
  go_ret
  have hx:=H0.out.2.2.2.1
  have nP:=HR.out.2.2.2.2.1
  have nQ:=HR.out.2.2.2.2.2.1
  have s3:W3.heap.size≤Z0.heap.size:=H4.out.2.size
  have nR:=HR.out.2.2.2.2.2.2
  have b1:W.heap.size≤W1.heap.size:=H0.out.2.1.size
  have s12:W1.heap.size≤W2.heap.size:=H2.out.1.only.size
  have s23:W2.heap.size≤W3.heap.size:=H3.out.1.only.size
  have mv5:∀ b,b<W2.heap.size→b∉x.Q→b∉foot x.rb x.V→Z5.heap[b]?=W2.heap[b]?:=fun b hb h1 h2=>by
   rw [ho5.block b (by omega) h2,H4.out.2.block b (by omega),H3.out.1.only.block b hb h1]
  have L:=H2.out.1.last
  have nS:∀ b∈shB vs va vf g vs5 va5,W.heap.size≤b:=fun b hb=>by
   rcases ZfL.1 hb with rfl | ⟨u,hu,e⟩
   ·have:=L.base; omega
   ·simp only [List.mem_cons,List.not_mem_nil,or_false] at hu
    rcases hu with rfl | rfl | rfl | rfl | rfl
    ·have:=L.sup.base b e; omega
    ·have:=L.arcs.base b e; omega
    ·have:=L.flow.base b e; omega
    ·have:=hrs5.base b e; omega
    ·have:=hra5.base b e; omega
  have hpm:x.pb∈x.P:=Jp
  have hsh:=H2.out.1.shown (Z:=Z5) HR.out.1.fits HR.out.1.fit.len0 (mv5 _ (by have:=nP _ hpm; omega) (hx.d1 _ hpm) (hx.d2 _ hpm)) (fun b h1 h2=>mv5 b h2 (fun r=>by have:=nQ b r; omega) (fun r=>by have:=nR b r; omega)) hrs5 hra5
  refine ⟨rfl,{ x with x7:=.int .i64 (pcost (cR R) P R.t3.length),x8:=.bool true,x9:=.int .i64 (nodesR R),x10:=vs5,x11:=va5,R:=Rn R P R.t3.length,l1:=m1,l2:=m2,m1:=m1',m2:=m2',S:=shB vs va vf g vs5 va5 },⟨?_,?_,hr5,H2.out.1.sim,H3.out.1.sim,hx.d1,hx.d2,hx.d3,hsh,fun b hb=>⟨fun r=>?_,fun r=>?_,fun r=>?_⟩⟩,?_,fun b hb=>?_,rfl⟩
  ·exact (HR.out.2.1.below H4.out.2).move (fun b hb=>ho5.block b (by have:=nP b hb; omega) (hx.d2 b hb))
  ·exact (H3.out.1.plan.below H4.out.2).move (fun b hb=>ho5.block b (by have:=nQ b hb; omega) (hx.d3 b hb))
  ·have:=nS b hb; have:=nP b r; omega
  ·have:=nS b hb; have:=nQ b r; omega
  ·have:=nS b hb; have:=nR b r; omega
  ·refine ((HR.out.2.2.2.1.mono (fun b hb=>?_)).trans (Only.of_below H4.out.2)).trans (ho5.mono (fun b hb=>Pr.inR hb))
   rcases List.mem_append.1 hb with hb | hb
   ·exact Pr.inP hb
   ·exact Pr.inQ hb
  ·rcases Pr.mem hb with hb | hb | hb | hb
   ·exact Jr (Pr.inP (x:=x) hb)
   ·exact Jr (Pr.inQ (x:=x) hb)
   ·exact Jr (Pr.inR (x:=x) hb)
   ·exact Js (nS b hb)
end
section
open Go.RowKit
section
variable {w w':World}{base wb:Nat}{v v' vh vh':Value}{xs xs':List Pr}{hs hs':List (Nat×List Nat)}
theorem Zha (h:WAt w base wb v vh xs)(hn:0<xs.length)(hlen:xs.length<1000000000000)(m a b c d:Int)(y6 y7 y8 y9 y10:Value) :
  Calls Tryz.prog 11 #[.pointer (some ⟨wb,0,none⟩),.agg #[.int .i64 12,.int .i64 m,.int .i64 a,.int .i64 b,.int .i64 c,.int .i64 d,y6,y7,y8,y9,y10]] w fun e w'=>e=.returned (.bool true)∧∃ xs',WAt w' base wb v vh xs'∧xs'.length=xs.length∧Only (FW wb v xs) w w'∧∀ b∈FW wb v xs',b∈FW wb v xs∨w.heap.size≤b:=by
 obtain ⟨i,hi,hI,hm0,hm1⟩:=Zhe m xs.length hn
 have hl:wb<w.heap.size:=(Ja.1 h.cells).1
 have hl1:wb<w.heap.size+1:=by omega
 have hl2:w.heap.size<w.heap.size+1:=by omega
 have c0:=Zbo h.cells 0
 simp only [Jg,Je] at c0
 rcases h.row.shape (fun _=>rfl) with ⟨_,e0⟩ | ⟨g,cap,cur,hv,_,hgl,hle,_,hc⟩
 ·simp at e0; subst e0; simp at hn
 rw [Jv] at hv hle
 rw [hv] at c0
 have q0:=(hc i 0 (by simpa using hi) (by decide)).1
 have q1:=(hc i 1 (by simpa using hi) (by decide)).1
 have q2:=(hc i 2 (by simpa using hi) (by decide)).1
 simp only [cellsP,Pr.a,Je,Jf,Nat.add_zero,List.getElem_map] at q0 q1 q2
 have hgl1:g<w.heap.size+1:=by omega
 have hiI:(i:Int)<(xs.length:Int):=by omega
 have hnz:¬ (xs.length:Int)=0:=by omega
 clear hc
 go_enter Tryz.func11,Tryz.ntmps11
 go_wp2_with fail
 go_region
 go_wp2_with fail
 have hbW:Below w.heap.size w ((w.alloc (.cells #[.int .i64 12,.int .i64 m,.int .i64 a,.int .i64 b,.int .i64 c,.int .i64 d,y6,y7,y8,y9,y10] 37)).alloc (.cells #[.pointer (some ⟨xs[i].pb,0,none⟩),.pointer (some ⟨xs[i].qb,0,none⟩),.pointer (some ⟨xs[i].rb,0,none⟩)] 47)).drew:=(((Jd _ _).alloc (Jb _) _).alloc (by simp) _).drew
 have hW:=h.below hbW
 have hx:=hW.ok _ (Jl hi)
 have A1:=hid (Zg5 hx)
 have HW:=hid (Jc hW hbW)
 clear hx hW hbW
 refine A1.out.mono ?_
 rintro e w3 ⟨rfl,y,hy,hoy,hFy,hay⟩
 go_wp2_with fail
 go_ret
 exact ⟨rfl,xs.set i y,HW.out.1.upd hi hy hoy hFy hay,by simp,(Only.of_below HW.out.2).trans (hoy.mono (fun n hn=>Jk _ (Jt _ (List.mem_flatMap.2 ⟨_,Jl hi,hn⟩)))),Zj1 hi (fun b hb=>(hFy b hb).imp_right (fun q=>Nat.le_trans HW.out.2.size q))⟩
theorem ZlH (h:WH w base wb v vh xs hs)(hx:0<xs.length)(hlen:xs.length<1000000000000)(hn:hs.length≤9000000000000)(k m a b c d N:Int)(hk:k≤12)(p q r s:Option Addr)(ls cs la ca lf cf lp cp:Nat)(S:Nat→Int)(A:Nat→Ar)(F P:Nat→Int)(hS:Ints w p ls S)(hA:Arcs w q la A)(hF:Ints w r lf F)(hP:Ints w s lp P)
  (hl0:ls*8≤140737488351232) (hl1:lf*8≤140737488351232) (hl2:lp*8≤140737488351232) (hl3:la*32≤140737488351232) :
  Calls Tryz.prog 11 #[.pointer (some ⟨wb,0,none⟩),.agg #[.int .i64 k,.int .i64 m,.int .i64 a,.int .i64 b,.int .i64 c,.int .i64 d,.int .i64 N,.slice p ls cs,.slice q la ca,.slice r lf cf,.slice s lp cp]] w fun e w'=>e=.returned (.bool true)∧∃ v' vh' xs' hs',Stepped w base wb v vh xs hs w' v' vh' xs' hs':=by
 by_cases hk11:k≤11
 ·exact ZlG h hx hlen hn k m a b c d N hk11 p q r s ls cs la ca lf cf lp cp S A F P hS hA hF hP hl0 hl1 hl2 hl3
 ·obtain rfl:k=12:=by omega
  refine (Zha h.plans hx hlen m a b c d (.int .i64 N) (.slice p ls cs) (.slice q la ca) (.slice r lf cf) (.slice s lp cp)).mono ?_
  rintro e w' ⟨rfl,xs',hw,h1,ho,hf⟩
  exact ⟨rfl,v,vh,xs',hs,h.moved hw ho hf,⟨by omega,by omega,Nat.le_add_right _ _⟩,Zbn ho (fun b hb=>(h.plans.foots b hb).1) (by have:=(h.plans.foots wb Jp); omega),fun b hb h3 _=>ho.block b hb h3⟩
end
end
section
open Go.RowKit
section
variable {w w':World}{base wb:Nat}{v v' vh vh':Value}{xs xs':List Pr}{hs hs':List (Nat×List Nat)}
theorem Zis (h:WH w base wb v vh xs hs)(hk:hs.length≤9000000000000)(hn:0<xs.length)(hlen:xs.length<1000000000000)(m a b c d:Int)(y6 y7 y8 y9 y10:Value) :
  Calls Tryz.prog 11 #[.pointer (some ⟨wb,0,none⟩),.agg #[.int .i64 13,.int .i64 m,.int .i64 a,.int .i64 b,.int .i64 c,.int .i64 d,y6,y7,y8,y9,y10]] w fun e w'=>e=.returned (.bool true)∧∃ vh' hs',KeptMore w wb w.heap.size v vh hs 4 w' vh' hs':=by
 obtain ⟨i,hi,hI,hm0,hm1⟩:=Zhe m xs.length hn
 have hl:wb<w.heap.size:=(Ja.1 h.plans.cells).1
 have hl1:wb<w.heap.size+1:=by omega
 have hl2:w.heap.size<w.heap.size+1:=by omega
 have c0:=Zbo h.plans.cells 0
 simp only [Jg,Je] at c0
 rcases h.plans.row.shape (fun _=>rfl) with ⟨_,e0⟩ | ⟨g,cap,cur,hv,_,hgl,hle,_,hc⟩
 ·simp at e0; subst e0; simp at hn
 rw [Jv] at hv hle
 rw [hv] at c0
 have q0:=(hc i 0 (by simpa using hi) (by decide)).1
 have q1:=(hc i 1 (by simpa using hi) (by decide)).1
 have q2:=(hc i 2 (by simpa using hi) (by decide)).1
 simp only [cellsP,Pr.a,Je,Jf,Nat.add_zero,List.getElem_map] at q0 q1 q2
 have hgl1:g<w.heap.size+1:=by omega
 have hiI:(i:Int)<(xs.length:Int):=by omega
 have hnz:¬ (xs.length:Int)=0:=by omega
 clear hc
 go_enter Tryz.func11,Tryz.ntmps11
 go_wp2_with fail
 go_region
 go_wp2_with fail
 have hbW:Below w.heap.size w ((w.alloc (.cells #[.int .i64 13,.int .i64 m,.int .i64 a,.int .i64 b,.int .i64 c,.int .i64 d,y6,y7,y8,y9,y10] 37)).alloc (.cells #[.pointer (some ⟨xs[i].pb,0,none⟩),.pointer (some ⟨xs[i].qb,0,none⟩),.pointer (some ⟨xs[i].rb,0,none⟩)] 47)).drew:=(((Jd _ _).alloc (Jb _) _).alloc (by simp) _).drew
 have hW:=h.below hbW
 have A1:=hid (Zin (hW.plans.ok _ (Jl hi)) hW.plans.cells hW.holds hk)
 have HW:=hid hbW
 clear hW hbW
 refine A1.out.mono ?_
 rintro e w3 ⟨rfl,vh',hs',M⟩
 go_wp2_with fail
 go_ret
 exact ⟨rfl,vh',hs',M.pre HW.out HW.out.size⟩
theorem ZlI (h:WH w base wb v vh xs hs)(hx:0<xs.length)(hlen:xs.length<1000000000000)(hn:hs.length≤9000000000000)(k m a b c d N:Int)(hk:k≤13)(p q r s:Option Addr)(ls cs la ca lf cf lp cp:Nat)(S:Nat→Int)(A:Nat→Ar)(F P:Nat→Int)(hS:Ints w p ls S)(hA:Arcs w q la A)(hF:Ints w r lf F)(hP:Ints w s lp P)
  (hl0:ls*8≤140737488351232) (hl1:lf*8≤140737488351232) (hl2:lp*8≤140737488351232) (hl3:la*32≤140737488351232) :
  Calls Tryz.prog 11 #[.pointer (some ⟨wb,0,none⟩),.agg #[.int .i64 k,.int .i64 m,.int .i64 a,.int .i64 b,.int .i64 c,.int .i64 d,.int .i64 N,.slice p ls cs,.slice q la ca,.slice r lf cf,.slice s lp cp]] w fun e w'=>e=.returned (.bool true)∧∃ v' vh' xs' hs',Stepped w base wb v vh xs hs w' v' vh' xs' hs':=by
 by_cases hk12:k≤12
 ·exact ZlH h hx hlen hn k m a b c d N hk12 p q r s ls cs la ca lf cf lp cp S A F P hS hA hF hP hl0 hl1 hl2 hl3
 ·obtain rfl:k=13:=by omega
  refine (Zis h hn hx hlen m a b c d (.int .i64 N) (.slice p ls cs) (.slice q la ca) (.slice r lf cf) (.slice s lp cp)).mono ?_
  rintro e w' ⟨rfl,vh',hs',M⟩
  obtain ⟨h1,h2⟩:=h.checked M
  exact ⟨rfl,v,vh',xs,hs',h1,⟨Jb _,Nat.le_succ _,by rw [M.len]; exact Jb _⟩,h2,fun b hb h3 h4=>M.only b hb (fun e=>h3 (e ▸ Jp)) h4⟩
end
end
section
open Go.RowKit
theorem plays13 (w:World)(p:Option Addr)(len cap:Nat)(lo hi:Int)(hops:IsOpsC w p len)(hlen:len<999999999999) :
  Calls Tryz.prog 9 #[.slice p len cap,.int .i64 lo,.int .i64 hi,.int .i64 13] w fun e w'=>e=.returned (.bool true)∧Below w.heap.size w w':=by
 have hb1:Below w.heap.size w (w.alloc (.cells #[.slice none 0 0,.slice none 0 0] 29)):=(Jd _ _).alloc (Jb _) _
 have hw1:=wat0 w
 have A1:=hid (ZeS _ _ _ _ _ hw1.cells hw1.row (by simp))
 have Hw1:=hid hw1
 clear hw1
 go_enter Tryz.func9,Tryz.ntmps9
 go_wp2_with fail
 refine A1.out.mono ?_
 rintro e w2 ⟨rfl,v2,_,_,_,_,_,_,_,_,_,_,_,_,hB⟩
 obtain ⟨y,hw2,ho2,_⟩:=Hw1.out.begun hB
 have hb2:Below w.heap.size w w2:=hb1.trans (Zbn ho2 (fun b hb=>(Hw1.out.foots b hb).1) hb1.size)
 clear hB A1
 have A2:=hid (Zc8 hw2 (by simp) (by simp) 2 0 0 0 0 0 (.int .i64 0) (.slice none 0 0) (.slice none 0 0) (.slice none 0 0) (.slice none 0 0) (by decide))
 go_wp2_with fail
 refine A2.out.mono ?_
 rintro e w3 ⟨rfl,xs3,hw3,hl3,ho3,_⟩
 have hb3:Below w.heap.size w w3:=hb2.trans (Zbn ho3 (fun b hb=>(hw2.foots b hb).1) hb2.size)
 have hl3':xs3.length=1:=by simpa using hl3
 clear A2
 have A3:=hid (Zc8 hw3 (by omega) (by omega) 4 0 0 100 0 0 (.int .i64 0) (.slice none 0 0) (.slice none 0 0) (.slice none 0 0) (.slice none 0 0) (by decide))
 go_wp2_with fail
 refine A3.out.mono ?_
 rintro e w4 ⟨rfl,xs4,hw4,hl4,ho4,_⟩
 have hb4:Below w.heap.size w w4:=hb3.trans (Zbn ho4 (fun b hb=>(hw3.foots b hb).1) hb3.size)
 have hl4':xs4.length=1:=by omega
 clear A3 hb1 hb2 hb3 hw2 hw3 ho2 ho3 ho4 Hw1 hl3 hl4 hl3'
 have Hs:=hid (Jc hw4 (Jc hl4' hb4))
 clear hw4 hl4' hb4
 go_wp2_with fail
 go_loopg [13] len (fun gk iv wr=>∃ (j:Nat) (v vh:Value) (xs:List Pr) (hs:List (Nat×List Nat)),j≤len∧len - j≤gk∧iv=.int .i64 j∧WH wr w.heap.size w.heap.size v vh xs hs∧0<xs.length∧xs.length≤j+1∧hs.length≤4*j∧Below w.heap.size w wr)
 case atStart=>exact ⟨0,_,_,_,_,Jq _,Jb _,rfl,wh0 Hs.out.1,by rw [Hs.out.2.1]; decide,by rw [Hs.out.2.1]; decide,Jq _,Hs.out.2.2⟩
 case' round=>skip
 clear Hs
 obtain ⟨j,v,vh,xs,hs,hj,hgk,rfl,hw,hn,hlx,hhs,hb⟩:=hrel
 by_cases hlt:j<len
 ·rcases hops with h0 | ⟨sb,off,rfl,hsb,hc⟩
  ·omega
  obtain ⟨k,m,a,b,c,d,n6,p7,p8,p9,p10,l7,l8,l9,l10,z7,z8,z9,z10,S,A,F,P,⟨q0,q1,q2,q3,q4,q5,q6,q7,q8,q9,q10⟩,⟨hS,hA,hF,hP⟩,hl0,hl3,hl1,hl2⟩:=hc j hlt
  have mv:∀ o,wr.cell? ⟨sb,o,none⟩=w.cell? ⟨sb,o,none⟩:=fun o=>hb.cell (p:=⟨sb,o,none⟩) hsb
  rw [← mv] at q0 q1 q2 q3 q4 q5 q6 q7 q8 q9 q10
  have hsw:sb<wr.heap.size:=Jm hsb hb.size
  have hjI:(j:Int)<(len:Int):=by omega
  clear mv hc
  have hbo:Below wr.heap.size wr (wr.alloc (.cells #[.int .i64 k,.int .i64 m,.int .i64 a,.int .i64 b,.int .i64 c,.int .i64 d,.int .i64 n6,.slice p7 l7 z7,.slice p8 l8 z8,.slice p9 l9 z9,.slice p10 l10 z10] 37)):=(Jd _ _).alloc (Jb _) _
  have hwo:=hw.below hbo
  by_cases hk:13<k
  ·go_wp2_with fail
   go_roundg (len - (j+1))
   case measure=>omega
   case rel=>exact ⟨j+1,v,vh,xs,hs,by omega,Jb _,by go_num,hwo,hn,by omega,by omega,hb.trans (hbo.mono hb.size)⟩
  ·have hkd:decide (13<k)=false:=by simpa using hk
   have hbW:=hb.trans (hbo.mono hb.size)
   have A4:=hid (ZlI hwo hn (by omega) (by omega) k m a b c d n6 (by omega) p7 p8 p9 p10 l7 z7 l8 z8 l9 z9 l10 z10 S A F P (hS.below hbW) (hA.below hbW) (hF.below hbW) (hP.below hbW) hl0 hl1 hl2 hl3)
   have Hw:=hid (Jc hw (Jc hwo (Jc hb hbo)))
   clear hw hwo hb hbo hbW hS hA hF hP
   go_wp2_with fail
   refine A4.out.mono ?_
   rintro e w5 ⟨rfl,v5,vh5,xs5,hs5,T5⟩
   have hz5:wr.heap.size<w5.heap.size:=Jm (by simp) T5.below.size
   have o1:=(T5.other wr.heap.size (by simp) (fun hm=>by have:=(Hw.out.1.plans.foots _ hm).2; omega) (fun e=>by have:=Hw.out.1.holds.row.lt e; omega)).trans (MapKept.heap_alloc wr _).1
   have f0:=(Zfs o1).1
   have Hb5:=hid (show Below w.heap.size w w5 from (Hw.out.2.2.1.trans (Hw.out.2.2.2.mono Hw.out.2.2.1.size)).trans T5.below)
   obtain ⟨hl5,hl6,hl7⟩:=T5.len
   obtain ⟨ph,ch,rfl,HH⟩:=T5.next.holds.holds
   have A6:=hid (ZhL w5 _ _ _ _ _ T5.next.plans.cells HH (by omega))
   have HT:=hid T5.next
   clear T5 HH
   clear o1 A4 hkd hk
   by_cases h1:k=1
   ·subst h1
    go_wp2_with fail
    refine A6.out.mono ?_
    rintro e w6 ⟨rfl,hb6⟩
    go_wp2_with fail
    go_roundg (len - (j+1))
    case measure=>omega
    case rel=>exact ⟨j+1,v5,_,xs5,hs5,by omega,Jb _,by go_num,HT.out.below hb6,by omega,by omega,by omega,Zal Hb5.out hb6⟩
   ·have h1b:(k == 1)=false:=by simpa using h1
    clear h1
    by_cases h2:lo≤k
    ·by_cases h3:k≤hi
     ·have h2b:decide (lo≤k)=true:=by simpa using h2
      have h3b:decide (k≤hi)=true:=by simpa using h3
      clear h2 h3
      go_wp2_with fail
      refine A6.out.mono ?_
      rintro e w6 ⟨rfl,hb6⟩
      go_wp2_with fail
      go_roundg (len - (j+1))
      case measure=>omega
      case rel=>exact ⟨j+1,v5,_,xs5,hs5,by omega,Jb _,by go_num,HT.out.below hb6,by omega,by omega,by omega,Zal Hb5.out hb6⟩
     ·have h2b:decide (lo≤k)=true:=by simpa using h2
      have h3b:decide (k≤hi)=false:=by simpa using h3
      clear h2 h3
      go_wp2_with fail
      refine A6.out.mono ?_
      rintro e w6 ⟨rfl,hb6⟩
      go_wp2_with fail
      go_roundg (len - (j+1))
      case measure=>omega
      case rel=>exact ⟨j+1,v5,_,xs5,hs5,by omega,Jb _,by go_num,HT.out.below hb6,by omega,by omega,by omega,Zal Hb5.out hb6⟩
    ·have h2b:decide (lo≤k)=false:=by simpa using h2
     clear h2
     go_wp2_with fail
     refine A6.out.mono ?_
     rintro e w6 ⟨rfl,hb6⟩
     go_wp2_with fail
     go_roundg (len - (j+1))
     case measure=>omega
     case rel=>exact ⟨j+1,v5,_,xs5,hs5,by omega,Jb _,by go_num,HT.out.below hb6,by omega,by omega,by omega,Zal Hb5.out hb6⟩
 ·go_wp2
  go_ret
  exact ⟨rfl,hb⟩
end
end Go.Proofs.YtjdindfjfpdikaaGreat
