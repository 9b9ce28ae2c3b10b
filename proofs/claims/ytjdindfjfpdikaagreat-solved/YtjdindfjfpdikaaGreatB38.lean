import Derived.BigRegion
import Derived.Deep.LoopGhost
import Derived.Test.YtjdindfjfpdikaaGreatB08
import Derived.Test.YtjdindfjfpdikaaGreatB28
import Derived.Test.YtjdindfjfpdikaaGreatB34
import Derived.Test.YtjdindfjfpdikaaGreatB35
import Derived.Test.YtjdindfjfpdikaaGreatB37
import Derived.Test.YtjdindfjfpdikaaGreatPre
set_option maxRecDepth 100000
set_option maxHeartbeats 8000000
namespace Go.Proofs.YtjdindfjfpdikaaGreat
section
open Go.RowKit
theorem where_at {l0:Things}{l1:Runs}{l2:Waits}{l3:Prefs}{R:RSt}(h:Sim l0 l1 l2 l3 R){i:Nat}(hi:i<R.t3.length){w:World}{pb b0 b1 b2 b3:Nat}(hp:PlanAt w pb b0 b1 b2 b3 l0 l1 l2 l3) :
  Calls Tryz.prog 40 #[.pointer (some ⟨pb,0,none⟩),.int .i64 R.t3[i].1] w fun x w'=>x=.returned (.tuple #[.int .i64 (R.on.getD i (-1)),.int .i64 0])∧Below w.heap.size w w':=by
 have hio:i<R.on.length:=by rw [h.fit.lo]; exact hi
 have hon:=h.mv hi hio
 rw [getD_at hio,hon]
 unfold onL
 cases e:get (3,R.t3[i].1) l1 with
 | none=>exact where_none hp _ (by rw [h.yes3 hi]; rfl) e
 | some m=>exact where_on hp _ m.1 m.2 (by rw [h.yes3 hi]; rfl) e
def S7 (bx qb rb:Nat)(v3:Value)(g o:Nat)(id:Int)(W:World):Prop:=W.cell? ⟨bx,1,none⟩=some (.pointer (some ⟨qb,0,none⟩))∧W.cell? ⟨bx,2,none⟩=some (.pointer (some ⟨rb,0,none⟩))∧W.cell? ⟨rb,3,none⟩=some v3∧W.cell? ⟨g,o,none⟩=some (.int .i64 id)∧bx<W.heap.size∧rb<W.heap.size∧g<W.heap.size
theorem S7.below {bx qb rb:Nat}{v3:Value}{g o:Nat}{id:Int}{W W':World}(h:S7 bx qb rb v3 g o id W)(hb:Below W.heap.size W W'):S7 bx qb rb v3 g o id W':=by
 obtain ⟨h1,h2,h3,h4,h5,h6,h7⟩:=h
 exact ⟨(hb.cell (p:=⟨bx,1,none⟩) h5).trans h1,(hb.cell (p:=⟨bx,2,none⟩) h5).trans h2,(hb.cell (p:=⟨rb,3,none⟩) h6).trans h3,(hb.cell (p:=⟨g,o,none⟩) h7).trans h4,nT h5 hb.size,nT h6 hb.size,nT h7 hb.size⟩
theorem Rn_on {R:RSt}{P:Nat→Nat}{i:Nat}(hi:i<R.t3.length):(Rn R P R.t3.length).on.getD i (-1)=onId R P i:=by
 show (intL R.t3.length (onF R P R.t3.length)).getD i (-1)=_
 rw [getD_at (by rw [intL_length]; exact hi),intL_get]
 unfold onF
 rw [if_pos hi]
theorem RowAt.first {w:World}{p:Option Addr}{n cp:Nat}{xs:List Th}(h:RowAt w 76 3 cellsT (.slice p n cp) xs){k:Nat}(hk:k<xs.length):∃ g,p=some ⟨g,0,none⟩∧g<w.heap.size∧w.cell? ⟨g,k*3,none⟩=some (.int .i64 xs[k].1):=by
 rcases h.shape (fun _=>rfl) with ⟨_,e⟩ | ⟨g,cap,cur,e,_,hg,_,_,hc⟩
 ·rw [e] at hk; simp at hk
 ·cases e
  have:=(hc k 0 hk (by decide)).1
  simp only [cellsT,l0,Nat.add_zero] at this
  exact ⟨g,rfl,hg,this⟩
theorem solves_any {W:World}{x:Pr}(hx:x.ok W) :
  Calls Tryz.prog 18 #[.agg #[.pointer (some ⟨x.pb,0,none⟩),.pointer (some ⟨x.qb,0,none⟩),.pointer (some ⟨x.rb,0,none⟩)]] W fun e W'=>e=.returned (.bool true)∧∃ y:Pr,y.ok W'∧Only x.F W W'∧(∀ b∈y.F,b∈x.F∨W.heap.size≤b)∧y.a=x.a:=by
 obtain ⟨W1,hW1⟩:∃ W1,W.alloc (.cells #[.pointer (some ⟨x.pb,0,none⟩),.pointer (some ⟨x.qb,0,none⟩),.pointer (some ⟨x.rb,0,none⟩)] 47)=W1:=⟨_,rfl⟩
 have b1:Below W.heap.size W W1:=by rw [← hW1]; exact (bR _ _).alloc (nL _) _
 have X1:W1.heap[W.heap.size]?=some (.cells #[.pointer (some ⟨x.pb,0,none⟩),.pointer (some ⟨x.qb,0,none⟩),.pointer (some ⟨x.rb,0,none⟩)] 47):=by rw [← hW1]; exact heap_alloc_new W _
 have A1:=hid (solve_any hx.sp (hx.p.below b1))
 obtain ⟨k0,k1,k2⟩:=cells3 X1
 have z1:W.heap.size<W1.heap.size:=(gE.1 X1).1
 obtain ⟨R,hR⟩:∃ R,x.R=R:=⟨_,rfl⟩
 have hlt:=hx.lt
 have H0:=hid (aI hW1 (aI b1 (aI X1 (aI hx (aI hR hlt)))))
 rw [hR] at A1
 clear hW1 b1 X1 hx hR hlt
 go_enter Tryz.func18,Tryz.ntmps18
 go_upto_region 1 with fail
 rw [H0.out.1]
 go_upto_region 2 with (first
  | (go_at_call 42; refine A1.out.mono ?_; rintro e W2 ⟨P,q,m1,m2,vs,va,vf,g,fl,C,rfl,hS2⟩)
  | fail)
 have hx:=H0.out.2.2.2.1
 have hlt:=H0.out.2.2.2.2.2
 have nP:∀ b∈[x.pb,x.b0,x.b1,x.b2,x.b3],b<W.heap.size:=fun b hb=>hlt b (List.mem_append_left _ hb)
 have nQ:∀ b∈[x.qb,x.c0,x.c1,x.c2,x.c3],b<W.heap.size:=fun b hb=>hlt b (List.mem_append_right _ (List.mem_append_left _ hb))
 have nR:∀ b∈foot x.rb x.V,b<W.heap.size:=fun b hb=>hlt b (List.mem_append_right _ (List.mem_append_right _ hb))
 have X2:=(hS2.only.block W.heap.size z1 (fun q=>by have:=nP _ q; omega)).trans H0.out.2.2.1
 obtain ⟨j0,j1,j2⟩:=cells3 X2
 have z2:W.heap.size<W2.heap.size:=(gE.1 X2).1
 have q2:PlanAt W2 x.qb x.c0 x.c1 x.c2 x.c3 x.m0 x.m1 x.m2 x.m3:=(hx.q.below H0.out.2.1).move (fun b hb=>hS2.only.block b (by have:=nQ b hb; omega) (fun r=>hx.d1 b r hb))
 have hsq:=hx.sq
 have A2:=hid (solve_any hsq q2)
 rw [H0.out.2.2.2.2.1] at A2
 have H2:=hid (aI hS2 X2)
 clear hx hlt nP nQ nR X2 q2 hsq hS2 A1 k0 k1 k2
 go_upto_region 3 with (first
  | (go_at_call 42; refine A2.out.mono ?_; rintro e W3 ⟨P',q',m1',m2',vs',va',vf',g',fl',C',rfl,hS3⟩)
  | fail)
 have hx:=H0.out.2.2.2.1
 have hlt:=H0.out.2.2.2.2.2
 have hsp:=hx.sp
 rw [H0.out.2.2.2.2.1] at hsp
 obtain rfl:P=P':=H2.out.1.det.same hsp.fit hS3.det
 have nP:∀ b∈[x.pb,x.b0,x.b1,x.b2,x.b3],b<W.heap.size:=fun b hb=>hlt b (List.mem_append_left _ hb)
 have nQ:∀ b∈[x.qb,x.c0,x.c1,x.c2,x.c3],b<W.heap.size:=fun b hb=>hlt b (List.mem_append_right _ (List.mem_append_left _ hb))
 have nR:∀ b∈foot x.rb x.V,b<W.heap.size:=fun b hb=>hlt b (List.mem_append_right _ (List.mem_append_right _ hb))
 have X3:=(hS3.only.block W.heap.size z2 (fun q=>by have:=nQ _ q; omega)).trans H2.out.2
 have z3:W.heap.size<W3.heap.size:=(gE.1 X3).1
 have s12:W1.heap.size≤W2.heap.size:=H2.out.1.only.size
 have s23:W2.heap.size≤W3.heap.size:=hS3.only.size
 have p3:PlanAt W3 x.pb x.b0 x.b1 x.b2 x.b3 x.l0 m1 m2 x.l3:=H2.out.1.plan.move (fun b hb=>hS3.only.block b (by have:=nP b hb; omega) (fun r=>hx.d1 b hb r))
 have r3:RefAt W3 x.rb x.V x.x7 x.x8 x.x9 x.x10 x.x11 R:=by
  have h1:=hx.r
  rw [H0.out.2.2.2.2.1] at h1
  refine (h1.below H0.out.2.1).move (fun b hb=>?_)
  rw [hS3.only.block b (by have:=nR b hb; omega) (fun r=>hx.d3 b r hb),H2.out.1.only.block b (by have:=nR b hb; omega) (fun r=>hx.d2 b r hb)]
 have o3:Only (x.P ++ x.Q) W W3:=by
  refine ((Only.of_below H0.out.2.1).trans (H2.out.1.only.mono (fun b hb=>List.mem_append_left _ hb))).trans (hS3.only.mono (fun b hb=>List.mem_append_right _ hb))
 have HR:=hid (aI hsp (aI p3 (aI r3 (aI o3 (aI nP (aI nQ nR))))))
 have H3:=hid (aI hS3 X3)
 clear hx hlt hsp nP nQ nR X3 p3 r3 o3 hS3 A2 j0 j1 j2
 go_wp2_with fail
 go_loopg [5,6] R.t3.length (fun gk v iv wr=>∃ k:Nat,k≤R.t3.length∧R.t3.length - k≤gk∧iv=.int .i64 k∧Hid (NRow W3.heap.size wr v (intL k (onId R P))∧Below W3.heap.size W3 wr))
 case atStart=>exact ⟨0,Nat.zero_le _,by omega,rfl,(show _∧_ from ⟨NRow.nil _ _,bR _ _⟩)⟩
 case' round=>skip
 obtain ⟨k,hk,hgk,rfl,H4⟩:=hrel
 rename World=>Z0
 rename Value=>v5
 have hl16:R.t3.length≤16:=HR.out.1.fit.len3
 have rZ:=HR.out.2.2.1.below H4.out.2
 have XZ:=(H4.out.2.block W.heap.size z3).trans H3.out.2
 obtain ⟨j0,j1,j2⟩:=cells3 XZ
 have z0:W.heap.size<Z0.heap.size:=(gE.1 XZ).1
 obtain ⟨pt,c3,hv3⟩:=slice_of rZ.r3
 have j3:=rZ.c3
 rw [hv3] at j3
 have jr:=rZ.lt
 by_cases hlt:k<R.t3.length
 ·have hrow:=rZ.r3
  rw [hv3] at hrow
  obtain ⟨g3,rfl,hg3,hid3⟩:=hrow.first hlt
  have hkI:(k:Int)<(R.t3.length:Int):=by omega
  obtain ⟨ID,hID⟩:∃ ID,R.t3[k].1=ID:=⟨_,rfl⟩
  rw [hID] at hid3
  have hS0:S7 W.heap.size x.qb x.rb (.slice (some ⟨g3,0,none⟩) R.t3.length c3) g3 (k*3) ID Z0.drew:=⟨j1,j2,j3,hid3,z0,jr,hg3⟩
  have A3:=where_at H3.out.1.sim (i:=k) hlt ((H3.out.1.plan.below H4.out.2).drew)
  have hID':(Rn R P R.t3.length).t3[k].1=ID:=hID
  rw [hID',Rn_on hlt] at A3
  have A3:=hid A3
  obtain ⟨ov,hov⟩:∃ ov,onId R P k=ov:=⟨_,rfl⟩
  rw [hov] at A3
  obtain ⟨p5,c5,hv5⟩:=H4.out.1.sl
  rw [intL_length] at hv5
  subst hv5
  have HO:=hid hov
  clear hrow rZ XZ hID' hov hid3
  go_upto_region 7 with fail
  refine wp_region_held_drew (S:=S7 W.heap.size x.qb x.rb (.slice (some ⟨g3,0,none⟩) R.t3.length c3) g3 (k*3) ID) (by kernel_rfl) hS0 (fun _=>?_)
  refine wpAnyH_take (i:=0) (v:=?_) rfl (by kernel_rfl) (by kernel_rfl) (by kernel_rfl) (fun _ _ _ h=>h) (Or.inl ⟨by rfl,?_⟩) hS0 ?_
  rotate_left 1
  ·(rintro w' ⟨e1,e2,e3,e4,e5,e6,e7⟩; go_simp; try with_reducible rfl)
  change wpAnyH _ _ _ _ _ _ _ (Act.put _ (some 28) _) _
  simp only [Act.put,l3,l4,l5]
  refine wpAnyH_take (i:=1) (v:=?_) rfl (by kernel_rfl) (by kernel_rfl) (by kernel_rfl) (fun _ _ _ h=>h) (Or.inl ⟨by rfl,?_⟩) hS0 ?_
  rotate_left 1
  ·(rintro w' ⟨e1,e2,e3,e4,e5,e6,e7⟩; go_simp; try with_reducible rfl)
  change wpAnyH _ _ _ _ _ _ _ (Act.put _ (some 29) _) _
  simp only [Act.put,l3,l4,l5]
  refine wpAnyH_take (i:=2) (v:=?_) rfl (by kernel_rfl) (by kernel_rfl) (by kernel_rfl) (fun _ _ _ h=>h) (Or.inl ⟨by rfl,?_⟩) hS0 ?_
  rotate_left 1
  ·(rintro w' ⟨e1,e2,e3,e4,e5,e6,e7⟩; go_simp; try with_reducible rfl)
  change wpAnyH _ _ _ _ _ _ _ (Act.put _ (some 30) _) _
  simp only [Act.put,l3,l4,l5]
  refine wpAnyH_take (i:=3) (v:=?_) rfl (by kernel_rfl) (by kernel_rfl) (by kernel_rfl) (fun _ _ _ h=>h) (Or.inl ⟨by rfl,?_⟩) hS0 ?_
  rotate_left 1
  ·(rintro w' ⟨e1,e2,e3,e4,e5,e6,e7⟩; go_simp; try with_reducible rfl)
  change wpAnyH _ _ _ _ _ _ _ (Act.put _ (some 31) _) _
  simp only [Act.put,l3,l4,l5]
  refine wpAnyH_take (i:=4) (v:=?_) rfl (by kernel_rfl) (by kernel_rfl) (by kernel_rfl) (fun _ _ _ h=>h) (Or.inl ⟨by rfl,?_⟩) hS0 ?_
  rotate_left 1
  ·(rintro w' ⟨e1,e2,e3,e4,e5,e6,e7⟩; go_simp; try with_reducible rfl)
  change wpAnyH _ _ _ _ _ _ _ (Act.put _ (some 32) _) _
  simp only [Act.put,l3,l4,l5]
  refine wpAnyH_take (i:=5) (v:=?_) rfl (by kernel_rfl) (by kernel_rfl) (by kernel_rfl) (fun _ _ _ h=>h) (Or.inl ⟨by rfl,?_⟩) hS0 ?_
  rotate_left 1
  ·(rintro w' ⟨e1,e2,e3,e4,e5,e6,e7⟩; go_simp; try with_reducible rfl)
  change wpAnyH _ _ _ _ _ _ _ (Act.put _ (some 33) _) _
  simp only [Act.put,l3,l4,l5]
  refine wpAnyH_take (i:=6) (v:=?_) rfl (by kernel_rfl) (by kernel_rfl) (by kernel_rfl) (fun _ _ _ h=>h) (Or.inl ⟨by rfl,?_⟩) hS0 ?_
  rotate_left 1
  ·(rintro w' ⟨e1,e2,e3,e4,e5,e6,e7⟩; go_simp; try with_reducible rfl)
  change wpAnyH _ _ _ _ _ _ _ (Act.put _ (some 34) _) _
  simp only [Act.put,l3,l4,l5]
  refine wpAnyH_take (i:=7) (v:=?_) rfl (by kernel_rfl) (by kernel_rfl) (by kernel_rfl) (fun _ _ _ h=>h) (Or.inl ⟨by rfl,?_⟩) hS0 ?_
  rotate_left 1
  ·(rintro w' ⟨e1,e2,e3,e4,e5,e6,e7⟩; go_simp; try with_reducible rfl)
  change wpAnyH _ _ _ _ _ _ _ (Act.put _ (some 35) _) _
  simp only [Act.put,l3,l4,l5]
  refine wpAnyH_take (i:=8) (v:=?_) rfl (by kernel_rfl) (by kernel_rfl) (by kernel_rfl) (fun _ _ _ h=>h) (Or.inl ⟨by rfl,?_⟩) hS0 ?_
  rotate_left 1
  ·(rintro w' ⟨e1,e2,e3,e4,e5,e6,e7⟩; go_simp; try with_reducible rfl)
  change wpAnyH _ _ _ _ _ _ _ (Act.put _ (some 36) _) _
  simp only [Act.put,l3,l4,l5]
  refine wpAnyH_take (i:=9) (v:=?_) rfl (by kernel_rfl) (by kernel_rfl) (by kernel_rfl) (fun _ _ _ h=>h) (Or.inl ⟨by rfl,?_⟩) hS0 ?_
  rotate_left 1
  ·(rintro w' ⟨e1,e2,e3,e4,e5,e6,e7⟩; go_simp; try with_reducible rfl)
  change wpAnyH _ _ _ _ _ _ _ (Act.put _ (some 37) _) _
  simp only [Act.put,l3,l4,l5]
  refine wpAnyH_take (i:=10) (v:=?_) rfl (by kernel_rfl) (by kernel_rfl) (by kernel_rfl) (fun _ _ _ h=>h) (Or.inl ⟨by rfl,?_⟩) hS0 ?_
  rotate_left 1
  ·(rintro w' ⟨e1,e2,e3,e4,e5,e6,e7⟩; go_simp; try with_reducible rfl)
  change wpAnyH _ _ _ _ _ _ _ (Act.put _ (some 38) _) _
  simp only [Act.put,l3,l4,l5]
  refine wpAnyH_take (i:=11) (v:=?_) rfl (by kernel_rfl) (by kernel_rfl) (by kernel_rfl) (fun _ _ _ h=>h) (Or.inl ⟨by rfl,?_⟩) hS0 ?_
  rotate_left 1
  ·(rintro w' ⟨e1,e2,e3,e4,e5,e6,e7⟩; go_simp; try with_reducible rfl)
  change wpAnyH _ _ _ _ _ _ _ (Act.put _ (some 39) _) _
  simp only [Act.put,l3,l4,l5]
  refine wpAnyH_ready (rs:=[12]) (by kernel_rfl) (by simp) ?_
  refine AllReadyH.cons rfl (fun K hK=>?_) AllReadyH.nil
  go_simp
  refine A3.out.mono ?_
  rintro e Z2 ⟨rfl,bz2⟩
  have hS1:=hS0.below bz2
  refine hK.out _ _ hS1 (fun _=>?_)
  clear hK K
  refine wpAnyH_take (i:=13) (v:=?_) rfl (by kernel_rfl) (by kernel_rfl) (by kernel_rfl) (fun _ _ _ h=>h) (Or.inl ⟨by rfl,?_⟩) hS1 ?_
  rotate_left 1
  ·(rintro w' ⟨e1,e2,e3,e4,e5,e6,e7⟩; go_simp; try with_reducible rfl)
  change wpAnyH _ _ _ _ _ _ _ (Act.put _ (some 27) _) _
  simp only [Act.put,l3,l4,l5]
  refine wpAnyH_take (i:=14) (v:=?_) rfl (by kernel_rfl) (by kernel_rfl) (by kernel_rfl) (fun _ _ _ h=>h) (Or.inl ⟨by rfl,?_⟩) hS1 ?_
  rotate_left 1
  ·(rintro w' ⟨e1,e2,e3,e4,e5,e6,e7⟩; go_simp; try with_reducible rfl)
  change wpAnyH _ _ _ _ _ _ _ (Act.put _ (some 41) _) _
  simp only [Act.put,l3,l4,l5]
  refine wpAnyH_take (i:=15) (v:=?_) rfl (by kernel_rfl) (by kernel_rfl) (by kernel_rfl) (fun _ _ _ h=>h) (Or.inl ⟨by rfl,?_⟩) hS1 ?_
  rotate_left 1
  ·(rintro w' ⟨e1,e2,e3,e4,e5,e6,e7⟩; go_simp; try with_reducible rfl)
  change wpAnyH _ _ _ _ _ _ _ (Act.put _ (some 42) _) _
  simp only [Act.put,l3,l4,l5]
  refine wpAnyH_take (i:=16) (v:=?_) rfl (by kernel_rfl) (by kernel_rfl) (by kernel_rfl) (fun _ _ _ h=>h) (Or.inl ⟨by rfl,?_⟩) hS1 ?_
  rotate_left 1
  ·(rintro w' ⟨e1,e2,e3,e4,e5,e6,e7⟩; go_simp; try with_reducible rfl)
  change wpAnyH _ _ _ _ _ _ _ (Act.put _ (some 7) _) _
  simp only [Act.put,l3,l4,l5]
  refine wpAnyH_take (i:=17) (v:=?_) rfl (by kernel_rfl) (by kernel_rfl) (by kernel_rfl) (fun _ _ _ h=>h) (Or.inl ⟨by rfl,?_⟩) hS1 ?_
  rotate_left 1
  ·(rintro w' ⟨e1,e2,e3,e4,e5,e6,e7⟩; go_simp; try with_reducible rfl)
  change wpAnyH _ _ _ _ _ _ _ (Act.put _ (some 8) _) _
  simp only [Act.put,l3,l4,l5]
  refine wpAnyH_done (by kernel_rfl) ?_ _
  have bz0:Below Z0.heap.size Z0 Z2:=((bR _ _).drew:Below Z0.heap.size Z0 Z0.drew).trans bz2
  have hb2:Below W3.heap.size W3 Z2:=H4.out.2.trans (bz0.mono H4.out.2.size)
  have r2:=H4.out.1.below bz0
  have b3:Below Z2.heap.size Z2 (Z2.alloc (.cells #[.int .i64 ov] 3)):=(bR _ _).alloc (nL _) _
  have hrA:=r2.below b3
  have hw3z:W3.heap.size≤Z2.heap.size:=hb2.size
  clear hS0 hS1
  go_wp2_with (first
   | (at_builtin; refine wpList_push _ W3.heap.size ov _ _ rfl _ _ rfl rfl hrA Z2.heap.size rfl (by simp) (by simp; omega) (by rw [intL_length]; omega) ?_; intro v' Z4 hrow4 hg4 hloc4)
   | fail)
  have H5:=hid (show NRow W3.heap.size Z4 v' (intL (k+1) (onId R P))∧Below W3.heap.size W3 Z4 from ⟨by rw [← intL_push,HO.out]; exact hrow4,by
   have h1:Below W3.heap.size W3 (Z2.alloc (.cells #[.int .i64 ov] 3)):=hb2.trans (b3.mono hb2.size)
   exact ⟨hg4.os.trans h1.os,hg4.tape.trans h1.tape,hg4.output.trans h1.output,Nat.le_trans h1.size hg4.size,fun b hb=>(hg4.block b (nT hb h1.size) (fun e=>by have:=hrA.base b e.symm; omega)).trans (h1.block b hb)⟩⟩)
  clear hrow4 hg4 hloc4 hrA b3 r2 hb2 bz2 A3
  go_roundg (R.t3.length - (k+1))
  case measure=>omega
  case rel=>exact ⟨k+1,by omega,nL _,by go_num,H5.out⟩
 ·obtain rfl:k=R.t3.length:=by omega
  obtain ⟨p5,c5,hv5⟩:=H4.out.1.sl
  rw [intL_length] at hv5
  subst hv5
  have A4:=hid (rsolve_net rZ HR.out.1.solveFit P q (.slice p5 R.t3.length c5) H4.out.1.row H2.out.1.found.place H2.out.1.found.cert (fun b e q=>by
   have h1:=H4.out.1.base b e
   have h2:=HR.out.2.2.2.2.2.2 b q
   omega))
  have HZ:=hid rZ
  clear rZ XZ
  go_wp2_with (first
   | (go_at_call 43; refine A4.out.mono ?_; rintro e Z5 ⟨rfl,vs5,va5,hr5,_,_,ho5⟩)
   | fail)
  go_ret
  have hx:=H0.out.2.2.2.1
  have nP:=HR.out.2.2.2.2.1
  have nQ:=HR.out.2.2.2.2.2.1
  have s3:W3.heap.size≤Z0.heap.size:=H4.out.2.size
  refine ⟨rfl,{ x with x7:=.int .i64 (pcost (cR R) P R.t3.length),x8:=.bool true,x9:=.int .i64 (nodesR R),x10:=vs5,x11:=va5,R:=Rn R P R.t3.length,l1:=m1,l2:=m2,m1:=m1',m2:=m2' },⟨?_,?_,hr5,H2.out.1.sim,H3.out.1.sim,hx.d1,hx.d2,hx.d3⟩,?_,fun b hb=>Or.inl hb,rfl⟩
  ·exact (HR.out.2.1.below H4.out.2).move (fun b hb=>ho5.block b (by have:=nP b hb; omega) (hx.d2 b hb))
  ·exact (H3.out.1.plan.below H4.out.2).move (fun b hb=>ho5.block b (by have:=nQ b hb; omega) (hx.d3 b hb))
  ·refine ((HR.out.2.2.2.1.mono (fun b hb=>?_)).trans (Only.of_below H4.out.2)).trans (ho5.mono (fun b hb=>List.mem_append_right _ (List.mem_append_right _ hb)))
   rcases List.mem_append.1 hb with hb | hb
   ·exact List.mem_append_left _ hb
   ·exact List.mem_append_right _ (List.mem_append_left _ hb)
end
section
open Go.RowKit
section
variable {w w':World}{base wb:Nat}{v v' vh vh':Value}{xs xs':List Pr}{hs hs':List (Nat×List Nat)}
theorem step_solve (h:WAt w base wb v vh xs)(hn:0<xs.length)(hlen:xs.length<1000000000000)(m a b c d:Int)(y6 y7 y8 y9 y10:Value) :
  Calls Tryz.prog 11 #[.pointer (some ⟨wb,0,none⟩),.agg #[.int .i64 12,.int .i64 m,.int .i64 a,.int .i64 b,.int .i64 c,.int .i64 d,y6,y7,y8,y9,y10]] w fun e w'=>e=.returned (.bool true)∧∃ xs',WAt w' base wb v vh xs'∧xs'.length=xs.length∧Only (FW wb v xs) w w'∧∀ b∈FW wb v xs',b∈FW wb v xs∨w.heap.size≤b:=by
 obtain ⟨i,hi,hI,hm0,hm1⟩:=spot m xs.length hn
 have hl:wb<w.heap.size:=(gE.1 h.cells).1
 have hl1:wb<w.heap.size+1:=by omega
 have hl2:w.heap.size<w.heap.size+1:=by omega
 have c0:=cell_of h.cells 0
 simp only [l2,l0] at c0
 rcases h.row.shape (fun _=>rfl) with ⟨_,e0⟩ | ⟨g,cap,cur,hv,_,hgl,hle,_,hc⟩
 ·simp at e0; subst e0; simp at hn
 rw [List.length_map] at hv hle
 rw [hv] at c0
 have q0:=(hc i 0 (by simpa using hi) (by decide)).1
 have q1:=(hc i 1 (by simpa using hi) (by decide)).1
 have q2:=(hc i 2 (by simpa using hi) (by decide)).1
 simp only [cellsP,Pr.a,l0,l1,Nat.add_zero,List.getElem_map] at q0 q1 q2
 have hgl1:g<w.heap.size+1:=by omega
 have hiI:(i:Int)<(xs.length:Int):=by omega
 have hnz:¬ (xs.length:Int)=0:=by omega
 clear hc
 go_enter Tryz.func11,Tryz.ntmps11
 go_wp2_with fail
 go_region
 go_wp2_with fail
 have hbW:Below w.heap.size w ((w.alloc (.cells #[.int .i64 12,.int .i64 m,.int .i64 a,.int .i64 b,.int .i64 c,.int .i64 d,y6,y7,y8,y9,y10] 37)).alloc (.cells #[.pointer (some ⟨xs[i].pb,0,none⟩),.pointer (some ⟨xs[i].qb,0,none⟩),.pointer (some ⟨xs[i].rb,0,none⟩)] 47)).drew:=(((bR _ _).alloc (nL _) _).alloc (by simp) _).drew
 have hW:=h.below hbW
 have hx:=hW.ok _ (gM hi)
 have A1:=hid (solves_any hx)
 have HW:=hid (aI hW hbW)
 clear hx hW hbW
 refine A1.out.mono ?_
 rintro e w3 ⟨rfl,y,hy,hoy,hFy,hay⟩
 go_wp2_with fail
 go_ret
 exact ⟨rfl,xs.set i y,HW.out.1.upd hi hy hoy hFy hay,by simp,(Only.of_below HW.out.2).trans (hoy.mono (fun n hn=>mC _ (List.mem_append_right _ (List.mem_flatMap.2 ⟨_,gM hi,hn⟩)))),FW_set hi (fun b hb=>(hFy b hb).imp_right (fun q=>Nat.le_trans HW.out.2.size q))⟩
theorem step12 (h:WH w base wb v vh xs hs)(hx:0<xs.length)(hlen:xs.length<1000000000000)(hn:hs.length≤9000000000000)(k m a b c d N:Int)(hk:k≤12)(p q r s:Option Addr)(ls cs la ca lf cf lp cp:Nat)(S:Nat→Int)(A:Nat→Ar)(F P:Nat→Int)(hS:Ints w p ls S)(hA:Arcs w q la A)(hF:Ints w r lf F)(hP:Ints w s lp P)
  (hl0:ls*8≤140737488351232) (hl1:lf*8≤140737488351232) (hl2:lp*8≤140737488351232) (hl3:la*32≤140737488351232) :
  Calls Tryz.prog 11 #[.pointer (some ⟨wb,0,none⟩),.agg #[.int .i64 k,.int .i64 m,.int .i64 a,.int .i64 b,.int .i64 c,.int .i64 d,.int .i64 N,.slice p ls cs,.slice q la ca,.slice r lf cf,.slice s lp cp]] w fun e w'=>e=.returned (.bool true)∧∃ v' vh' xs' hs',Stepped w base wb v vh xs hs w' v' vh' xs' hs':=by
 by_cases hk11:k≤11
 ·exact step11 h hx hlen hn k m a b c d N hk11 p q r s ls cs la ca lf cf lp cp S A F P hS hA hF hP hl0 hl1 hl2 hl3
 ·obtain rfl:k=12:=by omega
  refine (step_solve h.plans hx hlen m a b c d (.int .i64 N) (.slice p ls cs) (.slice q la ca) (.slice r lf cf) (.slice s lp cp)).mono ?_
  rintro e w' ⟨rfl,xs',hw,h1,ho,hf⟩
  exact ⟨rfl,v,vh,xs',hs,h.moved hw ho hf,⟨by omega,by omega,Nat.le_add_right _ _⟩,below_of_only ho (fun b hb=>(h.plans.foots b hb).1) (by have:=(h.plans.foots wb List.mem_cons_self); omega),fun b hb h3 _=>ho.block b hb h3⟩
end
end
section
open Go.RowKit
theorem OpAt.below {w w':World}{sb o:Nat}(h:OpAt w sb o)(hs:sb<w.heap.size)(hb:Below w.heap.size w w'):OpAt w' sb o:=by
 obtain ⟨k,m,a,b,c,d,n6,p7,p8,p9,p10,l7,l8,l9,l10,z7,z8,z9,z10,S,A,F,P,⟨q0,q1,q2,q3,q4,q5,q6,q7,q8,q9,q10⟩,⟨hS,hA,hF,hP⟩,hl⟩:=h
 have mv:∀ o,w'.cell? ⟨sb,o,none⟩=w.cell? ⟨sb,o,none⟩:=fun o=>hb.cell (p:=⟨sb,o,none⟩) hs
 exact ⟨k,m,a,b,c,d,n6,p7,p8,p9,p10,l7,l8,l9,l10,z7,z8,z9,z10,S,A,F,P,⟨(mv _).trans q0,(mv _).trans q1,(mv _).trans q2,(mv _).trans q3,(mv _).trans q4,(mv _).trans q5,(mv _).trans q6,(mv _).trans q7,(mv _).trans q8,(mv _).trans q9,(mv _).trans q10⟩,⟨hS.below hb,hA.below hb,hF.below hb,hP.below hb⟩,hl⟩
theorem plays12 (w:World)(p:Option Addr)(len cap:Nat)(lo hi:Int)(hops:IsOpsC w p len)(hlen:len<999999999999) :
  Calls Tryz.prog 9 #[.slice p len cap,.int .i64 lo,.int .i64 hi,.int .i64 12] w fun e w'=>e=.returned (.bool true)∧Below w.heap.size w w':=by
 have hb1:Below w.heap.size w (w.alloc (.cells #[.slice none 0 0,.slice none 0 0] 29)):=(bR _ _).alloc (nL _) _
 have hw1:=wat0 w
 have A1:=hid (begin_any _ _ _ _ _ hw1.cells hw1.row (by simp))
 have Hw1:=hid hw1
 clear hw1
 go_enter Tryz.func9,Tryz.ntmps9
 go_wp2_with fail
 refine A1.out.mono ?_
 rintro e w2 ⟨rfl,v2,_,_,_,_,_,_,_,_,_,_,_,_,hB⟩
 obtain ⟨y,hw2,ho2,_⟩:=Hw1.out.begun hB
 have hb2:Below w.heap.size w w2:=hb1.trans (below_of_only ho2 (fun b hb=>(Hw1.out.foots b hb).1) hb1.size)
 clear hB A1
 have A2:=hid (step_build hw2 (by simp) (by simp) 2 0 0 0 0 0 (.int .i64 0) (.slice none 0 0) (.slice none 0 0) (.slice none 0 0) (.slice none 0 0) (by decide))
 go_wp2_with fail
 refine A2.out.mono ?_
 rintro e w3 ⟨rfl,xs3,hw3,hl3,ho3,_⟩
 have hb3:Below w.heap.size w w3:=hb2.trans (below_of_only ho3 (fun b hb=>(hw2.foots b hb).1) hb2.size)
 have hl3':xs3.length=1:=by simpa using hl3
 clear A2
 have A3:=hid (step_build hw3 (by omega) (by omega) 4 0 0 100 0 0 (.int .i64 0) (.slice none 0 0) (.slice none 0 0) (.slice none 0 0) (.slice none 0 0) (by decide))
 go_wp2_with fail
 refine A3.out.mono ?_
 rintro e w4 ⟨rfl,xs4,hw4,hl4,ho4,_⟩
 have hb4:Below w.heap.size w w4:=hb3.trans (below_of_only ho4 (fun b hb=>(hw3.foots b hb).1) hb3.size)
 have hl4':xs4.length=1:=by omega
 clear A3 hb1 hb2 hb3 hw2 hw3 ho2 ho3 ho4 Hw1 hl3 hl4 hl3'
 have Hs:=hid (aI hw4 (aI hl4' hb4))
 clear hw4 hl4' hb4
 go_wp2_with fail
 go_loopg [13] len (fun gk iv wr=>∃ (j:Nat) (v vh:Value) (xs:List Pr) (hs:List (Nat×List Nat)),j≤len∧len - j≤gk∧iv=.int .i64 j∧WH wr w.heap.size w.heap.size v vh xs hs∧0<xs.length∧xs.length≤j+1∧hs.length≤4*j∧Below w.heap.size w wr)
 case atStart=>exact ⟨0,_,_,_,_,Nat.zero_le _,nL _,rfl,wh0 Hs.out.1,by rw [Hs.out.2.1]; decide,by rw [Hs.out.2.1]; decide,Nat.zero_le _,Hs.out.2.2⟩
 case' round=>skip
 clear Hs
 obtain ⟨j,v,vh,xs,hs,hj,hgk,rfl,hw,hn,hlx,hhs,hb⟩:=hrel
 by_cases hlt:j<len
 ·rcases hops with h0 | ⟨sb,off,rfl,hsb,hc⟩
  ·omega
  obtain ⟨k,m,a,b,c,d,n6,p7,p8,p9,p10,l7,l8,l9,l10,z7,z8,z9,z10,S,A,F,P,⟨q0,q1,q2,q3,q4,q5,q6,q7,q8,q9,q10⟩,⟨hS,hA,hF,hP⟩,hl0,hl3,hl1,hl2⟩:=hc j hlt
  have mv:∀ o,wr.cell? ⟨sb,o,none⟩=w.cell? ⟨sb,o,none⟩:=fun o=>hb.cell (p:=⟨sb,o,none⟩) hsb
  rw [← mv] at q0 q1 q2 q3 q4 q5 q6 q7 q8 q9 q10
  have hsw:sb<wr.heap.size:=nT hsb hb.size
  have hjI:(j:Int)<(len:Int):=by omega
  clear mv hc
  have hbo:Below wr.heap.size wr (wr.alloc (.cells #[.int .i64 k,.int .i64 m,.int .i64 a,.int .i64 b,.int .i64 c,.int .i64 d,.int .i64 n6,.slice p7 l7 z7,.slice p8 l8 z8,.slice p9 l9 z9,.slice p10 l10 z10] 37)):=(bR _ _).alloc (nL _) _
  have hwo:=hw.below hbo
  by_cases hk:12<k
  ·go_wp2_with fail
   go_roundg (len - (j+1))
   case measure=>omega
   case rel=>exact ⟨j+1,v,vh,xs,hs,by omega,nL _,by go_num,hwo,hn,by omega,by omega,hb.trans (hbo.mono hb.size)⟩
  ·have hkd:decide (12<k)=false:=by simpa using hk
   have hbW:=hb.trans (hbo.mono hb.size)
   have A4:=hid (step12 hwo hn (by omega) (by omega) k m a b c d n6 (by omega) p7 p8 p9 p10 l7 z7 l8 z8 l9 z9 l10 z10 S A F P (hS.below hbW) (hA.below hbW) (hF.below hbW) (hP.below hbW) hl0 hl1 hl2 hl3)
   have Hw:=hid (aI hw (aI hwo (aI hb hbo)))
   clear hw hwo hb hbo hbW hS hA hF hP
   go_wp2_with fail
   refine A4.out.mono ?_
   rintro e w5 ⟨rfl,v5,vh5,xs5,hs5,T5⟩
   have hz5:wr.heap.size<w5.heap.size:=nT (by simp) T5.below.size
   have o1:=(T5.other wr.heap.size (by simp) (fun hm=>by have:=(Hw.out.1.plans.foots _ hm).2; omega) (fun e=>by have:=Hw.out.1.holds.row.lt e; omega)).trans (MapKept.heap_alloc wr _).1
   have f0:=(cells11 o1).1
   have Hb5:=hid (show Below w.heap.size w w5 from (Hw.out.2.2.1.trans (Hw.out.2.2.2.mono Hw.out.2.2.1.size)).trans T5.below)
   obtain ⟨hl5,hl6,hl7⟩:=T5.len
   obtain ⟨ph,ch,rfl,HH⟩:=T5.next.holds.holds
   have A6:=hid (looks_yes w5 _ _ _ _ _ T5.next.plans.cells HH (by omega))
   have HT:=hid T5.next
   clear T5 HH
   clear o1 A4 hkd hk
   by_cases h1:k=1
   ·subst h1
    go_wp2_with fail
    refine A6.out.mono ?_
    rintro e w6 ⟨rfl,hb6⟩
    go_wp2_with fail
    go_roundg (len - (j+1))
    case measure=>omega
    case rel=>exact ⟨j+1,v5,_,xs5,hs5,by omega,nL _,by go_num,HT.out.below hb6,by omega,by omega,by omega,beyond Hb5.out hb6⟩
   ·have h1b:(k == 1)=false:=by simpa using h1
    clear h1
    by_cases h2:lo≤k
    ·by_cases h3:k≤hi
     ·have h2b:decide (lo≤k)=true:=by simpa using h2
      have h3b:decide (k≤hi)=true:=by simpa using h3
      clear h2 h3
      go_wp2_with fail
      refine A6.out.mono ?_
      rintro e w6 ⟨rfl,hb6⟩
      go_wp2_with fail
      go_roundg (len - (j+1))
      case measure=>omega
      case rel=>exact ⟨j+1,v5,_,xs5,hs5,by omega,nL _,by go_num,HT.out.below hb6,by omega,by omega,by omega,beyond Hb5.out hb6⟩
     ·have h2b:decide (lo≤k)=true:=by simpa using h2
      have h3b:decide (k≤hi)=false:=by simpa using h3
      clear h2 h3
      go_wp2_with fail
      refine A6.out.mono ?_
      rintro e w6 ⟨rfl,hb6⟩
      go_wp2_with fail
      go_roundg (len - (j+1))
      case measure=>omega
      case rel=>exact ⟨j+1,v5,_,xs5,hs5,by omega,nL _,by go_num,HT.out.below hb6,by omega,by omega,by omega,beyond Hb5.out hb6⟩
    ·have h2b:decide (lo≤k)=false:=by simpa using h2
     clear h2
     go_wp2_with fail
     refine A6.out.mono ?_
     rintro e w6 ⟨rfl,hb6⟩
     go_wp2_with fail
     go_roundg (len - (j+1))
     case measure=>omega
     case rel=>exact ⟨j+1,v5,_,xs5,hs5,by omega,nL _,by go_num,HT.out.below hb6,by omega,by omega,by omega,beyond Hb5.out hb6⟩
 ·go_wp2
  go_ret
  exact ⟨rfl,hb⟩
end
end Go.Proofs.YtjdindfjfpdikaaGreat
