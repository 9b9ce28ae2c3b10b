import Derived.Deep.LoopGhost
import Derived.Deep.RegionHeld
import Derived.Test.YtjdindfjfpdikaaB01
import Derived.Test.YtjdindfjfpdikaaB30
import Derived.Test.YtjdindfjfpdikaaPre
set_option maxRecDepth 100000
set_option maxHeartbeats 8000000
namespace Go.Proofs.Ytjdindfjfpdikaa
section
open Go.RowKit
def S1 (nb:Nat)(more:Int)(W:World):Prop:=W.cell? ⟨nb,0,none⟩=some (.int .i64 more)∧nb<W.heap.size
theorem S1.of {nb:Nat}{more:Int}{W:World}(h:W.heap[nb]?=some (.cells #[.int .i64 more] 53)):S1 nb more W:=⟨by simp [World.cell?,h],(Ja.1 h).1⟩
structure MadeIs (c:Nat→Int)(len:Nat)(more:Int)(a:Nat)(slots:List Int)(tasks:Int)(R:RSt)(a':Nat):Prop where
 how:∃ (s1:RSt×Nat) (s2:RSt×Nat×List Int) (nt:Nat),madeRJ c len more 2 (R0,a)=s1∧machN c len more 4 (s1.1,s1.2,[])=s2∧s2.2.2=slots∧(nt:Int)=1+nv c len s2.2.1 6∧tasks=nt∧taskN c len more slots.length nt (s2.1,na len s2.2.1)=(R,a')
 ids:RK more R 2 2 slots.length tasks.toNat
 few:1≤slots.length∧slots.length≤4∧1≤tasks∧tasks≤6
 each:∀ s∈slots,1≤s∧s≤3
 at1:R.t1.map (·.2.2)=slots
theorem n5_t1 (R:RSt)(a b c:Int):(n5 R a b c).t1=R.t1:=by unfold n5; split <;> rfl
theorem Zhm (R:RSt)(t k i c:Int):(n6 R t k i c).t1=R.t1:=by unfold n6; split <;> rfl
theorem Zgr (c:Nat→Int)(len:Nat)(more:Int)(ns:Nat)(task:Int)(s:RSt×Nat):(wish1 c len more ns task s).1.t1=s.1.t1:=by
 unfold wish1
 split
 ·exact Zhm _ _ _ _ _
 ·exact Zhm _ _ _ _ _
theorem Zev (c:Nat→Int)(len:Nat)(more:Int)(ns:Nat)(task:Int):∀ (k:Nat)(s:RSt×Nat),(wishN c len more ns task k s).1.t1=s.1.t1
 | 0,_=>rfl
 | k+1,s=>(Zev c len more ns task k _).trans (Zgr c len more ns task s)
theorem Zes (c:Nat→Int)(len:Nat)(more:Int)(ns:Nat):∀ (k:Nat)(s:RSt×Nat),(taskN c len more ns k s).1.t1=s.1.t1
 | 0,_=>rfl
 | k+1,s=>((Zev c len more ns k _ _).trans (n5_t1 _ _ _ _)).trans (Zes c len more ns k s)
section
variable {base:Nat}{w0 w w':World}{mb pb b0 b1 b2 b3 xb:Nat}{more:Int}{vs:Value}{slots:List Int}{tasks:Int}{R R':RSt}{p:Option Addr}{len cap a a':Nat}{c:Nat→Int}
theorem MK.apart {nb:Nat}{cs:Array Value}(h:MK base w0 w mb pb b0 b1 b2 b3 xb more vs slots tasks R p len cap c a)(hn:w.heap[nb]?=some (.cells cs 53)):nb≠mb∧vs.ownBlock≠some nb:=by
 have hmc:=h.cells
 refine ⟨fun e=>?_,fun e=>?_⟩
 ·rw [e,hmc] at hn
  cases hn
 ·rcases h.row.2 with ⟨e1,_⟩ | ⟨g,cp,cur,e1,_,hg,_⟩
  ·rw [e1] at e; cases e
  ·rw [e1] at e
   cases e
   rw [hn] at hg
   cases hg
theorem MK.names {nb:Nat}{cs:Array Value}{o:Obj}{w1:World}{v':Value}(h:MK base w0 w mb pb b0 b1 b2 b3 xb more vs slots tasks R p len cap c a)(hn:w.heap[nb]?=some (.cells cs 53))(hg:(w.alloc o).grownBy w1 vs.ownBlock):(w1.setCell ⟨mb,2,none⟩ v').heap[nb]?=some (.cells cs 53):=by
 obtain ⟨h1,h2⟩:=h.apart hn
 have hl:=(Ja.1 hn).1
 have hne:¬ mb=nb:=fun e=>h1 e.symm
 simp only [World.setCell,Array.getElem?_modify,if_neg hne]
 rw [hg.block nb (by simp; omega) (fun e=>h2 e.symm),heap_alloc_old w _ hl,hn]
theorem ZgU (hd:DiceAt w xb p len cap c a)(hbw:base=w.heap.size+1)(hb0:w.alloc (.cells #[.int .i64 more] 53)=w0)(hm:0≤more∧more<100)(harg:∀ q,len≠0→p=some q→q.block<base) :
  Calls Try.prog 24 #[.pointer (some ⟨xb,0,none⟩),.agg #[.int .i64 more]] w fun e w'=>∃ mb pb b0 b1 b2 b3 vs slots tasks R a',e=.returned (.pointer (some ⟨mb,0,none⟩))∧MK base w0 w' mb pb b0 b1 b2 b3 xb more vs slots tasks R p len cap c a'∧MadeIs c len more a slots tasks R a':=by
 obtain ⟨W1,hW1⟩:∃ W1,w.alloc (.cells #[.int .i64 more] 53)=W1:=⟨_,rfl⟩
 have b1:Below w.heap.size w W1:=by rw [← hW1]; exact (Jd _ _).alloc (Jb _) _
 have X1:W1.heap[w.heap.size]?=some (.cells #[.int .i64 more] 53):=by rw [← hW1]; exact heap_alloc_new w _
 have z1:w.heap.size<W1.heap.size:=(Ja.1 X1).1
 have A1:=Zak (ZgZ W1)
 have H0:=Zak (Jc hW1 (Jc b1 (Jc X1 (Jc hd (Jc hbw (Jc hb0 (Jc hm harg)))))))
 clear hW1 b1 X1 hd hbw hb0 hm harg
 go_enter Try.func24,Try.ntmps24
 go_upto_region 1 with fail
 rw [H0.out.1]
 go_upto_region 4 with (first
  | (go_at_call 9; refine A1.out.mono ?_; rintro e W2 ⟨rfl,hp2,_,b2⟩)
  | fail)
 have X2:=(b2.block _ z1).trans H0.out.2.2.1
 have y0:W2.cell? ⟨w.heap.size,0,none⟩=some (.int .i64 more):=by simp [World.cell?,X2]
 have z2:w.heap.size<W2.heap.size:=(Ja.1 X2).1
 obtain ⟨pb,hpb⟩:∃ pb,W1.heap.size+1+1+1+1=pb:=⟨_,rfl⟩
 rw [hpb] at hp2
 simp only [hpb]
 have H2:=Zak (Jc hp2 (Jc b2 (Jc X2 hpb)))
 clear hp2 b2 X2 A1 hpb
 go_upto_region 5 with fail
 obtain ⟨mb,hmb⟩:∃ mb,W2.heap.size=mb:=⟨_,rfl⟩
 obtain ⟨W3,hW3⟩:∃ W3,W2.alloc (.cells #[.pointer (some ⟨pb,0,none⟩),.int .i64 more,.slice none 0 0,.int .i64 0] 58)=W3:=⟨_,rfl⟩
 have b3:Below W2.heap.size W2 W3:=by rw [← hW3]; exact (Jd _ _).alloc (Jb _) _
 have X3:W3.heap[mb]?=some (.cells #[.pointer (some ⟨pb,0,none⟩),.int .i64 more,.slice none 0 0,.int .i64 0] 58):=by rw [← hW3,← hmb]; exact heap_alloc_new W2 _
 rw [hW3]
 simp only [hmb]
 have bw3:Below w.heap.size w W3:=Zai (Zai H0.out.2.1 H2.out.2.1) b3
 have N3:=(b3.block _ z2).trans H2.out.2.2.1
 have M3:MK base w0 W3 mb pb W1.heap.size (W1.heap.size+1) (W1.heap.size+1+1) (W1.heap.size+1+1+1) xb more (.slice none 0 0) [] 0 R0 p len cap c a:=by
  have e1:=H0.out.1
  have e2:=H0.out.2.2.2.2.2.1
  have e3:W1=w0:=e1.symm.trans e2
  have h2:=H0.out.2.2.2.2.1
  have h3:=H2.out.2.2.2
  have h4:W1.heap.size=w.heap.size+1:=by rw [← e1]; simp
  have h5:=H2.out.2.1.size
  refine ⟨X3,NRow.nil _ _,⟨[],[],[],[],H2.out.1.below b3,sim0⟩,H0.out.2.2.2.1.cel (Cel.of_below bw3),fun b hb=>?_,BelowX.of xb (e3 ▸ ((Zai H2.out.2.1 b3).mono (by omega))),H0.out.2.2.2.2.2.2.1,H0.out.2.2.2.2.2.2.2⟩
  simp only [List.mem_cons,List.not_mem_nil,or_false] at hb
  rcases hb with rfl | rfl | rfl | rfl | rfl | rfl <;> omega
 obtain ⟨nb,hnb⟩:∃ nb,w.heap.size=nb:=⟨_,rfl⟩
 rw [hnb] at N3
 simp only [hnb]
 have H3:=Zak (Jc M3 N3)
 clear hW3 hmb b3 X3 bw3 N3 M3 y0 z2
 go_wp2_with fail
 go_loopg [7,8] 2 (fun gk okv kv wr=>∃ k:Nat,k≤2∧2 - k≤gk∧okv=.bool true∧kv=.int .i64 k∧Hid (MK base w0 wr mb pb W1.heap.size (W1.heap.size+1) (W1.heap.size+1+1) (W1.heap.size+1+1+1) xb more (.slice none 0 0) [] 0 (madeRJ c len more k (R0,a)).1 p len cap c (madeRJ c len more k (R0,a)).2∧RK more (madeRJ c len more k (R0,a)).1 k k 0 0∧wr.heap[nb]?=some (.cells #[.int .i64 more] 53)))
 case atStart=>exact ⟨0,by omega,by omega,rfl,rfl,(show _∧_∧_ from ⟨H3.out.1,rk0,H3.out.2⟩)⟩
 case' round=>skip
 obtain ⟨k,hk2,hgk,rfl,rfl,HR⟩:=hrel
 rename World=>Z0
 have n0:Z0.cell? ⟨nb,0,none⟩=some (.int .i64 more):=by simp [World.cell?,HR.out.2.2]
 have m0:nb<Z0.heap.size:=(Ja.1 HR.out.2.2).1
 by_cases hk:k<2
 ·have hkI:(k:Int)<2:=by omega
  obtain ⟨q,hq⟩:∃ q,madeRJ c len more k (R0,a)=q:=⟨_,rfl⟩
  have HR':=HR.out
  rw [hq] at HR'
  have B1:=Zak (Zc2 HR'.1 (k:Int) (by omega) (by omega))
  have K2:=HR'.2.1.rack (by omega:k<4)
  have hv:=Zaz c len q.2 (n:=200) (by omega)
  have K4:=K2.2.job (by omega:k<4) hv.1 (by omega)
  have HK:=Zak (Jc hq (Jc HR' (Jc K2 K4)))
  clear HR' K2 K4 HR hq
  go_upto_region 10 with (first
   | (go_at_call 31; refine B1.out.mono ?_; rintro e Y1 ⟨rfl,M1,C1⟩; have B2:=Zfd M1 (idOf more k); rw [HK.out.2.2.1.1] at B2; have C1:=Zak C1; clear M1)
   | (go_at_call 11; refine B2.mono ?_; rintro e Y2 ⟨rfl,M2,C2⟩; have H4:=Zak (Jc M2 (C1.out.trans C2)); clear M2 C2 B2)
   | fail)
  have N2:=H4.out.2 _ _ _ _ (by decide) HK.out.2.1.2.2
  have n2':Y2.cell? ⟨nb,0,none⟩=some (.int .i64 more):=by simp [World.cell?,N2]
  have m2:nb<Y2.heap.size:=(Ja.1 N2).1
  have B3:=Zak (Zc2 H4.out.1 (k:Int) (by omega) (by omega))
  clear n0 m0 B1 N2 C1
  go_upto_region 11 with (first
   | (go_at_call 31; refine B3.out.mono ?_; rintro e Y3 ⟨rfl,M3,C3⟩; have B4:=Zak (Zbt M3 200 (by omega) (by omega)); have C3:=Zak C3; clear M3)
   | (go_at_call 39; refine B4.out.mono ?_; rintro e Y4 ⟨rfl,M4,C4⟩; have B5:=Zhi M4 (idOf more k) (nv c len q.2 200); rw [HK.out.2.2.2.1] at B5; have C4:=Zak (C3.out.trans C4); clear M4)
   | (go_at_call 13; refine B5.mono ?_; rintro e Y5 ⟨rfl,M5,C5⟩; have H5:=Zak (Jc M5 (H4.out.2.trans (C4.out.trans C5))); clear M5 C5 B5)
   | fail)
  go_wp2_with fail
  go_roundg (2 - (k+1))
  case measure=>omega
  case rel =>
   have e:madeRJ c len more (k+1) (R0,a)=(n4 (n2 q.1 (idOf more k)) (idOf more k) (nv c len q.2 200),na len q.2):=by rw [← HK.out.1]; rfl
   exact ⟨k+1,by omega,Jb _,rfl,by go_num,(show _∧_∧_ from ⟨by rw [e]; exact H5.out.1,by rw [e]; exact HK.out.2.2.2.2,H5.out.2 _ _ _ _ (by decide) HK.out.2.1.2.2⟩)⟩
 ·obtain rfl:k=2:=by omega
  obtain ⟨s1,hs1⟩:∃ s1,madeRJ c len more 2 (R0,a)=s1:=⟨_,rfl⟩
  have HR':=HR.out
  rw [hs1] at HR'
  have B1:=Zak (Zc2 HR'.1 (0:Int) (by omega) (by omega))
  have K2:=HR'.2.1.again (by omega) (by omega)
  have HK:=Zak (Jc hs1 (Jc HR' K2))
  clear HR' K2 HR hs1
  go_upto_region 14 with (first
   | (go_at_call 31; refine B1.out.mono ?_; rintro e Y1 ⟨rfl,M1,C1⟩; have B2:=Zfd M1 (idOf more 0); rw [HK.out.2.2.1,HK.out.2.2.2] at B2; have C1:=Zak C1; clear M1)
   | (go_at_call 11; refine B2.mono ?_; rintro e Y2 ⟨rfl,M2,C2⟩; have H4:=Zak (Jc M2 (C1.out.trans C2)); clear M2 C2 B2)
   | fail)
  have N2:=H4.out.2 _ _ _ _ (by decide) HK.out.2.1.2.2
  have H5:=Zak (Jc H4.out.1 N2)
  clear n0 m0 B1 N2 C1
  go_wp2_with fail
  go_loopg [7,12] 4 (fun gk okv kv wr=>∃ (s:RSt×Nat×List Int) (vs:Value),s.2.2.length≤4∧4 - s.2.2.length≤gk∧okv=.bool true∧kv=.int .i64 s.2.2.length∧Hid (MK base w0 wr mb pb W1.heap.size (W1.heap.size+1) (W1.heap.size+1+1) (W1.heap.size+1+1+1) xb more vs s.2.2 0 s.1 p len cap c s.2.1∧RK more s.1 2 2 s.2.2.length 0∧wr.heap[nb]?=some (.cells #[.int .i64 more] 53)∧(∀ x∈s.2.2,1≤x∧x≤3)∧s.1.t1.map (·.2.2)=s.2.2∧machN c len more (4 - s.2.2.length) s=machN c len more 4 (s1.1,s1.2,[])))
  case atStart=>exact ⟨(s1.1,s1.2,[]),_,by simp,by simp,rfl,rfl,(show _∧_∧_∧_∧_∧_ from ⟨H5.out.1,HK.out.2.1.2.1,H5.out.2,by simp,by rw [List.eq_nil_of_length_eq_zero (ZbZ HK.out.2.1.2.1.i1)]; rfl,rfl⟩)⟩
  case' round=>skip
  obtain ⟨s,vs,hs4,hgk,rfl,rfl,HL⟩:=hrel
  rename World=>Z1
  have A1:=Zak (Zbt HL.out.1 4 (by omega) (by omega))
  have hv4:=Zaz c len s.2.1 (n:=4) (by omega)
  by_cases hlt:(s.2.2.length:Int)<1+nv c len s.2.1 4
  ·have hl4:(s.2.2.length:Int)<4:=by omega
   go_upto_region 17 with (first
    | (go_at_call 39; refine A1.out.mono ?_; rintro e Y1 ⟨rfl,M1,C1⟩)
    | fail)
   have A2:=Zak (Zbt M1 3 (by omega) (by omega))
   have hv3:=Zaz c len (na len s.2.1) (n:=3) (by omega)
   have J1:=Zak (C1 _ _ _ _ (by decide) HL.out.2.2.1)
   clear M1 C1 A1
   go_upto_region 18 with (first
    | (go_at_call 39; refine A2.out.mono ?_; rintro e Y2 ⟨rfl,M2,C2⟩)
    | fail)
   have G0:=Zak (show Y2.drew.heap[nb]?=some (.cells #[.int .i64 more] 53) from C2 _ _ _ _ (by decide) J1.out)
   have u0:Y2.cell? ⟨nb,0,none⟩=some (.int .i64 more):=(S1.of (W:=Y2) G0.out).1
   have u1:nb<Y2.heap.size:=(S1.of (W:=Y2) G0.out).2
   have D1:=Zak (Zc2 M2.drew (s.2.2.length:Int) (by omega) (by omega))
   have hv2:=Zaz c len (na len (na len s.2.1)) (n:=2) (by omega)
   have KM:=Zak (show c3 s.1 (idOf more s.2.2.length) (idOf more (nv c len (na len (na len s.2.1)) 2)) (1+nv c len (na len s.2.1) 3)=0∧RK more (n3 s.1 (idOf more s.2.2.length) (idOf more (nv c len (na len (na len s.2.1)) 2)) (1+nv c len (na len s.2.1) 3)) 2 2 (s.2.2.length+1) 0 from by
    have:=HL.out.2.1.mach (by omega) (by omega) (r:=(nv c len (na len (na len s.2.1)) 2).toNat) (by omega) (v:=1+nv c len (na len s.2.1) 3) (by omega) (by omega)
    rwa [Int.toNat_of_nonneg hv2.1] at this)
   clear M2 C2 A2 J1
   have hS0:S1 nb more Y2.drew:=⟨u0,u1⟩
   refine wp_region_held_drew (S:=S1 nb more) (by kernel_rfl) hS0 (fun _=>?_)
   refine tkH (v:=?_) 0 72 hS0 ?_ ?_; rotate_left 1
   ·(rintro w' ⟨e0,e1⟩; go_simp; try with_reducible rfl)
   simp only [Act.put,Jh,Ji,Jj]
   refine tkH (v:=?_) 1 73 hS0 ?_ ?_; rotate_left 1
   ·(rintro w' ⟨e0,e1⟩; go_simp; try with_reducible rfl)
   simp only [Act.put,Jh,Ji,Jj]
   refine tkH (v:=?_) 2 74 hS0 ?_ ?_; rotate_left 1
   ·(rintro w' ⟨e0,e1⟩; go_simp; try with_reducible rfl)
   simp only [Act.put,Jh,Ji,Jj]
   refine tkH (v:=?_) 4 76 hS0 ?_ ?_; rotate_left 1
   ·(rintro w' ⟨e0,e1⟩; go_simp; try with_reducible rfl)
   simp only [Act.put,Jh,Ji,Jj]
   refine tkH (v:=?_) 5 77 hS0 ?_ ?_; rotate_left 1
   ·(rintro w' ⟨e0,e1⟩; go_simp; try with_reducible rfl)
   simp only [Act.put,Jh,Ji,Jj]
   refine tkH (v:=?_) 8 80 hS0 ?_ ?_; rotate_left 1
   ·(rintro w' ⟨e0,e1⟩; go_simp; try with_reducible rfl)
   simp only [Act.put,Jh,Ji,Jj]
   refine wpAnyH_ready (rs:=[3]) (by kernel_rfl) (by simp) ?_
   refine AllReadyH.cons rfl (fun K hK=>?_) AllReadyH.nil
   go_simp
   refine D1.out.mono ?_
   rintro e T1 ⟨rfl,M1,C1⟩
   have G1:=C1 _ _ _ _ (by decide) G0.out
   have hS1:S1 nb more T1:=S1.of G1
   refine hK.out _ _ hS1 (fun _=>?_)
   clear hK K
   have D2:=Zak (Zbt M1 2 (by omega) (by omega))
   have F1:=Zak (Jc G1 C1)
   clear M1 G1 C1 D1
   refine wpAnyH_ready (rs:=[6]) (by kernel_rfl) (by simp) ?_
   refine AllReadyH.cons rfl (fun K hK=>?_) AllReadyH.nil
   go_simp
   refine D2.out.mono ?_
   rintro e T2 ⟨rfl,M2,C2⟩
   have G2:=C2 _ _ _ _ (by decide) F1.out.1
   have hS2:S1 nb more T2:=S1.of G2
   refine hK.out _ _ hS2 (fun _=>?_)
   clear hK K
   have D3:=Zak (Zc2 M2 (nv c len (na len (na len s.2.1)) 2) hv2.1 (by omega))
   have F2:=Zak (Jc G2 C2)
   clear M2 G2 C2 D2
   refine wpAnyH_ready (rs:=[7]) (by kernel_rfl) (by simp) ?_
   refine AllReadyH.cons rfl (fun K hK=>?_) AllReadyH.nil
   go_simp
   refine D3.out.mono ?_
   rintro e T3 ⟨rfl,M3,C3⟩
   have G3:=C3 _ _ _ _ (by decide) F2.out.1
   have hS3:S1 nb more T3:=S1.of G3
   refine hK.out _ _ hS3 (fun _=>?_)
   clear hK K
   have D4:=Zfc M3 (idOf more s.2.2.length) (idOf more (nv c len (na len (na len s.2.1)) 2)) (1+nv c len (na len s.2.1) 3)
   rw [KM.out.1] at D4
   have D4:=Zak D4
   have F3:=Zak (Jc G3 C3)
   clear M3 G3 C3 D3
   refine wpAnyH_ready (rs:=[9]) (by kernel_rfl) (by simp) ?_
   refine AllReadyH.cons rfl (fun K hK=>?_) AllReadyH.nil
   go_simp
   refine D4.out.mono ?_
   rintro e T4 ⟨rfl,M4,C4⟩
   have G4:=C4 _ _ _ _ (by decide) F3.out.1
   have hS4:S1 nb more T4:=S1.of G4
   refine hK.out _ _ hS4 (fun _=>?_)
   clear hK K
   have F4:=Zak (Jc G4 M4)
   clear M4 G4 C4 D4 hS0 hS1 hS2 hS3
   refine tkH (v:=?_) 10 14 hS4 ?_ ?_; rotate_left 1
   ·(rintro w' ⟨e0,e1⟩; go_simp; try with_reducible rfl)
   simp only [Act.put,Jh,Ji,Jj]
   refine wpAnyH_done (by kernel_rfl) ?_ _
   have MT:=F4.out.2
   obtain ⟨pv,cv,rfl⟩:=MT.row.sl'
   obtain ⟨q0,q1,q2,q3⟩:=MT.cs
   have hmT:=MT.lt
   have hbT:=MT.base_le
   obtain ⟨X,hX⟩:∃ X:Int,1+nv c len (na len s.2.1) 3=X:=⟨_,rfl⟩
   simp only [hX]
   have hrA:NRow base (T4.alloc (.cells #[.int .i64 X] 3)) (.slice pv s.2.2.length cv) s.2.2:=MT.row.below ((Jd _ _).alloc (Jb _) _)
   have HX:=Zak hX
   clear MT hX hS4
   go_wp2_with (first
    | (at_builtin; refine Zba _ base X _ _ rfl _ _ rfl rfl hrA T4.heap.size rfl (by simp) (by simp; omega) (by omega) ?_; intro v' T5 hrow hg hloc; obtain ⟨pv',cv',rfl⟩:=hrow.sl'; have hT5:T5.heap[mb]?=_:=(hg.block mb (by simp; omega) (fun e=>ZgW F4.out.2 e.symm)).trans ((heap_alloc_old T4 _ hmT).trans F4.out.2.cells); have o2:T5.cell? ⟨mb,2,none⟩=some (.slice pv s.2.2.length cv):=(by simp [World.cell?,hT5]); have o3:T5.frozen? ⟨mb,2,none⟩=false:=(by simp [World.frozen?,hT5]); have o4:mb<T5.heap.size:=(Ja.1 hT5).1; have HP:=Zak (Jc (F4.out.2.pushed hrow hg hloc) (Jc hT5 (Jc hg hloc))); clear hrow hg hloc hT5)
    | fail)
   go_roundg (4 - (s.2.2.length+1))
   case measure=>omega
   case rel =>
    have eM:machN c len more (4 - s.2.2.length) s=machN c len more (4 - (s.2.2.length+1)) (mach1 c len more s.2.2.length (s.1,na len s.2.1,s.2.2)):=by
     rw [show 4 - s.2.2.length=(4 - (s.2.2.length+1))+1 by omega]
     show (if _ then _ else _)=_
     rw [if_pos hlt]
    have hX:=HX.out
    subst hX
    have hN3:n3 s.1 (idOf more s.2.2.length) (idOf more (nv c len (na len (na len s.2.1)) 2)) (1+nv c len (na len s.2.1) 3)={ s.1 with t1:=s.1.t1 ++ [(idOf more s.2.2.length,idOf more (nv c len (na len (na len s.2.1)) 2),1+nv c len (na len s.2.1) 3)] }:=by unfold n3; rw [if_pos KM.out.1]
    have hp1:=HP.out.1
    simp only [Jo,List.length_cons,List.length_nil,Nat.zero_add] at hp1
    refine ⟨mach1 c len more s.2.2.length (s.1,na len s.2.1,s.2.2),_,?_,?_,rfl,?_,(show _∧_∧_∧_∧_∧_ from ⟨hp1,?_,F4.out.2.names F4.out.1 HP.out.2.2.1,fun x hx=>?_,?_,?_⟩)⟩
    ·show (s.2.2 ++ [_]).length≤4
     simp; omega
    ·show 4 - (s.2.2 ++ [_]).length≤_
     simp
    ·show _=Value.int .i64 ((s.2.2 ++ [1+nv c len (na len s.2.1) 3]).length:Nat)
     rw [Jo]
     go_num
    ·show RK more _ 2 2 (s.2.2 ++ [_]).length 0
     rw [Jo]
     exact KM.out.2
    ·have hx':x∈s.2.2 ++ [1+nv c len (na len s.2.1) 3]:=hx
     rcases List.mem_append.1 hx' with hx | hx
     ·exact HL.out.2.2.2.1 x hx
     ·rw [List.mem_singleton.1 hx]; omega
    ·show (n3 s.1 (idOf more s.2.2.length) (idOf more (nv c len (na len (na len s.2.1)) 2)) (1+nv c len (na len s.2.1) 3)).t1.map (fun x:Th=>x.2.2)=s.2.2 ++ [1+nv c len (na len s.2.1) 3]
     rw [hN3]
     show (s.1.t1 ++ [(idOf more s.2.2.length,idOf more (nv c len (na len (na len s.2.1)) 2),1+nv c len (na len s.2.1) 3)]).map (fun x:Th=>x.2.2)=_
     rw [List.map_append,HL.out.2.2.2.2.1]
     rfl
    ·show machN c len more (4 - (s.2.2 ++ [_]).length) _=_
     rw [Jo]
     exact eM.symm.trans HL.out.2.2.2.2.2
  ·go_upto_region 21 with (first
    | (go_at_call 39; refine A1.out.mono ?_; rintro e Y1 ⟨rfl,M1,C1⟩)
    | fail)
   have hnm:1≤s.2.2.length:=by omega
   have eM:machN c len more (4 - s.2.2.length) s=(s.1,na len s.2.1,s.2.2):=by
    cases 4 - s.2.2.length with
    | zero=>rfl
    | succ f =>
     show (if _ then _ else _)=_
     rw [if_neg (by omega)]
   have A3:=Zak (Zbt M1 6 (by omega) (by omega))
   have hv6:=Zaz c len (na len s.2.1) (n:=6) (by omega)
   have J1:=Zak (C1 _ _ _ _ (by decide) HL.out.2.2.1)
   clear M1 C1 A1
   go_upto_region 22 with (first
    | (go_at_call 39; refine A3.out.mono ?_; rintro e Y2 ⟨rfl,M2,C2⟩; have hY2:=M2.cells; have o3:Y2.cell? ⟨mb,3,none⟩=some (.int .i64 0):=(by simp [World.cell?,hY2]); have o4:Y2.frozen? ⟨mb,3,none⟩=false:=(by simp [World.frozen?,hY2]); have o5:mb<Y2.heap.size:=(Ja.1 hY2).1; have H6:=Zak (Jc (M2.told (1+nv c len (na len s.2.1) 6)) (Jc (M2.apart (C2 _ _ _ _ (by decide) J1.out)).1 (C2 _ _ _ _ (by decide) J1.out))); clear M2 C2 hY2)
    | fail)
   obtain ⟨nt,hnt⟩:∃ nt:Nat,1+nv c len (na len s.2.1) 6=(nt:Int):=⟨(1+nv c len (na len s.2.1) 6).toNat,by omega⟩
   have hnt1:1≤nt∧nt≤6:=by omega
   obtain ⟨W6,hW6⟩:∃ W6,Y2.setCell ⟨mb,3,none⟩ (.int .i64 (1+nv c len (na len s.2.1) 6))=W6:=⟨_,rfl⟩
   have N6:W6.heap[nb]?=some (.cells #[.int .i64 more] 53):=by
    have hne:¬ mb=nb:=fun e=>H6.out.2.1 e.symm
    rw [← hW6]
    simp [World.setCell,Array.getElem?_modify,hne,H6.out.2.2]
   have M6:=H6.out.1
   rw [hW6,hnt] at M6
   rw [hW6]
   have nbx:nb≠xb∧nb<base:=by
    have h1:=H0.out.2.2.2.1.cells
    have h2:=(Ja.1 h1).1
    have h3:=H0.out.2.2.2.2.1
    omega
   have nb0:w0.heap[nb]?=some (.cells #[.int .i64 more] 53):=by
    have h1:=H0.out.2.2.2.2.2.1
    rw [← h1,← hnb]
    exact heap_alloc_new w _
   have H7:=Zak (Jc M6 (Jc N6 (Jc hnt (Jc nbx nb0))))
   clear hW6 M6 N6 hnt nbx nb0 o3 o4 o5 H6 hv6 A3
   go_wp2_with fail
   go_loopg [7,15] 6 (fun gk okv kv wr=>∃ (k:Nat) (s3:RSt×Nat),k≤nt∧nt - k≤gk∧okv=.bool true∧kv=.int .i64 k∧Hid (MK base w0 wr mb pb W1.heap.size (W1.heap.size+1) (W1.heap.size+1+1) (W1.heap.size+1+1+1) xb more vs s.2.2 nt s3.1 p len cap c s3.2∧RK more s3.1 2 2 s.2.2.length k∧wr.heap[nb]?=some (.cells #[.int .i64 more] 53)∧taskN c len more s.2.2.length k (s.1,na len (na len s.2.1))=s3))
   case atStart=>exact ⟨0,(s.1,na len (na len s.2.1)),by omega,by omega,rfl,rfl,(show _∧_∧_∧_ from ⟨H7.out.1,HL.out.2.1,H7.out.2.1,rfl⟩)⟩
   case' round=>skip
   obtain ⟨k,s3,hkt,hgk3,rfl,rfl,HT⟩:=hrel
   rename World=>Z2
   obtain ⟨_,_,_,z3⟩:=HT.out.1.cs
   have z4:=HT.out.1.lt
   by_cases hk:k<nt
   ·have hkI:(k:Int)<(nt:Int):=by omega
    have G0:=Zak (show Z2.drew.heap[nb]?=some (.cells #[.int .i64 more] 53) from HT.out.2.2.1)
    have u0:Z2.cell? ⟨nb,0,none⟩=some (.int .i64 more):=(S1.of (W:=Z2) G0.out).1
    have u1:nb<Z2.heap.size:=(S1.of (W:=Z2) G0.out).2
    have D1:=Zak (Zc2 HT.out.1.drew (k:Int) (by omega) (by omega))
    have hv2:=Zaz c len s3.2 (n:=2) (by omega)
    have hv20:=Zaz c len (na len s3.2) (n:=200) (by omega)
    have KT:=Zak (show c5 s3.1 (idOf more k) (idOf more (nv c len s3.2 2)) (nv c len (na len s3.2) 200)=0∧RK more (n5 s3.1 (idOf more k) (idOf more (nv c len s3.2 2)) (nv c len (na len s3.2) 200)) 2 2 s.2.2.length (k+1) from by
     have:=HT.out.2.1.task (by omega) (by omega) (j:=(nv c len s3.2 2).toNat) (by omega) (v:=nv c len (na len s3.2) 200) hv20.1 (by omega)
     rwa [Int.toNat_of_nonneg hv2.1] at this)
    go_upto_region 25 with fail
    have hS0:S1 nb more Z2.drew:=⟨u0,u1⟩
    refine wp_region_held_drew (S:=S1 nb more) (by kernel_rfl) hS0 (fun _=>?_)
    refine tkH (v:=?_) 0 111 hS0 ?_ ?_; rotate_left 1
    ·(rintro w' ⟨e0,e1⟩; go_simp; try with_reducible rfl)
    simp only [Act.put,Jh,Ji,Jj]
    refine tkH (v:=?_) 1 112 hS0 ?_ ?_; rotate_left 1
    ·(rintro w' ⟨e0,e1⟩; go_simp; try with_reducible rfl)
    simp only [Act.put,Jh,Ji,Jj]
    refine tkH (v:=?_) 2 113 hS0 ?_ ?_; rotate_left 1
    ·(rintro w' ⟨e0,e1⟩; go_simp; try with_reducible rfl)
    simp only [Act.put,Jh,Ji,Jj]
    refine tkH (v:=?_) 4 115 hS0 ?_ ?_; rotate_left 1
    ·(rintro w' ⟨e0,e1⟩; go_simp; try with_reducible rfl)
    simp only [Act.put,Jh,Ji,Jj]
    refine tkH (v:=?_) 5 116 hS0 ?_ ?_; rotate_left 1
    ·(rintro w' ⟨e0,e1⟩; go_simp; try with_reducible rfl)
    simp only [Act.put,Jh,Ji,Jj]
    refine tkH (v:=?_) 8 119 hS0 ?_ ?_; rotate_left 1
    ·(rintro w' ⟨e0,e1⟩; go_simp; try with_reducible rfl)
    simp only [Act.put,Jh,Ji,Jj]
    refine wpAnyH_ready (rs:=[3]) (by kernel_rfl) (by simp) ?_
    refine AllReadyH.cons rfl (fun K hK=>?_) AllReadyH.nil
    go_simp
    refine D1.out.mono ?_
    rintro e T1 ⟨rfl,M1,C1⟩
    have G1:=C1 _ _ _ _ (by decide) G0.out
    have hS1:S1 nb more T1:=S1.of G1
    refine hK.out _ _ hS1 (fun _=>?_)
    clear hK K
    have D2:=Zak (Zbt M1 2 (by omega) (by omega))
    have F1:=Zak (Jc G1 C1)
    clear M1 G1 C1 D1
    refine wpAnyH_ready (rs:=[6]) (by kernel_rfl) (by simp) ?_
    refine AllReadyH.cons rfl (fun K hK=>?_) AllReadyH.nil
    go_simp
    refine D2.out.mono ?_
    rintro e T2 ⟨rfl,M2,C2⟩
    have G2:=C2 _ _ _ _ (by decide) F1.out.1
    have hS2:S1 nb more T2:=S1.of G2
    refine hK.out _ _ hS2 (fun _=>?_)
    clear hK K
    have D3:=Zak (Zc2 M2 (nv c len s3.2 2) hv2.1 (by omega))
    have F2:=Zak (Jc G2 C2)
    clear M2 G2 C2 D2
    refine wpAnyH_ready (rs:=[7]) (by kernel_rfl) (by simp) ?_
    refine AllReadyH.cons rfl (fun K hK=>?_) AllReadyH.nil
    go_simp
    refine D3.out.mono ?_
    rintro e T3 ⟨rfl,M3,C3⟩
    have G3:=C3 _ _ _ _ (by decide) F2.out.1
    have hS3:S1 nb more T3:=S1.of G3
    refine hK.out _ _ hS3 (fun _=>?_)
    clear hK K
    have D4:=Zak (Zbt M3 200 (by omega) (by omega))
    have F3:=Zak (Jc G3 C3)
    clear M3 G3 C3 D3
    refine wpAnyH_ready (rs:=[9]) (by kernel_rfl) (by simp) ?_
    refine AllReadyH.cons rfl (fun K hK=>?_) AllReadyH.nil
    go_simp
    refine D4.out.mono ?_
    rintro e T4 ⟨rfl,M4,C4⟩
    have G4:=C4 _ _ _ _ (by decide) F3.out.1
    have hS4:S1 nb more T4:=S1.of G4
    refine hK.out _ _ hS4 (fun _=>?_)
    clear hK K
    have D5:=Zfe M4 (idOf more k) (idOf more (nv c len s3.2 2)) (nv c len (na len s3.2) 200)
    rw [KT.out.1] at D5
    have D5:=Zak D5
    have F4:=Zak (Jc G4 C4)
    clear M4 G4 C4 D4
    refine wpAnyH_ready (rs:=[10]) (by kernel_rfl) (by simp) ?_
    refine AllReadyH.cons rfl (fun K hK=>?_) AllReadyH.nil
    go_simp
    refine D5.out.mono ?_
    rintro e T5 ⟨rfl,M5,C5⟩
    have G5:=C5 _ _ _ _ (by decide) F4.out.1
    have hS5:S1 nb more T5:=S1.of G5
    refine hK.out _ _ hS5 (fun _=>?_)
    clear hK K
    have F5:=Zak (Jc G5 M5)
    clear M5 G5 C5 D5 hS0 hS1 hS2 hS3 hS4
    refine tkH (v:=?_) 11 16 hS5 ?_ ?_; rotate_left 1
    ·(rintro w' ⟨e0,e1⟩; go_simp; try with_reducible rfl)
    simp only [Act.put,Jh,Ji,Jj]
    refine wpAnyH_done (by kernel_rfl) ?_ _
    have WA:=Zak (Zgs F5.out.2 (k:Int) (by omega) (by omega) hnm (by omega))
    go_wp2_with (first
     | (go_at_call 40; refine WA.out.mono ?_; rintro e T6 ⟨rfl,M6⟩; have F6:=Zak M6; clear M6)
     | fail)
    go_roundg (nt - (k+1))
    case measure=>omega
    case rel =>
     refine ⟨k+1,task1 c len more s.2.2.length k s3,by omega,Jb _,rfl,by go_num,(show _∧_∧_∧_ from ⟨F6.out,KT.out.2.wishT c len s.2.2.length k _,(F6.out.below.block nb H7.out.2.2.2.1.2 H7.out.2.2.2.1.1).trans H7.out.2.2.2.2,?_⟩)⟩
     rw [← HT.out.2.2.2]
     rfl
   ·obtain rfl:k=nt:=by omega
    have hkI:¬ (k:Int)<(k:Int):=by omega
    have hsl:=HL.out.2.2.2.2.2
    rw [eM] at hsl
    have IS:=Zak (show MadeIs c len more a s.2.2 k s3.1 s3.2 from ⟨⟨s1,(s.1,na len s.2.1,s.2.2),k,HK.out.1,hsl.symm,rfl,H7.out.2.2.1.symm,rfl,HT.out.2.2.2⟩,(by simpa using HT.out.2.1),(by omega),HL.out.2.2.2.1,(by rw [← HT.out.2.2.2,Zes]; exact HL.out.2.2.2.2.1)⟩)
    go_wp2_with fail
    go_ret
    exact ⟨mb,rfl,pb,_,_,_,_,vs,s.2.2,k,s3.1,s3.2,HT.out.1,IS.out⟩
theorem Zd6 (hd:DiceAt w xb p len cap c a)(hbw:base≤w.heap.size)(hb0:BelowX base xb w0 w)(hm:0≤more∧more<100)(harg:∀ q,len≠0→p=some q→q.block<base) :
  Calls Try.prog 24 #[.pointer (some ⟨xb,0,none⟩),.agg #[.int .i64 more]] w fun e w'=>∃ mb pb b0 b1 b2 b3 vs slots tasks R a',e=.returned (.pointer (some ⟨mb,0,none⟩))∧MK base w0 w' mb pb b0 b1 b2 b3 xb more vs slots tasks R p len cap c a'∧MadeIs c len more a slots tasks R a'∧MK (w.heap.size+1) (w.alloc (.cells #[.int .i64 more] 53)) w' mb pb b0 b1 b2 b3 xb more vs slots tasks R p len cap c a':=by
 refine (ZgU hd rfl rfl hm (fun q z e=>Jm (harg q z e) (by omega))).mono ?_
 rintro e w' ⟨mb,pb,b0,b1,b2,b3,vs,slots,tasks,R,a',rfl,hM,hI⟩
 exact ⟨mb,pb,b0,b1,b2,b3,vs,slots,tasks,R,a',rfl,hM.widen (by omega) (hb0.trans (BelowX.of xb (((Jd _ _).alloc hbw _)))) harg,hI,hM⟩
end
end
section
open Go.RowKit
section
variable {base:Nat}{w0 w w':World}{mb pb b0 b1 b2 b3 xb:Nat}{more:Int}{vs:Value}{slots:List Int}{tasks:Int}{R R':RSt}{p:Option Addr}{len cap a a':Nat}{c:Nat→Int}
theorem DiceAt.keep (h:DiceAt w xb p len cap c a)(hx:w'.heap[xb]?=w.heap[xb]?)(hq:∀ q,len≠0→p=some q→w'.heap[q.block]?=w.heap[q.block]?):DiceAt w' xb p len cap c a:=by
 refine ⟨h.le,hx.trans h.cells,?_,h.few⟩
 rcases h.codes with q | ⟨sb,off,e,hs,hi⟩
 ·exact Jr q
 ·refine Js ⟨sb,off,e,hs,fun i hl=>⟨?_,(hi i hl).2⟩⟩
  have:=hq _ (by omega) e
  rw [← (hi i hl).1]
  simp only [World.cell?]
  rw [show w'.heap[sb]?=w.heap[sb]? from this]
theorem NRow.keep {v:Value}{xs:List Int}(h:NRow base w v xs)(hb:∀ b,base≤b→b<w.heap.size→(∃ cs,w.heap[b]?=some (.cells cs 3))→w'.heap[b]?=w.heap[b]?):NRow base w' v xs:=by
 refine ⟨h.1,?_⟩
 rcases h.2 with q | ⟨g,cap,cur,hv,q0,hg,r⟩
 ·exact Jr q
 ·exact Js ⟨g,cap,cur,hv,q0,(hb g q0 (Ja.1 hg).1 ⟨_,hg⟩).trans hg,r⟩
theorem MK.solved {l0 l1 l2 l3 m0 m1 m2 m3}(h:MK base w0 w mb pb b0 b1 b2 b3 xb more vs slots tasks R p len cap c a)(hp:PlanAt w pb b0 b1 b2 b3 l0 l1 l2 l3)(ho:Only [pb,b0,b1,b2,b3] w w')(hp':PlanAt w' pb b0 b1 b2 b3 m0 m1 m2 m3)(hs:Sim m0 m1 m2 m3 R'):MK base w0 w' mb pb b0 b1 b2 b3 xb more vs slots tasks R' p len cap c a:=by
 have hmv:∀ (b:Nat) (cs:Array Value) (t:TypeId) (f:Nat×Nat),t≠76→w.heap[b]?=some (.cells cs t f)→w'.heap[b]?=some (.cells cs t f):=fun b cs t f ht q=>(ho.block b (Ja.1 q).1 (fun hm=>by
  rcases List.mem_cons.1 hm with rfl | hm
  ·obtain ⟨_,_,_,_,_,q'⟩:=hp.cells
   rw [q] at q'
   cases q'
   exact ht rfl
  ·exact hp.notmap q hm)).trans q
 have hold:∀ b,b<base→b∉[pb,b0,b1,b2,b3]:=fun b hb hm=>by
  have:=h.old b (Jk _ hm)
  omega
 refine ⟨hmv _ _ _ _ (by decide) h.cells,h.row.keep (fun b _ _ ⟨cs,q⟩=>(hmv _ _ _ _ (by decide) q).trans q.symm),⟨m0,m1,m2,m3,hp',hs⟩,h.dice.keep ((hmv _ _ _ _ (by decide) h.dice.cells).trans h.dice.cells.symm) (fun q z e=>?_),h.old,?_,h.more0,h.arg⟩
 ·have h1:=h.arg q z e
  exact ho.block _ (Jm h1 h.base_le) (hold _ h1)
 ·exact h.below.trans ⟨ho.os,ho.tape,ho.output,ho.size,fun b hb _=>ho.block b (Jm hb h.base_le) (hold b hb)⟩
theorem MK.kept {L:List Nat}(h:MK base w0 w mb pb b0 b1 b2 b3 xb more vs slots tasks R p len cap c a)(ho:Only L w w')(hL:∀ b∈L,b<base∧b≠xb∧∀ q,len≠0→p=some q→q.block≠b):MK base w' w' mb pb b0 b1 b2 b3 xb more vs slots tasks R p len cap c a:=by
 have hmv:∀ b,base≤b→b<w.heap.size→w'.heap[b]?=w.heap[b]?:=fun b hb hl=>ho.block b hl (fun hm=>by have:=(hL b hm).1; omega)
 obtain ⟨l0,l1,l2,l3,hp,hs⟩:=h.plan
 have hlt:=h.lt
 refine ⟨(hmv mb (h.old mb (by simp)) hlt).trans h.cells,h.row.keep (fun b hb hl _=>hmv b hb hl),⟨l0,l1,l2,l3,hp.move (fun b hb=>hmv b (h.old b (Jk _ hb)) (hp.lts b hb)),hs⟩,h.dice.keep (ho.block _ (Ja.1 h.dice.cells).1 (fun hm=>(hL _ hm).2.1 rfl)) (fun q z e=>?_),h.old,BelowX.refl _ _ _,h.more0,h.arg⟩
 exact ho.block _ (Jm (h.arg q z e) h.base_le) (fun hm=>(hL _ hm).2.2 q z e rfl)
theorem Zb3 (h:MK base w0 w mb pb b0 b1 b2 b3 xb more vs slots tasks R p len cap c a) :
  Calls Try.prog 26 #[.pointer (some ⟨pb,0,none⟩)] w fun e w'=>∃ P s,e=.returned (.int .i64 s)∧s=pcost (cR R) P R.t3.length∧LeastOf R s∧PlaceOk R.t1.length (sR R) P R.t3.length∧MK base w0 w' mb pb b0 b1 b2 b3 xb more vs slots tasks (Rn R P R.t3.length) p len cap c a∧Only [pb,b0,b1,b2,b3] w w':=by
 obtain ⟨l0,l1,l2,l3,hp,hs⟩:=h.plan
 refine (ZfC hs hp).mono ?_
 rintro e w' ⟨P,q,m1,m2,us,va,vf,g,fl,C,rfl,hS⟩
 exact ⟨P,_,rfl,rfl,LeastOf.of hS.found,hS.found.place,h.solved hp hS.only hS.plan hS.sim,hS.only⟩
theorem MK.fits (h:MK base w0 w mb pb b0 b1 b2 b3 xb more vs slots tasks R p len cap c a):Fit R∧RunFit R∧∀ n∈R.on,n=-1∨∃ y∈R.t1,y.1=n:=by
 obtain ⟨l0,l1,l2,l3,hp,hs⟩:=h.plan
 exact ⟨hs.fit,hs.fits.net.run,hs.runs.onf⟩
end
theorem MadeIs.same {c:Nat→Int}{len a a' a'':Nat}{more:Int}{slots slots':List Int}{tasks tasks':Int}{R R':RSt}(h:MadeIs c len more a slots tasks R a')(h':MadeIs c len more a slots' tasks' R' a''):slots'=slots∧tasks'=tasks∧R'=R:=by
 obtain ⟨s1,s2,nt,e1,e2,e3,e4,e5,e6⟩:=h.how
 obtain ⟨z1,z2,mt,f1,f2,f3,f4,f5,f6⟩:=h'.how
 obtain rfl:z1=s1:=f1.symm.trans e1
 obtain rfl:z2=s2:=f2.symm.trans e2
 obtain rfl:slots'=slots:=f3.symm.trans e3
 obtain rfl:mt=nt:=by omega
 rw [e6] at f6
 exact ⟨rfl,by omega,(congrArg Prod.fst f6).symm⟩
theorem Zhp {n:Nat}{xs:List Th}(h:xs.map (·.1)=idsL 0 n)(hn:n≤14):atOf 99 xs<0:=by
 rw [ZaR]
 intro x hx q
 obtain ⟨j,hj,rfl⟩:=List.mem_iff_getElem.1 hx
 have hl:=ZbZ h
 obtain ⟨_,e⟩:=Zd3 h (k:=j) (by omega)
 rw [e] at q
 unfold idOf at q
 omega
theorem at_0 {n:Nat}{xs:List Th}(h:xs.map (·.1)=idsL 0 n)(hn:n≤14)(h0:0<n):atOf 0 xs=0:=ZcE h hn h0
section
variable {R:RSt}{nr nj nm nt:Nat}
theorem RK.mach99 (h:RK 0 R 2 2 nm nt)(hm:nm≤4){v:Int}(h0:1≤v)(h1:v≤4):c3 R 99 0 v=0∧n3 R 99 0 v={ R with t1:=R.t1 ++ [(99,0,v)] }:=by
 have hc:c3 R 99 0 v=0:=by
  have q1:=Zhp h.i1 (by omega)
  have q2:=ZbZ h.i1
  have q3:=at_0 h.i0 (by omega) (by omega)
  unfold c3 makeOf
  rw [if_neg (by omega),if_neg (by omega),if_neg (by omega),if_neg (by omega),if_neg (by omega)]
 exact ⟨hc,by unfold n3; rw [if_pos hc]⟩
theorem RK.task99 (h:RK 0 R 2 2 nm nt)(hm:nt≤6){v:Int}(h0:0≤v)(h1:v≤1000):c5 R 99 0 v=0∧n5 R 99 0 v={ R with t3:=R.t3 ++ [(99,0,v)],on:=R.on ++ [-1],wt:=R.wt ++ [0] }:=by
 have hc:c5 R 99 0 v=0:=by
  have q1:=Zhp h.i3 (by omega)
  have q2:=ZbZ h.i3
  have q3:=at_0 h.i2 (by omega) (by omega)
  unfold c5 makeOf
  rw [if_neg (by omega),if_neg (by omega),if_neg (by omega),if_neg (by omega),if_neg (by omega)]
 exact ⟨hc,by unfold n5; rw [if_pos hc]⟩
theorem RK.wish0 (h:RK 0 R 2 2 nm nt)(hm:nt≤6){t:Nat}(ht:t<nt):c6 R (idOf 0 t) 0 (idOf 0 0) 0=0∧n6 R (idOf 0 t) 0 (idOf 0 0) 0={ R with ws:=putW (idOf 0 t) 0 (idOf 0 0) 0 R.ws }:=by
 have hc:c6 R (idOf 0 t) 0 (idOf 0 0) 0=0:=by
  have q1:=ZcE h.i3 (by omega) ht
  have q3:atOf (idOf 0 0) R.t0=0:=ZcE h.i0 (by omega) (k:=0) (by omega)
  unfold c6
  rw [if_neg (by omega),if_neg (by omega),if_neg (by rw [if_pos rfl]; omega),if_neg (by omega)]
 exact ⟨hc,by unfold n6; rw [if_pos hc]⟩
end
end
section
open Go.RowKit
def DC (w:World)(p:Option Addr)(len:Nat)(c:Nat→Int):Prop:=len=0∨∃ sb off,p=some ⟨sb,off,none⟩∧sb<w.heap.size∧∀ i,i<len→w.cell? ⟨sb,off+i,none⟩=some (.int .i64 (c i))∧(Lit.int .i64 (c i)).wf=true
theorem DC.below {w w':World}{p:Option Addr}{len:Nat}{c:Nat→Int}(h:DC w p len c)(hb:Below w.heap.size w w'):DC w' p len c:=by
 rcases h with q | ⟨sb,off,e,hs,hi⟩
 ·exact Jr q
 ·exact Js ⟨sb,off,e,Jm hs hb.size,fun i hl=>⟨(hb.cell (p:=⟨sb,off+i,none⟩) hs).trans (hi i hl).1,(hi i hl).2⟩⟩
theorem DC.arg {w:World}{p:Option Addr}{len:Nat}{c:Nat→Int}(h:DC w p len c):∀ q,len≠0→p=some q→q.block<w.heap.size:=fun q z e=>by
 rcases h with h0 | ⟨sb,off,e',hs,_⟩
 ·exact absurd h0 z
 ·rw [e] at e'
  cases e'
  exact hs
theorem ZdZ {w:World}{p:Option Addr}{len cap:Nat}{c:Nat→Int}(h:DC w p len c)(hl:len<1000000000000000):DiceAt (w.alloc (.cells #[.slice p len cap,.int .i64 0] 49)) w.heap.size p len cap c 0:=by
 refine ⟨Jq _,heap_alloc_new w _,?_,hl⟩
 rcases h with q | ⟨sb,off,e,hs,hi⟩
 ·exact Jr q
 ·exact Js ⟨sb,off,e,hs,fun i hl=>⟨(((Jd w.heap.size w).alloc (Jb _) _).cell (p:=⟨sb,off+i,none⟩) hs).trans (hi i hl).1,(hi i hl).2⟩⟩
def S5 (mb:Nat)(z0 z1 z3:Value)(W:World):Prop:=W.cell? ⟨mb,0,none⟩=some z0∧W.cell? ⟨mb,1,none⟩=some z1∧W.cell? ⟨mb,3,none⟩=some z3∧mb<W.heap.size
theorem S5.of {base:Nat}{w0 w:World}{mb pb b0 b1 b2 b3 xb:Nat}{more:Int}{vs:Value}{slots:List Int}{tasks:Int}{R:RSt}{p:Option Addr}{len cap a:Nat}{c:Nat→Int}(h:MK base w0 w mb pb b0 b1 b2 b3 xb more vs slots tasks R p len cap c a):S5 mb (.pointer (some ⟨pb,0,none⟩)) (.int .i64 more) (.int .i64 tasks) w:=⟨h.cs.1,h.cs.2.1,h.cs.2.2.2,h.lt⟩
structure Two (w W2 W:World)(mb pb b0 b1 b2 b3 xb:Nat)(vs:Value)(a:Nat)(nb qb d0 d1 d2 d3 yb:Nat)(us:Value)(a2:Nat)(more:Int)(slots:List Int)(tasks:Int)(R R':RSt)(p:Option Addr)(len cap:Nat)(c:Nat→Int):Prop where
 one:MK w.heap.size w W2 mb pb b0 b1 b2 b3 xb 0 vs slots tasks R p len cap c a
 two:MK W2.heap.size W2 W nb qb d0 d1 d2 d3 yb more us slots tasks R' p len cap c a2
 xs:w.heap.size≤xb∧W2.heap.size≤yb
section
variable {w W2 W W':World}{mb pb b0 b1 b2 b3 xb:Nat}{vs:Value}{a:Nat}{nb qb d0 d1 d2 d3 yb:Nat}{us:Value}{a2:Nat}{more:Int}{slots:List Int}{tasks:Int}{R R':RSt}{p:Option Addr}{len cap:Nat}{c:Nat→Int}
theorem Two.first (h:Two w W2 W mb pb b0 b1 b2 b3 xb vs a nb qb d0 d1 d2 d3 yb us a2 more slots tasks R R' p len cap c):MK w.heap.size w W mb pb b0 b1 b2 b3 xb 0 vs slots tasks R p len cap c a:=h.one.of_below (h.two.below.below h.xs.2)
theorem Two.solve (h:Two w W2 W mb pb b0 b1 b2 b3 xb vs a nb qb d0 d1 d2 d3 yb us a2 more slots tasks R R' p len cap c):Calls Try.prog 26 #[.pointer (some ⟨pb,0,none⟩)] W fun e w'=>∃ s,e=.returned (.int .i64 s)∧LeastOf R s∧Below w.heap.size w w'∧w.heap.size≤W2.heap.size∧MK W2.heap.size w' w' nb qb d0 d1 d2 d3 yb more us slots tasks R' p len cap c a2:=by
 refine (Zb3 h.first).mono ?_
 rintro e w' ⟨P,s,rfl,_,hL,_,hM,ho⟩
 refine ⟨s,rfl,hL,hM.below.below h.xs.1,h.one.base_le,h.two.kept ho (fun b hb=>?_)⟩
 obtain ⟨l0,l1,l2,l3,hp,_⟩:=h.one.plan
 have h1:=hp.lts b hb
 have h2:=h.one.old b (Jk _ hb)
 have h3:=h.xs.2
 refine ⟨h1,by omega,fun q z e=>?_⟩
 have:=h.one.arg q z e
 omega
end
theorem ZbS {w W2 W W':World}{yb:Nat}(h1:Below w.heap.size w W)(h2:w.heap.size≤W2.heap.size)(h3:BelowX W2.heap.size yb W W')(h4:W2.heap.size≤yb):Below w.heap.size w W':=h1.trans ((h3.below h4).mono h2)
theorem more_walk (w:World)(p:Option Addr)(len cap:Nat)(c:Nat→Int)(hc:DC w p len c)(hlen:len<1000000000000000)(which sl cost:Int)(hw1:(Lit.int .i64 which).wf=true)(hw2:(Lit.int .i64 sl).wf=true)(hw3:(Lit.int .i64 cost).wf=true) :
  Calls Try.prog 7 #[.slice p len cap,.int .i64 which,.int .i64 sl,.int .i64 cost] w fun e w'=>e=.returned (.bool true)∧Below w.heap.size w w':=by
 have A1:=Zak (Zd6 (base:=w.heap.size) (w0:=w) (more:=0) (ZdZ (cap:=cap) hc hlen) (by simp) (BelowX.of _ ((Jd _ _).alloc (Jb _) _)) (by omega) hc.arg)
 have P1:=Zak (fun W=>Zbk which 3 W hw1 (by omega) (by omega))
 have P2:=Zak (fun W=>Zbk sl 4 W hw2 (by omega) (by omega))
 have P3:=Zak (fun W n (h1:1≤n) (h2:n≤1001)=>Zbk sl n W hw2 h1 h2)
 have P4:=Zak (fun W=>Zbk cost 1000 W hw3 (by omega) (by omega))
 have v1:=ZaB which 3 (by omega)
 have v2:=ZaB sl 4 (by omega)
 have v4:=ZaB cost 1000 (by omega)
 have H0:=Zak (Jc hc hlen)
 clear hc hw1 hw2 hw3 hlen
 obtain ⟨v,hv⟩:∃ v,pickOf which 3=v:=⟨_,rfl⟩
 rw [hv] at P1 v1
 have HV:=Zak hv
 clear hv
 go_enter Try.func7,Try.ntmps7
 go_upto_region 2 with (first
  | (go_at_call 24; refine A1.out.mono ?_; rintro e W2 ⟨mb,pb,b0,b1,b2,b3,vs,slots,tasks,R,a,rfl,M1,I1,_⟩; have H1:=Zak (Jc M1 I1); have B1:=Zak (Zd6 (base:=W2.heap.size) (w0:=W2) (more:=0) (ZdZ (cap:=cap) (H0.out.1.below (M1.below.below (Jb _))) H0.out.2) (by simp) (BelowX.of _ ((Jd _ _).alloc (Jb _) _)) (by omega) (H0.out.1.below (M1.below.below (Jb _))).arg); clear M1 I1 A1)
  | fail)
 go_upto_region 3 with (first
  | (go_at_call 24; refine B1.out.mono ?_; rintro e W4 ⟨nb,qb,d0,d1,d2,d3,us,slots2,tasks2,R2,a2,rfl,M2,I2,_⟩; obtain ⟨rfl,rfl,rfl⟩:=H1.out.2.same I2; have T0:=Zak (show Two w W2 W4 mb pb b0 b1 b2 b3 w.heap.size vs a nb qb d0 d1 d2 d3 W2.heap.size us a2 0 slots2 tasks2 R2 R2 p len cap c from ⟨H1.out.1,M2,Jb _,Jb _⟩); clear M2 I2 B1)
  | fail)
 have hfew:=H1.out.2.few
 have IR:=Zak H1.out.2.ids
 clear H1
 rcases (show v=0∨v=1∨v=2 by omega) with rfl | rfl | rfl
 ·clear v1
  go_upto_region 9 with (first
   | (go_at_call 10; refine (P1.out _).mono ?_; rintro e z ⟨rfl,hz⟩; subst z)
   | fail)
  have hS0:S5 nb (.pointer (some ⟨qb,0,none⟩)) (.int .i64 0) (.int .i64 tasks2) W4.drew:=S5.of T0.out.two.drew
  refine wp_region_held_drew (S:=S5 nb (.pointer (some ⟨qb,0,none⟩)) (.int .i64 0) (.int .i64 tasks2)) (by kernel_rfl) hS0 (fun _=>?_)
  refine tkH (v:=?_) 0 41 hS0 ?_ ?_; rotate_left 1
  ·(rintro w' ⟨e0,e1,e2,e3⟩; go_simp; try with_reducible rfl)
  simp only [Act.put,Jh,Ji,Jj]
  refine tkH (v:=?_) 1 42 hS0 ?_ ?_; rotate_left 1
  ·(rintro w' ⟨e0,e1,e2,e3⟩; go_simp; try with_reducible rfl)
  simp only [Act.put,Jh,Ji,Jj]
  refine tkH (v:=?_) 2 43 hS0 ?_ ?_; rotate_left 1
  ·(rintro w' ⟨e0,e1,e2,e3⟩; go_simp; try with_reducible rfl)
  simp only [Act.put,Jh,Ji,Jj]
  refine tkH (v:=?_) 3 44 hS0 ?_ ?_; rotate_left 1
  ·(rintro w' ⟨e0,e1,e2,e3⟩; go_simp; try with_reducible rfl)
  simp only [Act.put,Jh,Ji,Jj]
  refine tkH (v:=?_) 4 45 hS0 ?_ ?_; rotate_left 1
  ·(rintro w' ⟨e0,e1,e2,e3⟩; go_simp; try with_reducible rfl)
  simp only [Act.put,Jh,Ji,Jj]
  refine wpAnyH_ready (rs:=[5]) (by kernel_rfl) (by simp) ?_
  refine AllReadyH.cons rfl (fun K hK=>?_) AllReadyH.nil
  go_simp
  refine (P2.out _).mono ?_
  rintro e z ⟨rfl,rfl⟩
  refine hK.out _ _ hS0 (fun _=>?_)
  clear hK K
  have KM:=IR.out.mach99 (by omega) (v:=1+pickOf sl 4) (by omega) (by omega)
  have D1:=Zfc T0.out.two.drew 99 0 (1+pickOf sl 4)
  rw [KM.1,KM.2] at D1
  have D1:=Zak D1
  clear KM
  refine tkH (v:=?_) 6 47 hS0 ?_ ?_; rotate_left 1
  ·(rintro w' ⟨e0,e1,e2,e3⟩; go_simp; try with_reducible rfl)
  simp only [Act.put,Jh,Ji,Jj]
  refine wpAnyH_ready (rs:=[7]) (by kernel_rfl) (by simp) ?_
  refine AllReadyH.cons rfl (fun K hK=>?_) AllReadyH.nil
  go_simp
  rw [ZbO (y:=1+pickOf sl 4) (by omega) (by omega)]
  refine D1.out.mono ?_
  rintro e Z1 ⟨rfl,M3,_⟩
  have hS1:=S5.of M3
  have T1:=Zak (show Two w W2 Z1 mb pb b0 b1 b2 b3 w.heap.size vs a nb qb d0 d1 d2 d3 W2.heap.size us a2 0 slots2 tasks2 R2 _ p len cap c from ⟨T0.out.one,M3,Jb _,Jb _⟩)
  clear M3 D1
  refine hK.out _ _ hS1 (fun _=>?_)
  clear hK K
  refine tkH (v:=?_) 8 11 hS1 ?_ ?_; rotate_left 1
  ·(rintro w' ⟨e0,e1,e2,e3⟩; go_simp; try with_reducible rfl)
  simp only [Act.put,Jh,Ji,Jj]
  refine wpAnyH_done (by kernel_rfl) ?_ _
  clear hS0 hS1
  have Q1:=Zak T1.out.solve
  obtain ⟨y0,_,_,_⟩:=T1.out.first.cs
  have y4:=T1.out.first.lt
  go_upto_region 13 with (first
   | (go_at_call 26; refine Q1.out.mono ?_; rintro e V1 ⟨x,rfl,hL1,hb1,hb2,MB⟩; have H3:=Zak (Jc hL1 (Jc hb1 (Jc hb2 MB))); clear hL1 hb1 hb2 MB Q1)
   | fail)
  clear y0 y4
  have Q2:=Zak (Zb3 H3.out.2.2.2)
  obtain ⟨y0,_,_,_⟩:=H3.out.2.2.2.cs
  have y4:=H3.out.2.2.2.lt
  go_upto_region 14 with (first
   | (go_at_call 26; refine Q2.out.mono ?_; rintro e V2 ⟨P,y,rfl,hy0,hL2,_,MC,_⟩; clear hy0; have H4:=Zak (ZbS H3.out.2.1 H3.out.2.2.1 MC.below (Jb _)); have hxy:=Zfg H3.out.1 hL2; clear hL2 MC Q2)
   | fail)
  go_wp2_with (first
   | (go_at_call 10; refine (P1.out _).mono ?_; rintro e z ⟨rfl,hz⟩; subst z)
   | fail)
  go_ret
  exact ⟨rfl,H4.out⟩
 ·clear v1
  go_upto_region 11 with (first
   | (go_at_call 10; refine (P1.out _).mono ?_; rintro e z ⟨rfl,hz⟩; subst z)
   | fail)
  have hS0:S5 nb (.pointer (some ⟨qb,0,none⟩)) (.int .i64 0) (.int .i64 tasks2) W4.drew:=S5.of T0.out.two.drew
  refine wp_region_held_drew (S:=S5 nb (.pointer (some ⟨qb,0,none⟩)) (.int .i64 0) (.int .i64 tasks2)) (by kernel_rfl) hS0 (fun _=>?_)
  obtain ⟨t,ht⟩:∃ t:Nat,pickOf sl tasks2=(t:Int):=⟨(pickOf sl tasks2).toNat,by have:=ZaB sl tasks2 (by omega); omega⟩
  have htl:(t:Int)<tasks2:=by have:=ZaB sl tasks2 (by omega); omega
  have HT:=Zak ht
  clear ht
  refine tkH (v:=?_) 0 51 hS0 ?_ ?_; rotate_left 1
  ·(rintro w' ⟨e0,e1,e2,e3⟩; go_simp; try with_reducible rfl)
  simp only [Act.put,Jh,Ji,Jj]
  refine tkH (v:=?_) 1 52 hS0 ?_ ?_; rotate_left 1
  ·(rintro w' ⟨e0,e1,e2,e3⟩; go_simp; try with_reducible rfl)
  simp only [Act.put,Jh,Ji,Jj]
  refine tkH (v:=?_) 2 53 hS0 ?_ ?_; rotate_left 1
  ·(rintro w' ⟨e0,e1,e2,e3⟩; go_simp; try with_reducible rfl)
  simp only [Act.put,Jh,Ji,Jj]
  refine tkH (v:=?_) 3 54 hS0 ?_ ?_; rotate_left 1
  ·(rintro w' ⟨e0,e1,e2,e3⟩; go_simp; try with_reducible rfl)
  simp only [Act.put,Jh,Ji,Jj]
  refine tkH (v:=?_) 4 55 hS0 ?_ ?_; rotate_left 1
  ·(rintro w' ⟨e0,e1,e2,e3⟩; go_simp; try with_reducible rfl)
  simp only [Act.put,Jh,Ji,Jj]
  refine tkH (v:=?_) 5 56 hS0 ?_ ?_; rotate_left 1
  ·(rintro w' ⟨e0,e1,e2,e3⟩; go_simp; try with_reducible rfl)
  simp only [Act.put,Jh,Ji,Jj]
  refine tkH (v:=?_) 6 57 hS0 ?_ ?_; rotate_left 1
  ·(rintro w' ⟨e0,e1,e2,e3⟩; go_simp; try with_reducible rfl)
  simp only [Act.put,Jh,Ji,Jj]
  refine tkH (v:=?_) 7 58 hS0 ?_ ?_; rotate_left 1
  ·(rintro w' ⟨e0,e1,e2,e3⟩; go_simp; try with_reducible rfl)
  simp only [Act.put,Jh,Ji,Jj]
  refine tkH (v:=?_) 8 59 hS0 ?_ ?_; rotate_left 1
  ·(rintro w' ⟨e0,e1,e2,e3⟩; go_simp; try with_reducible rfl)
  simp only [Act.put,Jh,Ji,Jj]
  refine tkH (v:=?_) 9 60 hS0 ?_ ?_; rotate_left 1
  ·(rintro w' ⟨e0,e1,e2,e3⟩; go_simp; try with_reducible rfl)
  simp only [Act.put,Jh,Ji,Jj]
  refine tkH (v:=?_) 10 61 hS0 ?_ ?_; rotate_left 1
  ·(rintro w' ⟨e0,e1,e2,e3⟩; go_simp; try with_reducible rfl)
  simp only [Act.put,Jh,Ji,Jj]
  refine tkH (v:=?_) 11 62 hS0 ?_ ?_; rotate_left 1
  ·(rintro w' ⟨e0,e1,e2,e3⟩; go_simp; try with_reducible rfl)
  simp only [Act.put,Jh,Ji,Jj]
  refine tkH (v:=?_) 12 63 hS0 ?_ ?_; rotate_left 1
  ·(rintro w' ⟨e0,e1,e2,e3⟩; go_simp; try with_reducible rfl)
  simp only [Act.put,Jh,Ji,Jj]
  refine tkH (v:=?_) 15 66 hS0 ?_ ?_; rotate_left 1
  ·(rintro w' ⟨e0,e1,e2,e3⟩; go_simp; try with_reducible rfl)
  simp only [Act.put,Jh,Ji,Jj]
  refine tkH (v:=?_) 16 67 hS0 ?_ ?_; rotate_left 1
  ·(rintro w' ⟨e0,e1,e2,e3⟩; go_simp; try with_reducible rfl)
  simp only [Act.put,Jh,Ji,Jj]
  refine tkH (v:=?_) 17 68 hS0 ?_ ?_; rotate_left 1
  ·(rintro w' ⟨e0,e1,e2,e3⟩; go_simp; try with_reducible rfl)
  simp only [Act.put,Jh,Ji,Jj]
  refine tkH (v:=?_) 18 69 hS0 ?_ ?_; rotate_left 1
  ·(rintro w' ⟨e0,e1,e2,e3⟩; go_simp; try with_reducible rfl)
  simp only [Act.put,Jh,Ji,Jj]
  refine wpAnyH_ready (rs:=[13]) (by kernel_rfl) (by simp) ?_
  refine AllReadyH.cons rfl (fun K hK=>?_) AllReadyH.nil
  go_simp
  refine (P3.out _ tasks2 (by omega) (by omega)).mono ?_
  rintro e z ⟨rfl,rfl⟩
  rw [HT.out]
  refine hK.out _ _ hS0 (fun _=>?_)
  clear hK K
  have D1:=Zak (Zc2 T0.out.two.drew (t:Int) (by omega) (by omega))
  refine wpAnyH_ready (rs:=[14]) (by kernel_rfl) (by simp) ?_
  refine AllReadyH.cons rfl (fun K hK=>?_) AllReadyH.nil
  go_simp
  refine D1.out.mono ?_
  rintro e Z1 ⟨rfl,M3,_⟩
  have hS1:=S5.of M3
  have D2:=Zak (Zc2 M3 0 (by omega) (by omega))
  clear M3 D1
  refine hK.out _ _ hS1 (fun _=>?_)
  clear hK K
  refine wpAnyH_ready (rs:=[19]) (by kernel_rfl) (by simp) ?_
  refine AllReadyH.cons rfl (fun K hK=>?_) AllReadyH.nil
  go_simp
  refine D2.out.mono ?_
  rintro e Z2 ⟨rfl,M3,_⟩
  have hS2:=S5.of M3
  have KW:=IR.out.wish0 (by omega) (t:=t) (by omega)
  have D3:=ZgX M3 (idOf 0 t) 0 (idOf 0 0) 0
  rw [KW.1,KW.2] at D3
  have D3:=Zak D3
  clear M3 D2 KW
  refine hK.out _ _ hS2 (fun _=>?_)
  clear hK K
  refine wpAnyH_ready (rs:=[20]) (by kernel_rfl) (by simp) ?_
  refine AllReadyH.cons rfl (fun K hK=>?_) AllReadyH.nil
  go_simp
  refine D3.out.mono ?_
  rintro e Z3 ⟨rfl,M3,_⟩
  have hS3:=S5.of M3
  have T1:=Zak (show Two w W2 Z3 mb pb b0 b1 b2 b3 w.heap.size vs a nb qb d0 d1 d2 d3 W2.heap.size us a2 0 slots2 tasks2 R2 _ p len cap c from ⟨T0.out.one,M3,Jb _,Jb _⟩)
  clear M3 D3
  refine hK.out _ _ hS3 (fun _=>?_)
  clear hK K
  refine tkH (v:=?_) 21 11 hS3 ?_ ?_; rotate_left 1
  ·(rintro w' ⟨e0,e1,e2,e3⟩; go_simp; try with_reducible rfl)
  simp only [Act.put,Jh,Ji,Jj]
  refine wpAnyH_done (by kernel_rfl) ?_ _
  clear hS0 hS1 hS2 hS3
  have Q1:=Zak T1.out.solve
  obtain ⟨y0,_,_,_⟩:=T1.out.first.cs
  have y4:=T1.out.first.lt
  go_upto_region 13 with (first
   | (go_at_call 26; refine Q1.out.mono ?_; rintro e V1 ⟨x,rfl,hL1,hb1,hb2,MB⟩; have H3:=Zak (Jc hL1 (Jc hb1 (Jc hb2 MB))); clear hL1 hb1 hb2 MB Q1)
   | fail)
  clear y0 y4
  have Q2:=Zak (Zb3 H3.out.2.2.2)
  obtain ⟨y0,_,_,_⟩:=H3.out.2.2.2.cs
  have y4:=H3.out.2.2.2.lt
  go_upto_region 14 with (first
   | (go_at_call 26; refine Q2.out.mono ?_; rintro e V2 ⟨P,y,rfl,hy0,hL2,_,MC,_⟩; clear hy0; have H4:=Zak (ZbS H3.out.2.1 H3.out.2.2.1 MC.below (Jb _)); have hxy:=Zfi _ _ _ H3.out.1 hL2 (fun x hx=>(T0.out.one.fits.1.ws x hx).2.2.2.1); clear hL2 MC Q2)
   | fail)
  go_wp2_with (first
   | (go_at_call 10; refine (P1.out _).mono ?_; rintro e z ⟨rfl,hz⟩; subst z)
   | fail)
  go_ret
  exact ⟨rfl,H4.out⟩
 ·clear v1
  go_upto_region 7 with (first
   | (go_at_call 10; refine (P1.out _).mono ?_; rintro e z ⟨rfl,hz⟩; subst z)
   | fail)
  have hS0:S5 nb (.pointer (some ⟨qb,0,none⟩)) (.int .i64 0) (.int .i64 tasks2) W4.drew:=S5.of T0.out.two.drew
  refine wp_region_held_drew (S:=S5 nb (.pointer (some ⟨qb,0,none⟩)) (.int .i64 0) (.int .i64 tasks2)) (by kernel_rfl) hS0 (fun _=>?_)
  refine tkH (v:=?_) 0 32 hS0 ?_ ?_; rotate_left 1
  ·(rintro w' ⟨e0,e1,e2,e3⟩; go_simp; try with_reducible rfl)
  simp only [Act.put,Jh,Ji,Jj]
  refine tkH (v:=?_) 1 33 hS0 ?_ ?_; rotate_left 1
  ·(rintro w' ⟨e0,e1,e2,e3⟩; go_simp; try with_reducible rfl)
  simp only [Act.put,Jh,Ji,Jj]
  refine tkH (v:=?_) 2 34 hS0 ?_ ?_; rotate_left 1
  ·(rintro w' ⟨e0,e1,e2,e3⟩; go_simp; try with_reducible rfl)
  simp only [Act.put,Jh,Ji,Jj]
  refine tkH (v:=?_) 3 35 hS0 ?_ ?_; rotate_left 1
  ·(rintro w' ⟨e0,e1,e2,e3⟩; go_simp; try with_reducible rfl)
  simp only [Act.put,Jh,Ji,Jj]
  refine tkH (v:=?_) 4 36 hS0 ?_ ?_; rotate_left 1
  ·(rintro w' ⟨e0,e1,e2,e3⟩; go_simp; try with_reducible rfl)
  simp only [Act.put,Jh,Ji,Jj]
  refine wpAnyH_ready (rs:=[5]) (by kernel_rfl) (by simp) ?_
  refine AllReadyH.cons rfl (fun K hK=>?_) AllReadyH.nil
  go_simp
  refine (P4.out _).mono ?_
  rintro e z ⟨rfl,rfl⟩
  refine hK.out _ _ hS0 (fun _=>?_)
  clear hK K
  have KM:=IR.out.task99 (by omega) (v:=pickOf cost 1000) (by omega) (by omega)
  have D1:=Zfe T0.out.two.drew 99 0 (pickOf cost 1000)
  rw [KM.1,KM.2] at D1
  have D1:=Zak D1
  clear KM
  refine wpAnyH_ready (rs:=[6]) (by kernel_rfl) (by simp) ?_
  refine AllReadyH.cons rfl (fun K hK=>?_) AllReadyH.nil
  go_simp
  refine D1.out.mono ?_
  rintro e Z1 ⟨rfl,M3,_⟩
  have hS1:=S5.of M3
  have T1:=Zak (show Two w W2 Z1 mb pb b0 b1 b2 b3 w.heap.size vs a nb qb d0 d1 d2 d3 W2.heap.size us a2 0 slots2 tasks2 R2 _ p len cap c from ⟨T0.out.one,M3,Jb _,Jb _⟩)
  clear M3 D1
  refine hK.out _ _ hS1 (fun _=>?_)
  clear hK K
  refine tkH (v:=?_) 7 11 hS1 ?_ ?_; rotate_left 1
  ·(rintro w' ⟨e0,e1,e2,e3⟩; go_simp; try with_reducible rfl)
  simp only [Act.put,Jh,Ji,Jj]
  refine wpAnyH_done (by kernel_rfl) ?_ _
  clear hS0 hS1
  have Q1:=Zak T1.out.solve
  obtain ⟨y0,_,_,_⟩:=T1.out.first.cs
  have y4:=T1.out.first.lt
  go_upto_region 13 with (first
   | (go_at_call 26; refine Q1.out.mono ?_; rintro e V1 ⟨x,rfl,hL1,hb1,hb2,MB⟩; have H3:=Zak (Jc hL1 (Jc hb1 (Jc hb2 MB))); clear hL1 hb1 hb2 MB Q1)
   | fail)
  clear y0 y4
  have Q2:=Zak (Zb3 H3.out.2.2.2)
  obtain ⟨y0,_,_,_⟩:=H3.out.2.2.2.cs
  have y4:=H3.out.2.2.2.lt
  go_upto_region 14 with (first
   | (go_at_call 26; refine Q2.out.mono ?_; rintro e V2 ⟨P,y,rfl,hy0,hL2,_,MC,_⟩; clear hy0; have H4:=Zak (ZbS H3.out.2.1 H3.out.2.2.1 MC.below (Jb _)); have hxy:=Zfh H3.out.1 hL2 T0.out.one.fits.2.1.lo T0.out.one.fits.2.1.wl (fun k=>(Zb2 T1.out.two.fits.2.1 (by simp)).1); clear hL2 MC Q2)
   | fail)
  go_wp2_with (first
   | (go_at_call 10; refine (P1.out _).mono ?_; rintro e z ⟨rfl,hz⟩; subst z)
   | fail)
  go_ret
  exact ⟨rfl,H4.out⟩
end
end Go.Proofs.Ytjdindfjfpdikaa
