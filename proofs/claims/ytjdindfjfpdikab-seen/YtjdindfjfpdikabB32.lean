import Derived.Deep.LoopGhost
import Derived.Deep.RegionHeld
import Derived.Test.YtjdindfjfpdikabB01
import Derived.Test.YtjdindfjfpdikabB22
import Derived.Test.YtjdindfjfpdikabB31
import Derived.Test.YtjdindfjfpdikabPre
set_option maxRecDepth 100000
set_option maxHeartbeats 8000000
namespace Go.Proofs.Ytjdindfjfpdikab
section
open Go.RowKit
def S1 (nb:Nat)(more:Int)(W:World):Prop:=W.cell? ⟨nb,0,none⟩=some (.int .i64 more)∧nb<W.heap.size
theorem S1.of {nb:Nat}{more:Int}{W:World}(h:W.heap[nb]?=some (.cells #[.int .i64 more] 29)):S1 nb more W:=⟨by simp [World.cell?,h],(Ja.1 h).1⟩
structure MadeIs (c:Nat→Int)(len:Nat)(more:Int)(a:Nat)(slots:List Int)(tasks:Int)(R:RSt)(a':Nat):Prop where
 how:∃ (s1:RSt×Nat) (s2:RSt×Nat×List Int) (nt:Nat),madeRJ c len more 2 (R0,a)=s1∧machN c len more 4 (s1.1,s1.2,[])=s2∧s2.2.2=slots∧(nt:Int)=1+nv c len s2.2.1 6∧tasks=nt∧taskN c len more slots.length nt (s2.1,na len s2.2.1)=(R,a')
 ids:RK more R 2 2 slots.length tasks.toNat
 few:1≤slots.length∧slots.length≤4∧1≤tasks∧tasks≤6
 each:∀ s∈slots,1≤s∧s≤3
 at1:R.t1.map (·.2.2)=slots
theorem n5_t1 (R:RSt)(a b c:Int):(n5 R a b c).t1=R.t1:=by unfold n5; split <;> rfl
theorem n6_t1 (R:RSt)(t k i c:Int):(n6 R t k i c).t1=R.t1:=by unfold n6; split <;> rfl
theorem wish1_t1 (c:Nat→Int)(len:Nat)(more:Int)(ns:Nat)(task:Int)(s:RSt×Nat):(wish1 c len more ns task s).1.t1=s.1.t1:=by
 unfold wish1
 split
 ·exact n6_t1 _ _ _ _ _
 ·exact n6_t1 _ _ _ _ _
theorem wishN_t1 (c:Nat→Int)(len:Nat)(more:Int)(ns:Nat)(task:Int):∀ (k:Nat)(s:RSt×Nat),(wishN c len more ns task k s).1.t1=s.1.t1
 | 0,_=>rfl
 | k+1,s=>(wishN_t1 c len more ns task k _).trans (wish1_t1 c len more ns task s)
theorem taskN_t1 (c:Nat→Int)(len:Nat)(more:Int)(ns:Nat):∀ (k:Nat)(s:RSt×Nat),(taskN c len more ns k s).1.t1=s.1.t1
 | 0,_=>rfl
 | k+1,s=>((wishN_t1 c len more ns k _ _).trans (n5_t1 _ _ _ _)).trans (taskN_t1 c len more ns k s)
section
variable {base:Nat}{w0:Fr}{w w':World}{mb pb b0 b1 b2 b3 xb:Nat}{more:Int}{vs:Value}{slots:List Int}{tasks:Int}{R R':RSt}{p:Option Addr}{len cap a a':Nat}{c:Nat→Int}
theorem MK.apart2 {nb:Nat}{cs:Array Value}(h:MK base w0 w mb pb b0 b1 b2 b3 xb more vs slots tasks R p len cap c a)(hn:w.heap[nb]?=some (.cells cs 29)):nb≠mb∧vs.ownBlock≠some nb:=by
 have hmc:=h.cells
 refine ⟨fun e=>?_,fun e=>?_⟩
 ·rw [e,hmc] at hn
  cases hn
 ·rcases h.row.2 with ⟨e1,_⟩ | ⟨g,cp,cur,e1,_,hg,_⟩
  ·rw [e1] at e; cases e
  ·rw [e1] at e
   cases e
   rw [hn] at hg
   cases hg
theorem MK.names {nb:Nat}{cs:Array Value}{o:Obj}{w1:World}{v':Value}(h:MK base w0 w mb pb b0 b1 b2 b3 xb more vs slots tasks R p len cap c a)(hn:w.heap[nb]?=some (.cells cs 29))(hg:(w.alloc o).grownBy w1 vs.ownBlock):(w1.setCell ⟨mb,2,none⟩ v').heap[nb]?=some (.cells cs 29):=by
 obtain ⟨h1,h2⟩:=h.apart2 hn
 have hl:=(Ja.1 hn).1
 have hne:¬ mb=nb:=fun e=>h1 e.symm
 simp only [World.setCell,Array.getElem?_modify,if_neg hne]
 rw [hg.block nb (by simp; omega) (fun e=>h2 e.symm),heap_alloc_old w _ hl,hn]
theorem made_in (hd:DiceAt w xb p len cap c a)(hbw:base=w.heap.size+1)(hm:0≤more∧more<100)(harg:∀ q,len≠0→p=some q→q.block<base) :
  Calls Try.prog 5 #[.pointer (some ⟨xb,0,none⟩),.agg #[.int .i64 more]] w fun e w'=>∃ W3 mb pb b0 b1 b2 b3 vs slots tasks R a',e=.returned (.pointer (some ⟨mb,0,none⟩))∧MK base ⟨W3,[pb]⟩ w' mb pb b0 b1 b2 b3 xb more vs slots tasks R p len cap c a'∧MadeIs c len more a slots tasks R a'∧W3.heap[pb]?=some (.cells #[.map (some b0),.map (some b1),.map (some b2),.map (some b3),.int .i64 0,.slice none 0 0,.slice none 0 0,.slice none 0 0,.slice none 0 0] 74)∧Below w.heap.size w W3:=by
 obtain ⟨W1,hW1⟩:∃ W1,w.alloc (.cells #[.int .i64 more] 29)=W1:=⟨_,rfl⟩
 have b1:Below w.heap.size w W1:=by rw [← hW1]; exact (Jd _ _).alloc (Jb _) _
 have X1:W1.heap[w.heap.size]?=some (.cells #[.int .i64 more] 29):=by rw [← hW1]; exact heap_alloc_new w _
 have z1:w.heap.size<W1.heap.size:=(Ja.1 X1).1
 have A1:=hid' (new_any W1)
 have H0:=hid' (Jc hW1 (Jc b1 (Jc X1 (Jc hd (Jc hbw (Jc hm harg))))))
 clear hW1 b1 X1 hd hbw hm harg
 go_enter Try.func5,Try.ntmps5
 go_upto_region 1 with fail
 rw [H0.out.1]
 go_upto_region 4 with (first
  | (go_at_call 14; refine A1.out.mono ?_; rintro e W2 ⟨rfl,hp2,hpc,b2⟩)
  | fail)
 have X2:=(b2.block _ z1).trans H0.out.2.2.1
 have y0:W2.cell? ⟨w.heap.size,0,none⟩=some (.int .i64 more):=by simp [World.cell?,X2]
 have z2:w.heap.size<W2.heap.size:=(Ja.1 X2).1
 obtain ⟨pb,hpb⟩:∃ pb,W1.heap.size+1+1+1+1=pb:=⟨_,rfl⟩
 rw [hpb] at hp2 hpc
 simp only [hpb]
 have H2:=hid' (Jc hp2 (Jc b2 (Jc X2 (Jc hpb hpc))))
 clear hp2 b2 X2 A1 hpb hpc
 go_upto_region 5 with fail
 obtain ⟨mb,hmb⟩:∃ mb,W2.heap.size=mb:=⟨_,rfl⟩
 obtain ⟨W3,hW3⟩:∃ W3,W2.alloc (.cells #[.pointer (some ⟨pb,0,none⟩),.int .i64 more,.slice none 0 0,.int .i64 0] 35)=W3:=⟨_,rfl⟩
 have b3:Below W2.heap.size W2 W3:=by rw [← hW3]; exact (Jd _ _).alloc (Jb _) _
 have X3:W3.heap[mb]?=some (.cells #[.pointer (some ⟨pb,0,none⟩),.int .i64 more,.slice none 0 0,.int .i64 0] 35):=by rw [← hW3,← hmb]; exact heap_alloc_new W2 _
 rw [hW3]
 simp only [hmb]
 have bw3:Below w.heap.size w W3:=next2 (next2 H0.out.2.1 H2.out.2.1) b3
 have N3:=(b3.block _ z2).trans H2.out.2.2.1
 obtain ⟨w0,hw0⟩:∃ w0:Fr,w0=⟨W3,[pb]⟩:=⟨_,rfl⟩
 have pl:pb<W2.heap.size:=H2.out.1.lt
 have pc3:=(b3.block _ pl).trans H2.out.2.2.2.2
 have M3:MK base w0 W3 mb pb W1.heap.size (W1.heap.size+1) (W1.heap.size+1+1) (W1.heap.size+1+1+1) xb more (.slice none 0 0) [] 0 R0 p len cap c a:=by
  have e1:=H0.out.1
  have h2:=H0.out.2.2.2.2.1
  have h3:=H2.out.2.2.2.1
  have h4:W1.heap.size=w.heap.size+1:=by rw [← e1]; simp
  have h5:=H2.out.2.1.size
  have h6:=(Ja.1 H0.out.2.2.2.1.cells).1
  have h7:=b3.size
  rw [hw0]
  refine ⟨X3,NRow.nil _ _,⟨[],[],[],[],H2.out.1.below b3,sim0⟩,H0.out.2.2.2.1.cel (Cel.of_below bw3),fun b hb=>?_,BelowX.refl _ _ _,fun _ _=>rfl,fun b hb=>?_,H0.out.2.2.2.2.2.1,H0.out.2.2.2.2.2.2⟩
  ·simp only [List.mem_cons,List.not_mem_nil,or_false] at hb
   rcases hb with rfl | rfl | rfl | rfl | rfl | rfl <;> omega
  ·have e:b=pb:=List.mem_singleton.1 hb
   subst e
   exact ⟨by omega,by simp only [List.mem_cons,List.not_mem_nil,or_false]; omega,by omega,by simp [Value.ownBlock],by omega⟩
 obtain ⟨nb,hnb⟩:∃ nb,w.heap.size=nb:=⟨_,rfl⟩
 rw [hnb] at N3
 simp only [hnb]
 have HW:=hid' (Jc hw0 (Jc pc3 bw3))
 have H3:=hid' (Jc M3 N3)
 clear hW3 hmb b3 X3 bw3 N3 M3 y0 z2 hw0 pl pc3
 go_wp2_with fail
 go_loopg [7,8] 2 (fun gk okv kv wr=>∃ k:Nat,k≤2∧2 - k≤gk∧okv=.bool true∧kv=.int .i64 k∧Hid (MK base w0 wr mb pb W1.heap.size (W1.heap.size+1) (W1.heap.size+1+1) (W1.heap.size+1+1+1) xb more (.slice none 0 0) [] 0 (madeRJ c len more k (R0,a)).1 p len cap c (madeRJ c len more k (R0,a)).2∧RK more (madeRJ c len more k (R0,a)).1 k k 0 0∧wr.heap[nb]?=some (.cells #[.int .i64 more] 29)))
 case atStart=>exact ⟨0,by omega,by omega,rfl,rfl,(show _∧_∧_ from ⟨H3.out.1,rk0,H3.out.2⟩)⟩
 case' round=>skip
 obtain ⟨k,hk2,hgk,rfl,rfl,HR⟩:=hrel
 rename World=>Z0
 have n0:Z0.cell? ⟨nb,0,none⟩=some (.int .i64 more):=by simp [World.cell?,HR.out.2.2]
 have m0:nb<Z0.heap.size:=(Ja.1 HR.out.2.2).1
 by_cases hk:k<2
 ·have hkI:(k:Int)<2:=by omega
  obtain ⟨q,hq⟩:∃ q,madeRJ c len more k (R0,a)=q:=⟨_,rfl⟩
  have HR':=HR.out
  rw [hq] at HR'
  have B1:=hid' (mk_id HR'.1 (k:Int) (by omega) (by omega))
  have K2:=HR'.2.1.rack (by omega:k<4)
  have hv:=nv_bounds c len q.2 (n:=200) (by omega)
  have K4:=K2.2.job (by omega:k<4) hv.1 (by omega)
  have HK:=hid' (Jc hq (Jc HR' (Jc K2 K4)))
  clear HR' K2 K4 HR hq
  go_upto_region 10 with (first
   | (go_at_call 16; refine B1.out.mono ?_; rintro e Y1 ⟨rfl,M1,C1⟩; have B2:=mk_rack M1 (idOf more k); rw [HK.out.2.2.1.1] at B2; have C1:=hid' C1; clear M1)
   | (go_at_call 15; refine B2.mono ?_; rintro e Y2 ⟨rfl,M2,C2⟩; have H4:=hid' (Jc M2 (C1.out.trans C2)); clear M2 C2 B2)
   | fail)
  have N2:=H4.out.2 _ _ _ _ (by decide) HK.out.2.1.2.2
  have n2':Y2.cell? ⟨nb,0,none⟩=some (.int .i64 more):=by simp [World.cell?,N2]
  have m2:nb<Y2.heap.size:=(Ja.1 N2).1
  have B3:=hid' (mk_id H4.out.1 (k:Int) (by omega) (by omega))
  clear n0 m0 B1 N2 C1
  go_upto_region 11 with (first
   | (go_at_call 16; refine B3.out.mono ?_; rintro e Y3 ⟨rfl,M3,C3⟩; have B4:=hid' (mk_next M3 200 (by omega) (by omega)); have C3:=hid' C3; clear M3)
   | (go_at_call 18; refine B4.out.mono ?_; rintro e Y4 ⟨rfl,M4,C4⟩; have B5:=mk_job M4 (idOf more k) (nv c len q.2 200); rw [HK.out.2.2.2.1] at B5; have C4:=hid' (C3.out.trans C4); clear M4)
   | (go_at_call 17; refine B5.mono ?_; rintro e Y5 ⟨rfl,M5,C5⟩; have H5:=hid' (Jc M5 (H4.out.2.trans (C4.out.trans C5))); clear M5 C5 B5)
   | fail)
  go_wp2_with fail
  go_roundg (2 - (k+1))
  case measure=>omega
  case rel =>
   have e:madeRJ c len more (k+1) (R0,a)=(n4 (n2 q.1 (idOf more k)) (idOf more k) (nv c len q.2 200),na len q.2):=by rw [← HK.out.1]; rfl
   exact ⟨k+1,by omega,Jb _,rfl,by go_num,(show _∧_∧_ from ⟨by rw [e]; exact H5.out.1,by rw [e]; exact HK.out.2.2.2.2,H5.out.2 _ _ _ _ (by decide) HK.out.2.1.2.2⟩)⟩
 ·obtain rfl:k=2:=by omega
  obtain ⟨s1,hs1⟩:∃ s1,madeRJ c len more 2 (R0,a)=s1:=⟨_,rfl⟩
  have HR':=HR.out
  rw [hs1] at HR'
  have B1:=hid' (mk_id HR'.1 (0:Int) (by omega) (by omega))
  have K2:=HR'.2.1.again (by omega) (by omega)
  have HK:=hid' (Jc hs1 (Jc HR' K2))
  clear HR' K2 HR hs1
  go_upto_region 14 with (first
   | (go_at_call 16; refine B1.out.mono ?_; rintro e Y1 ⟨rfl,M1,C1⟩; have B2:=mk_rack M1 (idOf more 0); rw [HK.out.2.2.1,HK.out.2.2.2] at B2; have C1:=hid' C1; clear M1)
   | (go_at_call 15; refine B2.mono ?_; rintro e Y2 ⟨rfl,M2,C2⟩; have H4:=hid' (Jc M2 (C1.out.trans C2)); clear M2 C2 B2)
   | fail)
  have N2:=H4.out.2 _ _ _ _ (by decide) HK.out.2.1.2.2
  have H5:=hid' (Jc H4.out.1 N2)
  clear n0 m0 B1 N2 C1
  go_wp2_with fail
  go_loopg [7,12] 4 (fun gk okv kv wr=>∃ (s:RSt×Nat×List Int) (vs:Value),s.2.2.length≤4∧4 - s.2.2.length≤gk∧okv=.bool true∧kv=.int .i64 s.2.2.length∧Hid (MK base w0 wr mb pb W1.heap.size (W1.heap.size+1) (W1.heap.size+1+1) (W1.heap.size+1+1+1) xb more vs s.2.2 0 s.1 p len cap c s.2.1∧RK more s.1 2 2 s.2.2.length 0∧wr.heap[nb]?=some (.cells #[.int .i64 more] 29)∧(∀ x∈s.2.2,1≤x∧x≤3)∧s.1.t1.map (·.2.2)=s.2.2∧machN c len more (4 - s.2.2.length) s=machN c len more 4 (s1.1,s1.2,[])))
  case atStart=>exact ⟨(s1.1,s1.2,[]),_,by simp,by simp,rfl,rfl,(show _∧_∧_∧_∧_∧_ from ⟨H5.out.1,HK.out.2.1.2.1,H5.out.2,by simp,by rw [List.eq_nil_of_length_eq_zero (len_of HK.out.2.1.2.1.i1)]; rfl,rfl⟩)⟩
  case' round=>skip
  obtain ⟨s,vs,hs4,hgk,rfl,rfl,HL⟩:=hrel
  rename World=>Z1
  have A1:=hid' (mk_next HL.out.1 4 (by omega) (by omega))
  have hv4:=nv_bounds c len s.2.1 (n:=4) (by omega)
  by_cases hlt:(s.2.2.length:Int)<1+nv c len s.2.1 4
  ·have hl4:(s.2.2.length:Int)<4:=by omega
   go_upto_region 17 with (first
    | (go_at_call 18; refine A1.out.mono ?_; rintro e Y1 ⟨rfl,M1,C1⟩)
    | fail)
   have A2:=hid' (mk_next M1 3 (by omega) (by omega))
   have hv3:=nv_bounds c len (na len s.2.1) (n:=3) (by omega)
   have J1:=hid' (C1 _ _ _ _ (by decide) HL.out.2.2.1)
   clear M1 C1 A1
   go_upto_region 18 with (first
    | (go_at_call 18; refine A2.out.mono ?_; rintro e Y2 ⟨rfl,M2,C2⟩)
    | fail)
   have G0:=hid' (show Y2.drew.heap[nb]?=some (.cells #[.int .i64 more] 29) from C2 _ _ _ _ (by decide) J1.out)
   have u0:Y2.cell? ⟨nb,0,none⟩=some (.int .i64 more):=(S1.of (W:=Y2) G0.out).1
   have u1:nb<Y2.heap.size:=(S1.of (W:=Y2) G0.out).2
   have D1:=hid' (mk_id M2.drew (s.2.2.length:Int) (by omega) (by omega))
   have hv2:=nv_bounds c len (na len (na len s.2.1)) (n:=2) (by omega)
   have KM:=hid' (show c3 s.1 (idOf more s.2.2.length) (idOf more (nv c len (na len (na len s.2.1)) 2)) (1+nv c len (na len s.2.1) 3)=0∧RK more (n3 s.1 (idOf more s.2.2.length) (idOf more (nv c len (na len (na len s.2.1)) 2)) (1+nv c len (na len s.2.1) 3)) 2 2 (s.2.2.length+1) 0 from by
    have:=HL.out.2.1.mach (by omega) (by omega) (r:=(nv c len (na len (na len s.2.1)) 2).toNat) (by omega) (v:=1+nv c len (na len s.2.1) 3) (by omega) (by omega)
    rwa [Int.toNat_of_nonneg hv2.1] at this)
   clear M2 C2 A2 J1
   have hS0:S1 nb more Y2.drew:=⟨u0,u1⟩
   refine wp_region_held_drew (S:=S1 nb more) (by kernel_rfl) hS0 (fun _=>?_)
   refine tkH (v:=?_) 0 72 hS0 ?_ ?_; rotate_left 1
   ·(rintro w' ⟨e0,e1⟩; go_simp; try with_reducible rfl)
   simp only [Act.put,Jh,Ji,Jj]
   refine tkH (v:=?_) 1 73 hS0 ?_ ?_; rotate_left 1
   ·(rintro w' ⟨e0,e1⟩; go_simp; try with_reducible rfl)
   simp only [Act.put,Jh,Ji,Jj]
   refine tkH (v:=?_) 2 74 hS0 ?_ ?_; rotate_left 1
   ·(rintro w' ⟨e0,e1⟩; go_simp; try with_reducible rfl)
   simp only [Act.put,Jh,Ji,Jj]
   refine tkH (v:=?_) 4 76 hS0 ?_ ?_; rotate_left 1
   ·(rintro w' ⟨e0,e1⟩; go_simp; try with_reducible rfl)
   simp only [Act.put,Jh,Ji,Jj]
   refine tkH (v:=?_) 5 77 hS0 ?_ ?_; rotate_left 1
   ·(rintro w' ⟨e0,e1⟩; go_simp; try with_reducible rfl)
   simp only [Act.put,Jh,Ji,Jj]
   refine tkH (v:=?_) 8 80 hS0 ?_ ?_; rotate_left 1
   ·(rintro w' ⟨e0,e1⟩; go_simp; try with_reducible rfl)
   simp only [Act.put,Jh,Ji,Jj]
   refine wpAnyH_ready (rs:=[3]) (by kernel_rfl) (by simp) ?_
   refine AllReadyH.cons rfl (fun K hK=>?_) AllReadyH.nil
   go_simp
   refine D1.out.mono ?_
   rintro e T1 ⟨rfl,M1,C1⟩
   have G1:=C1 _ _ _ _ (by decide) G0.out
   have hS1:S1 nb more T1:=S1.of G1
   refine hK.out _ _ hS1 (fun _=>?_)
   clear hK K
   have D2:=hid' (mk_next M1 2 (by omega) (by omega))
   have F1:=hid' (Jc G1 C1)
   clear M1 G1 C1 D1
   refine wpAnyH_ready (rs:=[6]) (by kernel_rfl) (by simp) ?_
   refine AllReadyH.cons rfl (fun K hK=>?_) AllReadyH.nil
   go_simp
   refine D2.out.mono ?_
   rintro e T2 ⟨rfl,M2,C2⟩
   have G2:=C2 _ _ _ _ (by decide) F1.out.1
   have hS2:S1 nb more T2:=S1.of G2
   refine hK.out _ _ hS2 (fun _=>?_)
   clear hK K
   have D3:=hid' (mk_id M2 (nv c len (na len (na len s.2.1)) 2) hv2.1 (by omega))
   have F2:=hid' (Jc G2 C2)
   clear M2 G2 C2 D2
   refine wpAnyH_ready (rs:=[7]) (by kernel_rfl) (by simp) ?_
   refine AllReadyH.cons rfl (fun K hK=>?_) AllReadyH.nil
   go_simp
   refine D3.out.mono ?_
   rintro e T3 ⟨rfl,M3,C3⟩
   have G3:=C3 _ _ _ _ (by decide) F2.out.1
   have hS3:S1 nb more T3:=S1.of G3
   refine hK.out _ _ hS3 (fun _=>?_)
   clear hK K
   have D4:=mk_mach M3 (idOf more s.2.2.length) (idOf more (nv c len (na len (na len s.2.1)) 2)) (1+nv c len (na len s.2.1) 3)
   rw [KM.out.1] at D4
   have D4:=hid' D4
   have F3:=hid' (Jc G3 C3)
   clear M3 G3 C3 D3
   refine wpAnyH_ready (rs:=[9]) (by kernel_rfl) (by simp) ?_
   refine AllReadyH.cons rfl (fun K hK=>?_) AllReadyH.nil
   go_simp
   refine D4.out.mono ?_
   rintro e T4 ⟨rfl,M4,C4⟩
   have G4:=C4 _ _ _ _ (by decide) F3.out.1
   have hS4:S1 nb more T4:=S1.of G4
   refine hK.out _ _ hS4 (fun _=>?_)
   clear hK K
   have F4:=hid' (Jc G4 M4)
   clear M4 G4 C4 D4 hS0 hS1 hS2 hS3
   refine tkH (v:=?_) 10 14 hS4 ?_ ?_; rotate_left 1
   ·(rintro w' ⟨e0,e1⟩; go_simp; try with_reducible rfl)
   simp only [Act.put,Jh,Ji,Jj]
   refine wpAnyH_done (by kernel_rfl) ?_ _
   have MT:=F4.out.2
   obtain ⟨pv,cv,rfl⟩:=MT.row.sl'
   obtain ⟨q0,q1,q2,q3⟩:=MT.cs
   have hmT:=MT.lt
   have hbT:=MT.base_le
   obtain ⟨X,hX⟩:∃ X:Int,1+nv c len (na len s.2.1) 3=X:=⟨_,rfl⟩
   simp only [hX]
   have hrA:NRow base (T4.alloc (.cells #[.int .i64 X] 3)) (.slice pv s.2.2.length cv) s.2.2:=MT.row.below ((Jd _ _).alloc (Jb _) _)
   have HX:=hid' hX
   clear MT hX hS4
   go_wp2_with (first
    | (at_builtin; refine wpList_push _ base X _ _ rfl _ _ rfl rfl hrA T4.heap.size rfl (by simp) (by simp; omega) (by omega) ?_; intro v' T5 hrow hg hloc; obtain ⟨pv',cv',rfl⟩:=hrow.sl'; have hT5:T5.heap[mb]?=_:=(hg.block mb (by simp; omega) (fun e=>mk_mb F4.out.2 e.symm)).trans ((heap_alloc_old T4 _ hmT).trans F4.out.2.cells); have o2:T5.cell? ⟨mb,2,none⟩=some (.slice pv s.2.2.length cv):=(by simp [World.cell?,hT5]); have o3:T5.frozen? ⟨mb,2,none⟩=false:=(by simp [World.frozen?,hT5]); have o4:mb<T5.heap.size:=(Ja.1 hT5).1; have HP:=hid' (Jc (F4.out.2.pushed hrow hg hloc) (Jc hT5 (Jc hg hloc))); clear hrow hg hloc hT5)
    | fail)
   go_roundg (4 - (s.2.2.length+1))
   case measure=>omega
   case rel =>
    have eM:machN c len more (4 - s.2.2.length) s=machN c len more (4 - (s.2.2.length+1)) (mach1 c len more s.2.2.length (s.1,na len s.2.1,s.2.2)):=by
     rw [show 4 - s.2.2.length=(4 - (s.2.2.length+1))+1 by omega]
     show (if _ then _ else _)=_
     rw [if_pos hlt]
    have hX:=HX.out
    subst hX
    have hN3:n3 s.1 (idOf more s.2.2.length) (idOf more (nv c len (na len (na len s.2.1)) 2)) (1+nv c len (na len s.2.1) 3)={ s.1 with t1:=s.1.t1 ++ [(idOf more s.2.2.length,idOf more (nv c len (na len (na len s.2.1)) 2),1+nv c len (na len s.2.1) 3)] }:=by unfold n3; rw [if_pos KM.out.1]
    have hp1:=HP.out.1
    simp only [Jo,List.length_cons,List.length_nil,Nat.zero_add] at hp1
    refine ⟨mach1 c len more s.2.2.length (s.1,na len s.2.1,s.2.2),_,?_,?_,rfl,?_,(show _∧_∧_∧_∧_∧_ from ⟨hp1,?_,F4.out.2.names F4.out.1 HP.out.2.2.1,fun x hx=>?_,?_,?_⟩)⟩
    ·show (s.2.2 ++ [_]).length≤4
     simp; omega
    ·show 4 - (s.2.2 ++ [_]).length≤_
     simp
    ·show _=Value.int .i64 ((s.2.2 ++ [1+nv c len (na len s.2.1) 3]).length:Nat)
     rw [Jo]
     go_num
    ·show RK more _ 2 2 (s.2.2 ++ [_]).length 0
     rw [Jo]
     exact KM.out.2
    ·have hx':x∈s.2.2 ++ [1+nv c len (na len s.2.1) 3]:=hx
     rcases List.mem_append.1 hx' with hx | hx
     ·exact HL.out.2.2.2.1 x hx
     ·rw [List.mem_singleton.1 hx]; omega
    ·show (n3 s.1 (idOf more s.2.2.length) (idOf more (nv c len (na len (na len s.2.1)) 2)) (1+nv c len (na len s.2.1) 3)).t1.map (fun x:Th=>x.2.2)=s.2.2 ++ [1+nv c len (na len s.2.1) 3]
     rw [hN3]
     show (s.1.t1 ++ [(idOf more s.2.2.length,idOf more (nv c len (na len (na len s.2.1)) 2),1+nv c len (na len s.2.1) 3)]).map (fun x:Th=>x.2.2)=_
     rw [List.map_append,HL.out.2.2.2.2.1]
     rfl
    ·show machN c len more (4 - (s.2.2 ++ [_]).length) _=_
     rw [Jo]
     exact eM.symm.trans HL.out.2.2.2.2.2
  ·go_upto_region 21 with (first
    | (go_at_call 18; refine A1.out.mono ?_; rintro e Y1 ⟨rfl,M1,C1⟩)
    | fail)
   have hnm:1≤s.2.2.length:=by omega
   have eM:machN c len more (4 - s.2.2.length) s=(s.1,na len s.2.1,s.2.2):=by
    cases 4 - s.2.2.length with
    | zero=>rfl
    | succ f =>
     show (if _ then _ else _)=_
     rw [if_neg (by omega)]
   have A3:=hid' (mk_next M1 6 (by omega) (by omega))
   have hv6:=nv_bounds c len (na len s.2.1) (n:=6) (by omega)
   have J1:=hid' (C1 _ _ _ _ (by decide) HL.out.2.2.1)
   clear M1 C1 A1
   go_upto_region 22 with (first
    | (go_at_call 18; refine A3.out.mono ?_; rintro e Y2 ⟨rfl,M2,C2⟩; have hY2:=M2.cells; have o3:Y2.cell? ⟨mb,3,none⟩=some (.int .i64 0):=(by simp [World.cell?,hY2]); have o4:Y2.frozen? ⟨mb,3,none⟩=false:=(by simp [World.frozen?,hY2]); have o5:mb<Y2.heap.size:=(Ja.1 hY2).1; have H6:=hid' (Jc (M2.told (1+nv c len (na len s.2.1) 6)) (Jc (M2.apart2 (C2 _ _ _ _ (by decide) J1.out)).1 (C2 _ _ _ _ (by decide) J1.out))); clear M2 C2 hY2)
    | fail)
   obtain ⟨nt,hnt⟩:∃ nt:Nat,1+nv c len (na len s.2.1) 6=(nt:Int):=⟨(1+nv c len (na len s.2.1) 6).toNat,by omega⟩
   have hnt1:1≤nt∧nt≤6:=by omega
   obtain ⟨W6,hW6⟩:∃ W6,Y2.setCell ⟨mb,3,none⟩ (.int .i64 (1+nv c len (na len s.2.1) 6))=W6:=⟨_,rfl⟩
   have N6:W6.heap[nb]?=some (.cells #[.int .i64 more] 29):=by
    have hne:¬ mb=nb:=fun e=>H6.out.2.1 e.symm
    rw [← hW6]
    simp [World.setCell,Array.getElem?_modify,hne,H6.out.2.2]
   have M6:=H6.out.1
   rw [hW6,hnt] at M6
   rw [hW6]
   have nbx:nb≠xb∧nb<base:=by
    have h1:=H0.out.2.2.2.1.cells
    have h2:=(Ja.1 h1).1
    have h3:=H0.out.2.2.2.2.1
    omega
   have nb0:w0.w.heap[nb]?=some (.cells #[.int .i64 more] 29):=by
    rw [HW.out.1]
    exact H3.out.2
   have H7:=hid' (Jc M6 (Jc N6 (Jc hnt (Jc nbx nb0))))
   clear hW6 M6 N6 hnt nbx nb0 o3 o4 o5 H6 hv6 A3
   go_wp2_with fail
   go_loopg [7,15] 6 (fun gk okv kv wr=>∃ (k:Nat) (s3:RSt×Nat),k≤nt∧nt - k≤gk∧okv=.bool true∧kv=.int .i64 k∧Hid (MK base w0 wr mb pb W1.heap.size (W1.heap.size+1) (W1.heap.size+1+1) (W1.heap.size+1+1+1) xb more vs s.2.2 nt s3.1 p len cap c s3.2∧RK more s3.1 2 2 s.2.2.length k∧wr.heap[nb]?=some (.cells #[.int .i64 more] 29)∧taskN c len more s.2.2.length k (s.1,na len (na len s.2.1))=s3))
   case atStart=>exact ⟨0,(s.1,na len (na len s.2.1)),by omega,by omega,rfl,rfl,(show _∧_∧_∧_ from ⟨H7.out.1,HL.out.2.1,H7.out.2.1,rfl⟩)⟩
   case' round=>skip
   obtain ⟨k,s3,hkt,hgk3,rfl,rfl,HT⟩:=hrel
   rename World=>Z2
   obtain ⟨_,_,_,z3⟩:=HT.out.1.cs
   have z4:=HT.out.1.lt
   by_cases hk:k<nt
   ·have hkI:(k:Int)<(nt:Int):=by omega
    have G0:=hid' (show Z2.drew.heap[nb]?=some (.cells #[.int .i64 more] 29) from HT.out.2.2.1)
    have u0:Z2.cell? ⟨nb,0,none⟩=some (.int .i64 more):=(S1.of (W:=Z2) G0.out).1
    have u1:nb<Z2.heap.size:=(S1.of (W:=Z2) G0.out).2
    have D1:=hid' (mk_id HT.out.1.drew (k:Int) (by omega) (by omega))
    have hv2:=nv_bounds c len s3.2 (n:=2) (by omega)
    have hv20:=nv_bounds c len (na len s3.2) (n:=200) (by omega)
    have KT:=hid' (show c5 s3.1 (idOf more k) (idOf more (nv c len s3.2 2)) (nv c len (na len s3.2) 200)=0∧RK more (n5 s3.1 (idOf more k) (idOf more (nv c len s3.2 2)) (nv c len (na len s3.2) 200)) 2 2 s.2.2.length (k+1) from by
     have:=HT.out.2.1.task (by omega) (by omega) (j:=(nv c len s3.2 2).toNat) (by omega) (v:=nv c len (na len s3.2) 200) hv20.1 (by omega)
     rwa [Int.toNat_of_nonneg hv2.1] at this)
    go_upto_region 25 with fail
    have hS0:S1 nb more Z2.drew:=⟨u0,u1⟩
    refine wp_region_held_drew (S:=S1 nb more) (by kernel_rfl) hS0 (fun _=>?_)
    refine tkH (v:=?_) 0 111 hS0 ?_ ?_; rotate_left 1
    ·(rintro w' ⟨e0,e1⟩; go_simp; try with_reducible rfl)
    simp only [Act.put,Jh,Ji,Jj]
    refine tkH (v:=?_) 1 112 hS0 ?_ ?_; rotate_left 1
    ·(rintro w' ⟨e0,e1⟩; go_simp; try with_reducible rfl)
    simp only [Act.put,Jh,Ji,Jj]
    refine tkH (v:=?_) 2 113 hS0 ?_ ?_; rotate_left 1
    ·(rintro w' ⟨e0,e1⟩; go_simp; try with_reducible rfl)
    simp only [Act.put,Jh,Ji,Jj]
    refine tkH (v:=?_) 4 115 hS0 ?_ ?_; rotate_left 1
    ·(rintro w' ⟨e0,e1⟩; go_simp; try with_reducible rfl)
    simp only [Act.put,Jh,Ji,Jj]
    refine tkH (v:=?_) 5 116 hS0 ?_ ?_; rotate_left 1
    ·(rintro w' ⟨e0,e1⟩; go_simp; try with_reducible rfl)
    simp only [Act.put,Jh,Ji,Jj]
    refine tkH (v:=?_) 8 119 hS0 ?_ ?_; rotate_left 1
    ·(rintro w' ⟨e0,e1⟩; go_simp; try with_reducible rfl)
    simp only [Act.put,Jh,Ji,Jj]
    refine wpAnyH_ready (rs:=[3]) (by kernel_rfl) (by simp) ?_
    refine AllReadyH.cons rfl (fun K hK=>?_) AllReadyH.nil
    go_simp
    refine D1.out.mono ?_
    rintro e T1 ⟨rfl,M1,C1⟩
    have G1:=C1 _ _ _ _ (by decide) G0.out
    have hS1:S1 nb more T1:=S1.of G1
    refine hK.out _ _ hS1 (fun _=>?_)
    clear hK K
    have D2:=hid' (mk_next M1 2 (by omega) (by omega))
    have F1:=hid' (Jc G1 C1)
    clear M1 G1 C1 D1
    refine wpAnyH_ready (rs:=[6]) (by kernel_rfl) (by simp) ?_
    refine AllReadyH.cons rfl (fun K hK=>?_) AllReadyH.nil
    go_simp
    refine D2.out.mono ?_
    rintro e T2 ⟨rfl,M2,C2⟩
    have G2:=C2 _ _ _ _ (by decide) F1.out.1
    have hS2:S1 nb more T2:=S1.of G2
    refine hK.out _ _ hS2 (fun _=>?_)
    clear hK K
    have D3:=hid' (mk_id M2 (nv c len s3.2 2) hv2.1 (by omega))
    have F2:=hid' (Jc G2 C2)
    clear M2 G2 C2 D2
    refine wpAnyH_ready (rs:=[7]) (by kernel_rfl) (by simp) ?_
    refine AllReadyH.cons rfl (fun K hK=>?_) AllReadyH.nil
    go_simp
    refine D3.out.mono ?_
    rintro e T3 ⟨rfl,M3,C3⟩
    have G3:=C3 _ _ _ _ (by decide) F2.out.1
    have hS3:S1 nb more T3:=S1.of G3
    refine hK.out _ _ hS3 (fun _=>?_)
    clear hK K
    have D4:=hid' (mk_next M3 200 (by omega) (by omega))
    have F3:=hid' (Jc G3 C3)
    clear M3 G3 C3 D3
    refine wpAnyH_ready (rs:=[9]) (by kernel_rfl) (by simp) ?_
    refine AllReadyH.cons rfl (fun K hK=>?_) AllReadyH.nil
    go_simp
    refine D4.out.mono ?_
    rintro e T4 ⟨rfl,M4,C4⟩
    have G4:=C4 _ _ _ _ (by decide) F3.out.1
    have hS4:S1 nb more T4:=S1.of G4
    refine hK.out _ _ hS4 (fun _=>?_)
    clear hK K
    have D5:=mk_task M4 (idOf more k) (idOf more (nv c len s3.2 2)) (nv c len (na len s3.2) 200)
    rw [KT.out.1] at D5
    have D5:=hid' D5
    have F4:=hid' (Jc G4 C4)
    clear M4 G4 C4 D4
    refine wpAnyH_ready (rs:=[10]) (by kernel_rfl) (by simp) ?_
    refine AllReadyH.cons rfl (fun K hK=>?_) AllReadyH.nil
    go_simp
    refine D5.out.mono ?_
    rintro e T5 ⟨rfl,M5,C5⟩
    have G5:=C5 _ _ _ _ (by decide) F4.out.1
    have hS5:S1 nb more T5:=S1.of G5
    refine hK.out _ _ hS5 (fun _=>?_)
    clear hK K
    have F5:=hid' (Jc G5 M5)
    clear M5 G5 C5 D5 hS0 hS1 hS2 hS3 hS4
    refine tkH (v:=?_) 11 16 hS5 ?_ ?_; rotate_left 1
    ·(rintro w' ⟨e0,e1⟩; go_simp; try with_reducible rfl)
    simp only [Act.put,Jh,Ji,Jj]
    refine wpAnyH_done (by kernel_rfl) ?_ _
    have WA:=hid' (wish_any F5.out.2 (k:Int) (by omega) (by omega) hnm (by omega))
    go_wp2_with (first
     | (go_at_call 21; refine WA.out.mono ?_; rintro e T6 ⟨rfl,M6⟩; have F6:=hid' M6; clear M6)
     | fail)
    go_roundg (nt - (k+1))
    case measure=>omega
    case rel =>
     refine ⟨k+1,task1 c len more s.2.2.length k s3,by omega,Jb _,rfl,by go_num,(show _∧_∧_∧_ from ⟨F6.out,KT.out.2.wishT c len s.2.2.length k _,(F6.out.below.block nb H7.out.2.2.2.1.2 H7.out.2.2.2.1.1).trans H7.out.2.2.2.2,?_⟩)⟩
     rw [← HT.out.2.2.2]
     rfl
   ·obtain rfl:k=nt:=by omega
    have hkI:¬ (k:Int)<(k:Int):=by omega
    have hsl:=HL.out.2.2.2.2.2
    rw [eM] at hsl
    have IS:=hid' (show MadeIs c len more a s.2.2 k s3.1 s3.2 from ⟨⟨s1,(s.1,na len s.2.1,s.2.2),k,HK.out.1,hsl.symm,rfl,H7.out.2.2.1.symm,rfl,HT.out.2.2.2⟩,(by simpa using HT.out.2.1),(by omega),HL.out.2.2.2.1,(by rw [← HT.out.2.2.2,taskN_t1]; exact HL.out.2.2.2.2.1)⟩)
    go_wp2_with fail
    go_ret
    exact ⟨W3,mb,rfl,pb,_,_,_,_,vs,s.2.2,k,s3.1,s3.2,by rw [← HW.out.1]; exact HT.out.1,IS.out,HW.out.2.1,(by rw [← hnb]; exact HW.out.2.2)⟩
theorem made_any {v0:World}(hd:DiceAt w xb p len cap c a)(hbw:base≤w.heap.size)(hb0:BelowX base xb v0 w)(hm:0≤more∧more<100)(harg:∀ q,len≠0→p=some q→q.block<base) :
  Calls Try.prog 5 #[.pointer (some ⟨xb,0,none⟩),.agg #[.int .i64 more]] w fun e w'=>∃ mb pb b0 b1 b2 b3 vs slots tasks R a',e=.returned (.pointer (some ⟨mb,0,none⟩))∧MK base ⟨v0,[]⟩ w' mb pb b0 b1 b2 b3 xb more vs slots tasks R p len cap c a'∧MadeIs c len more a slots tasks R a'∧w'.heap[pb]?=some (.cells #[.map (some b0),.map (some b1),.map (some b2),.map (some b3),.int .i64 0,.slice none 0 0,.slice none 0 0,.slice none 0 0,.slice none 0 0] 74):=by
 refine (made_in hd rfl hm (fun q z e=>Jm (harg q z e) (by omega))).mono ?_
 rintro e w' ⟨W3,mb,pb,b0,b1,b2,b3,vs,slots,tasks,R,a',rfl,hM,hI,hpc,hb3⟩
 exact ⟨mb,pb,b0,b1,b2,b3,vs,slots,tasks,R,a',rfl,hM.widen (by omega) (hb0.trans (BelowX.of xb (hb3.mono hbw))) harg,hI,(hM.kept pb (by simp)).trans hpc⟩
end
end
section
open Go.RowKit
section
variable {base:Nat}{w0:Fr}{w w':World}{mb pb b0 b1 b2 b3 xb:Nat}{more:Int}{vs:Value}{slots:List Int}{tasks:Int}{R R':RSt}{p:Option Addr}{len cap a a':Nat}{c:Nat→Int}
theorem DiceAt.keep (h:DiceAt w xb p len cap c a)(hx:w'.heap[xb]?=w.heap[xb]?)(hq:∀ q,len≠0→p=some q→w'.heap[q.block]?=w.heap[q.block]?):DiceAt w' xb p len cap c a:=by
 refine ⟨h.le,hx.trans h.cells,?_,h.few⟩
 rcases h.codes with q | ⟨sb,off,e,hs,hi⟩
 ·exact Jr q
 ·refine Js ⟨sb,off,e,hs,fun i hl=>⟨?_,(hi i hl).2⟩⟩
  have:=hq _ (by omega) e
  rw [← (hi i hl).1]
  simp only [World.cell?]
  rw [show w'.heap[sb]?=w.heap[sb]? from this]
theorem NRow.keep {v:Value}{xs:List Int}(h:NRow base w v xs)(hb:∀ b,base≤b→b<w.heap.size→(∃ cs,w.heap[b]?=some (.cells cs 3))→w'.heap[b]?=w.heap[b]?):NRow base w' v xs:=by
 refine ⟨h.1,?_⟩
 rcases h.2 with q | ⟨g,cap,cur,hv,q0,hg,r⟩
 ·exact Jr q
 ·exact Js ⟨g,cap,cur,hv,q0,(hb g q0 (Ja.1 hg).1 ⟨_,hg⟩).trans hg,r⟩
theorem MK.solved {l0 l1 l2 l3 m0 m1 m2 m3}(h:MK base w0 w mb pb b0 b1 b2 b3 xb more vs slots tasks R p len cap c a)(hp:PlanAt w pb b0 b1 b2 b3 l0 l1 l2 l3)(ho:Only [pb,b0,b1,b2,b3] w w')(hp':PlanAt w' pb b0 b1 b2 b3 m0 m1 m2 m3)(hs:Sim m0 m1 m2 m3 R'):MK base ⟨w0.w,[]⟩ w' mb pb b0 b1 b2 b3 xb more vs slots tasks R' p len cap c a:=by
 have hmv:∀ (b:Nat) (cs:Array Value) (t:TypeId) (f:Nat×Nat),t≠74→w.heap[b]?=some (.cells cs t f)→w'.heap[b]?=some (.cells cs t f):=fun b cs t f ht q=>(ho.block b (Ja.1 q).1 (fun hm=>by
  rcases List.mem_cons.1 hm with rfl | hm
  ·obtain ⟨_,_,_,_,_,q'⟩:=hp.cells
   rw [q] at q'
   cases q'
   exact ht rfl
  ·exact hp.notmap q hm)).trans q
 have hold:∀ b,b<base→b∉[pb,b0,b1,b2,b3]:=fun b hb hm=>by
  have:=h.old b (Jk _ hm)
  omega
 refine ⟨hmv _ _ _ _ (by decide) h.cells,h.row.keep (fun b _ _ ⟨cs,q⟩=>(hmv _ _ _ _ (by decide) q).trans q.symm),⟨m0,m1,m2,m3,hp',hs⟩,h.dice.keep ((hmv _ _ _ _ (by decide) h.dice.cells).trans h.dice.cells.symm) (fun q z e=>?_),h.old,?_,fun b q=>(by cases q),fun b q=>(by cases q),h.more0,h.arg⟩
 ·have h1:=h.arg q z e
  exact ho.block _ (Jm h1 h.base_le) (hold _ h1)
 ·exact h.below.trans ⟨ho.os,ho.tape,ho.output,ho.size,fun b hb _=>ho.block b (Jm hb h.base_le) (hold b hb)⟩
theorem MK.fits (h:MK base w0 w mb pb b0 b1 b2 b3 xb more vs slots tasks R p len cap c a):Fit R∧RunFit R∧∀ n∈R.on,n=-1∨∃ y∈R.t1,y.1=n:=by
 obtain ⟨l0,l1,l2,l3,hp,hs⟩:=h.plan
 exact ⟨hs.fit,hs.fits.net.run,hs.runs.onf⟩
end
end
section
open Go.RowKit
structure RM (more:Int)(R:RSt)(slots:List Int)(nt:Nat):Prop where
 i0:R.t0.map (·.1)=idsL more 2
 i3:R.t3.map (·.1)=idsL more nt
 few:1≤slots.length∧slots.length≤4∧1≤nt∧nt≤6
 sl:∀ s∈slots,1≤s∧s≤3
 all:∀ x∈R.t1,∃ k,∃ h:k<slots.length,x.1=idOf more k∧x.2.2=slots[k]
 each:∀ k,k<slots.length→∃ x∈R.t1,x.1=idOf more k
def posM (more:Int)(R:RSt)(k:Nat):Nat:=(atOf (idOf more k) R.t1).toNat
section
variable {more:Int}{R:RSt}{slots:List Int}{nt:Nat}
theorem RM.pos (h:RM more R slots nt)(hf:RunFit R){k:Nat}(hk:k<slots.length):∃ hl:posM more R k<R.t1.length,R.t1[posM more R k].1=idOf more k∧R.t1[posM more R k].2.2=slots[k]:=by
 obtain ⟨x,hx,e⟩:=h.each k hk
 obtain ⟨j,hj,rfl⟩:=List.mem_iff_getElem.1 hx
 have hp:posM more R k=j:=by
  unfold posM
  rw [← e,hf.at1 j hj]
  simp
 have hl:posM more R k<R.t1.length:=by rw [hp]; exact hj
 refine ⟨hl,?_⟩
 have e2:R.t1[posM more R k]=R.t1[j]:=by simp [hp]
 rw [e2]
 refine ⟨e,?_⟩
 obtain ⟨k',hk',q1,q2⟩:=h.all _ (Jl hj)
 have h4:=h.few
 have:k'=k:=idOf_inj (by omega) (by omega) (q1.symm.trans e)
 subst this
 exact q2
theorem RM.rn (h:RM more R slots nt)(P:Nat→Nat)(n:Nat):RM more (Rn R P n) slots nt:=⟨h.i0,h.i3,h.few,h.sl,h.all,h.each⟩
end
end
section
open Go.RowKit
section
variable {more:Int}{R:RSt}{slots:List Int}{nt:Nat}
theorem RM.tick (h:RM more R slots nt):RM more (n8 R) slots nt:=⟨h.i0,h.i3,h.few,h.sl,h.all,h.each⟩
theorem RM.pref (h:RM more R slots nt)(t k i c:Int):RM more (n6 R t k i c) slots nt:=by
 unfold n6
 split
 ·exact ⟨h.i0,h.i3,h.few,h.sl,h.all,h.each⟩
 ·exact h
theorem RM.wish1 (h:RM more R slots nt)(c:Nat→Int)(len ns:Nat)(task:Int)(a:Nat):RM more (wish1 c len more ns task (R,a)).1 slots nt:=by
 unfold Ytjdindfjfpdikab.wish1
 split
 ·exact h.pref _ _ _ _
 ·exact h.pref _ _ _ _
theorem RM.wishN (c:Nat→Int)(len ns:Nat)(task:Int):∀ (k:Nat)(s:RSt×Nat),RM more s.1 slots nt→RM more (wishN c len more ns task k s).1 slots nt
 | 0,_,h=>h
 | k+1,(_,a),h=>RM.wishN c len ns task k _ (RM.wish1 h c len ns task a)
theorem RM.wishT (h:RM more R slots nt)(c:Nat→Int)(len ns:Nat)(task:Int)(a:Nat):RM more (wishT c len more ns task (R,a)).1 slots nt:=RM.wishN c len ns task _ _ h
theorem RM.stirred (h:RM more R slots nt)(hf:Fit R)(hr:RunFit R){i r:Nat}(hi:i<slots.length)(hr2:r<2):RM more (n3 (n7 R 1 (idOf more i)) (idOf more i) (idOf more r) slots[i]) slots nt:=by
 obtain ⟨hl,e1,e2⟩:=h.pos hr hi
 have h4:=h.few
 have hid:=idOf_bounds more i
 have hat:atOf (idOf more i) R.t1=posM more R i:=by rw [← e1]; exact hr.at1 _ hl
 have hc7:c7 R 1 (idOf more i)=0:=by
  unfold c7
  rw [if_neg (by omega),if_neg (by show ¬ atOf _ R.t1<0; rw [hat]; omega),if_neg (by simp [busyR])]
 have hn7:n7 R 1 (idOf more i)={ R with t1:=R.t1.eraseIdx (posM more R i),ws:=R.ws.filter (fun x=>!goneW 1 (idOf more i) x),on:=R.on.map (off (idOf more i)) }:=by
  unfold n7
  rw [if_pos hc7,if_neg (by decide),if_pos rfl,hat,Jn]
 rw [hn7]
 have her:R.t1.eraseIdx (posM more R i)=R.t1.filter (fun x=>decide (x.1≠idOf more i)):=by rw [← e1]; exact erase_filter hf.nd1 hl
 have hsl:=h.sl _ (Jl hi)
 have hlen:(R.t1.eraseIdx (posM more R i)).length<8:=by
  have:=hf.len1
  rw [List.length_eraseIdx,if_pos hl]
  omega
 obtain ⟨l,hll⟩:∃ l,R.t1.eraseIdx (posM more R i)=l:=⟨_,rfl⟩
 rw [hll] at her hlen ⊢
 have hc3:c3 { R with t1:=l,ws:=R.ws.filter (fun x=>!goneW 1 (idOf more i) x),on:=R.on.map (off (idOf more i)) } (idOf more i) (idOf more r) slots[i]=0:=by
  have q1:atOf (idOf more i) l<0:=by
   rw [atOf_neg]
   intro x hx e
   rw [her] at hx
   have:=(List.mem_filter.1 hx).2
   simp [e] at this
  have q2:=at_ids h.i0 (by omega) hr2
  unfold c3 makeOf
  show (if _ then _ else if 0≤atOf (idOf more i) l then _ else if (8:Int)≤(l.length:Nat) then _ else if atOf (idOf more r) R.t0<0 then _ else _)=_
  rw [if_neg (by omega),if_neg (by omega),if_neg (by omega),if_neg (by omega),if_neg (by omega)]
 unfold n3
 rw [if_pos hc3]
 refine ⟨h.i0,h.i3,h.few,h.sl,fun x hx=>?_,fun k hk=>?_⟩
 ·rcases mem_snoc.1 hx with q | rfl
  ·rw [her] at q
   exact h.all x (List.mem_filter.1 q).1
  ·exact ⟨i,hi,rfl,rfl⟩
 ·by_cases e:k=i
  ·subst e
   exact ⟨_,mem_snoc.2 (Js rfl),rfl⟩
  ·obtain ⟨x,hx,ex⟩:=h.each k hk
   refine ⟨x,mem_snoc.2 (Jr ?_),ex⟩
   rw [her]
   refine List.mem_filter.2 ⟨hx,?_⟩
   have:x.1≠idOf more i:=fun q=>e (idOf_inj (by omega) (by omega) (ex.symm.trans q))
   simpa using this
end
def S7 (mb:Nat)(z0 z1 z2:Value)(gs i:Nat)(s:Int)(W:World):Prop:=W.cell? ⟨mb,0,none⟩=some z0∧W.cell? ⟨mb,1,none⟩=some z1∧W.cell? ⟨mb,2,none⟩=some z2∧mb<W.heap.size∧W.cell? ⟨gs,i,none⟩=some (.int .i64 s)∧gs<W.heap.size
section
variable {base:Nat}{w0:Fr}{w w':World}{mb pb b0 b1 b2 b3 xb:Nat}{more:Int}{vs:Value}{slots:List Int}{tasks:Int}{R R':RSt}{p:Option Addr}{len cap a a' nt:Nat}{c:Nat→Int}
theorem S7.of {gs cv i:Nat}(h:MK base w0 w mb pb b0 b1 b2 b3 xb more (.slice (some ⟨gs,0,none⟩) slots.length cv) slots tasks R p len cap c a)(hi:i<slots.length):S7 mb (.pointer (some ⟨pb,0,none⟩)) (.int .i64 more) (.slice (some ⟨gs,0,none⟩) slots.length cv) gs i slots[i] w:=by
 obtain ⟨g,e,s1,s2,_⟩:=h.row.at' hi
 cases e
 exact ⟨h.cs.1,h.cs.2.1,h.cs.2.2.1,h.lt,s2,s1⟩
theorem stir_any (hM:MK base w0 w mb pb b0 b1 b2 b3 xb more vs slots tasks R p len cap c a)(hR:RM more R slots nt)(htk:tasks=nt) :
  Calls Try.prog 11 #[.pointer (some ⟨mb,0,none⟩),.pointer (some ⟨xb,0,none⟩)] w fun e w'=>e=.returned (.tuple #[])∧∃ R' a',MK base w0 w' mb pb b0 b1 b2 b3 xb more vs slots tasks R' p len cap c a'∧RM more R' slots nt:=by
 subst htk
 have hfew:=hR.few
 obtain ⟨pv,cv,rfl⟩:=hM.row.sl'
 obtain ⟨gs,e1,_⟩:=hM.row.at' (k:=0) (by omega)
 subst e1
 have A0:=hid' (mk_next hM 6 (by omega) (by omega))
 have hv6:=nv_bounds c len a (n:=6) (by omega)
 have HR0:=hid' hR
 clear hM hR
 go_enter Try.func11,Try.ntmps11
 go_upto_region 1 with (first
  | (go_at_call 18; refine A0.out.mono ?_; rintro e W1 ⟨rfl,M1,_⟩; have H1:=hid' M1; clear M1 A0)
  | fail)
 go_loopg [4] (nv c len a 6).toNat (fun gk kv wr=>∃ (k:Nat) (R:RSt) (a:Nat),k≤5∧k≤gk∧kv=.int .i64 k∧Hid (MK base w0 wr mb pb b0 b1 b2 b3 xb more (.slice (some ⟨gs,0,none⟩) slots.length cv) slots nt R p len cap c a∧RM more R slots nt))
 case atStart=>exact ⟨(nv c len a 6).toNat,R,_,by omega,Jb _,by rw [Int.toNat_of_nonneg hv6.1],(show _∧_ from ⟨H1.out,HR0.out⟩)⟩
 case' round=>skip
 obtain ⟨k,Q,b,hk5,hgk,rfl,HL⟩:=hrel
 rename World=>Z0
 clear H1 HR0 hv6
 by_cases hk:0<k
 ·have hkI:(0:Int)<(k:Int):=by omega
  obtain ⟨k',rfl⟩:∃ k',k=k'+1:=⟨k - 1,by omega⟩
  have A1:=hid' (mk_next HL.out.1 4 (by omega) (by omega))
  have hv4:=nv_bounds c len b (n:=4) (by omega)
  obtain ⟨v,hv⟩:∃ v,nv c len b 4=v:=⟨_,rfl⟩
  rw [hv] at A1 hv4
  clear hv
  rcases (show v=0∨(v=1∨v=2)∨v=3 by omega) with rfl | hv | rfl
  ·go_upto_region 8 with (first
    | (go_at_call 18; refine A1.out.mono ?_; rintro e Z1 ⟨rfl,M1,_⟩; have H2:=hid' M1; clear M1 A1)
    | fail)
   obtain ⟨y0,_,_,_⟩:=H2.out.cs
   have y4:=H2.out.lt
   have A2:=hid' (mk_tick H2.out)
   go_wp2_with (first
    | (go_at_call 30; refine A2.out.mono ?_; rintro e Z2 ⟨rfl,M2,_⟩; have H3:=hid' M2; clear M2 A2)
    | fail)
   go_roundg k'
   case measure=>omega
   case rel=>exact ⟨k',_,_,by omega,Jb _,by go_num,(show _∧_ from ⟨H3.out,HL.out.2.tick⟩)⟩
  ·rcases hv with rfl | rfl
   ·go_upto_region 11 with (first
     | (go_at_call 18; refine A1.out.mono ?_; rintro e Z1 ⟨rfl,M1,_⟩; have H2:=hid' M1; clear M1 A1)
     | fail)
    obtain ⟨_,_,_,y3⟩:=H2.out.cs
    have y4:=H2.out.lt
    have A2:=hid' (mk_next H2.out (nt:Int) (by omega) (by omega))
    have hvn:=nv_bounds c len (na len b) (n:=(nt:Int)) (by omega)
    go_wp2_with (first
     | (go_at_call 18; refine A2.out.mono ?_; rintro e Z2 ⟨rfl,M2,_⟩; have A3:=hid' (wish_any M2 (nv c len (na len b) (nt:Int)) hvn.1 (by omega) (by omega) (by omega)); clear M2 A2)
     | (go_at_call 21; refine A3.out.mono ?_; rintro e Z3 ⟨rfl,M3⟩; have H3:=hid' M3; clear M3 A3)
     | fail)
    go_roundg k'
    case measure=>omega
    case rel=>exact ⟨k',_,_,by omega,Jb _,by go_num,(show _∧_ from ⟨H3.out,HL.out.2.wishT c len slots.length _ _⟩)⟩
   ·go_upto_region 11 with (first
     | (go_at_call 18; refine A1.out.mono ?_; rintro e Z1 ⟨rfl,M1,_⟩; have H2:=hid' M1; clear M1 A1)
     | fail)
    obtain ⟨_,_,_,y3⟩:=H2.out.cs
    have y4:=H2.out.lt
    have A2:=hid' (mk_next H2.out (nt:Int) (by omega) (by omega))
    have hvn:=nv_bounds c len (na len b) (n:=(nt:Int)) (by omega)
    go_wp2_with (first
     | (go_at_call 18; refine A2.out.mono ?_; rintro e Z2 ⟨rfl,M2,_⟩; have A3:=hid' (wish_any M2 (nv c len (na len b) (nt:Int)) hvn.1 (by omega) (by omega) (by omega)); clear M2 A2)
     | (go_at_call 21; refine A3.out.mono ?_; rintro e Z3 ⟨rfl,M3⟩; have H3:=hid' M3; clear M3 A3)
     | fail)
    go_roundg k'
    case measure=>omega
    case rel=>exact ⟨k',_,_,by omega,Jb _,by go_num,(show _∧_ from ⟨H3.out,HL.out.2.wishT c len slots.length _ _⟩)⟩
  ·go_upto_region 5 with (first
    | (go_at_call 18; first | (refine A1.out.mono ?_; rintro e Z1 ⟨rfl,M1,_⟩; have H2:=hid' M1; obtain ⟨_,_,y2,_⟩:=M1.cs; have y4:=M1.lt; have A2:=hid' (mk_next M1 (slots.length:Int) (by omega) (by omega)); clear M1 A1) | (refine A2.out.mono ?_; rintro e Z2 ⟨rfl,M2,_⟩; have H3:=hid' M2; clear M2 A2 y2 y4))
    | fail)
   have hvi:=nv_bounds c len (na len b) (n:=(slots.length:Int)) (by omega)
   obtain ⟨i,hi⟩:∃ i:Nat,nv c len (na len b) (slots.length:Int)=(i:Int):=⟨(nv c len (na len b) (slots.length:Int)).toNat,by omega⟩
   rw [hi]
   rw [hi] at hvi
   clear hi
   have hil:i<slots.length:=by omega
   have hiI:(i:Int)<(slots.length:Int):=by omega
   have hS0:=S7.of H3.out.drew hil
   have D1:=hid' (mk_id H3.out.drew (i:Int) (by omega) (by omega))
   refine wp_region_held_drew (S:=S7 mb (.pointer (some ⟨pb,0,none⟩)) (.int .i64 more) (.slice (some ⟨gs,0,none⟩) slots.length cv) gs i slots[i]) (by kernel_rfl) hS0 (fun _=>?_)
   refine tkH (v:=?_) 0 21 hS0 ?_ ?_; rotate_left 1
   ·(rintro w' ⟨e0,e1,e2,e3,e4,e5⟩; go_simp; try with_reducible rfl)
   simp only [Act.put,Jh,Ji,Jj]
   refine tkH (v:=?_) 1 22 hS0 ?_ ?_; rotate_left 1
   ·(rintro w' ⟨e0,e1,e2,e3,e4,e5⟩; go_simp; try with_reducible rfl)
   simp only [Act.put,Jh,Ji,Jj]
   refine tkH (v:=?_) 2 23 hS0 ?_ ?_; rotate_left 1
   ·(rintro w' ⟨e0,e1,e2,e3,e4,e5⟩; go_simp; try with_reducible rfl)
   simp only [Act.put,Jh,Ji,Jj]
   refine tkH (v:=?_) 3 24 hS0 ?_ ?_; rotate_left 1
   ·(rintro w' ⟨e0,e1,e2,e3,e4,e5⟩; go_simp; try with_reducible rfl)
   simp only [Act.put,Jh,Ji,Jj]
   refine tkH (v:=?_) 4 25 hS0 ?_ ?_; rotate_left 1
   ·(rintro w' ⟨e0,e1,e2,e3,e4,e5⟩; go_simp; try with_reducible rfl)
   simp only [Act.put,Jh,Ji,Jj]
   refine tkH (v:=?_) 5 26 hS0 ?_ ?_; rotate_left 1
   ·(rintro w' ⟨e0,e1,e2,e3,e4,e5⟩; go_simp; try with_reducible rfl)
   simp only [Act.put,Jh,Ji,Jj]
   refine tkH (v:=?_) 6 27 hS0 ?_ ?_; rotate_left 1
   ·(rintro w' ⟨e0,e1,e2,e3,e4,e5⟩; go_simp; try with_reducible rfl)
   simp only [Act.put,Jh,Ji,Jj]
   refine tkH (v:=?_) 7 28 hS0 ?_ ?_; rotate_left 1
   ·(rintro w' ⟨e0,e1,e2,e3,e4,e5⟩; go_simp; try with_reducible rfl)
   simp only [Act.put,Jh,Ji,Jj]
   refine tkH (v:=?_) 8 29 hS0 ?_ ?_; rotate_left 1
   ·(rintro w' ⟨e0,e1,e2,e3,e4,e5⟩; go_simp; try with_reducible rfl)
   simp only [Act.put,Jh,Ji,Jj]
   refine wpAnyH_ready (rs:=[9]) (by kernel_rfl) (by simp) ?_
   refine AllReadyH.cons rfl (fun K hK=>?_) AllReadyH.nil
   go_simp
   refine D1.out.mono ?_
   rintro e T1 ⟨rfl,M1,_⟩
   have hS1:=S7.of M1 hil
   have D2:=hid' (mk_rem M1 1 (idOf more i))
   refine hK.out _ _ hS1 (fun _=>?_)
   clear hK K D1 M1
   refine wpAnyH_ready (rs:=[10]) (by kernel_rfl) (by simp) ?_
   refine AllReadyH.cons rfl (fun K hK=>?_) AllReadyH.nil
   go_simp
   refine D2.out.mono ?_
   rintro e T2 ⟨rfl,M2,_⟩
   have F2:=hid' M2
   have hS2:=S7.of M2 hil
   refine hK.out _ _ hS2 (fun _=>?_)
   clear hK K D2 M2
   refine wpAnyH_done (by kernel_rfl) ?_ _
   clear hS0 hS1 hS2
   have hv2:=nv_bounds c len (na len (na len b)) (n:=2) (by omega)
   obtain ⟨r,hr⟩:∃ r:Nat,nv c len (na len (na len b)) 2=(r:Int):=⟨(nv c len (na len (na len b)) 2).toNat,by omega⟩
   have hr2:r<2:=by omega
   have HRR:=hid' hr
   clear hr hv2
   go_upto_region 6 with fail
   have hS0:=S7.of F2.out.drew hil
   have D1:=hid' (mk_id F2.out.drew (i:Int) (by omega) (by omega))
   refine wp_region_held_drew (S:=S7 mb (.pointer (some ⟨pb,0,none⟩)) (.int .i64 more) (.slice (some ⟨gs,0,none⟩) slots.length cv) gs i slots[i]) (by kernel_rfl) hS0 (fun _=>?_)
   refine tkH (v:=?_) 0 32 hS0 ?_ ?_; rotate_left 1
   ·(rintro w' ⟨e0,e1,e2,e3,e4,e5⟩; go_simp; try with_reducible rfl)
   simp only [Act.put,Jh,Ji,Jj]
   refine tkH (v:=?_) 1 33 hS0 ?_ ?_; rotate_left 1
   ·(rintro w' ⟨e0,e1,e2,e3,e4,e5⟩; go_simp; try with_reducible rfl)
   simp only [Act.put,Jh,Ji,Jj]
   refine tkH (v:=?_) 2 34 hS0 ?_ ?_; rotate_left 1
   ·(rintro w' ⟨e0,e1,e2,e3,e4,e5⟩; go_simp; try with_reducible rfl)
   simp only [Act.put,Jh,Ji,Jj]
   refine tkH (v:=?_) 3 35 hS0 ?_ ?_; rotate_left 1
   ·(rintro w' ⟨e0,e1,e2,e3,e4,e5⟩; go_simp; try with_reducible rfl)
   simp only [Act.put,Jh,Ji,Jj]
   refine tkH (v:=?_) 4 36 hS0 ?_ ?_; rotate_left 1
   ·(rintro w' ⟨e0,e1,e2,e3,e4,e5⟩; go_simp; try with_reducible rfl)
   simp only [Act.put,Jh,Ji,Jj]
   refine tkH (v:=?_) 5 37 hS0 ?_ ?_; rotate_left 1
   ·(rintro w' ⟨e0,e1,e2,e3,e4,e5⟩; go_simp; try with_reducible rfl)
   simp only [Act.put,Jh,Ji,Jj]
   refine tkH (v:=?_) 6 38 hS0 ?_ ?_; rotate_left 1
   ·(rintro w' ⟨e0,e1,e2,e3,e4,e5⟩; go_simp; try with_reducible rfl)
   simp only [Act.put,Jh,Ji,Jj]
   refine tkH (v:=?_) 7 39 hS0 ?_ ?_; rotate_left 1
   ·(rintro w' ⟨e0,e1,e2,e3,e4,e5⟩; go_simp; try with_reducible rfl)
   simp only [Act.put,Jh,Ji,Jj]
   refine tkH (v:=?_) 8 40 hS0 ?_ ?_; rotate_left 1
   ·(rintro w' ⟨e0,e1,e2,e3,e4,e5⟩; go_simp; try with_reducible rfl)
   simp only [Act.put,Jh,Ji,Jj]
   refine tkH (v:=?_) 10 42 hS0 ?_ ?_; rotate_left 1
   ·(rintro w' ⟨e0,e1,e2,e3,e4,e5⟩; go_simp; try with_reducible rfl)
   simp only [Act.put,Jh,Ji,Jj]
   refine tkH (v:=?_) 11 43 hS0 ?_ ?_; rotate_left 1
   ·(rintro w' ⟨e0,e1,e2,e3,e4,e5⟩; go_simp; try with_reducible rfl)
   simp only [Act.put,Jh,Ji,Jj]
   refine tkH (v:=?_) 12 44 hS0 ?_ ?_; rotate_left 1
   ·(rintro w' ⟨e0,e1,e2,e3,e4,e5⟩; go_simp; try with_reducible rfl)
   simp only [Act.put,Jh,Ji,Jj]
   refine tkH (v:=?_) 13 45 hS0 ?_ ?_; rotate_left 1
   ·(rintro w' ⟨e0,e1,e2,e3,e4,e5⟩; go_simp; try with_reducible rfl)
   simp only [Act.put,Jh,Ji,Jj]
   refine tkH (v:=?_) 14 46 hS0 ?_ ?_; rotate_left 1
   ·(rintro w' ⟨e0,e1,e2,e3,e4,e5⟩; go_simp; try with_reducible rfl)
   simp only [Act.put,Jh,Ji,Jj]
   refine tkH (v:=?_) 17 49 hS0 ?_ ?_; rotate_left 1
   ·(rintro w' ⟨e0,e1,e2,e3,e4,e5⟩; go_simp; try with_reducible rfl)
   simp only [Act.put,Jh,Ji,Jj]
   refine tkH (v:=?_) 18 50 hS0 ?_ ?_; rotate_left 1
   ·(rintro w' ⟨e0,e1,e2,e3,e4,e5⟩; go_simp; try with_reducible rfl)
   simp only [Act.put,Jh,Ji,Jj]
   refine tkH (v:=?_) 19 51 hS0 ?_ ?_; rotate_left 1
   ·(rintro w' ⟨e0,e1,e2,e3,e4,e5⟩; go_simp; try with_reducible rfl)
   simp only [Act.put,Jh,Ji,Jj]
   refine tkH (v:=?_) 20 52 hS0 ?_ ?_; rotate_left 1
   ·(rintro w' ⟨e0,e1,e2,e3,e4,e5⟩; go_simp; try with_reducible rfl)
   simp only [Act.put,Jh,Ji,Jj]
   refine tkH (v:=?_) 21 53 hS0 ?_ ?_; rotate_left 1
   ·(rintro w' ⟨e0,e1,e2,e3,e4,e5⟩; go_simp; try with_reducible rfl)
   simp only [Act.put,Jh,Ji,Jj]
   refine tkH (v:=?_) 22 54 hS0 ?_ ?_; rotate_left 1
   ·(rintro w' ⟨e0,e1,e2,e3,e4,e5⟩; go_simp; try with_reducible rfl)
   simp only [Act.put,Jh,Ji,Jj]
   refine tkH (v:=?_) 23 55 hS0 ?_ ?_; rotate_left 1
   ·(rintro w' ⟨e0,e1,e2,e3,e4,e5⟩; go_simp; try with_reducible rfl)
   simp only [Act.put,Jh,Ji,Jj]
   refine wpAnyH_ready (rs:=[9]) (by kernel_rfl) (by simp) ?_
   refine AllReadyH.cons rfl (fun K hK=>?_) AllReadyH.nil
   go_simp
   refine D1.out.mono ?_
   rintro e T3 ⟨rfl,M1,_⟩
   have hS1:=S7.of M1 hil
   have D2:=mk_next M1 2 (by omega) (by omega)
   rw [HRR.out] at D2
   have D2:=hid' D2
   refine hK.out _ _ hS1 (fun _=>?_)
   clear hK K D1 M1
   refine wpAnyH_ready (rs:=[15]) (by kernel_rfl) (by simp) ?_
   refine AllReadyH.cons rfl (fun K hK=>?_) AllReadyH.nil
   go_simp
   refine D2.out.mono ?_
   rintro e T4 ⟨rfl,M2,_⟩
   have hS2:=S7.of M2 hil
   have D3:=hid' (mk_id M2 (r:Int) (by omega) (by omega))
   refine hK.out _ _ hS2 (fun _=>?_)
   clear hK K D2 M2
   refine wpAnyH_ready (rs:=[16]) (by kernel_rfl) (by simp) ?_
   refine AllReadyH.cons rfl (fun K hK=>?_) AllReadyH.nil
   go_simp
   refine D3.out.mono ?_
   rintro e T5 ⟨rfl,M3,_⟩
   have hS3:=S7.of M3 hil
   have D4:=hid' (mk_mach M3 (idOf more i) (idOf more r) slots[i])
   refine hK.out _ _ hS3 (fun _=>?_)
   clear hK K D3 M3
   refine wpAnyH_ready (rs:=[24]) (by kernel_rfl) (by simp) ?_
   refine AllReadyH.cons rfl (fun K hK=>?_) AllReadyH.nil
   go_simp
   refine D4.out.mono ?_
   rintro e T6 ⟨rfl,M4,_⟩
   have G4:=hid' M4
   have hS4:=S7.of M4 hil
   refine hK.out _ _ hS4 (fun _=>?_)
   clear hK K D4 M4
   refine wpAnyH_done (by kernel_rfl) ?_ _
   clear hS0 hS1 hS2 hS3 hS4
   go_wp2_with fail
   go_roundg k'
   case measure=>omega
   case rel=>exact ⟨k',_,_,by omega,Jb _,by go_num,(show _∧_ from ⟨G4.out,HL.out.2.stirred HL.out.1.fits.1 HL.out.1.fits.2.1 hil hr2⟩)⟩
 ·go_wp2_with fail
  go_end0
  exact ⟨rfl,Q,b,HL.out⟩
end
end
section
open Go.RowKit
def DC (w:World)(p:Option Addr)(len:Nat)(c:Nat→Int):Prop:=len=0∨∃ sb off,p=some ⟨sb,off,none⟩∧sb<w.heap.size∧∀ i,i<len→w.cell? ⟨sb,off+i,none⟩=some (.int .i64 (c i))∧(Lit.int .i64 (c i)).wf=true
theorem DC.arg {w:World}{p:Option Addr}{len:Nat}{c:Nat→Int}(h:DC w p len c):∀ q,len≠0→p=some q→q.block<w.heap.size:=fun q z e=>by
 rcases h with h0 | ⟨sb,off,e',hs,_⟩
 ·exact absurd h0 z
 ·rw [e] at e'
  cases e'
  exact hs
theorem dice_new {w:World}{p:Option Addr}{len cap:Nat}{c:Nat→Int}(h:DC w p len c)(hl:len<1000000000000000):DiceAt (w.alloc (.cells #[.slice p len cap,.int .i64 0] 25)) w.heap.size p len cap c 0:=by
 refine ⟨Jq _,heap_alloc_new w _,?_,hl⟩
 rcases h with q | ⟨sb,off,e,hs,hi⟩
 ·exact Jr q
 ·exact Js ⟨sb,off,e,hs,fun i hl=>⟨(((Jd w.heap.size w).alloc (Jb _) _).cell (p:=⟨sb,off+i,none⟩) hs).trans (hi i hl).1,(hi i hl).2⟩⟩
end
end Go.Proofs.Ytjdindfjfpdikab
