import Derived.Deep.LoopGhost
import Derived.Deep.RegionHeld
import Derived.Test.YtjdindfjfpdikabB01
import Derived.Test.YtjdindfjfpdikabB22
import Derived.Test.YtjdindfjfpdikabB31
import Derived.Test.YtjdindfjfpdikabPre
set_option maxRecDepth 100000
set_option maxHeartbeats 8000000
namespace Go.Proofs.Ytjdindfjfpdikab
section
open Go.RowKit
section
variable {base:Nat}{w0:Fr}{w w1 w':World}{mb pb b0 b1 b2 b3 xb:Nat}{more:Int}{vs v':Value}{slots:List Int}{tasks:Int}{R R':RSt}{p:Option Addr}{len cap a a':Nat}{c:Nat→Int}
theorem MK.wrote {slots':List Int}{tasks':Int}(h:MK base w0 w mb pb b0 b1 b2 b3 xb more vs slots tasks R p len cap c a)(hc:w'.heap[mb]?=some (.cells #[.pointer (some ⟨pb,0,none⟩),.int .i64 more,v',.int .i64 tasks'] 35))(hr:NRow base w' v' slots')
  (hk:∀ (b:Nat),b≠mb→vs.ownBlock≠some b→b<w.heap.size→w'.heap[b]?=w.heap[b]?) (ho:w'.os=w.os∧w'.tape=w.tape∧w'.output=w.output) (hz:w.heap.size≤w'.heap.size) (hv':∀ b,v'.ownBlock=some b→vs.ownBlock=some b∨w.heap.size≤b):MK base w0 w' mb pb b0 b1 b2 b3 xb more v' slots' tasks' R p len cap c a:=by
 obtain ⟨l0,l1,l2,l3,hp,hs⟩:=h.plan
 have hmc:=h.cells
 have hvt:∀ b cs t f,w.heap[b]?=some (.cells cs t f)→t≠3→vs.ownBlock≠some b:=fun b cs t f q ht e=>by
  rcases h.row.2 with ⟨e1,_⟩ | ⟨g,cp,cur,e1,_,hg,_⟩
  ·rw [e1] at e; cases e
  ·rw [e1] at e
   cases e
   rw [hg] at q
   cases q
   exact ht rfl
 have hvb:∀ b,vs.ownBlock=some b→base≤b:=h.row.base
 have hmb:=h.old mb (by simp)
 have hbl:base≤w.heap.size:=h.base_le
 refine ⟨hc,hr,⟨l0,l1,l2,l3,hp.move (fun b hb=>?_),hs⟩,⟨h.dice.le,?_,?_,h.dice.few⟩,h.old,?_,fun b q=>(hk b (h.apart b q).1 (h.apart b q).2.2.2.1 (h.apart b q).2.2.2.2).trans (h.kept b q),fun b q=>⟨(h.apart b q).1,(h.apart b q).2.1,(h.apart b q).2.2.1,fun e=>?_,Jm (h.apart b q).2.2.2.2 hz⟩,h.more0,h.arg⟩
 ·refine hk b (fun e=>?_) (fun e=>?_) (hp.lts b hb)
  ·subst e
   rcases List.mem_cons.1 hb with rfl | hb
   ·obtain ⟨_,_,_,_,_,q⟩:=hp.cells
    rw [hmc] at q
    cases q
   ·exact hp.notmap hmc hb
  ·rcases List.mem_cons.1 hb with rfl | hb
   ·obtain ⟨_,_,_,_,_,q⟩:=hp.cells
    exact hvt _ _ _ _ q (by decide) e
   ·rcases h.row.2 with ⟨e1,_⟩ | ⟨g,cp,cur,e1,_,hg,_⟩
    ·rw [e1] at e; cases e
    ·rw [e1] at e
     cases e
     exact hp.notmap hg hb
 ·have hx:=h.dice.cells
  refine (hk xb (fun e=>?_) (hvt _ _ _ _ hx (by decide)) (Ja.1 hx).1).trans hx
  rw [e,hmc] at hx
  cases hx
 ·rcases h.dice.codes with q | ⟨sb,off,e,hsx,hi⟩
  ·exact Jr q
  ·refine Js ⟨sb,off,e,hsx,fun i hl=>⟨?_,(hi i hl).2⟩⟩
   have hsb:=h.arg _ (by omega) e
   have h1:=hk sb (fun q=>by simp at hsb; omega) (fun q=>by have:=hvb sb q; simp at hsb; omega) (by simp at hsb; omega)
   rw [← (hi i hl).1]
   simp only [World.cell?,h1]
 ·exact ⟨ho.1.trans h.below.os,ho.2.1.trans h.below.tape,ho.2.2.trans h.below.output,Nat.le_trans h.below.size hz,fun b hb hx=>(hk b (by omega) (fun e=>by have:=hvb b e; omega) (by omega)).trans (h.below.block b hb hx)⟩
 ·rcases hv' b e with z | z
  ·exact (h.apart b q).2.2.2.1 z
  ·have:=(h.apart b q).2.2.2.2
   omega
theorem mk_mb {W:World}(h:MK base w0 W mb pb b0 b1 b2 b3 xb more vs slots tasks R p len cap c a):vs.ownBlock≠some mb:=fun e=>by
 have hmc:=h.cells
 rcases h.row.2 with ⟨e1,_⟩ | ⟨g,cp,cur,e1,_,hg,_⟩
 ·rw [e1] at e; cases e
 ·rw [e1] at e
  cases e
  rw [hmc] at hg
  cases hg
theorem MK.pushed {o:Obj}{x:Int}(h:MK base w0 w mb pb b0 b1 b2 b3 xb more vs slots tasks R p len cap c a)(hr:NRow base w1 v' (slots ++ [x]))(hg:(w.alloc o).grownBy w1 vs.ownBlock)(hl:v'.ownBlock=vs.ownBlock∨v'.ownBlock=some (w.alloc o).heap.size):MK base w0 (w1.setCell ⟨mb,2,none⟩ v') mb pb b0 b1 b2 b3 xb more v' (slots ++ [x]) tasks R p len cap c a:=by
 have hvm:=mk_mb h
 have hlt:=h.lt
 have hz:=hg.size
 have hz':w.heap.size≤w1.heap.size:=by simp at hz; omega
 have h1:w1.heap[mb]?=some (.cells #[.pointer (some ⟨pb,0,none⟩),.int .i64 more,vs,.int .i64 tasks] 35):=(hg.block mb (by simp; omega) (fun e=>hvm e.symm)).trans ((heap_alloc_old w _ hlt).trans h.cells)
 refine h.wrote (by simp [World.setCell,Array.getElem?_modify,h1]) ?_ (fun b q1 q2 q3=>?_) ⟨hg.os,hg.tape,hg.output⟩ (by simpa [World.setCell] using hz') (fun b e=>by
  rcases hl with q | q
  ·exact Jr (q.symm.trans e)
  ·rw [q] at e; cases e; right; simp)
 ·refine ⟨hr.1,?_⟩
  rcases hr.2 with q | ⟨g,cp,cur,e,q0,qg,qr⟩
  ·exact Jr q
  ·refine Js ⟨g,cp,cur,e,q0,?_,qr⟩
   have hne:¬ mb=g:=fun e'=>by
    subst e'
    have e2:v'.ownBlock=some mb:=by rw [e]; rfl
    rcases hl with q | q
    ·exact hvm (q.symm.trans e2)
    ·rw [e2] at q; simp at q; omega
   simp [World.setCell,Array.getElem?_modify,hne,qg]
 ·have hne:¬ mb=b:=fun e=>q1 e.symm
  simp only [World.setCell,Array.getElem?_modify,if_neg hne]
  rw [hg.block b (by simp; omega) (fun e=>q2 e.symm)]
  exact heap_alloc_old w _ q3
theorem MK.told (h:MK base w0 w mb pb b0 b1 b2 b3 xb more vs slots tasks R p len cap c a)(n:Int):MK base w0 (w.setCell ⟨mb,3,none⟩ (.int .i64 n)) mb pb b0 b1 b2 b3 xb more vs slots n R p len cap c a:=by
 have hvm:=mk_mb h
 refine h.wrote (by simp [World.setCell,Array.getElem?_modify,h.cells]) ?_ (fun b q1 q2 q3=>?_) ⟨rfl,rfl,rfl⟩ (by simp [World.setCell]) (fun b e=>Jr e)
 ·refine ⟨h.row.1,?_⟩
  rcases h.row.2 with q | ⟨g,cp,cur,e,q0,qg,qr⟩
  ·exact Jr q
  ·refine Js ⟨g,cp,cur,e,q0,?_,qr⟩
   have hne:¬ mb=g:=fun e'=>by
    subst e'
    exact hvm (by rw [e]; rfl)
   simp [World.setCell,Array.getElem?_modify,hne,qg]
 ·have hne:¬ mb=b:=fun e=>q1 e.symm
  simp [World.setCell,Array.getElem?_modify,hne]
end
end
section
open Go.RowKit
def S1 (nb:Nat)(more:Int)(W:World):Prop:=W.cell? ⟨nb,0,none⟩=some (.int .i64 more)∧nb<W.heap.size
theorem S1.of {nb:Nat}{more:Int}{W:World}(h:W.heap[nb]?=some (.cells #[.int .i64 more] 29)):S1 nb more W:=⟨by simp [World.cell?,h],(Ja.1 h).1⟩
structure MadeIs (c:Nat→Int)(len:Nat)(more:Int)(a:Nat)(slots:List Int)(tasks:Int)(R:RSt)(a':Nat):Prop where
 how:∃ (s1:RSt×Nat) (s2:RSt×Nat×List Int) (nt:Nat),madeRJ c len more 2 (R0,a)=s1∧machN c len more 4 (s1.1,s1.2,[])=s2∧s2.2.2=slots∧(nt:Int)=1+nv c len s2.2.1 6∧tasks=nt∧taskN c len more slots.length nt (s2.1,na len s2.2.1)=(R,a')
 ids:RK more R 2 2 slots.length tasks.toNat
 few:1≤slots.length∧slots.length≤4∧1≤tasks∧tasks≤6
 each:∀ s∈slots,1≤s∧s≤3
 at1:R.t1.map (·.2.2)=slots
theorem n5_t1 (R:RSt)(a b c:Int):(n5 R a b c).t1=R.t1:=by unfold n5; split <;> rfl
theorem n6_t1 (R:RSt)(t k i c:Int):(n6 R t k i c).t1=R.t1:=by unfold n6; split <;> rfl
theorem wish1_t1 (c:Nat→Int)(len:Nat)(more:Int)(ns:Nat)(task:Int)(s:RSt×Nat):(wish1 c len more ns task s).1.t1=s.1.t1:=by
 unfold wish1
 split
 ·exact n6_t1 _ _ _ _ _
 ·exact n6_t1 _ _ _ _ _
theorem wishN_t1 (c:Nat→Int)(len:Nat)(more:Int)(ns:Nat)(task:Int):∀ (k:Nat)(s:RSt×Nat),(wishN c len more ns task k s).1.t1=s.1.t1
 | 0,_=>rfl
 | k+1,s=>(wishN_t1 c len more ns task k _).trans (wish1_t1 c len more ns task s)
theorem taskN_t1 (c:Nat→Int)(len:Nat)(more:Int)(ns:Nat):∀ (k:Nat)(s:RSt×Nat),(taskN c len more ns k s).1.t1=s.1.t1
 | 0,_=>rfl
 | k+1,s=>((wishN_t1 c len more ns k _ _).trans (n5_t1 _ _ _ _)).trans (taskN_t1 c len more ns k s)
section
variable {base:Nat}{w0:Fr}{w w':World}{mb pb b0 b1 b2 b3 xb:Nat}{more:Int}{vs:Value}{slots:List Int}{tasks:Int}{R R':RSt}{p:Option Addr}{len cap a a':Nat}{c:Nat→Int}
theorem MK.apart2 {nb:Nat}{cs:Array Value}(h:MK base w0 w mb pb b0 b1 b2 b3 xb more vs slots tasks R p len cap c a)(hn:w.heap[nb]?=some (.cells cs 29)):nb≠mb∧vs.ownBlock≠some nb:=by
 have hmc:=h.cells
 refine ⟨fun e=>?_,fun e=>?_⟩
 ·rw [e,hmc] at hn
  cases hn
 ·rcases h.row.2 with ⟨e1,_⟩ | ⟨g,cp,cur,e1,_,hg,_⟩
  ·rw [e1] at e; cases e
  ·rw [e1] at e
   cases e
   rw [hn] at hg
   cases hg
theorem MK.names {nb:Nat}{cs:Array Value}{o:Obj}{w1:World}{v':Value}(h:MK base w0 w mb pb b0 b1 b2 b3 xb more vs slots tasks R p len cap c a)(hn:w.heap[nb]?=some (.cells cs 29))(hg:(w.alloc o).grownBy w1 vs.ownBlock):(w1.setCell ⟨mb,2,none⟩ v').heap[nb]?=some (.cells cs 29):=by
 obtain ⟨h1,h2⟩:=h.apart2 hn
 have hl:=(Ja.1 hn).1
 have hne:¬ mb=nb:=fun e=>h1 e.symm
 simp only [World.setCell,Array.getElem?_modify,if_neg hne]
 rw [hg.block nb (by simp; omega) (fun e=>h2 e.symm),heap_alloc_old w _ hl,hn]
theorem made_in (hd:DiceAt w xb p len cap c a)(hbw:base=w.heap.size+1)(hm:0≤more∧more<100)(harg:∀ q,len≠0→p=some q→q.block<base) :
  Calls Try.prog 5 #[.pointer (some ⟨xb,0,none⟩),.agg #[.int .i64 more]] w fun e w'=>∃ W3 mb pb b0 b1 b2 b3 vs slots tasks R a',e=.returned (.pointer (some ⟨mb,0,none⟩))∧MK base ⟨W3,[pb]⟩ w' mb pb b0 b1 b2 b3 xb more vs slots tasks R p len cap c a'∧MadeIs c len more a slots tasks R a'∧W3.heap[pb]?=some (.cells #[.map (some b0),.map (some b1),.map (some b2),.map (some b3),.int .i64 0,.slice none 0 0,.slice none 0 0,.slice none 0 0,.slice none 0 0] 74)∧Below w.heap.size w W3:=by
 obtain ⟨W1,hW1⟩:∃ W1,w.alloc (.cells #[.int .i64 more] 29)=W1:=⟨_,rfl⟩
 have b1:Below w.heap.size w W1:=by rw [← hW1]; exact (Jd _ _).alloc (Jb _) _
 have X1:W1.heap[w.heap.size]?=some (.cells #[.int .i64 more] 29):=by rw [← hW1]; exact heap_alloc_new w _
 have z1:w.heap.size<W1.heap.size:=(Ja.1 X1).1
 have A1:=hid' (new_any W1)
 have H0:=hid' (Jc hW1 (Jc b1 (Jc X1 (Jc hd (Jc hbw (Jc hm harg))))))
 clear hW1 b1 X1 hd hbw hm harg
 go_enter Try.func5,Try.ntmps5
 go_upto_region 1 with fail
 rw [H0.out.1]
 go_upto_region 4 with (first
  | (go_at_call 14; refine A1.out.mono ?_; rintro e W2 ⟨rfl,hp2,hpc,b2⟩)
  | fail)
 have X2:=(b2.block _ z1).trans H0.out.2.2.1
 have y0:W2.cell? ⟨w.heap.size,0,none⟩=some (.int .i64 more):=by simp [World.cell?,X2]
 have z2:w.heap.size<W2.heap.size:=(Ja.1 X2).1
 obtain ⟨pb,hpb⟩:∃ pb,W1.heap.size+1+1+1+1=pb:=⟨_,rfl⟩
 rw [hpb] at hp2 hpc
 simp only [hpb]
 have H2:=hid' (Jc hp2 (Jc b2 (Jc X2 (Jc hpb hpc))))
 clear hp2 b2 X2 A1 hpb hpc
 go_upto_region 5 with fail
 obtain ⟨mb,hmb⟩:∃ mb,W2.heap.size=mb:=⟨_,rfl⟩
 obtain ⟨W3,hW3⟩:∃ W3,W2.alloc (.cells #[.pointer (some ⟨pb,0,none⟩),.int .i64 more,.slice none 0 0,.int .i64 0] 35)=W3:=⟨_,rfl⟩
 have b3:Below W2.heap.size W2 W3:=by rw [← hW3]; exact (Jd _ _).alloc (Jb _) _
 have X3:W3.heap[mb]?=some (.cells #[.pointer (some ⟨pb,0,none⟩),.int .i64 more,.slice none 0 0,.int .i64 0] 35):=by rw [← hW3,← hmb]; exact heap_alloc_new W2 _
 rw [hW3]
 simp only [hmb]
 have bw3:Below w.heap.size w W3:=next2 (next2 H0.out.2.1 H2.out.2.1) b3
 have N3:=(b3.block _ z2).trans H2.out.2.2.1
 obtain ⟨w0,hw0⟩:∃ w0:Fr,w0=⟨W3,[pb]⟩:=⟨_,rfl⟩
 have pl:pb<W2.heap.size:=H2.out.1.lt
 have pc3:=(b3.block _ pl).trans H2.out.2.2.2.2
 have M3:MK base w0 W3 mb pb W1.heap.size (W1.heap.size+1) (W1.heap.size+1+1) (W1.heap.size+1+1+1) xb more (.slice none 0 0) [] 0 R0 p len cap c a:=by
  have e1:=H0.out.1
  have h2:=H0.out.2.2.2.2.1
  have h3:=H2.out.2.2.2.1
  have h4:W1.heap.size=w.heap.size+1:=by rw [← e1]; simp
  have h5:=H2.out.2.1.size
  have h6:=(Ja.1 H0.out.2.2.2.1.cells).1
  have h7:=b3.size
  rw [hw0]
  refine ⟨X3,NRow.nil _ _,⟨[],[],[],[],H2.out.1.below b3,sim0⟩,H0.out.2.2.2.1.cel (Cel.of_below bw3),fun b hb=>?_,BelowX.refl _ _ _,fun _ _=>rfl,fun b hb=>?_,H0.out.2.2.2.2.2.1,H0.out.2.2.2.2.2.2⟩
  ·simp only [List.mem_cons,List.not_mem_nil,or_false] at hb
   rcases hb with rfl | rfl | rfl | rfl | rfl | rfl <;> omega
  ·have e:b=pb:=List.mem_singleton.1 hb
   subst e
   exact ⟨by omega,by simp only [List.mem_cons,List.not_mem_nil,or_false]; omega,by omega,by simp [Value.ownBlock],by omega⟩
 obtain ⟨nb,hnb⟩:∃ nb,w.heap.size=nb:=⟨_,rfl⟩
 rw [hnb] at N3
 simp only [hnb]
 have HW:=hid' (Jc hw0 (Jc pc3 bw3))
 have H3:=hid' (Jc M3 N3)
 clear hW3 hmb b3 X3 bw3 N3 M3 y0 z2 hw0 pl pc3
 go_wp2_with fail
 go_loopg [7,8] 2 (fun gk okv kv wr=>∃ k:Nat,k≤2∧2 - k≤gk∧okv=.bool true∧kv=.int .i64 k∧Hid (MK base w0 wr mb pb W1.heap.size (W1.heap.size+1) (W1.heap.size+1+1) (W1.heap.size+1+1+1) xb more (.slice none 0 0) [] 0 (madeRJ c len more k (R0,a)).1 p len cap c (madeRJ c len more k (R0,a)).2∧RK more (madeRJ c len more k (R0,a)).1 k k 0 0∧wr.heap[nb]?=some (.cells #[.int .i64 more] 29)))
 case atStart=>exact ⟨0,by omega,by omega,rfl,rfl,(show _∧_∧_ from ⟨H3.out.1,rk0,H3.out.2⟩)⟩
 case' round=>skip
 obtain ⟨k,hk2,hgk,rfl,rfl,HR⟩:=hrel
 rename World=>Z0
 have n0:Z0.cell? ⟨nb,0,none⟩=some (.int .i64 more):=by simp [World.cell?,HR.out.2.2]
 have m0:nb<Z0.heap.size:=(Ja.1 HR.out.2.2).1
 by_cases hk:k<2
 ·have hkI:(k:Int)<2:=by omega
  obtain ⟨q,hq⟩:∃ q,madeRJ c len more k (R0,a)=q:=⟨_,rfl⟩
  have HR':=HR.out
  rw [hq] at HR'
  have B1:=hid' (mk_id HR'.1 (k:Int) (by omega) (by omega))
  have K2:=HR'.2.1.rack (by omega:k<4)
  have hv:=nv_bounds c len q.2 (n:=200) (by omega)
  have K4:=K2.2.job (by omega:k<4) hv.1 (by omega)
  have HK:=hid' (Jc hq (Jc HR' (Jc K2 K4)))
  clear HR' K2 K4 HR hq
  go_upto_region 10 with (first
   | (go_at_call 16; refine B1.out.mono ?_; rintro e Y1 ⟨rfl,M1,C1⟩; have B2:=mk_rack M1 (idOf more k); rw [HK.out.2.2.1.1] at B2; have C1:=hid' C1; clear M1)
   | (go_at_call 15; refine B2.mono ?_; rintro e Y2 ⟨rfl,M2,C2⟩; have H4:=hid' (Jc M2 (C1.out.trans C2)); clear M2 C2 B2)
   | fail)
  have N2:=H4.out.2 _ _ _ _ (by decide) HK.out.2.1.2.2
  have n2':Y2.cell? ⟨nb,0,none⟩=some (.int .i64 more):=by simp [World.cell?,N2]
  have m2:nb<Y2.heap.size:=(Ja.1 N2).1
  have B3:=hid' (mk_id H4.out.1 (k:Int) (by omega) (by omega))
  clear n0 m0 B1 N2 C1
  go_upto_region 11 with (first
   | (go_at_call 16; refine B3.out.mono ?_; rintro e Y3 ⟨rfl,M3,C3⟩; have B4:=hid' (mk_next M3 200 (by omega) (by omega)); have C3:=hid' C3; clear M3)
   | (go_at_call 18; refine B4.out.mono ?_; rintro e Y4 ⟨rfl,M4,C4⟩; have B5:=mk_job M4 (idOf more k) (nv c len q.2 200); rw [HK.out.2.2.2.1] at B5; have C4:=hid' (C3.out.trans C4); clear M4)
   | (go_at_call 17; refine B5.mono ?_; rintro e Y5 ⟨rfl,M5,C5⟩; have H5:=hid' (Jc M5 (H4.out.2.trans (C4.out.trans C5))); clear M5 C5 B5)
   | fail)
  go_wp2_with fail
  go_roundg (2 - (k+1))
  case measure=>omega
  case rel =>
   have e:madeRJ c len more (k+1) (R0,a)=(n4 (n2 q.1 (idOf more k)) (idOf more k) (nv c len q.2 200),na len q.2):=by rw [← HK.out.1]; rfl
   exact ⟨k+1,by omega,Jb _,rfl,by go_num,(show _∧_∧_ from ⟨by rw [e]; exact H5.out.1,by rw [e]; exact HK.out.2.2.2.2,H5.out.2 _ _ _ _ (by decide) HK.out.2.1.2.2⟩)⟩
 ·obtain rfl:k=2:=by omega
  obtain ⟨s1,hs1⟩:∃ s1,madeRJ c len more 2 (R0,a)=s1:=⟨_,rfl⟩
  have HR':=HR.out
  rw [hs1] at HR'
  have B1:=hid' (mk_id HR'.1 (0:Int) (by omega) (by omega))
  have K2:=HR'.2.1.again (by omega) (by omega)
  have HK:=hid' (Jc hs1 (Jc HR' K2))
  clear HR' K2 HR hs1
  go_upto_region 14 with (first
   | (go_at_call 16; refine B1.out.mono ?_; rintro e Y1 ⟨rfl,M1,C1⟩; have B2:=mk_rack M1 (idOf more 0); rw [HK.out.2.2.1,HK.out.2.2.2] at B2; have C1:=hid' C1; clear M1)
   | (go_at_call 15; refine B2.mono ?_; rintro e Y2 ⟨rfl,M2,C2⟩; have H4:=hid' (Jc M2 (C1.out.trans C2)); clear M2 C2 B2)
   | fail)
  have N2:=H4.out.2 _ _ _ _ (by decide) HK.out.2.1.2.2
  have H5:=hid' (Jc H4.out.1 N2)
  clear n0 m0 B1 N2 C1
  go_wp2_with fail
  go_loopg [7,12] 4 (fun gk okv kv wr=>∃ (s:RSt×Nat×List Int) (vs:Value),s.2.2.length≤4∧4 - s.2.2.length≤gk∧okv=.bool true∧kv=.int .i64 s.2.2.length∧Hid (MK base w0 wr mb pb W1.heap.size (W1.heap.size+1) (W1.heap.size+1+1) (W1.heap.size+1+1+1) xb more vs s.2.2 0 s.1 p len cap c s.2.1∧RK more s.1 2 2 s.2.2.length 0∧wr.heap[nb]?=some (.cells #[.int .i64 more] 29)∧(∀ x∈s.2.2,1≤x∧x≤3)∧s.1.t1.map (·.2.2)=s.2.2∧machN c len more (4 - s.2.2.length) s=machN c len more 4 (s1.1,s1.2,[])))
  case atStart=>exact ⟨(s1.1,s1.2,[]),_,by simp,by simp,rfl,rfl,(show _∧_∧_∧_∧_∧_ from ⟨H5.out.1,HK.out.2.1.2.1,H5.out.2,by simp,by rw [List.eq_nil_of_length_eq_zero (len_of HK.out.2.1.2.1.i1)]; rfl,rfl⟩)⟩
  case' round=>skip
  obtain ⟨s,vs,hs4,hgk,rfl,rfl,HL⟩:=hrel
  rename World=>Z1
  have A1:=hid' (mk_next HL.out.1 4 (by omega) (by omega))
  have hv4:=nv_bounds c len s.2.1 (n:=4) (by omega)
  by_cases hlt:(s.2.2.length:Int)<1+nv c len s.2.1 4
  ·have hl4:(s.2.2.length:Int)<4:=by omega
   go_upto_region 17 with (first
    | (go_at_call 18; refine A1.out.mono ?_; rintro e Y1 ⟨rfl,M1,C1⟩)
    | fail)
   have A2:=hid' (mk_next M1 3 (by omega) (by omega))
   have hv3:=nv_bounds c len (na len s.2.1) (n:=3) (by omega)
   have J1:=hid' (C1 _ _ _ _ (by decide) HL.out.2.2.1)
   clear M1 C1 A1
   go_upto_region 18 with (first
    | (go_at_call 18; refine A2.out.mono ?_; rintro e Y2 ⟨rfl,M2,C2⟩)
    | fail)
   have G0:=hid' (show Y2.drew.heap[nb]?=some (.cells #[.int .i64 more] 29) from C2 _ _ _ _ (by decide) J1.out)
   have u0:Y2.cell? ⟨nb,0,none⟩=some (.int .i64 more):=(S1.of (W:=Y2) G0.out).1
   have u1:nb<Y2.heap.size:=(S1.of (W:=Y2) G0.out).2
   have D1:=hid' (mk_id M2.drew (s.2.2.length:Int) (by omega) (by omega))
   have hv2:=nv_bounds c len (na len (na len s.2.1)) (n:=2) (by omega)
   have KM:=hid' (show c3 s.1 (idOf more s.2.2.length) (idOf more (nv c len (na len (na len s.2.1)) 2)) (1+nv c len (na len s.2.1) 3)=0∧RK more (n3 s.1 (idOf more s.2.2.length) (idOf more (nv c len (na len (na len s.2.1)) 2)) (1+nv c len (na len s.2.1) 3)) 2 2 (s.2.2.length+1) 0 from by
    have:=HL.out.2.1.mach (by omega) (by omega) (r:=(nv c len (na len (na len s.2.1)) 2).toNat) (by omega) (v:=1+nv c len (na len s.2.1) 3) (by omega) (by omega)
    rwa [Int.toNat_of_nonneg hv2.1] at this)
   clear M2 C2 A2 J1
   have hS0:S1 nb more Y2.drew:=⟨u0,u1⟩
   refine wp_region_held_drew (S:=S1 nb more) (by kernel_rfl) hS0 (fun _=>?_)
   refine tkH (v:=?_) 0 72 hS0 ?_ ?_; rotate_left 1
   ·(rintro w' ⟨e0,e1⟩; go_simp; try with_reducible rfl)
   simp only [Act.put,Jh,Ji,Jj]
   refine tkH (v:=?_) 1 73 hS0 ?_ ?_; rotate_left 1
   ·(rintro w' ⟨e0,e1⟩; go_simp; try with_reducible rfl)
   simp only [Act.put,Jh,Ji,Jj]
   refine tkH (v:=?_) 2 74 hS0 ?_ ?_; rotate_left 1
   ·(rintro w' ⟨e0,e1⟩; go_simp; try with_reducible rfl)
   simp only [Act.put,Jh,Ji,Jj]
   refine tkH (v:=?_) 4 76 hS0 ?_ ?_; rotate_left 1
   ·(rintro w' ⟨e0,e1⟩; go_simp; try with_reducible rfl)
   simp only [Act.put,Jh,Ji,Jj]
   refine tkH (v:=?_) 5 77 hS0 ?_ ?_; rotate_left 1
   ·(rintro w' ⟨e0,e1⟩; go_simp; try with_reducible rfl)
   simp only [Act.put,Jh,Ji,Jj]
   refine tkH (v:=?_) 8 80 hS0 ?_ ?_; rotate_left 1
   ·(rintro w' ⟨e0,e1⟩; go_simp; try with_reducible rfl)
   simp only [Act.put,Jh,Ji,Jj]
   refine wpAnyH_ready (rs:=[3]) (by kernel_rfl) (by simp) ?_
   refine AllReadyH.cons rfl (fun K hK=>?_) AllReadyH.nil
   go_simp
   refine D1.out.mono ?_
   rintro e T1 ⟨rfl,M1,C1⟩
   have G1:=C1 _ _ _ _ (by decide) G0.out
   have hS1:S1 nb more T1:=S1.of G1
   refine hK.out _ _ hS1 (fun _=>?_)
   clear hK K
   have D2:=hid' (mk_next M1 2 (by omega) (by omega))
   have F1:=hid' (Jc G1 C1)
   clear M1 G1 C1 D1
   refine wpAnyH_ready (rs:=[6]) (by kernel_rfl) (by simp) ?_
   refine AllReadyH.cons rfl (fun K hK=>?_) AllReadyH.nil
   go_simp
   refine D2.out.mono ?_
   rintro e T2 ⟨rfl,M2,C2⟩
   have G2:=C2 _ _ _ _ (by decide) F1.out.1
   have hS2:S1 nb more T2:=S1.of G2
   refine hK.out _ _ hS2 (fun _=>?_)
   clear hK K
   have D3:=hid' (mk_id M2 (nv c len (na len (na len s.2.1)) 2) hv2.1 (by omega))
   have F2:=hid' (Jc G2 C2)
   clear M2 G2 C2 D2
   refine wpAnyH_ready (rs:=[7]) (by kernel_rfl) (by simp) ?_
   refine AllReadyH.cons rfl (fun K hK=>?_) AllReadyH.nil
   go_simp
   refine D3.out.mono ?_
   rintro e T3 ⟨rfl,M3,C3⟩
   have G3:=C3 _ _ _ _ (by decide) F2.out.1
   have hS3:S1 nb more T3:=S1.of G3
   refine hK.out _ _ hS3 (fun _=>?_)
   clear hK K
   have D4:=mk_mach M3 (idOf more s.2.2.length) (idOf more (nv c len (na len (na len s.2.1)) 2)) (1+nv c len (na len s.2.1) 3)
   rw [KM.out.1] at D4
   have D4:=hid' D4
   have F3:=hid' (Jc G3 C3)
   clear M3 G3 C3 D3
   refine wpAnyH_ready (rs:=[9]) (by kernel_rfl) (by simp) ?_
   refine AllReadyH.cons rfl (fun K hK=>?_) AllReadyH.nil
   go_simp
   refine D4.out.mono ?_
   rintro e T4 ⟨rfl,M4,C4⟩
   have G4:=C4 _ _ _ _ (by decide) F3.out.1
   have hS4:S1 nb more T4:=S1.of G4
   refine hK.out _ _ hS4 (fun _=>?_)
   clear hK K
   have F4:=hid' (Jc G4 M4)
   clear M4 G4 C4 D4 hS0 hS1 hS2 hS3
   refine tkH (v:=?_) 10 14 hS4 ?_ ?_; rotate_left 1
   ·(rintro w' ⟨e0,e1⟩; go_simp; try with_reducible rfl)
   simp only [Act.put,Jh,Ji,Jj]
   refine wpAnyH_done (by kernel_rfl) ?_ _
   have MT:=F4.out.2
   obtain ⟨pv,cv,rfl⟩:=MT.row.sl'
   obtain ⟨q0,q1,q2,q3⟩:=MT.cs
   have hmT:=MT.lt
   have hbT:=MT.base_le
   obtain ⟨X,hX⟩:∃ X:Int,1+nv c len (na len s.2.1) 3=X:=⟨_,rfl⟩
   simp only [hX]
   have hrA:NRow base (T4.alloc (.cells #[.int .i64 X] 3)) (.slice pv s.2.2.length cv) s.2.2:=MT.row.below ((Jd _ _).alloc (Jb _) _)
   have HX:=hid' hX
   clear MT hX hS4
   go_wp2_with (first
    | (at_builtin; refine wpList_push _ base X _ _ rfl _ _ rfl rfl hrA T4.heap.size rfl (by simp) (by simp; omega) (by omega) ?_; intro v' T5 hrow hg hloc; obtain ⟨pv',cv',rfl⟩:=hrow.sl'; have hT5:T5.heap[mb]?=_:=(hg.block mb (by simp; omega) (fun e=>mk_mb F4.out.2 e.symm)).trans ((heap_alloc_old T4 _ hmT).trans F4.out.2.cells); have o2:T5.cell? ⟨mb,2,none⟩=some (.slice pv s.2.2.length cv):=(by simp [World.cell?,hT5]); have o3:T5.frozen? ⟨mb,2,none⟩=false:=(by simp [World.frozen?,hT5]); have o4:mb<T5.heap.size:=(Ja.1 hT5).1; have HP:=hid' (Jc (F4.out.2.pushed hrow hg hloc) (Jc hT5 (Jc hg hloc))); clear hrow hg hloc hT5)
    | fail)
   go_roundg (4 - (s.2.2.length+1))
   case measure=>omega
   case rel =>
    have eM:machN c len more (4 - s.2.2.length) s=machN c len more (4 - (s.2.2.length+1)) (mach1 c len more s.2.2.length (s.1,na len s.2.1,s.2.2)):=by
     rw [show 4 - s.2.2.length=(4 - (s.2.2.length+1))+1 by omega]
     show (if _ then _ else _)=_
     rw [if_pos hlt]
    have hX:=HX.out
    subst hX
    have hN3:n3 s.1 (idOf more s.2.2.length) (idOf more (nv c len (na len (na len s.2.1)) 2)) (1+nv c len (na len s.2.1) 3)={ s.1 with t1:=s.1.t1 ++ [(idOf more s.2.2.length,idOf more (nv c len (na len (na len s.2.1)) 2),1+nv c len (na len s.2.1) 3)] }:=by unfold n3; rw [if_pos KM.out.1]
    have hp1:=HP.out.1
    simp only [Jo,List.length_cons,List.length_nil,Nat.zero_add] at hp1
    refine ⟨mach1 c len more s.2.2.length (s.1,na len s.2.1,s.2.2),_,?_,?_,rfl,?_,(show _∧_∧_∧_∧_∧_ from ⟨hp1,?_,F4.out.2.names F4.out.1 HP.out.2.2.1,fun x hx=>?_,?_,?_⟩)⟩
    ·show (s.2.2 ++ [_]).length≤4
     simp; omega
    ·show 4 - (s.2.2 ++ [_]).length≤_
     simp
    ·show _=Value.int .i64 ((s.2.2 ++ [1+nv c len (na len s.2.1) 3]).length:Nat)
     rw [Jo]
     go_num
    ·show RK more _ 2 2 (s.2.2 ++ [_]).length 0
     rw [Jo]
     exact KM.out.2
    ·have hx':x∈s.2.2 ++ [1+nv c len (na len s.2.1) 3]:=hx
     rcases List.mem_append.1 hx' with hx | hx
     ·exact HL.out.2.2.2.1 x hx
     ·rw [List.mem_singleton.1 hx]; omega
    ·show (n3 s.1 (idOf more s.2.2.length) (idOf more (nv c len (na len (na len s.2.1)) 2)) (1+nv c len (na len s.2.1) 3)).t1.map (fun x:Th=>x.2.2)=s.2.2 ++ [1+nv c len (na len s.2.1) 3]
     rw [hN3]
     show (s.1.t1 ++ [(idOf more s.2.2.length,idOf more (nv c len (na len (na len s.2.1)) 2),1+nv c len (na len s.2.1) 3)]).map (fun x:Th=>x.2.2)=_
     rw [List.map_append,HL.out.2.2.2.2.1]
     rfl
    ·show machN c len more (4 - (s.2.2 ++ [_]).length) _=_
     rw [Jo]
     exact eM.symm.trans HL.out.2.2.2.2.2
  ·go_upto_region 21 with (first
    | (go_at_call 18; refine A1.out.mono ?_; rintro e Y1 ⟨rfl,M1,C1⟩)
    | fail)
   have hnm:1≤s.2.2.length:=by omega
   have eM:machN c len more (4 - s.2.2.length) s=(s.1,na len s.2.1,s.2.2):=by
    cases 4 - s.2.2.length with
    | zero=>rfl
    | succ f =>
     show (if _ then _ else _)=_
     rw [if_neg (by omega)]
   have A3:=hid' (mk_next M1 6 (by omega) (by omega))
   have hv6:=nv_bounds c len (na len s.2.1) (n:=6) (by omega)
   have J1:=hid' (C1 _ _ _ _ (by decide) HL.out.2.2.1)
   clear M1 C1 A1
   go_upto_region 22 with (first
    | (go_at_call 18; refine A3.out.mono ?_; rintro e Y2 ⟨rfl,M2,C2⟩; have hY2:=M2.cells; have o3:Y2.cell? ⟨mb,3,none⟩=some (.int .i64 0):=(by simp [World.cell?,hY2]); have o4:Y2.frozen? ⟨mb,3,none⟩=false:=(by simp [World.frozen?,hY2]); have o5:mb<Y2.heap.size:=(Ja.1 hY2).1; have H6:=hid' (Jc (M2.told (1+nv c len (na len s.2.1) 6)) (Jc (M2.apart2 (C2 _ _ _ _ (by decide) J1.out)).1 (C2 _ _ _ _ (by decide) J1.out))); clear M2 C2 hY2)
    | fail)
   obtain ⟨nt,hnt⟩:∃ nt:Nat,1+nv c len (na len s.2.1) 6=(nt:Int):=⟨(1+nv c len (na len s.2.1) 6).toNat,by omega⟩
   have hnt1:1≤nt∧nt≤6:=by omega
   obtain ⟨W6,hW6⟩:∃ W6,Y2.setCell ⟨mb,3,none⟩ (.int .i64 (1+nv c len (na len s.2.1) 6))=W6:=⟨_,rfl⟩
   have N6:W6.heap[nb]?=some (.cells #[.int .i64 more] 29):=by
    have hne:¬ mb=nb:=fun e=>H6.out.2.1 e.symm
    rw [← hW6]
    simp [World.setCell,Array.getElem?_modify,hne,H6.out.2.2]
   have M6:=H6.out.1
   rw [hW6,hnt] at M6
   rw [hW6]
   have nbx:nb≠xb∧nb<base:=by
    have h1:=H0.out.2.2.2.1.cells
    have h2:=(Ja.1 h1).1
    have h3:=H0.out.2.2.2.2.1
    omega
   have nb0:w0.w.heap[nb]?=some (.cells #[.int .i64 more] 29):=by
    rw [HW.out.1]
    exact H3.out.2
   have H7:=hid' (Jc M6 (Jc N6 (Jc hnt (Jc nbx nb0))))
   clear hW6 M6 N6 hnt nbx nb0 o3 o4 o5 H6 hv6 A3
   go_wp2_with fail
   go_loopg [7,15] 6 (fun gk okv kv wr=>∃ (k:Nat) (s3:RSt×Nat),k≤nt∧nt - k≤gk∧okv=.bool true∧kv=.int .i64 k∧Hid (MK base w0 wr mb pb W1.heap.size (W1.heap.size+1) (W1.heap.size+1+1) (W1.heap.size+1+1+1) xb more vs s.2.2 nt s3.1 p len cap c s3.2∧RK more s3.1 2 2 s.2.2.length k∧wr.heap[nb]?=some (.cells #[.int .i64 more] 29)∧taskN c len more s.2.2.length k (s.1,na len (na len s.2.1))=s3))
   case atStart=>exact ⟨0,(s.1,na len (na len s.2.1)),by omega,by omega,rfl,rfl,(show _∧_∧_∧_ from ⟨H7.out.1,HL.out.2.1,H7.out.2.1,rfl⟩)⟩
   case' round=>skip
   obtain ⟨k,s3,hkt,hgk3,rfl,rfl,HT⟩:=hrel
   rename World=>Z2
   obtain ⟨_,_,_,z3⟩:=HT.out.1.cs
   have z4:=HT.out.1.lt
   by_cases hk:k<nt
   ·have hkI:(k:Int)<(nt:Int):=by omega
    have G0:=hid' (show Z2.drew.heap[nb]?=some (.cells #[.int .i64 more] 29) from HT.out.2.2.1)
    have u0:Z2.cell? ⟨nb,0,none⟩=some (.int .i64 more):=(S1.of (W:=Z2) G0.out).1
    have u1:nb<Z2.heap.size:=(S1.of (W:=Z2) G0.out).2
    have D1:=hid' (mk_id HT.out.1.drew (k:Int) (by omega) (by omega))
    have hv2:=nv_bounds c len s3.2 (n:=2) (by omega)
    have hv20:=nv_bounds c len (na len s3.2) (n:=200) (by omega)
    have KT:=hid' (show c5 s3.1 (idOf more k) (idOf more (nv c len s3.2 2)) (nv c len (na len s3.2) 200)=0∧RK more (n5 s3.1 (idOf more k) (idOf more (nv c len s3.2 2)) (nv c len (na len s3.2) 200)) 2 2 s.2.2.length (k+1) from by
     have:=HT.out.2.1.task (by omega) (by omega) (j:=(nv c len s3.2 2).toNat) (by omega) (v:=nv c len (na len s3.2) 200) hv20.1 (by omega)
     rwa [Int.toNat_of_nonneg hv2.1] at this)
    go_upto_region 25 with fail
    have hS0:S1 nb more Z2.drew:=⟨u0,u1⟩
    refine wp_region_held_drew (S:=S1 nb more) (by kernel_rfl) hS0 (fun _=>?_)
    refine tkH (v:=?_) 0 111 hS0 ?_ ?_; rotate_left 1
    ·(rintro w' ⟨e0,e1⟩; go_simp; try with_reducible rfl)
    simp only [Act.put,Jh,Ji,Jj]
    refine tkH (v:=?_) 1 112 hS0 ?_ ?_; rotate_left 1
    ·(rintro w' ⟨e0,e1⟩; go_simp; try with_reducible rfl)
    simp only [Act.put,Jh,Ji,Jj]
    refine tkH (v:=?_) 2 113 hS0 ?_ ?_; rotate_left 1
    ·(rintro w' ⟨e0,e1⟩; go_simp; try with_reducible rfl)
    simp only [Act.put,Jh,Ji,Jj]
    refine tkH (v:=?_) 4 115 hS0 ?_ ?_; rotate_left 1
    ·(rintro w' ⟨e0,e1⟩; go_simp; try with_reducible rfl)
    simp only [Act.put,Jh,Ji,Jj]
    refine tkH (v:=?_) 5 116 hS0 ?_ ?_; rotate_left 1
    ·(rintro w' ⟨e0,e1⟩; go_simp; try with_reducible rfl)
    simp only [Act.put,Jh,Ji,Jj]
    refine tkH (v:=?_) 8 119 hS0 ?_ ?_; rotate_left 1
    ·(rintro w' ⟨e0,e1⟩; go_simp; try with_reducible rfl)
    simp only [Act.put,Jh,Ji,Jj]
    refine wpAnyH_ready (rs:=[3]) (by kernel_rfl) (by simp) ?_
    refine AllReadyH.cons rfl (fun K hK=>?_) AllReadyH.nil
    go_simp
    refine D1.out.mono ?_
    rintro e T1 ⟨rfl,M1,C1⟩
    have G1:=C1 _ _ _ _ (by decide) G0.out
    have hS1:S1 nb more T1:=S1.of G1
    refine hK.out _ _ hS1 (fun _=>?_)
    clear hK K
    have D2:=hid' (mk_next M1 2 (by omega) (by omega))
    have F1:=hid' (Jc G1 C1)
    clear M1 G1 C1 D1
    refine wpAnyH_ready (rs:=[6]) (by kernel_rfl) (by simp) ?_
    refine AllReadyH.cons rfl (fun K hK=>?_) AllReadyH.nil
    go_simp
    refine D2.out.mono ?_
    rintro e T2 ⟨rfl,M2,C2⟩
    have G2:=C2 _ _ _ _ (by decide) F1.out.1
    have hS2:S1 nb more T2:=S1.of G2
    refine hK.out _ _ hS2 (fun _=>?_)
    clear hK K
    have D3:=hid' (mk_id M2 (nv c len s3.2 2) hv2.1 (by omega))
    have F2:=hid' (Jc G2 C2)
    clear M2 G2 C2 D2
    refine wpAnyH_ready (rs:=[7]) (by kernel_rfl) (by simp) ?_
    refine AllReadyH.cons rfl (fun K hK=>?_) AllReadyH.nil
    go_simp
    refine D3.out.mono ?_
    rintro e T3 ⟨rfl,M3,C3⟩
    have G3:=C3 _ _ _ _ (by decide) F2.out.1
    have hS3:S1 nb more T3:=S1.of G3
    refine hK.out _ _ hS3 (fun _=>?_)
    clear hK K
    have D4:=hid' (mk_next M3 200 (by omega) (by omega))
    have F3:=hid' (Jc G3 C3)
    clear M3 G3 C3 D3
    refine wpAnyH_ready (rs:=[9]) (by kernel_rfl) (by simp) ?_
    refine AllReadyH.cons rfl (fun K hK=>?_) AllReadyH.nil
    go_simp
    refine D4.out.mono ?_
    rintro e T4 ⟨rfl,M4,C4⟩
    have G4:=C4 _ _ _ _ (by decide) F3.out.1
    have hS4:S1 nb more T4:=S1.of G4
    refine hK.out _ _ hS4 (fun _=>?_)
    clear hK K
    have D5:=mk_task M4 (idOf more k) (idOf more (nv c len s3.2 2)) (nv c len (na len s3.2) 200)
    rw [KT.out.1] at D5
    have D5:=hid' D5
    have F4:=hid' (Jc G4 C4)
    clear M4 G4 C4 D4
    refine wpAnyH_ready (rs:=[10]) (by kernel_rfl) (by simp) ?_
    refine AllReadyH.cons rfl (fun K hK=>?_) AllReadyH.nil
    go_simp
    refine D5.out.mono ?_
    rintro e T5 ⟨rfl,M5,C5⟩
    have G5:=C5 _ _ _ _ (by decide) F4.out.1
    have hS5:S1 nb more T5:=S1.of G5
    refine hK.out _ _ hS5 (fun _=>?_)
    clear hK K
    have F5:=hid' (Jc G5 M5)
    clear M5 G5 C5 D5 hS0 hS1 hS2 hS3 hS4
    refine tkH (v:=?_) 11 16 hS5 ?_ ?_; rotate_left 1
    ·(rintro w' ⟨e0,e1⟩; go_simp; try with_reducible rfl)
    simp only [Act.put,Jh,Ji,Jj]
    refine wpAnyH_done (by kernel_rfl) ?_ _
    have WA:=hid' (wish_any F5.out.2 (k:Int) (by omega) (by omega) hnm (by omega))
    go_wp2_with (first
     | (go_at_call 21; refine WA.out.mono ?_; rintro e T6 ⟨rfl,M6⟩; have F6:=hid' M6; clear M6)
     | fail)
    go_roundg (nt - (k+1))
    case measure=>omega
    case rel =>
     refine ⟨k+1,task1 c len more s.2.2.length k s3,by omega,Jb _,rfl,by go_num,(show _∧_∧_∧_ from ⟨F6.out,KT.out.2.wishT c len s.2.2.length k _,(F6.out.below.block nb H7.out.2.2.2.1.2 H7.out.2.2.2.1.1).trans H7.out.2.2.2.2,?_⟩)⟩
     rw [← HT.out.2.2.2]
     rfl
   ·obtain rfl:k=nt:=by omega
    have hkI:¬ (k:Int)<(k:Int):=by omega
    have hsl:=HL.out.2.2.2.2.2
    rw [eM] at hsl
    have IS:=hid' (show MadeIs c len more a s.2.2 k s3.1 s3.2 from ⟨⟨s1,(s.1,na len s.2.1,s.2.2),k,HK.out.1,hsl.symm,rfl,H7.out.2.2.1.symm,rfl,HT.out.2.2.2⟩,(by simpa using HT.out.2.1),(by omega),HL.out.2.2.2.1,(by rw [← HT.out.2.2.2,taskN_t1]; exact HL.out.2.2.2.2.1)⟩)
    go_wp2_with fail
    go_ret
    exact ⟨W3,mb,rfl,pb,_,_,_,_,vs,s.2.2,k,s3.1,s3.2,by rw [← HW.out.1]; exact HT.out.1,IS.out,HW.out.2.1,(by rw [← hnb]; exact HW.out.2.2)⟩
theorem made_any {v0:World}(hd:DiceAt w xb p len cap c a)(hbw:base≤w.heap.size)(hb0:BelowX base xb v0 w)(hm:0≤more∧more<100)(harg:∀ q,len≠0→p=some q→q.block<base) :
  Calls Try.prog 5 #[.pointer (some ⟨xb,0,none⟩),.agg #[.int .i64 more]] w fun e w'=>∃ mb pb b0 b1 b2 b3 vs slots tasks R a',e=.returned (.pointer (some ⟨mb,0,none⟩))∧MK base ⟨v0,[]⟩ w' mb pb b0 b1 b2 b3 xb more vs slots tasks R p len cap c a'∧MadeIs c len more a slots tasks R a'∧w'.heap[pb]?=some (.cells #[.map (some b0),.map (some b1),.map (some b2),.map (some b3),.int .i64 0,.slice none 0 0,.slice none 0 0,.slice none 0 0,.slice none 0 0] 74):=by
 refine (made_in hd rfl hm (fun q z e=>Jm (harg q z e) (by omega))).mono ?_
 rintro e w' ⟨W3,mb,pb,b0,b1,b2,b3,vs,slots,tasks,R,a',rfl,hM,hI,hpc,hb3⟩
 exact ⟨mb,pb,b0,b1,b2,b3,vs,slots,tasks,R,a',rfl,hM.widen (by omega) (hb0.trans (BelowX.of xb (hb3.mono hbw))) harg,hI,(hM.kept pb (by simp)).trans hpc⟩
end
end
section
open Go.RowKit
section
variable {base:Nat}{w0:Fr}{w w':World}{mb pb b0 b1 b2 b3 xb:Nat}{more:Int}{vs:Value}{slots:List Int}{tasks:Int}{R R':RSt}{p:Option Addr}{len cap a a':Nat}{c:Nat→Int}
theorem DiceAt.keep (h:DiceAt w xb p len cap c a)(hx:w'.heap[xb]?=w.heap[xb]?)(hq:∀ q,len≠0→p=some q→w'.heap[q.block]?=w.heap[q.block]?):DiceAt w' xb p len cap c a:=by
 refine ⟨h.le,hx.trans h.cells,?_,h.few⟩
 rcases h.codes with q | ⟨sb,off,e,hs,hi⟩
 ·exact Jr q
 ·refine Js ⟨sb,off,e,hs,fun i hl=>⟨?_,(hi i hl).2⟩⟩
  have:=hq _ (by omega) e
  rw [← (hi i hl).1]
  simp only [World.cell?]
  rw [show w'.heap[sb]?=w.heap[sb]? from this]
theorem NRow.keep {v:Value}{xs:List Int}(h:NRow base w v xs)(hb:∀ b,base≤b→b<w.heap.size→(∃ cs,w.heap[b]?=some (.cells cs 3))→w'.heap[b]?=w.heap[b]?):NRow base w' v xs:=by
 refine ⟨h.1,?_⟩
 rcases h.2 with q | ⟨g,cap,cur,hv,q0,hg,r⟩
 ·exact Jr q
 ·exact Js ⟨g,cap,cur,hv,q0,(hb g q0 (Ja.1 hg).1 ⟨_,hg⟩).trans hg,r⟩
theorem MK.solved {l0 l1 l2 l3 m0 m1 m2 m3}(h:MK base w0 w mb pb b0 b1 b2 b3 xb more vs slots tasks R p len cap c a)(hp:PlanAt w pb b0 b1 b2 b3 l0 l1 l2 l3)(ho:Only [pb,b0,b1,b2,b3] w w')(hp':PlanAt w' pb b0 b1 b2 b3 m0 m1 m2 m3)(hs:Sim m0 m1 m2 m3 R'):MK base ⟨w0.w,[]⟩ w' mb pb b0 b1 b2 b3 xb more vs slots tasks R' p len cap c a:=by
 have hmv:∀ (b:Nat) (cs:Array Value) (t:TypeId) (f:Nat×Nat),t≠74→w.heap[b]?=some (.cells cs t f)→w'.heap[b]?=some (.cells cs t f):=fun b cs t f ht q=>(ho.block b (Ja.1 q).1 (fun hm=>by
  rcases List.mem_cons.1 hm with rfl | hm
  ·obtain ⟨_,_,_,_,_,q'⟩:=hp.cells
   rw [q] at q'
   cases q'
   exact ht rfl
  ·exact hp.notmap q hm)).trans q
 have hold:∀ b,b<base→b∉[pb,b0,b1,b2,b3]:=fun b hb hm=>by
  have:=h.old b (Jk _ hm)
  omega
 refine ⟨hmv _ _ _ _ (by decide) h.cells,h.row.keep (fun b _ _ ⟨cs,q⟩=>(hmv _ _ _ _ (by decide) q).trans q.symm),⟨m0,m1,m2,m3,hp',hs⟩,h.dice.keep ((hmv _ _ _ _ (by decide) h.dice.cells).trans h.dice.cells.symm) (fun q z e=>?_),h.old,?_,fun b q=>(by cases q),fun b q=>(by cases q),h.more0,h.arg⟩
 ·have h1:=h.arg q z e
  exact ho.block _ (Jm h1 h.base_le) (hold _ h1)
 ·exact h.below.trans ⟨ho.os,ho.tape,ho.output,ho.size,fun b hb _=>ho.block b (Jm hb h.base_le) (hold b hb)⟩
theorem MK.fits (h:MK base w0 w mb pb b0 b1 b2 b3 xb more vs slots tasks R p len cap c a):Fit R∧RunFit R∧∀ n∈R.on,n=-1∨∃ y∈R.t1,y.1=n:=by
 obtain ⟨l0,l1,l2,l3,hp,hs⟩:=h.plan
 exact ⟨hs.fit,hs.fits.net.run,hs.runs.onf⟩
end
end
section
open Go.RowKit
structure RM (more:Int)(R:RSt)(slots:List Int)(nt:Nat):Prop where
 i0:R.t0.map (·.1)=idsL more 2
 i3:R.t3.map (·.1)=idsL more nt
 few:1≤slots.length∧slots.length≤4∧1≤nt∧nt≤6
 sl:∀ s∈slots,1≤s∧s≤3
 all:∀ x∈R.t1,∃ k,∃ h:k<slots.length,x.1=idOf more k∧x.2.2=slots[k]
 each:∀ k,k<slots.length→∃ x∈R.t1,x.1=idOf more k
def posM (more:Int)(R:RSt)(k:Nat):Nat:=(atOf (idOf more k) R.t1).toNat
section
variable {more:Int}{R:RSt}{slots:List Int}{nt:Nat}
theorem RM.len3 (h:RM more R slots nt):R.t3.length=nt:=len_of h.i3
theorem RM.task (h:RM more R slots nt){t:Nat}(ht:t<nt):∃ hl:t<R.t3.length,R.t3[t].1=idOf more t:=ids_at h.i3 ht
theorem RM.pos (h:RM more R slots nt)(hf:RunFit R){k:Nat}(hk:k<slots.length):∃ hl:posM more R k<R.t1.length,R.t1[posM more R k].1=idOf more k∧R.t1[posM more R k].2.2=slots[k]:=by
 obtain ⟨x,hx,e⟩:=h.each k hk
 obtain ⟨j,hj,rfl⟩:=List.mem_iff_getElem.1 hx
 have hp:posM more R k=j:=by
  unfold posM
  rw [← e,hf.at1 j hj]
  simp
 have hl:posM more R k<R.t1.length:=by rw [hp]; exact hj
 refine ⟨hl,?_⟩
 have e2:R.t1[posM more R k]=R.t1[j]:=by simp [hp]
 rw [e2]
 refine ⟨e,?_⟩
 obtain ⟨k',hk',q1,q2⟩:=h.all _ (Jl hj)
 have h4:=h.few
 have:k'=k:=idOf_inj (by omega) (by omega) (q1.symm.trans e)
 subst this
 exact q2
def tabF (more:Int)(R:RSt)(t j:Nat):Int:=if j=0 then cR R t R.t1.length else cR R t (posM more R (j - 1))
end
end
section
open Go.RowKit
section
variable {base:Nat}{w0:Fr}{w w':World}{mb pb b0 b1 b2 b3 xb:Nat}{more:Int}{vs:Value}{slots:List Int}{tasks:Int}{R R':RSt}{p:Option Addr}{len cap a a' nt:Nat}{c:Nat→Int}
theorem mk_costN (h:MK base w0 w mb pb b0 b1 b2 b3 xb more vs slots tasks R p len cap c a)(hR:RM more R slots nt){t:Nat}(ht:t<nt) :
  Calls Try.prog 37 #[.pointer (some ⟨pb,0,none⟩),.int .i64 (idOf more t),.int .i64 (-1)] w fun e w'=>e=.returned (.tuple #[.int .i64 (tabF more R t 0),.int .i64 0])∧Below w.heap.size w w':=by
 obtain ⟨l0,l1,l2,l3,hp,hs⟩:=h.plan
 obtain ⟨hl,e⟩:=hR.task ht
 obtain ⟨y,hy,ey⟩:=hs.fit.job _ (Jl hl)
 obtain ⟨j,hj,rfl⟩:=List.mem_iff_getElem.1 hy
 have ej:atOf R.t3[t].2.1 R.t2=j:=by rw [← ey]; exact atOf_mem hs.fit.nd2 hj
 have hb:=hs.fit.n2 _ (Jl hj)
 have:=cost_none hp R.t3[t].1 2 R.t3[t].2.1 0 R.t3[t].2.2 4 0 0 R.t2[j].2.2 (hs.yes3 hl) (by rw [← ey]; exact hs.yes2 hj) hb.1 hb.2 hs.wd
 rw [none_R hs hl hj ej,e] at this
 exact this
theorem mk_costM (h:MK base w0 w mb pb b0 b1 b2 b3 xb more vs slots tasks R p len cap c a)(hR:RM more R slots nt){t k:Nat}(ht:t<nt)(hk:k<slots.length) :
  Calls Try.prog 37 #[.pointer (some ⟨pb,0,none⟩),.int .i64 (idOf more t),.int .i64 (idOf more k)] w fun e w'=>e=.returned (.tuple #[.int .i64 (tabF more R t (k+1)),.int .i64 0])∧Below w.heap.size w w':=by
 obtain ⟨l0,l1,l2,l3,hp,hs⟩:=h.plan
 obtain ⟨hl,e⟩:=hR.task ht
 obtain ⟨hm,e1,_⟩:=hR.pos hs.fits.net.run hk
 have hb:=hs.fit.n3 _ (Jl hl)
 have hi:=idOf_bounds more k
 have:=cost_on hp R.t3[t].1 R.t1[posM more R k].1 2 R.t3[t].2.1 0 R.t3[t].2.2 0 R.t1[posM more R k].2.1 R.t1[posM more R k].2.2 0 (by rw [e1]; omega) (hs.yes3 hl) (hs.yes1 hm) hb.1 hb.2 hs.costs
 rw [cost_R hs hl hm,e,e1] at this
 exact this
theorem tabF_bound (hf:RunFit R){t:Nat}(ht:t<R.t3.length)(j:Nat):0≤tabF more R t j∧tabF more R t j≤1150:=by
 unfold tabF
 split
 ·exact cR_bound hf ht
 ·exact cR_bound hf ht
end
def S6 (mb:Nat)(z0 z1:Value)(W:World):Prop:=W.cell? ⟨mb,0,none⟩=some z0∧W.cell? ⟨mb,1,none⟩=some z1∧mb<W.heap.size
section
variable {base:Nat}{w0:Fr}{w w':World}{mb pb b0 b1 b2 b3 xb:Nat}{more:Int}{vs:Value}{slots:List Int}{tasks:Int}{R R':RSt}{p:Option Addr}{len cap a a' nt:Nat}{c:Nat→Int}
theorem S6.of (h:MK base w0 w mb pb b0 b1 b2 b3 xb more vs slots tasks R p len cap c a):S6 mb (.pointer (some ⟨pb,0,none⟩)) (.int .i64 more) w:=⟨h.cs.1,h.cs.2.1,h.lt⟩
theorem cost_any (hM:MK base w0 w mb pb b0 b1 b2 b3 xb more vs slots tasks R p len cap c a)(hR:RM more R slots nt){t:Nat}(ht:t<nt){on:Int}(h0:-1≤on)(h1:on<slots.length) :
  Calls Try.prog 22 #[.pointer (some ⟨mb,0,none⟩),.int .i64 t,.int .i64 on] w fun e w'=>e=.returned (.tuple #[.int .i64 (tabF more R t (on+1).toNat),.bool true])∧Below w.heap.size w w':=by
 have hf:=hR.few
 obtain ⟨y0,y1,_,_⟩:=hM.cs
 have y4:=hM.lt
 have H0:=hid' hM
 clear hM
 by_cases hk:on<0
 ·obtain rfl:on=-1:=by omega
  have hS0:S6 mb (.pointer (some ⟨pb,0,none⟩)) (.int .i64 more) w.drew:=S6.of H0.out.drew
  have D1:=hid' (id_any w.drew more t (by omega) (by omega) H0.out.more0.1 (by have:=H0.out.more0; omega))
  go_enter Try.func22,Try.ntmps22
  go_upto_region 4 with fail
  refine wp_region_held_drew (S:=S6 mb (.pointer (some ⟨pb,0,none⟩)) (.int .i64 more)) (by kernel_rfl) hS0 (fun _=>?_)
  refine tkH (v:=?_) 0 20 hS0 ?_ ?_; rotate_left 1
  ·(rintro w' ⟨e0,e1,e2⟩; go_simp; try with_reducible rfl)
  simp only [Act.put,Jh,Ji,Jj]
  refine tkH (v:=?_) 1 21 hS0 ?_ ?_; rotate_left 1
  ·(rintro w' ⟨e0,e1,e2⟩; go_simp; try with_reducible rfl)
  simp only [Act.put,Jh,Ji,Jj]
  refine tkH (v:=?_) 2 22 hS0 ?_ ?_; rotate_left 1
  ·(rintro w' ⟨e0,e1,e2⟩; go_simp; try with_reducible rfl)
  simp only [Act.put,Jh,Ji,Jj]
  refine tkH (v:=?_) 3 23 hS0 ?_ ?_; rotate_left 1
  ·(rintro w' ⟨e0,e1,e2⟩; go_simp; try with_reducible rfl)
  simp only [Act.put,Jh,Ji,Jj]
  refine tkH (v:=?_) 4 24 hS0 ?_ ?_; rotate_left 1
  ·(rintro w' ⟨e0,e1,e2⟩; go_simp; try with_reducible rfl)
  simp only [Act.put,Jh,Ji,Jj]
  refine tkH (v:=?_) 5 25 hS0 ?_ ?_; rotate_left 1
  ·(rintro w' ⟨e0,e1,e2⟩; go_simp; try with_reducible rfl)
  simp only [Act.put,Jh,Ji,Jj]
  refine tkH (v:=?_) 6 26 hS0 ?_ ?_; rotate_left 1
  ·(rintro w' ⟨e0,e1,e2⟩; go_simp; try with_reducible rfl)
  simp only [Act.put,Jh,Ji,Jj]
  refine tkH (v:=?_) 7 27 hS0 ?_ ?_; rotate_left 1
  ·(rintro w' ⟨e0,e1,e2⟩; go_simp; try with_reducible rfl)
  simp only [Act.put,Jh,Ji,Jj]
  refine tkH (v:=?_) 8 28 hS0 ?_ ?_; rotate_left 1
  ·(rintro w' ⟨e0,e1,e2⟩; go_simp; try with_reducible rfl)
  simp only [Act.put,Jh,Ji,Jj]
  refine tkH (v:=?_) 10 30 hS0 ?_ ?_; rotate_left 1
  ·(rintro w' ⟨e0,e1,e2⟩; go_simp; try with_reducible rfl)
  simp only [Act.put,Jh,Ji,Jj]
  refine wpAnyH_ready (rs:=[9]) (by kernel_rfl) (by simp) ?_
  refine AllReadyH.cons rfl (fun K hK=>?_) AllReadyH.nil
  go_simp
  refine D1.out.mono ?_
  rintro e T1 ⟨rfl,bb⟩
  have F1:=hid' (Jc (H0.out.drew.of_below bb) bb)
  clear bb
  have hS1:=S6.of F1.out.1
  have D2:=hid' (mk_costN F1.out.1 hR ht)
  refine hK.out _ _ hS1 (fun _=>?_)
  clear hK K D1
  refine wpAnyH_ready (rs:=[11]) (by kernel_rfl) (by simp) ?_
  refine AllReadyH.cons rfl (fun K hK=>?_) AllReadyH.nil
  go_simp
  refine D2.out.mono ?_
  rintro e T2 ⟨rfl,bb⟩
  have F2:=hid' (next2 (next2 ((Jd _ _).drew) F1.out.2) bb)
  have hS2:=S6.of (F1.out.1.of_below bb)
  clear bb
  refine hK.out _ _ hS2 (fun _=>?_)
  clear hK K D2
  refine tkH (v:=?_) 12 19 hS2 ?_ ?_; rotate_left 1
  ·(rintro w' ⟨e0,e1,e2⟩; go_simp; try with_reducible rfl)
  simp only [Act.put,Jh,Ji,Jj]
  refine tkH (v:=?_) 13 32 hS2 ?_ ?_; rotate_left 1
  ·(rintro w' ⟨e0,e1,e2⟩; go_simp; try with_reducible rfl)
  simp only [Act.put,Jh,Ji,Jj]
  refine tkH (v:=?_) 14 33 hS2 ?_ ?_; rotate_left 1
  ·(rintro w' ⟨e0,e1,e2⟩; go_simp; try with_reducible rfl)
  simp only [Act.put,Jh,Ji,Jj]
  refine tkH (v:=?_) 15 9 hS2 ?_ ?_; rotate_left 1
  ·(rintro w' ⟨e0,e1,e2⟩; go_simp; try with_reducible rfl)
  simp only [Act.put,Jh,Ji,Jj]
  refine tkH (v:=?_) 16 10 hS2 ?_ ?_; rotate_left 1
  ·(rintro w' ⟨e0,e1,e2⟩; go_simp; try with_reducible rfl)
  simp only [Act.put,Jh,Ji,Jj]
  refine wpAnyH_done (by kernel_rfl) ?_ _
  clear hS0 hS1 hS2
  go_wp2_with fail
  go_ret2
  exact ⟨rfl,F2.out⟩
 ·obtain ⟨k,rfl⟩:∃ k:Nat,on=k:=⟨on.toNat,by omega⟩
  have hk2:(0:Int)≤(k:Int):=by omega
  have D0:=hid' (id_any w more k (by omega) (by omega) H0.out.more0.1 (by have:=H0.out.more0; omega))
  go_enter Try.func22,Try.ntmps22
  go_upto_region 4 with (first
   | (go_at_call 16; refine D0.out.mono ?_; rintro e W1 ⟨rfl,bb1⟩; have H1:=hid' (Jc (H0.out.of_below bb1) bb1); clear bb1)
   | fail)
  have hS0:S6 mb (.pointer (some ⟨pb,0,none⟩)) (.int .i64 more) W1.drew:=S6.of H1.out.1.drew
  have D1:=hid' (id_any W1.drew more t (by omega) (by omega) H0.out.more0.1 (by have:=H0.out.more0; omega))
  refine wp_region_held_drew (S:=S6 mb (.pointer (some ⟨pb,0,none⟩)) (.int .i64 more)) (by kernel_rfl) hS0 (fun _=>?_)
  refine tkH (v:=?_) 0 20 hS0 ?_ ?_; rotate_left 1
  ·(rintro w' ⟨e0,e1,e2⟩; go_simp; try with_reducible rfl)
  simp only [Act.put,Jh,Ji,Jj]
  refine tkH (v:=?_) 1 21 hS0 ?_ ?_; rotate_left 1
  ·(rintro w' ⟨e0,e1,e2⟩; go_simp; try with_reducible rfl)
  simp only [Act.put,Jh,Ji,Jj]
  refine tkH (v:=?_) 2 22 hS0 ?_ ?_; rotate_left 1
  ·(rintro w' ⟨e0,e1,e2⟩; go_simp; try with_reducible rfl)
  simp only [Act.put,Jh,Ji,Jj]
  refine tkH (v:=?_) 3 23 hS0 ?_ ?_; rotate_left 1
  ·(rintro w' ⟨e0,e1,e2⟩; go_simp; try with_reducible rfl)
  simp only [Act.put,Jh,Ji,Jj]
  refine tkH (v:=?_) 4 24 hS0 ?_ ?_; rotate_left 1
  ·(rintro w' ⟨e0,e1,e2⟩; go_simp; try with_reducible rfl)
  simp only [Act.put,Jh,Ji,Jj]
  refine tkH (v:=?_) 5 25 hS0 ?_ ?_; rotate_left 1
  ·(rintro w' ⟨e0,e1,e2⟩; go_simp; try with_reducible rfl)
  simp only [Act.put,Jh,Ji,Jj]
  refine tkH (v:=?_) 6 26 hS0 ?_ ?_; rotate_left 1
  ·(rintro w' ⟨e0,e1,e2⟩; go_simp; try with_reducible rfl)
  simp only [Act.put,Jh,Ji,Jj]
  refine tkH (v:=?_) 7 27 hS0 ?_ ?_; rotate_left 1
  ·(rintro w' ⟨e0,e1,e2⟩; go_simp; try with_reducible rfl)
  simp only [Act.put,Jh,Ji,Jj]
  refine tkH (v:=?_) 8 28 hS0 ?_ ?_; rotate_left 1
  ·(rintro w' ⟨e0,e1,e2⟩; go_simp; try with_reducible rfl)
  simp only [Act.put,Jh,Ji,Jj]
  refine tkH (v:=?_) 10 30 hS0 ?_ ?_; rotate_left 1
  ·(rintro w' ⟨e0,e1,e2⟩; go_simp; try with_reducible rfl)
  simp only [Act.put,Jh,Ji,Jj]
  refine wpAnyH_ready (rs:=[9]) (by kernel_rfl) (by simp) ?_
  refine AllReadyH.cons rfl (fun K hK=>?_) AllReadyH.nil
  go_simp
  refine D1.out.mono ?_
  rintro e T1 ⟨rfl,bb⟩
  have F1:=hid' (Jc (H1.out.1.drew.of_below bb) bb)
  clear bb
  have hS1:=S6.of F1.out.1
  have D2:=hid' (mk_costM (k:=k) F1.out.1 hR ht (by omega))
  refine hK.out _ _ hS1 (fun _=>?_)
  clear hK K D1
  refine wpAnyH_ready (rs:=[11]) (by kernel_rfl) (by simp) ?_
  refine AllReadyH.cons rfl (fun K hK=>?_) AllReadyH.nil
  go_simp
  refine D2.out.mono ?_
  rintro e T2 ⟨rfl,bb⟩
  have F2:=hid' (next2 H1.out.2 (next2 (next2 ((Jd _ _).drew) F1.out.2) bb))
  have hS2:=S6.of (F1.out.1.of_below bb)
  clear bb
  refine hK.out _ _ hS2 (fun _=>?_)
  clear hK K D2
  refine tkH (v:=?_) 12 19 hS2 ?_ ?_; rotate_left 1
  ·(rintro w' ⟨e0,e1,e2⟩; go_simp; try with_reducible rfl)
  simp only [Act.put,Jh,Ji,Jj]
  refine tkH (v:=?_) 13 32 hS2 ?_ ?_; rotate_left 1
  ·(rintro w' ⟨e0,e1,e2⟩; go_simp; try with_reducible rfl)
  simp only [Act.put,Jh,Ji,Jj]
  refine tkH (v:=?_) 14 33 hS2 ?_ ?_; rotate_left 1
  ·(rintro w' ⟨e0,e1,e2⟩; go_simp; try with_reducible rfl)
  simp only [Act.put,Jh,Ji,Jj]
  refine tkH (v:=?_) 15 9 hS2 ?_ ?_; rotate_left 1
  ·(rintro w' ⟨e0,e1,e2⟩; go_simp; try with_reducible rfl)
  simp only [Act.put,Jh,Ji,Jj]
  refine tkH (v:=?_) 16 10 hS2 ?_ ?_; rotate_left 1
  ·(rintro w' ⟨e0,e1,e2⟩; go_simp; try with_reducible rfl)
  simp only [Act.put,Jh,Ji,Jj]
  refine wpAnyH_done (by kernel_rfl) ?_ _
  clear hS0 hS1 hS2
  go_wp2_with fail
  go_ret2
  exact ⟨rfl,F2.out⟩
end
end
section
open Go.RowKit
structure Tab (b:Nat)(w:World)(v:Value)(vals:List Value)(rows:List (List Int)):Prop where
 out:w.ownsRow b 22 1 v vals.length vals
 len:rows.length=vals.length
 row:∀ i,(hi:i<vals.length)→NRow b w vals[i] (rows.getD i [])
theorem Tab.nil (b:Nat)(w:World):Tab b w (.slice none 0 0) [] []:=⟨World.ownsRow_nil _ _ _ _,rfl,fun i hi=>absurd hi (Nat.not_lt_zero i)⟩
theorem Tab.keep {b:Nat}{w w':World}{v:Value}{vals:List Value}{rows:List (List Int)}(h:Tab b w v vals rows)(hb:∀ k cs t,b≤k→w.heap[k]?=some (.cells cs t)→t=3∨t=22→w'.heap[k]?=w.heap[k]?):Tab b w' v vals rows:=by
 refine ⟨⟨h.out.1,?_⟩,h.len,fun i hi=>(h.row i hi).keep (fun k hk _ ⟨cs,q⟩=>hb k cs 3 hk q (Jr rfl))⟩
 rcases h.out.2 with q | ⟨g,cap,cur,hv,q0,hg,r⟩
 ·exact Jr q
 ·exact Js ⟨g,cap,cur,hv,q0,(hb g cur 22 q0 hg (Js rfl)).trans hg,r⟩
theorem Tab.below {b:Nat}{w w':World}{v:Value}{vals:List Value}{rows:List (List Int)}(h:Tab b w v vals rows)(hb:Below w.heap.size w w'):Tab b w' v vals rows:=h.keep (fun k _ _ _ q _=>hb.block k (Ja.1 q).1)
theorem Tab.sl {b:Nat}{w:World}{v:Value}{vals:List Value}{rows:List (List Int)}(h:Tab b w v vals rows):∃ p c,v=.slice p rows.length c:=by
 rw [h.len]
 rcases h.out.2 with ⟨e1,e2⟩ | ⟨g,cap,cur,e1,_⟩
 ·exact ⟨none,0,by rw [e1,e2]⟩
 ·exact ⟨_,_,e1⟩
theorem infoN35:(Try.prog.info? 22).map (fun i=>(i.zero,i.size,i.bytes))=some (some (.slice none 0 0),1,24):=by kernel_rfl
theorem wpList_pushT {ops:Array Oper}{rest:List Oper}{o:Oper}{a:Act}{Q:Exit→Act→World→Prop}(W:World)(b:Nat)(r:Value)(xs:List Int)(v:Value)(vals:List Value)(rows:List (List Int))(hgd:o.guard=none)(sO xO:Operand)
  (hop:o.op=Op.call { callee:=Callee.builtin Builtin.append,args:=#[sO,xO],argTypes:=#[30,30] }) (hs:a.eval sO=v) (hT:Tab b W v vals rows) (hr:NRow b W r xs) (ad:Nat) (had:a.eval xO=.slice (some ⟨ad,0,none⟩) 1 1)
  (hc:W.cell? ⟨ad,0,none⟩=some r) (hb:b≤W.heap.size) (hl:vals.length≤1000000)
  (hK:∀ (v':Value) (w':World),Tab b w' v' (vals ++ [r]) (rows ++ [xs])→W.grownBy w' v.ownBlock→(v'.ownBlock=v.ownBlock∨v'.ownBlock=some W.heap.size)→wpList Try.prog ops Q rest (a.put o.dst v') w') :
  wpList Try.prog ops Q (o :: rest) a W:=by
 obtain ⟨i3,hi3,hy0,hy1,hy2⟩:=info_parts infoN35
 obtain ⟨pr,cr,er⟩:=hr.sl'
 have hvb:∀ k,v.ownBlock=some k→∃ cs,W.heap[k]?=some (.cells cs 22):=fun k e=>by
  rcases hT.out.2 with ⟨e1,_⟩ | ⟨g,cap,cur,e1,_,hg,_⟩
  ·rw [e1] at e; cases e
  ·rw [e1] at e; cases e; exact ⟨_,hg⟩
 refine wpList_append_own_at W hgd sO xO 30 hop b 22 i3 (.slice none 0 0) 1 24 Try.underlying30 hi3 hy0 hy1 hy2 rfl (by decide) v vals.length vals hs hT.out ⟨ad,0,none⟩ 1 1 [r] had rfl ?_ ?_ (by unfold maxLen; omega) (by omega) hb ?_
 ·intro j u hj
  have:j=0:=by
   have:=(List.getElem?_eq_some_iff.1 hj).1
   simp at this; exact this
  subst this
  simp at hj
  subst hj
  exact hc
 ·intro u hu
  simp at hu
  subst hu
  rw [er]
  rfl
 ·intro u w' hrow hg _ hloc
  have hk:∀ {y:Value} {ys:List Int},NRow b W y ys→NRow b w' y ys:=fun {y} {ys} h=>h.kept hg (by
   rcases h.2 with ⟨e1,_⟩ | ⟨g,cap,cur,e1,_,hgy,_⟩
   ·exact Jr (by rw [e1]; rfl)
   ·refine Js (fun e=>?_)
    have e2:v.ownBlock=some g:=by rw [← e,e1]; rfl
    obtain ⟨cs,q⟩:=hvb g e2
    rw [hgy] at q
    cases q)
  refine hK u w' ⟨by simpa using hrow,by simp [hT.len],fun i hi=>?_⟩ hg hloc
  by_cases e:i<vals.length
  ·have h1:=hk (hT.row i e)
   rw [List.getElem_append_left e]
   have h2:(rows ++ [xs]).getD i []=rows.getD i []:=getD_left (by rw [hT.len]; exact e) _
   rw [h2]
   exact h1
  ·have hi':i=vals.length:=by simp at hi; omega
   subst hi'
   have h2:(rows ++ [xs]).getD vals.length []=xs:=by
    rw [← hT.len]
    simp [List.getD]
   rw [h2]
   simpa using hk hr
theorem below_push {n:Nat}{z W w':World}{o:Option Nat}(hb:Below n z W)(hg:W.grownBy w' o)(hv:∀ b,o=some b→n≤b)(hn:n≤W.heap.size):Below n z w' :=
 hb.trans ⟨hg.os,hg.tape,hg.output,hg.size,fun b q=>hg.block b (by omega) (fun e=>by have:=hv b e.symm; omega)⟩
theorem NRow.base_le {b b':Nat}{w:World}{v:Value}{xs:List Int}(h:NRow b w v xs)(hb:b'≤b):NRow b' w v xs:=by
 refine ⟨h.1,?_⟩
 rcases h.2 with q | ⟨g,cap,cur,hv,q0,r⟩
 ·exact Jr q
 ·exact Js ⟨g,cap,cur,hv,Nat.le_trans hb q0,r⟩
def rowsT (more:Int)(R:RSt)(ns:Nat)(n:Nat):List (List Int):=(List.range n).map (fun t=>intL (ns+1) (tabF more R t))
theorem rowsT_succ (more:Int)(R:RSt)(ns n:Nat):rowsT more R ns n ++ [intL (ns+1) (tabF more R n)]=rowsT more R ns (n+1):=by simp [rowsT,List.range_succ]
theorem rowsT_length (more:Int)(R:RSt)(ns n:Nat):(rowsT more R ns n).length=n:=by simp [rowsT]
section
variable {base:Nat}{w0:Fr}{w w':World}{mb pb b0 b1 b2 b3 xb:Nat}{more:Int}{vs:Value}{slots:List Int}{tasks:Int}{R R':RSt}{p:Option Addr}{len cap a a' nt:Nat}{c:Nat→Int}
theorem table_any (hM:MK base w0 w mb pb b0 b1 b2 b3 xb more vs slots tasks R p len cap c a)(hR:RM more R slots nt)(htk:tasks=nt) :
  Calls Try.prog 6 #[.pointer (some ⟨mb,0,none⟩)] w fun e w'=>∃ v vals,e=.returned (.tuple #[v,.bool true])∧Tab w.heap.size w' v vals (rowsT more R slots.length nt)∧Below w.heap.size w w':=by
 subst htk
 have hfew:=hR.few
 obtain ⟨pv,cv,rfl⟩:=hM.row.sl'
 have H0:=hid' hM
 have HR:=hid' hR
 clear hM hR
 go_enter Try.func6,Try.ntmps6
 go_upto_region 2 with fail
 go_wp2_with fail
 go_loopg [4,5] nt (fun gk ov tv wr=>∃ (t:Nat) (v:Value) (vals:List Value),t≤nt∧nt - t≤gk∧ov=v∧tv=.int .i64 t∧Hid (Tab w.heap.size wr v vals (rowsT more R slots.length t)∧Below w.heap.size w wr))
 case atStart=>exact ⟨0,_,[],by omega,by omega,rfl,rfl,(show _∧_ from ⟨Tab.nil _ _,Jd _ _⟩)⟩
 case' round=>skip
 obtain ⟨t,v,vals,htn,hgk,rfl,rfl,HL⟩:=hrel
 rename World=>Z0
 have MZ:=hid' (H0.out.of_below HL.out.2)
 obtain ⟨_,_,y2,y3⟩:=MZ.out.cs
 have y4:=MZ.out.lt
 by_cases ht:t<nt
 ·have htI:(t:Int)<(nt:Int):=by omega
  go_upto_region 6 with fail
  go_wp2_with fail
  go_loopg [6,7] (slots.length+1) (fun gk rv kv wr=>∃ (k:Nat) (r:Value),k≤slots.length+1∧slots.length+1 - k≤gk∧rv=r∧kv=.int .i64 ((k:Int) - 1)∧Hid (NRow Z0.heap.size wr r (intL k (tabF more R t))∧Below Z0.heap.size Z0 wr))
  case atStart=>exact ⟨0,_,by omega,by omega,rfl,rfl,(show _∧_ from ⟨NRow.nil _ _,Jd _ _⟩)⟩
  case' round=>skip
  obtain ⟨k,r,hkn,hgk2,rfl,rfl,HI⟩:=hrel
  rename World=>Z1
  have MY:=hid' (MZ.out.of_below HI.out.2)
  clear y2 y3 y4
  obtain ⟨_,_,y2,y3⟩:=MY.out.cs
  have y4:=MY.out.lt
  by_cases hk:k<slots.length+1
  ·have hkI:(k:Int) - 1<(slots.length:Int):=by omega
   have A1:=hid' (cost_any MY.out HR.out ht (on:=(k:Int) - 1) (by omega) hkI)
   have hb:=tabF_bound (more:=more) MY.out.fits.2.1 (t:=t) (by rw [HR.out.len3]; exact ht) k
   have ek:((k:Int) - 1+1).toNat=k:=by omega
   rw [ek] at A1
   clear ek
   obtain ⟨X,hX⟩:∃ X,tabF more R t k=X:=⟨_,rfl⟩
   rw [hX] at A1 hb
   have HX:=hid' hX
   clear hX
   have hb1:¬ X<0:=by omega
   have hb2:¬ 2000<X:=by omega
   go_upto_region 10 with (first
    | (go_at_call 22; refine A1.out.mono ?_; rintro e Z2 ⟨rfl,bb⟩; have H2:=hid' (Jc (HI.out.1.below bb) (next2 HI.out.2 bb)); clear bb A1)
    | fail)
   clear y2 y3 y4
   go_upto_region 12 with fail
   have hrA:NRow Z0.heap.size (Z2.alloc (.cells #[.int .i64 X] 3)) u6 (intL k (tabF more R t)):=H2.out.1.below ((Jd _ _).alloc (Jb _) _)
   have hzz:=H2.out.2.size
   have hln:(intL k (tabF more R t)).length≤1000000:=by rw [intL_length]; omega
   go_wp2_with (first
    | (at_builtin; refine wpList_push _ Z0.heap.size X _ _ rfl _ _ rfl rfl hrA Z2.heap.size rfl (by simp) (by simp; omega) hln ?_; intro v' T5 hrow hg hloc; have HP:=hid' (Jc hrow (below_push (H2.out.2.alloc hzz _) hg hrA.base (by simp; omega))); clear hrow hg hloc)
    | fail)
   go_roundg (slots.length+1 - (k+1))
   case measure=>omega
   case rel =>
    refine ⟨k+1,_,by omega,Jb _,rfl,?_,(show _∧_ from ⟨?_,HP.out.2⟩)⟩
    ·go_num
    ·rw [← intL_push,HX.out]
     exact HP.out.1
  ·have hkI:¬ (k:Int) - 1<(slots.length:Int):=by omega
   obtain rfl:k=slots.length+1:=by omega
   go_upto_region 13 with fail
   obtain ⟨pu,cu,hu⟩:=HI.out.1.sl'
   rw [intL_length] at hu
   subst hu
   have hz1:=HL.out.2.size
   have hz2:=HI.out.2.size
   have hvl:vals.length=t:=by rw [← HL.out.1.len,rowsT_length]
   have hTA:Tab w.heap.size (Z1.alloc (.cells #[(.slice pu (slots.length+1) cu)] 22)) u4 vals (rowsT more R slots.length t):=(HL.out.1.below HI.out.2).below ((Jd _ _).alloc (Jb _) _)
   have hRA:NRow w.heap.size (Z1.alloc (.cells #[(.slice pu (slots.length+1) cu)] 22)) (.slice pu (slots.length+1) cu) (intL (slots.length+1) (tabF more R t)):=(HI.out.1.base_le hz1).below ((Jd _ _).alloc (Jb _) _)
   clear y2 y3 y4
   go_wp2_with (first
    | (at_builtin; refine wpList_pushT _ w.heap.size (.slice pu (slots.length+1) cu) _ _ _ _ rfl _ _ rfl rfl hTA hRA Z1.heap.size rfl (by simp) (by simp; omega) (by omega) ?_; intro v' T6 hrow hg hloc; have HQ:=hid' (Jc hrow (below_push ((next2 HL.out.2 HI.out.2).alloc (by omega) _) hg (fun b e=>(World.ownsRow.lt hTA.out b e).1) (by simp; omega))); clear hrow hg hloc)
    | fail)
   go_roundg (nt - (t+1))
   case measure=>omega
   case rel =>
    exact ⟨t+1,_,vals ++ [(.slice pu (slots.length+1) cu)],by omega,Jb _,rfl,by go_num,(show _∧_ from ⟨by rw [← rowsT_succ]; exact HQ.out.1,HQ.out.2⟩)⟩
 ·have htI:¬ (t:Int)<(nt:Int):=by omega
  obtain rfl:t=nt:=by omega
  go_wp2_with fail
  go_ret2
  exact ⟨_,rfl,⟨_,HL.out.1⟩,HL.out.2⟩
end
end
section
open Go.RowKit
def DC (w:World)(p:Option Addr)(len:Nat)(c:Nat→Int):Prop:=len=0∨∃ sb off,p=some ⟨sb,off,none⟩∧sb<w.heap.size∧∀ i,i<len→w.cell? ⟨sb,off+i,none⟩=some (.int .i64 (c i))∧(Lit.int .i64 (c i)).wf=true
theorem DC.arg {w:World}{p:Option Addr}{len:Nat}{c:Nat→Int}(h:DC w p len c):∀ q,len≠0→p=some q→q.block<w.heap.size:=fun q z e=>by
 rcases h with h0 | ⟨sb,off,e',hs,_⟩
 ·exact absurd h0 z
 ·rw [e] at e'
  cases e'
  exact hs
theorem dice_new {w:World}{p:Option Addr}{len cap:Nat}{c:Nat→Int}(h:DC w p len c)(hl:len<1000000000000000):DiceAt (w.alloc (.cells #[.slice p len cap,.int .i64 0] 25)) w.heap.size p len cap c 0:=by
 refine ⟨Jq _,heap_alloc_new w _,?_,hl⟩
 rcases h with q | ⟨sb,off,e,hs,hi⟩
 ·exact Jr q
 ·exact Js ⟨sb,off,e,hs,fun i hl=>⟨(((Jd w.heap.size w).alloc (Jb _) _).cell (p:=⟨sb,off+i,none⟩) hs).trans (hi i hl).1,(hi i hl).2⟩⟩
end
end Go.Proofs.Ytjdindfjfpdikab
