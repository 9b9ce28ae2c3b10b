import Derived.Test.YtjdindfjfpdikabProg
import Derived.Deep.LoopGhost
import Derived.BigRegion
import Derived.BigQuiet
import Derived.Deep.QuietTactic
import Derived.Deep.DeepCutAuto
import Derived.Deep.RegionHeld
import Derived.Test.YtjdindfjfpdikabB00
import Derived.Test.YtjdindfjfpdikabB01
import Derived.Test.YtjdindfjfpdikabB02
import Derived.Test.YtjdindfjfpdikabB06
import Derived.Test.YtjdindfjfpdikabB07
import Derived.Test.YtjdindfjfpdikabB10
import Derived.Test.YtjdindfjfpdikabB20
import Derived.Test.YtjdindfjfpdikabB30
import Derived.Test.YtjdindfjfpdikabPre
set_option maxRecDepth 100000
set_option maxHeartbeats 8000000
namespace Go.Proofs.Ytjdindfjfpdikab
section
open Go.RowKit
theorem hid' {p:Prop}(h:p):Hid p:=h
def pickOf (c n:Int):Int:=if c<0 then (-(c+1)).tmod n else c.tmod n
theorem pickOf_bounds (c n:Int)(hn:0<n):0≤pickOf c n∧pickOf c n<n:=by
 unfold pickOf
 split
 ·rw [Int.tmod_eq_emod_of_nonneg (by omega)]
  exact ⟨Int.emod_nonneg _ (by omega),Int.emod_lt_of_pos _ hn⟩
 ·rw [Int.tmod_eq_emod_of_nonneg (by omega)]
  exact ⟨Int.emod_nonneg _ (by omega),Int.emod_lt_of_pos _ hn⟩
theorem pick_some (c n:Int)(w:World)(hc:(Lit.int .i64 c).wf=true)(h1:1≤n)(h2:n≤1001) :
  Calls Try.prog 13 #[.int .i64 c,.int .i64 n] w fun e w'=>e=.returned (.int .i64 (pickOf c n))∧w'=w:=by
 have hb:=bounds_i64 hc
 have hn0:¬ n=0:=by omega
 by_cases h:c<0
 ·go_enter Try.func13,Try.ntmps13
  go_wp2
  go_ret
  exact ⟨ret_int (by unfold pickOf; rw [if_pos h,Int.neg_tmod]),rfl⟩
 ·go_enter Try.func13,Try.ntmps13
  go_wp2
  go_ret
  exact ⟨ret_int (by unfold pickOf; rw [if_neg (by omega),Int.tmod_eq_emod_of_nonneg (by omega)]),rfl⟩
structure Stir (xb:Nat)(w w':World):Prop where
 os:w'.os=w.os
 tape:w'.tape=w.tape
 output:w'.output=w.output
 size:w'.heap.size=w.heap.size
 block:∀ b,b≠xb→w'.heap[b]?=w.heap[b]?
theorem Stir.cell {xb:Nat}{w w':World}(h:Stir xb w w'){b o:Nat}(hb:b≠xb):w'.cell? ⟨b,o,none⟩=w.cell? ⟨b,o,none⟩:=by simp only [World.cell?,h.block b hb]
def nv (c:Nat→Int)(len a:Nat)(n:Int):Int:=if a<len then pickOf (c a) n else 0
def na (len a:Nat):Nat:=if a<len then a+1 else a
theorem nv_bounds (c:Nat→Int)(len a:Nat){n:Int}(hn:0<n):0≤nv c len a n∧nv c len a n<n:=by
 unfold nv
 split
 ·exact pickOf_bounds _ _ hn
 ·omega
structure DiceAt (w:World)(xb:Nat)(p:Option Addr)(len cap:Nat)(c:Nat→Int)(a:Nat):Prop where
 le:a≤len
 cells:w.heap[xb]?=some (.cells #[.slice p len cap,.int .i64 a] 25)
 codes:len=0∨∃ sb off,p=some ⟨sb,off,none⟩∧sb<xb∧∀ i,i<len→w.cell? ⟨sb,off+i,none⟩=some (.int .i64 (c i))∧(Lit.int .i64 (c i)).wf=true
 few:len<1000000000000000
theorem next_any {w:World}{xb:Nat}{p:Option Addr}{len cap a:Nat}{c:Nat→Int}(hx:DiceAt w xb p len cap c a)(n:Int)(h1:1≤n)(h2:n≤1001) :
  Calls Try.prog 18 #[.pointer (some ⟨xb,0,none⟩),.int .i64 n] w fun e w'=>e=.returned (.int .i64 (nv c len a n))∧DiceAt w' xb p len cap c (na len a)∧Stir xb w w':=by
 obtain ⟨ha,hb,hc,hlen⟩:=hx
 have c0:w.cell? ⟨xb,0,none⟩=some (.slice p len cap):=by simp [World.cell?,hb]
 have c1:w.cell? ⟨xb,1,none⟩=some (.int .i64 a):=by simp [World.cell?,hb]
 have hf:w.frozen? ⟨xb,1,none⟩=false:=by simp [World.frozen?,hb]
 have hl:xb<w.heap.size:=(Ja.1 hb).1
 have Hb:=hid' hb
 clear hb
 by_cases hlt:a<len
 ·rcases hc with h0 | ⟨sb,off,rfl,hsb,hcs⟩
  ·omega
  obtain ⟨hcc,hwf⟩:=hcs a hlt
  have HC:=hid' (Jc hsb hcs)
  have hs:sb<w.heap.size:=by omega
  have hI:(a:Int)<(len:Int):=by omega
  have hI2:¬ (len:Int)≤(a:Int):=by omega
  have HA:=hid' (fun W=>pick_some (c a) n W hwf h1 h2)
  clear hcs hwf
  go_enter Try.func18,Try.ntmps18
  go_wp2_with fail
  go_region
  go_wp2_with fail
  obtain ⟨u,hu⟩:∃ u,w.drew=u:=⟨_,rfl⟩
  have d0:u.cell? ⟨xb,0,none⟩=some (.slice (some ⟨sb,off,none⟩) len cap):=by rw [← hu]; exact c0
  have d1:u.cell? ⟨xb,1,none⟩=some (.int .i64 a):=by rw [← hu]; exact c1
  have d2:u.cell? ⟨sb,off+a,none⟩=some (.int .i64 (c a)):=by rw [← hu]; exact hcc
  have d3:u.frozen? ⟨xb,1,none⟩=false:=by rw [← hu]; exact hf
  have d4:xb<u.heap.size:=by rw [← hu]; exact hl
  have d5:sb<u.heap.size:=by rw [← hu]; exact hs
  have d6:u.heap[xb]?=some (.cells #[.slice (some ⟨sb,off,none⟩) len cap,.int .i64 a] 25):=by rw [← hu]; exact Hb.out
  have d7:Stir xb w u:=by rw [← hu]; exact ⟨rfl,rfl,rfl,rfl,fun _ _=>rfl⟩
  have HD:=hid' (Jc d6 d7)
  rw [hu]
  clear hu c0 c1 hcc hf d6 d7
  go_quiet ((go_at_call 13; exact Calls.quiet_of_same (HA.out _)))
  go_wp2_with fail
  go_ret
  have h7:=HD.out.2
  have hst:∀ nq,Stir xb w ((u.drewN nq).setCell ⟨xb,1,none⟩ (.int .i64 ((a:Int)+1))):=fun nq=>⟨h7.os,h7.tape,h7.output,by simpa using h7.size,fun b hb=>(Below.heap_setCell (u.drewN nq) ⟨xb,1,none⟩ _ b (by simpa using hb)).trans (h7.block b hb)⟩
  refine ⟨ret_int (by unfold nv; rw [if_pos hlt]),⟨by unfold na; rw [if_pos hlt]; omega,?_,Js ⟨sb,off,rfl,HC.out.1,fun i hi=>⟨((hst _).cell (by have:=HC.out.1; omega)).trans (HC.out.2 i hi).1,(HC.out.2 i hi).2⟩⟩,hlen⟩,hst _⟩
  unfold na
  rw [if_pos hlt]
  simp [World.setCell,Array.getElem?_modify,HD.out.1]
 ·have hI:(len:Int)≤(a:Int):=by omega
  have HC:=hid' hc
  clear hc
  go_enter Try.func18,Try.ntmps18
  go_wp2_with fail
  go_region
  go_wp2_with fail
  go_ret
  refine ⟨ret_int (by unfold nv; rw [if_neg hlt]),⟨by unfold na; rw [if_neg hlt]; exact ha,?_,HC.out,hlen⟩,rfl,rfl,rfl,rfl,fun _ _=>rfl⟩
  unfold na
  rw [if_neg hlt]
  exact Hb.out
def idOf (more k:Int):Int:=(7*k+more) % 100
theorem id_any (w:World)(more k:Int)(h0:0≤k)(h1:k≤1000)(h2:0≤more)(h3:more≤1000) :
  Calls Try.prog 16 #[.agg #[.int .i64 more],.int .i64 k] w fun e w'=>e=.returned (.int .i64 (idOf more k))∧Below w.heap.size w w':=by
 have hb1:Below w.heap.size w (w.alloc (.cells #[.int .i64 more] 29)):=(Jd _ _).alloc (Jb _) _
 go_enter Try.func16,Try.ntmps16
 go_wp2
 go_ret
 exact ⟨ret_int rfl,hb1⟩
end
section
open Go.RowKit
section
variable (A:Nat→Ar)(la:Nat)(fr tg:Int)
def Pw1 (i:Nat)(x:Int):Prop:=(A i).f=fr∧(A i).t=tg∧x=(A i).k
def Pw2 (i k:Nat)(x:Int):Prop:=(A i).f=fr∧(A k).f=(A i).t∧(A k).t=tg∧0<(A k).c∧x=(A i).k+(A k).k
def Pw3 (i k m:Nat)(x:Int):Prop:=(A i).f=fr∧(A k).f=(A i).t∧(A m).f=(A k).t∧(A m).t=tg∧x=(A i).k+(A k).k+(A m).k
def Wy1 (i:Nat)(x:Int):Prop:=∃ i',i'<i∧(Pw1 A fr tg i' x∨∃ k,k<la∧(Pw2 A fr tg i' k x∨∃ m,m<la∧Pw3 A fr tg i' k m x))
def Wy2 (i k:Nat)(x:Int):Prop:=Wy1 A la fr tg i x∨Pw1 A fr tg i x∨∃ k',k'<k∧(Pw2 A fr tg i k' x∨∃ m,m<la∧Pw3 A fr tg i k' m x)
def Wy3 (i k m:Nat)(x:Int):Prop:=Wy2 A la fr tg i k x∨Pw2 A fr tg i k x∨∃ m',m'<m∧Pw3 A fr tg i k m' x
structure IsBest (S:Int→Prop)(b:Int):Prop where
 sound:b=1099511627776∨Wy1 A la fr tg la b
 least:∀ x,S x→b≤x
end
section
variable {A:Nat→Ar}{la:Nat}{fr tg:Int}{S S':Int→Prop}{b y:Int}
theorem IsBest.skip (h:IsBest A la fr tg S b)(hS:∀ x,S' x→S x∨b≤x):IsBest A la fr tg S' b:=⟨h.sound,fun x hx=>by
 rcases hS x hx with q | q
 ·exact h.least x q
 ·exact q⟩
theorem IsBest.take (h:IsBest A la fr tg S b)(hy:y<b)(hT:Wy1 A la fr tg la y)(hS:∀ x,S' x→S x∨y≤x):IsBest A la fr tg S' y:=⟨Js hT,fun x hx=>by
 rcases hS x hx with q | q
 ·have:=h.least x q
  omega
 ·exact q⟩
theorem w1_of {i:Nat}{x:Int}(hi:i<la)(h:Pw1 A fr tg i x):Wy1 A la fr tg la x:=⟨i,hi,Jr h⟩
theorem w2_of {i k:Nat}{x:Int}(hi:i<la)(hk:k<la)(h:Pw2 A fr tg i k x):Wy1 A la fr tg la x:=⟨i,hi,Js ⟨k,hk,Jr h⟩⟩
theorem w3_of {i k m:Nat}{x:Int}(hi:i<la)(hk:k<la)(hm:m<la)(h:Pw3 A fr tg i k m x):Wy1 A la fr tg la x:=⟨i,hi,Js ⟨k,hk,Js ⟨m,hm,h⟩⟩⟩
theorem w1_zero (x:Int):¬ Wy1 A la fr tg 0 x:=fun ⟨_,h,_⟩=>by omega
theorem w1_skip {i:Nat}(hf:(A i).f≠fr)(x:Int)(h:Wy1 A la fr tg (i+1) x):Wy1 A la fr tg i x:=by
 obtain ⟨i',hi,q⟩:=h
 by_cases e:i'=i
 ·subst e
  rcases q with q | ⟨k,_,q | ⟨m,_,q⟩⟩
  ·exact absurd q.1 hf
  ·exact absurd q.1 hf
  ·exact absurd q.1 hf
 ·exact ⟨i',by omega,q⟩
theorem w2_zero {i:Nat}(x:Int)(h:Wy2 A la fr tg i 0 x):Wy1 A la fr tg i x∨Pw1 A fr tg i x:=by
 rcases h with q | q | ⟨_,h,_⟩
 ·exact Jr q
 ·exact Js q
 ·omega
theorem w3_zero {i k:Nat}(x:Int)(h:Wy3 A la fr tg i k 0 x):Wy2 A la fr tg i k x∨Pw2 A fr tg i k x:=by
 rcases h with q | q | ⟨_,h,_⟩
 ·exact Jr q
 ·exact Js q
 ·omega
theorem w3_succ {i k m:Nat}(x:Int)(h:Wy3 A la fr tg i k (m+1) x):Wy3 A la fr tg i k m x∨Pw3 A fr tg i k m x:=by
 rcases h with q | q | ⟨m',hm,q⟩
 ·exact Jr (Jr q)
 ·exact Jr (Js (Jr q))
 ·by_cases e:m'=m
  ·subst e; exact Js q
  ·exact Jr (Js (Js ⟨m',by omega,q⟩))
theorem w2_succ {i k:Nat}(x:Int)(h:Wy2 A la fr tg i (k+1) x):Wy3 A la fr tg i k la x:=by
 rcases h with q | q | ⟨k',hk,q⟩
 ·exact Jr (Jr q)
 ·exact Jr (Js (Jr q))
 ·by_cases e:k'=k
  ·subst e
   rcases q with q | ⟨m,hm,q⟩
   ·exact Js (Jr q)
   ·exact Js (Js ⟨m,hm,q⟩)
  ·exact Jr (Js (Js ⟨k',by omega,q⟩))
theorem w1_succ {i:Nat}(x:Int)(h:Wy1 A la fr tg (i+1) x):Wy2 A la fr tg i la x:=by
 obtain ⟨i',hi,q⟩:=h
 by_cases e:i'=i
 ·subst e
  rcases q with q | ⟨k,hk,q⟩
  ·exact Js (Jr q)
  ·exact Js (Js ⟨k,hk,q⟩)
 ·exact Jr ⟨i',by omega,q⟩
theorem best_bound {N:Int}(hok:∀ i,i<la→ArcOk N (A i))(h:IsBest A la fr tg S b):-30000≤b∧b≤1099511627776:=by
 rcases h.sound with e | ⟨i,hi,q⟩
 ·omega
 ·have hi':=(hok i hi).2.2.2
  rcases q with q | ⟨k,hk,q | ⟨m,hm,q⟩⟩
  ·have:=q.2.2; omega
  ·have hk':=(hok k hk).2.2.2
   have:=q.2.2.2.2; omega
  ·have hk':=(hok k hk).2.2.2
   have hm':=(hok m hm).2.2.2
   have:=q.2.2.2.2; omega
end
def ArcBox (W:World)(b:Nat)(a:Ar):Prop:=W.heap[b]?=some (.cells #[.int .i64 a.f,.int .i64 a.t,.int .i64 a.c,.int .i64 a.k] 50)
theorem ArcBox.cs {W:World}{b:Nat}{a:Ar}(h:ArcBox W b a):W.cell? ⟨b,0,none⟩=some (.int .i64 a.f)∧W.cell? ⟨b,1,none⟩=some (.int .i64 a.t)∧W.cell? ⟨b,2,none⟩=some (.int .i64 a.c)∧W.cell? ⟨b,3,none⟩=some (.int .i64 a.k)∧b<W.heap.size:=by
 have h':W.heap[b]?=some (.cells #[.int .i64 a.f,.int .i64 a.t,.int .i64 a.c,.int .i64 a.k] 50):=h
 refine ⟨?_,?_,?_,?_,(Ja.1 h').1⟩ <;> simp [World.cell?,h']
theorem ArcBox.below {W W':World}{b:Nat}{a:Ar}(h:ArcBox W b a)(hb:Below W.heap.size W W'):ArcBox W' b a:=(hb.block b h.cs.2.2.2.2).trans h
theorem box_new (W:World)(a:Ar):ArcBox (W.alloc (.cells #[.int .i64 a.f,.int .i64 a.t,.int .i64 a.c,.int .i64 a.k] 50)) W.heap.size a∧Below W.heap.size W (W.alloc (.cells #[.int .i64 a.f,.int .i64 a.t,.int .i64 a.c,.int .i64 a.k] 50)):=⟨heap_alloc_new W _,(Jd _ _).alloc (Jb _) _⟩
theorem way_any (w:World)(N:Int)(p q:Option Addr)(ls cs la ca:Nat)(A:Nat→Ar)(hA:Arcs w q la A)(hla:la≤600)(hok:∀ i,i<la→ArcOk N (A i))(fr tg:Int) :
  Calls Try.prog 10 #[.agg #[.int .i64 N,.slice p ls cs,.slice q la ca],.int .i64 fr,.int .i64 tg] w fun e w'=>∃ b,e=.returned (.int .i64 b)∧IsBest A la fr tg (Wy1 A la fr tg la) b∧Below w.heap.size w w':=by
 obtain ⟨W,hW⟩:∃ W,w.alloc (.cells #[.int .i64 N,.slice p ls cs,.slice q la ca] 39)=W:=⟨_,rfl⟩
 have hbW:Below w.heap.size w W:=by rw [← hW]; exact (Jd _ _).alloc (Jb _) _
 have hWb:W.heap[w.heap.size]?=some (.cells #[.int .i64 N,.slice p ls cs,.slice q la ca] 39):=by rw [← hW]; exact heap_alloc_new w _
 have HW:=hid' (Jc hWb (Jc hbW (Jc (hA.below hbW) hok)))
 clear hWb hbW hA hok
 go_enter Try.func10,Try.ntmps10
 go_upto_region 2 with fail
 clear hW
 go_wp2_with fail
 go_loopg [7,8] la (fun gk bv iv wr=>∃ (i:Nat) (b:Int),i≤la∧la - i≤gk∧bv=.int .i64 b∧iv=.int .i64 i∧Hid (IsBest A la fr tg (Wy1 A la fr tg i) b∧Below W.heap.size W wr))
 case atStart=>exact ⟨0,_,by omega,by omega,rfl,rfl,(show _∧_ from ⟨⟨Jr rfl,fun x hx=>absurd hx (w1_zero x)⟩,Jd _ _⟩)⟩
 case' round=>skip
 obtain ⟨i,b,hi,hgk,rfl,rfl,HL⟩:=hrel
 rename World=>Z0
 have hnb:=(HL.out.2.block w.heap.size (Ja.1 HW.out.1).1).trans HW.out.1
 have n2:Z0.cell? ⟨w.heap.size,2,none⟩=some (.slice q la ca):=by simp [World.cell?,hnb]
 have nl:w.heap.size<Z0.heap.size:=(Ja.1 hnb).1
 clear hnb
 by_cases hlt:i<la
 ·have hiI:(i:Int)<(la:Int):=by omega
  obtain ⟨sb,off,rfl,hsb,g0,g1,g2,g3⟩:=(HW.out.2.2.1.below HL.out.2).at hlt
  have hki:=(HW.out.2.2.2 i hlt).2.2.2
  have hbb:=best_bound HW.out.2.2.2 HL.out.1
  go_upto_region 6 with fail
  obtain ⟨BA0,bb0⟩:=box_new Z0 (A i)
  generalize hZ1:Z0.alloc _=Z1
  rw [hZ1] at BA0 bb0
  have H1:=hid' (Jc BA0 (next2 HL.out.2 bb0))
  clear hZ1 bb0 g0 g1 g2 g3 n2 nl hsb
  obtain ⟨x0,x1,_,x3,x4⟩:=BA0.cs
  clear BA0
  by_cases hf:(A i).f=fr
  ·have hfb:((A i).f != fr)=false:=by simp [hf]
   go_upto_region 7 with fail
   clear x0
   go_cut [39] (fun v wx=>∃ bv:Bool,v=.bool bv∧(bv=true↔((A i).t=tg∧(A i).k<b))∧wx=Z1)
   case first =>
    by_cases ht:(A i).t=tg
    ·have htb:((A i).t == tg)=true:=by simp [ht]
     go_wp2_with fail
     all_goals
      go_meet
      refine ⟨_,rfl,?_,rfl⟩
      simp [ht]
    ·have htb:((A i).t == tg)=false:=by simp [ht]
     go_wp2_with fail
     go_meet
     refine ⟨_,rfl,?_,rfl⟩
     simp [ht]
   case rest =>
   obtain ⟨bv,rfl,hbv,hwx⟩:=hcut
   subst wc
   go_upto_if 39 with fail
   go_cut [7] (fun v wx=>∃ b',v=.int .i64 b'∧Hid (IsBest A la fr tg (Wy2 A la fr tg i 0) b')∧wx=Z1)
   case first =>
    cases bv with
    | true =>
     obtain ⟨ht,hk⟩:=hbv.1 rfl
     have T:=hid' (HL.out.1.take hk (w1_of hlt ⟨hf,ht,rfl⟩) (S':=Wy2 A la fr tg i 0) (fun x hx=>by
      rcases w2_zero x hx with q | q
      ·exact Jr q
      ·exact Js (Int.le_of_eq q.2.2.symm)))
     clear hbv
     go_wp2_with fail
     go_meet
     exact ⟨_,rfl,T,rfl⟩
    | false =>
     have T:=hid' (HL.out.1.skip (S':=Wy2 A la fr tg i 0) (fun x hx=>by
      rcases w2_zero x hx with q | q
      ·exact Jr q
      ·refine Js ?_
       rw [q.2.2]
       refine Int.not_lt.1 (fun z=>?_)
       cases hbv.2 ⟨q.2.1,z⟩))
     clear hbv
     go_wp2_with fail
     go_meet
     exact ⟨_,rfl,T,rfl⟩
   case rest =>
   obtain ⟨b1,rfl,HB,hwx⟩:=hcut
   subst wc
   clear hbv x1 x3 x4
   go_upto_region 9 with fail
   go_wp2_with fail
   go_loopg [7,10] la (fun gk bv kv wr=>∃ (k:Nat) (b:Int),k≤la∧la - k≤gk∧bv=.int .i64 b∧kv=.int .i64 k∧Hid (IsBest A la fr tg (Wy2 A la fr tg i k) b∧Below Z1.heap.size Z1 wr))
   case atStart=>exact ⟨0,b1,by omega,by omega,rfl,rfl,(show _∧_ from ⟨HB.out,Jd _ _⟩)⟩
   case' round=>skip
   obtain ⟨k,b2,hk,hgk2,rfl,rfl,HM⟩:=hrel
   rename World=>Z2
   have hnb:=((next2 H1.out.2 HM.out.2).block w.heap.size (Ja.1 HW.out.1).1).trans HW.out.1
   have n2:Z2.cell? ⟨w.heap.size,2,none⟩=some (.slice (some ⟨sb,off,none⟩) la ca):=by simp [World.cell?,hnb]
   have nl:w.heap.size<Z2.heap.size:=(Ja.1 hnb).1
   clear hnb
   by_cases hkl:k<la
   ·have hkI:(k:Int)<(la:Int):=by omega
    have hkk:=(HW.out.2.2.2 k hkl).2.2.2
    have hbb2:=best_bound HW.out.2.2.2 HM.out.1
    obtain ⟨_,_,e,hsb,g0,g1,g2,g3⟩:=(HW.out.2.2.1.below (next2 H1.out.2 HM.out.2)).at hkl
    cases e
    go_upto_region 13 with fail
    obtain ⟨BB0,bb0⟩:=box_new Z2 (A k)
    generalize hZ3:Z2.alloc _=Z3
    rw [hZ3] at BB0 bb0
    have H2:=hid' (Jc BB0 (Jc (H1.out.1.below (next2 HM.out.2 bb0)) (next2 HM.out.2 bb0)))
    clear hZ3 bb0 g0 g1 g2 g3 n2 nl hsb BB0
    obtain ⟨x0,x1,x2,x3,x4⟩:=H2.out.1.cs
    obtain ⟨_,y1,_,y3,y4⟩:=H2.out.2.1.cs
    go_cut [78] (fun v wx=>∃ bv:Bool,v=.bool bv∧(bv=true↔((A k).f=(A i).t∧(A k).t=tg∧0<(A k).c∧(A i).k+(A k).k<b2))∧wx=Z3)
    case first =>
     by_cases h1:(A k).f=(A i).t
     ·have h1b:((A k).f == (A i).t)=true:=by simp [h1]
      by_cases h2:(A k).t=tg
      ·have h2b:((A k).t == tg)=true:=by simp [h2]
       by_cases h3:0<(A k).c
       ·go_wp2_with fail
        all_goals
         go_meet
         refine ⟨_,rfl,?_,rfl⟩
         simp [h1,h2,h3]
       ·go_wp2_with fail
        go_meet
        refine ⟨_,rfl,?_,rfl⟩
        simp [h1,h2]
        intro hc
        omega
      ·have h2b:((A k).t == tg)=false:=by simp [h2]
       go_wp2_with fail
       go_meet
       refine ⟨_,rfl,?_,rfl⟩
       simp [h1,h2]
     ·have h1b:((A k).f == (A i).t)=false:=by simp [h1]
      go_wp2_with fail
      go_meet
      refine ⟨_,rfl,?_,rfl⟩
      simp [h1]
    case rest =>
    obtain ⟨bv,rfl,hbv,hwx⟩:=hcut
    subst wc
    go_upto_if 78 with fail
    go_cut [7] (fun v wx=>∃ b',v=.int .i64 b'∧Hid (IsBest A la fr tg (Wy3 A la fr tg i k 0) b')∧wx=Z3)
    case first =>
     cases bv with
     | true =>
      obtain ⟨q1,q2,q3,q4⟩:=hbv.1 rfl
      have T:=hid' (HM.out.1.take q4 (w2_of hlt hkl ⟨hf,q1,q2,q3,rfl⟩) (S':=Wy3 A la fr tg i k 0) (fun x hx=>by
       rcases w3_zero x hx with q | q
       ·exact Jr q
       ·exact Js (Int.le_of_eq q.2.2.2.2.symm)))
      clear hbv
      go_wp2_with fail
      go_meet
      exact ⟨_,rfl,T,rfl⟩
     | false =>
      have T:=hid' (HM.out.1.skip (S':=Wy3 A la fr tg i k 0) (fun x hx=>by
       rcases w3_zero x hx with q | q
       ·exact Jr q
       ·refine Js ?_
        rw [q.2.2.2.2]
        refine Int.not_lt.1 (fun z=>?_)
        cases hbv.2 ⟨q.2.1,q.2.2.1,q.2.2.2.1,z⟩))
      clear hbv
      go_wp2_with fail
      go_meet
      exact ⟨_,rfl,T,rfl⟩
    case rest =>
    obtain ⟨b3,rfl,HB3,hwx⟩:=hcut
    subst wc
    clear hbv x0 x1 x2 x3 x4 y1 y3 y4
    go_upto_region 15 with fail
    go_wp2_with fail
    go_loopg [7,12] la (fun gk bv mv wr=>∃ (m:Nat) (b:Int),m≤la∧la - m≤gk∧bv=.int .i64 b∧mv=.int .i64 m∧Hid (IsBest A la fr tg (Wy3 A la fr tg i k m) b∧Below Z3.heap.size Z3 wr))
    case atStart=>exact ⟨0,b3,by omega,by omega,rfl,rfl,(show _∧_ from ⟨HB3.out,Jd _ _⟩)⟩
    case' round=>skip
    obtain ⟨m,b4,hm,hgk3,rfl,rfl,HN⟩:=hrel
    rename World=>Z4
    have hnb:=((next2 H1.out.2 (next2 H2.out.2.2 HN.out.2)).block w.heap.size (Ja.1 HW.out.1).1).trans HW.out.1
    have n2:Z4.cell? ⟨w.heap.size,2,none⟩=some (.slice (some ⟨sb,off,none⟩) la ca):=by simp [World.cell?,hnb]
    have nl:w.heap.size<Z4.heap.size:=(Ja.1 hnb).1
    clear hnb
    by_cases hml:m<la
    ·have hmI:(m:Int)<(la:Int):=by omega
     have hkm:=(HW.out.2.2.2 m hml).2.2.2
     have hbb4:=best_bound HW.out.2.2.2 HN.out.1
     obtain ⟨_,_,e,hsb,g0,g1,g2,g3⟩:=(HW.out.2.2.1.below (next2 H1.out.2 (next2 H2.out.2.2 HN.out.2))).at hml
     cases e
     go_upto_region 19 with fail
     obtain ⟨BC0,bb0⟩:=box_new Z4 (A m)
     generalize hZ5:Z4.alloc _=Z5
     rw [hZ5] at BC0 bb0
     have H3:=hid' (Jc BC0 (Jc (H2.out.1.below (next2 HN.out.2 bb0)) (Jc (H2.out.2.1.below (next2 HN.out.2 bb0)) (next2 HN.out.2 bb0))))
     clear hZ5 bb0 g0 g1 g2 g3 n2 nl hsb BC0
     obtain ⟨x0,x1,_,x3,x4⟩:=H3.out.1.cs
     obtain ⟨y0,y1,_,y3,y4⟩:=H3.out.2.1.cs
     obtain ⟨_,z1,_,z3,z4⟩:=H3.out.2.2.1.cs
     go_cut [125] (fun v wx=>∃ bv:Bool,v=.bool bv∧(bv=true↔((A k).f=(A i).t∧(A m).f=(A k).t∧(A m).t=tg∧(A i).k+(A k).k+(A m).k<b4))∧wx=Z5)
     case first =>
      by_cases h1:(A k).f=(A i).t
      ·have h1b:((A k).f == (A i).t)=true:=by simp [h1]
       by_cases h2:(A m).f=(A k).t
       ·have h2b:((A m).f == (A k).t)=true:=by simp [h2]
        by_cases h3:(A m).t=tg
        ·have h3b:((A m).t == tg)=true:=by simp [h3]
         go_wp2_with fail
         all_goals
          go_meet
          refine ⟨_,rfl,?_,rfl⟩
          simp [h1,h2,h3]
        ·have h3b:((A m).t == tg)=false:=by simp [h3]
         go_wp2_with fail
         go_meet
         refine ⟨_,rfl,?_,rfl⟩
         simp [h1,h2,h3]
       ·have h2b:((A m).f == (A k).t)=false:=by simp [h2]
        go_wp2_with fail
        go_meet
        refine ⟨_,rfl,?_,rfl⟩
        simp [h1,h2]
      ·have h1b:((A k).f == (A i).t)=false:=by simp [h1]
       go_wp2_with fail
       go_meet
       refine ⟨_,rfl,?_,rfl⟩
       simp [h1]
     case rest =>
     obtain ⟨bv,rfl,hbv,hwx⟩:=hcut
     subst wc
     cases bv with
     | true =>
      obtain ⟨q1,q2,q3,q4⟩:=hbv.1 rfl
      have T:=hid' (HN.out.1.take q4 (w3_of hlt hkl hml ⟨hf,q1,q2,q3,rfl⟩) (S':=Wy3 A la fr tg i k (m+1)) (fun x hx=>by
       rcases w3_succ x hx with q | q
       ·exact Jr q
       ·exact Js (Int.le_of_eq q.2.2.2.2.symm)))
      clear hbv q1 q2 q3
      go_wp2_with fail
      go_roundg (la - (m+1))
      case measure=>omega
      case rel=>exact ⟨m+1,_,by omega,Jb _,rfl,by go_num,(show _∧_ from ⟨T.out,H3.out.2.2.2⟩)⟩
     | false =>
      have T:=hid' (HN.out.1.skip (S':=Wy3 A la fr tg i k (m+1)) (fun x hx=>by
       rcases w3_succ x hx with q | q
       ·exact Jr q
       ·refine Js ?_
        rw [q.2.2.2.2]
        refine Int.not_lt.1 (fun z=>?_)
        cases hbv.2 ⟨q.2.1,q.2.2.1,q.2.2.2.1,z⟩))
      clear hbv
      go_wp2_with fail
      go_roundg (la - (m+1))
      case measure=>omega
      case rel=>exact ⟨m+1,b4,by omega,Jb _,rfl,by go_num,(show _∧_ from ⟨T.out,H3.out.2.2.2⟩)⟩
    ·obtain rfl:m=la:=by omega
     go_wp2_with fail
     go_roundg (m - (k+1))
     case measure=>omega
     case rel=>exact ⟨k+1,b4,by omega,Jb _,rfl,by go_num,(show _∧_ from ⟨HN.out.1.skip (fun x hx=>Jr (w2_succ x hx)),next2 H2.out.2.2 HN.out.2⟩)⟩
   ·obtain rfl:k=la:=by omega
    go_wp2_with fail
    go_roundg (k - (i+1))
    case measure=>omega
    case rel=>exact ⟨i+1,b2,by omega,Jb _,rfl,by go_num,(show _∧_ from ⟨HM.out.1.skip (fun x hx=>Jr (w1_succ x hx)),next2 H1.out.2 HM.out.2⟩)⟩
  ·have hfb:((A i).f != fr)=true:=by simp [hf]
   go_wp2_with fail
   go_roundg (la - (i+1))
   case measure=>omega
   case rel=>exact ⟨i+1,b,by omega,Jb _,rfl,by go_num,(show _∧_ from ⟨HL.out.1.skip (fun x hx=>Jr (w1_skip hf x hx)),H1.out.2⟩)⟩
 ·obtain rfl:i=la:=by omega
  go_wp2_with fail
  go_ret
  exact ⟨_,rfl,HL.out.1,next2 HW.out.2.1 HL.out.2⟩
end
section
open Go.RowKit
def Cel (w w':World):Prop:=∀ (b:Nat)(cs:Array Value)(t:TypeId)(f:Nat×Nat),w.heap[b]?=some (.cells cs t f)→w'.heap[b]?=some (.cells cs t f)
theorem Cel.of_below {w w':World}(h:Below w.heap.size w w'):Cel w w':=fun b _ _ _ q=>(h.block b (Ja.1 q).1).trans q
theorem PlanAt.notmap {w:World}{pb b0 b1 b2 b3:Nat}{l0:Things}{l1:Runs}{l2:Waits}{l3:Prefs}(h:PlanAt w pb b0 b1 b2 b3 l0 l1 l2 l3){b:Nat}{cs:Array Value}{t:TypeId}{f:Nat×Nat}(hb:w.heap[b]?=some (.cells cs t f)):b∉[b0,b1,b2,b3]:=fun hm=>by
 simp only [List.mem_cons,List.not_mem_nil,or_false] at hm
 rcases hm with rfl | rfl | rfl | rfl
 ·obtain ⟨es,c,q,_⟩:=h.m0; rw [hb] at q; cases q
 ·obtain ⟨es,c,q,_⟩:=h.m1; rw [hb] at q; cases q
 ·obtain ⟨es,c,q,_⟩:=h.m2; rw [hb] at q; cases q
 ·obtain ⟨es,c,q,_⟩:=h.m3; rw [hb] at q; cases q
theorem Cel.of_plan {w w':World}{pb b0 b1 b2 b3:Nat}{l0:Things}{l1:Runs}{l2:Waits}{l3:Prefs}(h:PlanAt w pb b0 b1 b2 b3 l0 l1 l2 l3)(ho:Only [b0,b1,b2,b3] w w'):Cel w w':=fun b _ _ _ q =>
 (ho.block b (Ja.1 q).1 (h.notmap q)).trans q
theorem cell_cells {w:World}{b i:Nat}{v:Value}(h:w.cell? ⟨b,i,none⟩=some v):∃ cs t f,w.heap[b]?=some (.cells cs t f):=by
 cases e:w.heap[b]? with
 | none=>simp [World.cell?,e] at h
 | some o =>
  cases o with
  | cells cs t f=>exact ⟨cs,t,f,rfl⟩
  | _=>simp [World.cell?,e] at h
theorem Cel.cell {w w':World}(h:Cel w w'){b i:Nat}{v:Value}(hc:w.cell? ⟨b,i,none⟩=some v):w'.cell? ⟨b,i,none⟩=some v:=by
 obtain ⟨cs,t,f,e⟩:=cell_cells hc
 rw [← hc]
 simp only [World.cell?,h b cs t f e,e]
theorem DiceAt.cel {w w':World}{xb:Nat}{p:Option Addr}{len cap a:Nat}{c:Nat→Int}(h:DiceAt w xb p len cap c a)(hc:Cel w w'):DiceAt w' xb p len cap c a:=by
 refine ⟨h.le,hc _ _ _ _ h.cells,?_,h.few⟩
 rcases h.codes with q | ⟨sb,off,e,hs,hi⟩
 ·exact Jr q
 ·exact Js ⟨sb,off,e,hs,fun i hl=>⟨hc.cell (hi i hl).1,(hi i hl).2⟩⟩
theorem NRow.cel {b0:Nat}{w w':World}{v:Value}{xs:List Int}(h:NRow b0 w v xs)(hc:Cel w w'):NRow b0 w' v xs:=by
 refine ⟨h.1,?_⟩
 rcases h.2 with h2 | ⟨g,cap,cur,hv,h0,hg,hr⟩
 ·exact Jr h2
 ·exact Js ⟨g,cap,cur,hv,h0,hc _ _ _ _ hg,hr⟩
structure BelowX (n x:Nat)(w w':World):Prop where
 os:w'.os=w.os
 tape:w'.tape=w.tape
 output:w'.output=w.output
 size:w.heap.size≤w'.heap.size
 block:∀ b,b<n→b≠x→w'.heap[b]?=w.heap[b]?
theorem BelowX.refl (n x:Nat)(w:World):BelowX n x w w:=⟨rfl,rfl,rfl,Jb _,fun _ _ _=>rfl⟩
theorem BelowX.trans {n x:Nat}{w w' w'':World}(h:BelowX n x w w')(h':BelowX n x w' w''):BelowX n x w w'':=⟨h'.os.trans h.os,h'.tape.trans h.tape,h'.output.trans h.output,Nat.le_trans h.size h'.size,fun b hb hx=>(h'.block b hb hx).trans (h.block b hb hx)⟩
theorem BelowX.of {n:Nat}(x:Nat){w w':World}(h:Below n w w'):BelowX n x w w':=⟨h.os,h.tape,h.output,h.size,fun b hb _=>h.block b hb⟩
theorem BelowX.mono {n m x:Nat}{w w':World}(h:BelowX n x w w')(hm:m≤n):BelowX m x w w':=⟨h.os,h.tape,h.output,h.size,fun b hb hx=>h.block b (by omega) hx⟩
theorem BelowX.below {n x:Nat}{w w':World}(h:BelowX n x w w')(hx:n≤x):Below n w w':=⟨h.os,h.tape,h.output,h.size,fun b hb=>h.block b hb (by omega)⟩
structure Fr where
 w:World
 ks:List Nat
structure MK (base:Nat)(w0:Fr)(w:World)(mb pb b0 b1 b2 b3 xb:Nat)(more:Int)(vs:Value)(slots:List Int)(tasks:Int)(R:RSt)(p:Option Addr)(len cap:Nat)(c:Nat→Int)(a:Nat):Prop where
 cells:w.heap[mb]?=some (.cells #[.pointer (some ⟨pb,0,none⟩),.int .i64 more,vs,.int .i64 tasks] 35)
 row:NRow base w vs slots
 plan:∃ l0 l1 l2 l3,PlanAt w pb b0 b1 b2 b3 l0 l1 l2 l3∧Sim l0 l1 l2 l3 R
 dice:DiceAt w xb p len cap c a
 old:∀ b∈[mb,pb,b0,b1,b2,b3],base≤b
 below:BelowX base xb w0.w w
 kept:∀ b∈w0.ks,w.heap[b]?=w0.w.heap[b]?
 apart:∀ b∈w0.ks,b≠mb∧b∉[b0,b1,b2,b3]∧b≠xb∧vs.ownBlock≠some b∧b<w.heap.size
 more0:0≤more∧more<100
 arg:∀ q,len≠0→p=some q→q.block<base
section
variable {base:Nat}{w0:Fr}{w w':World}{mb pb b0 b1 b2 b3 xb:Nat}{more:Int}{vs:Value}{slots:List Int}{tasks:Int}{R R':RSt}{p:Option Addr}{len cap a a':Nat}{c:Nat→Int}
theorem MK.lt (h:MK base w0 w mb pb b0 b1 b2 b3 xb more vs slots tasks R p len cap c a):mb<w.heap.size:=(Ja.1 h.cells).1
theorem MK.base_le (h:MK base w0 w mb pb b0 b1 b2 b3 xb more vs slots tasks R p len cap c a):base≤w.heap.size:=by
 have h1:=h.old mb (by simp)
 have h2:=h.lt
 omega
theorem MK.of_below (h:MK base w0 w mb pb b0 b1 b2 b3 xb more vs slots tasks R p len cap c a)(hb:Below w.heap.size w w'):MK base w0 w' mb pb b0 b1 b2 b3 xb more vs slots tasks R p len cap c a:=by
 have hc:=Cel.of_below hb
 obtain ⟨l0,l1,l2,l3,h1,h2⟩:=h.plan
 exact ⟨hc _ _ _ _ h.cells,h.row.cel hc,⟨l0,l1,l2,l3,h1.below hb,h2⟩,h.dice.cel hc,h.old,h.below.trans (BelowX.of xb (hb.mono h.base_le)),fun b q=>(hb.block b (h.apart b q).2.2.2.2).trans (h.kept b q),fun b q=>⟨(h.apart b q).1,(h.apart b q).2.1,(h.apart b q).2.2.1,(h.apart b q).2.2.2.1,Jm (h.apart b q).2.2.2.2 hb.size⟩,h.more0,h.arg⟩
theorem MK.drew (h:MK base w0 w mb pb b0 b1 b2 b3 xb more vs slots tasks R p len cap c a):MK base w0 w.drew mb pb b0 b1 b2 b3 xb more vs slots tasks R p len cap c a:=h.of_below ((Jd _ _).drew)
theorem MK.thrown (h:MK base w0 w mb pb b0 b1 b2 b3 xb more vs slots tasks R p len cap c a)(hd:DiceAt w' xb p len cap c a')(hs:Stir xb w w'):MK base w0 w' mb pb b0 b1 b2 b3 xb more vs slots tasks R p len cap c a':=by
 have hxc:=h.dice.cells
 have hc:∀ (b:Nat) (cs:Array Value) (t:TypeId),t≠25→w.heap[b]?=some (.cells cs t)→w'.heap[b]?=some (.cells cs t):=fun b cs t ht q=>(hs.block b (fun e=>by subst e; rw [hxc] at q; cases q; exact ht rfl)).trans q
 obtain ⟨l0,l1,l2,l3,h1,h2⟩:=h.plan
 refine ⟨hc _ _ _ (by decide) h.cells,⟨h.row.1,?_⟩,⟨l0,l1,l2,l3,h1.move (fun b hb=>hs.block b (fun e=>?_)),h2⟩,hd,h.old,?_,fun b q=>(hs.block b (h.apart b q).2.2.1).trans (h.kept b q),fun b q=>⟨(h.apart b q).1,(h.apart b q).2.1,(h.apart b q).2.2.1,(h.apart b q).2.2.2.1,Jm (h.apart b q).2.2.2.2 (Nat.le_of_eq hs.size.symm)⟩,h.more0,h.arg⟩
 ·rcases h.row.2 with q | ⟨g,cap,cur,hv,q0,hg,hr⟩
  ·exact Jr q
  ·exact Js ⟨g,cap,cur,hv,q0,hc _ _ _ (by decide) hg,hr⟩
 ·subst e
  rcases List.mem_cons.1 hb with rfl | hb
  ·obtain ⟨_,_,_,_,_,q⟩:=h1.cells
   rw [hxc] at q
   cases q
  ·exact h1.notmap hxc hb
 ·exact h.below.trans ⟨hs.os,hs.tape,hs.output,Nat.le_of_eq hs.size.symm,fun b _ hx=>hs.block b hx⟩
theorem MK.did {l0 l1 l2 l3 m0 m1 m2 m3}(h:MK base w0 w mb pb b0 b1 b2 b3 xb more vs slots tasks R p len cap c a)(hp:PlanAt w pb b0 b1 b2 b3 l0 l1 l2 l3)(ho:Only [b0,b1,b2,b3] w w')(hp':PlanAt w' pb b0 b1 b2 b3 m0 m1 m2 m3)(hs:Sim m0 m1 m2 m3 R'):MK base w0 w' mb pb b0 b1 b2 b3 xb more vs slots tasks R' p len cap c a:=by
 have hc:=Cel.of_plan hp ho
 refine ⟨hc _ _ _ _ h.cells,h.row.cel hc,⟨m0,m1,m2,m3,hp',hs⟩,h.dice.cel hc,h.old,?_,fun b q=>(ho.block b (h.apart b q).2.2.2.2 (h.apart b q).2.1).trans (h.kept b q),fun b q=>⟨(h.apart b q).1,(h.apart b q).2.1,(h.apart b q).2.2.1,(h.apart b q).2.2.2.1,Jm (h.apart b q).2.2.2.2 ho.size⟩,h.more0,h.arg⟩
 refine ⟨ho.os.trans h.below.os,ho.tape.trans h.below.tape,ho.output.trans h.below.output,Nat.le_trans h.below.size ho.size,fun b hb hx=>(ho.block b (Jm hb h.base_le) (fun hm=>?_)).trans (h.below.block b hb hx)⟩
 have:=h.old b (Jk _ (Jk _ (by simp at hm ⊢; rcases hm with q | q | q | q <;> simp [q])))
 omega
theorem MK.widen {base':Nat}{w0':World}(h:MK base w0 w mb pb b0 b1 b2 b3 xb more vs slots tasks R p len cap c a)(hb:base'≤base)(h0:BelowX base' xb w0' w0.w)(harg:∀ q,len≠0→p=some q→q.block<base'):MK base' ⟨w0',[]⟩ w mb pb b0 b1 b2 b3 xb more vs slots tasks R p len cap c a:=by
 refine ⟨h.cells,⟨h.row.1,?_⟩,h.plan,h.dice,fun b q=>Nat.le_trans hb (h.old b q),h0.trans (h.below.mono hb),fun b q=>(by cases q),fun b q=>(by cases q),h.more0,harg⟩
 rcases h.row.2 with q | ⟨g,cap,cur,hv,q0,r⟩
 ·exact Jr q
 ·exact Js ⟨g,cap,cur,hv,Nat.le_trans hb q0,r⟩
theorem MK.cs (h:MK base w0 w mb pb b0 b1 b2 b3 xb more vs slots tasks R p len cap c a):w.cell? ⟨mb,0,none⟩=some (.pointer (some ⟨pb,0,none⟩))∧w.cell? ⟨mb,1,none⟩=some (.int .i64 more)∧w.cell? ⟨mb,2,none⟩=some vs∧w.cell? ⟨mb,3,none⟩=some (.int .i64 tasks):=by
 have:=h.cells
 refine ⟨?_,?_,?_,?_⟩ <;> simp [World.cell?,this]
end
end
section
open Go.RowKit
def S4 (mb:Nat)(z0 z1 z2:Value)(W:World):Prop:=W.cell? ⟨mb,0,none⟩=some z0∧W.cell? ⟨mb,1,none⟩=some z1∧W.cell? ⟨mb,2,none⟩=some z2∧mb<W.heap.size
section
variable {base:Nat}{w0:Fr}{w w':World}{mb pb b0 b1 b2 b3 xb:Nat}{more:Int}{vs:Value}{slots:List Int}{tasks:Int}{R R':RSt}{p:Option Addr}{len cap a a':Nat}{c:Nat→Int}
theorem S4.of (h:MK base w0 w mb pb b0 b1 b2 b3 xb more vs slots tasks R p len cap c a):S4 mb (.pointer (some ⟨pb,0,none⟩)) (.int .i64 more) vs w:=⟨h.cs.1,h.cs.2.1,h.cs.2.2.1,h.lt⟩
theorem NRow.sl' {b0:Nat}{w:World}{v:Value}{xs:List Int}(h:NRow b0 w v xs):∃ p c,v=.slice p xs.length c:=by
 rcases h.2 with ⟨e1,e2⟩ | ⟨g,cap,cur,e1,_⟩
 ·exact ⟨none,0,by rw [e1,e2]⟩
 ·exact ⟨_,_,e1⟩
def wish1 (c:Nat→Int)(len:Nat)(more:Int)(ns:Nat)(task:Int)(s:RSt×Nat):RSt×Nat :=
 if nv c len s.2 2=0 then (n6 s.1 (idOf more task) 1 (idOf more (nv c len (na len s.2) ns)) (nv c len (na len (na len s.2)) 150),na len (na len (na len s.2)))
 else (n6 s.1 (idOf more task) 0 (idOf more (nv c len (na len s.2) 2)) (nv c len (na len (na len s.2)) 150),na len (na len (na len s.2)))
def wishN (c:Nat→Int)(len:Nat)(more:Int)(ns:Nat)(task:Int):Nat→RSt×Nat→RSt×Nat
 | 0,s=>s
 | k+1,s=>wishN c len more ns task k (wish1 c len more ns task s)
def wishT (c:Nat→Int)(len:Nat)(more:Int)(ns:Nat)(task:Int)(s:RSt×Nat):RSt×Nat:=wishN c len more ns task (nv c len s.2 3).toNat (s.1,na len s.2)
theorem wish_any (hM:MK base w0 w mb pb b0 b1 b2 b3 xb more vs slots tasks R p len cap c a)(task:Int)(ht0:0≤task)(ht1:task≤100)(hs1:1≤slots.length)(hs2:slots.length≤100) :
  Calls Try.prog 21 #[.pointer (some ⟨mb,0,none⟩),.pointer (some ⟨xb,0,none⟩),.int .i64 task] w fun e w'=>e=.returned (.tuple #[])∧MK base w0 w' mb pb b0 b1 b2 b3 xb more vs slots tasks (wishT c len more slots.length task (R,a)).1 p len cap c (wishT c len more slots.length task (R,a)).2:=by
 have A0:=hid' (next_any hM.dice 3 (by omega) (by omega))
 have hv3:=nv_bounds c len a (n:=3) (by omega)
 have H0:=hid' hM
 obtain ⟨ps,cs,rfl⟩:=hM.row.sl'
 go_enter Try.func21,Try.ntmps21
 go_upto_region 1 with (first
  | (go_at_call 18; refine A0.out.mono ?_; rintro e W1 ⟨rfl,hd1,st1⟩)
  | fail)
 have M1:=H0.out.thrown hd1 st1
 have HT:=hid' (show wishT c len more slots.length task (R,a)=wishN c len more slots.length task (nv c len a 3).toNat (R,na len a) from rfl)
 clear hd1 st1 A0
 go_wp2_with fail
 go_loopg [6] (nv c len a 3).toNat (fun gk kv wr=>∃ (k:Nat) (s:RSt×Nat),(k:Int)<3∧k≤gk∧kv=.int .i64 k∧Hid (MK base w0 wr mb pb b0 b1 b2 b3 xb more (.slice ps slots.length cs) slots tasks s.1 p len cap c s.2∧wishN c len more slots.length task k s=wishT c len more slots.length task (R,a)))
 case atStart=>exact ⟨(nv c len a 3).toNat,(R,na len a),by omega,Jb _,by rw [Int.toNat_of_nonneg hv3.1],(show _∧_ from ⟨M1,HT.out.symm⟩)⟩
 case' round=>skip
 obtain ⟨k,s,hk3,hgk,rfl,HR⟩:=hrel
 rename World=>Z0
 clear M1
 by_cases hk:0<k
 ·have hkI:(0:Int)<(k:Int):=by omega
  have A1:=hid' (next_any HR.out.1.dice 2 (by omega) (by omega))
  have hv2:=nv_bounds c len s.2 (n:=2) (by omega)
  obtain ⟨k',rfl⟩:∃ k',k=k'+1:=⟨k - 1,by omega⟩
  have hW:=HR.out.2
  by_cases hq:nv c len s.2 2=0
  ·go_upto_region 4 with (first
    | (go_at_call 18; refine A1.out.mono ?_; rintro e Z ⟨rfl,hd,st⟩)
    | fail)
   have MZ:=HR.out.1.thrown hd st
   obtain ⟨y0,y1,y2,_⟩:=MZ.cs
   have hz:=MZ.lt
   have MA:=hid' MZ.drew
   have HW:=hid' hW
   clear hd st MZ hW A1
   have hS0:S4 mb (.pointer (some ⟨pb,0,none⟩)) (.int .i64 more) (.slice ps slots.length cs) Z.drew:=⟨y0,y1,y2,hz⟩
   refine wp_region_held_drew (S:=S4 mb (.pointer (some ⟨pb,0,none⟩)) (.int .i64 more) (.slice ps slots.length cs)) (by kernel_rfl) hS0 (fun _=>?_)
   refine tkH (v:=?_) 0 16 hS0 ?_ ?_; rotate_left 1
   ·(rintro w' ⟨e0,e1,e2,e3⟩; go_simp; try with_reducible rfl)
   simp only [Act.put,Jh,Ji,Jj]
   refine tkH (v:=?_) 1 17 hS0 ?_ ?_; rotate_left 1
   ·(rintro w' ⟨e0,e1,e2,e3⟩; go_simp; try with_reducible rfl)
   simp only [Act.put,Jh,Ji,Jj]
   refine tkH (v:=?_) 2 18 hS0 ?_ ?_; rotate_left 1
   ·(rintro w' ⟨e0,e1,e2,e3⟩; go_simp; try with_reducible rfl)
   simp only [Act.put,Jh,Ji,Jj]
   refine tkH (v:=?_) 3 19 hS0 ?_ ?_; rotate_left 1
   ·(rintro w' ⟨e0,e1,e2,e3⟩; go_simp; try with_reducible rfl)
   simp only [Act.put,Jh,Ji,Jj]
   refine tkH (v:=?_) 4 20 hS0 ?_ ?_; rotate_left 1
   ·(rintro w' ⟨e0,e1,e2,e3⟩; go_simp; try with_reducible rfl)
   simp only [Act.put,Jh,Ji,Jj]
   refine tkH (v:=?_) 5 21 hS0 ?_ ?_; rotate_left 1
   ·(rintro w' ⟨e0,e1,e2,e3⟩; go_simp; try with_reducible rfl)
   simp only [Act.put,Jh,Ji,Jj]
   refine tkH (v:=?_) 6 22 hS0 ?_ ?_; rotate_left 1
   ·(rintro w' ⟨e0,e1,e2,e3⟩; go_simp; try with_reducible rfl)
   simp only [Act.put,Jh,Ji,Jj]
   refine tkH (v:=?_) 7 23 hS0 ?_ ?_; rotate_left 1
   ·(rintro w' ⟨e0,e1,e2,e3⟩; go_simp; try with_reducible rfl)
   simp only [Act.put,Jh,Ji,Jj]
   refine tkH (v:=?_) 8 24 hS0 ?_ ?_; rotate_left 1
   ·(rintro w' ⟨e0,e1,e2,e3⟩; go_simp; try with_reducible rfl)
   simp only [Act.put,Jh,Ji,Jj]
   refine tkH (v:=?_) 10 26 hS0 ?_ ?_; rotate_left 1
   ·(rintro w' ⟨e0,e1,e2,e3⟩; go_simp; try with_reducible rfl)
   simp only [Act.put,Jh,Ji,Jj]
   refine tkH (v:=?_) 11 27 hS0 ?_ ?_; rotate_left 1
   ·(rintro w' ⟨e0,e1,e2,e3⟩; go_simp; try with_reducible rfl)
   simp only [Act.put,Jh,Ji,Jj]
   refine tkH (v:=?_) 12 28 hS0 ?_ ?_; rotate_left 1
   ·(rintro w' ⟨e0,e1,e2,e3⟩; go_simp; try with_reducible rfl)
   simp only [Act.put,Jh,Ji,Jj]
   refine tkH (v:=?_) 13 29 hS0 ?_ ?_; rotate_left 1
   ·(rintro w' ⟨e0,e1,e2,e3⟩; go_simp; try with_reducible rfl)
   simp only [Act.put,Jh,Ji,Jj]
   refine tkH (v:=?_) 14 30 hS0 ?_ ?_; rotate_left 1
   ·(rintro w' ⟨e0,e1,e2,e3⟩; go_simp; try with_reducible rfl)
   simp only [Act.put,Jh,Ji,Jj]
   refine tkH (v:=?_) 15 31 hS0 ?_ ?_; rotate_left 1
   ·(rintro w' ⟨e0,e1,e2,e3⟩; go_simp; try with_reducible rfl)
   simp only [Act.put,Jh,Ji,Jj]
   refine tkH (v:=?_) 16 32 hS0 ?_ ?_; rotate_left 1
   ·(rintro w' ⟨e0,e1,e2,e3⟩; go_simp; try with_reducible rfl)
   simp only [Act.put,Jh,Ji,Jj]
   refine tkH (v:=?_) 17 33 hS0 ?_ ?_; rotate_left 1
   ·(rintro w' ⟨e0,e1,e2,e3⟩; go_simp; try with_reducible rfl)
   simp only [Act.put,Jh,Ji,Jj]
   refine tkH (v:=?_) 18 34 hS0 ?_ ?_; rotate_left 1
   ·(rintro w' ⟨e0,e1,e2,e3⟩; go_simp; try with_reducible rfl)
   simp only [Act.put,Jh,Ji,Jj]
   refine tkH (v:=?_) 19 35 hS0 ?_ ?_; rotate_left 1
   ·(rintro w' ⟨e0,e1,e2,e3⟩; go_simp; try with_reducible rfl)
   simp only [Act.put,Jh,Ji,Jj]
   refine tkH (v:=?_) 22 38 hS0 ?_ ?_; rotate_left 1
   ·(rintro w' ⟨e0,e1,e2,e3⟩; go_simp; try with_reducible rfl)
   simp only [Act.put,Jh,Ji,Jj]
   refine wpAnyH_ready (rs:=[9]) (by kernel_rfl) (by simp) ?_
   refine AllReadyH.cons rfl (fun K hK=>?_) AllReadyH.nil
   go_simp
   refine (id_any _ more task ht0 (by omega) hM.more0.1 (by have:=hM.more0; omega)).mono ?_
   rintro e Z1 ⟨rfl,bz1⟩
   have M1:=MA.out.of_below bz1
   have hS1:S4 mb (.pointer (some ⟨pb,0,none⟩)) (.int .i64 more) (.slice ps slots.length cs) Z1:=S4.of M1
   refine hK.out _ _ hS1 (fun _=>?_)
   clear hK K bz1
   have D1:=hid' (next_any M1.dice (slots.length:Int) (by omega) (by omega))
   have MB:=hid' M1
   clear M1
   refine wpAnyH_ready (rs:=[20]) (by kernel_rfl) (by simp) ?_
   refine AllReadyH.cons rfl (fun K hK=>?_) AllReadyH.nil
   go_simp
   refine D1.out.mono ?_
   rintro e Z2 ⟨rfl,hd2,st2⟩
   have M2:=MB.out.thrown hd2 st2
   have hS2:S4 mb (.pointer (some ⟨pb,0,none⟩)) (.int .i64 more) (.slice ps slots.length cs) Z2:=S4.of M2
   refine hK.out _ _ hS2 (fun _=>?_)
   clear hK K hd2 st2 D1 MB hS1
   have MC:=hid' M2
   clear M2
   refine wpAnyH_ready (rs:=[21]) (by kernel_rfl) (by simp) ?_
   refine AllReadyH.cons rfl (fun K hK=>?_) AllReadyH.nil
   go_simp
   have hv:=nv_bounds c len (na len s.2) (n:=(slots.length:Int)) (by omega)
   refine (id_any _ more (nv c len (na len s.2) (slots.length:Int)) hv.1 (by omega) hM.more0.1 (by have:=hM.more0; omega)).mono ?_
   rintro e Z3 ⟨rfl,bz3⟩
   have M3:=MC.out.of_below bz3
   have hS3:S4 mb (.pointer (some ⟨pb,0,none⟩)) (.int .i64 more) (.slice ps slots.length cs) Z3:=S4.of M3
   refine hK.out _ _ hS3 (fun _=>?_)
   clear hK K bz3 MC hS2
   have D3:=hid' (next_any M3.dice 150 (by omega) (by omega))
   have MD:=hid' M3
   clear M3
   refine wpAnyH_ready (rs:=[23]) (by kernel_rfl) (by simp) ?_
   refine AllReadyH.cons rfl (fun K hK=>?_) AllReadyH.nil
   go_simp
   refine D3.out.mono ?_
   rintro e Z4 ⟨rfl,hd4,st4⟩
   have M4:=MD.out.thrown hd4 st4
   have hS4:S4 mb (.pointer (some ⟨pb,0,none⟩)) (.int .i64 more) (.slice ps slots.length cs) Z4:=S4.of M4
   refine hK.out _ _ hS4 (fun _=>?_)
   clear hK K hd4 st4 D3 MD hS3
   obtain ⟨l0,l1,l2,l3,hp4,hs4⟩:=M4.plan
   have P4:=hid' (prefer_any hp4 (idOf more task) 1 (idOf more (nv c len (na len s.2) (slots.length:Int))) (nv c len (na len (na len s.2)) 150))
   have ME:=hid' (Jc M4 (Jc hp4 hs4))
   clear M4 hp4 hs4
   refine wpAnyH_ready (rs:=[24]) (by kernel_rfl) (by simp) ?_
   refine AllReadyH.cons rfl (fun K hK=>?_) AllReadyH.nil
   go_simp
   refine P4.out.mono ?_
   rintro e Z5 ⟨rfl,hp5,ho5⟩
   have M5:=ME.out.1.did ME.out.2.1 ho5 hp5 (sim_pref ME.out.2.2 (idOf more task) 1 (idOf more (nv c len (na len s.2) (slots.length:Int))) (nv c len (na len (na len s.2)) 150)).2
   have hS5:S4 mb (.pointer (some ⟨pb,0,none⟩)) (.int .i64 more) (.slice ps slots.length cs) Z5:=S4.of M5
   refine hK.out _ _ hS5 (fun _=>?_)
   clear hK K ho5 hp5 P4 ME hS4 hS0
   have MF:=hid' M5
   clear M5
   refine wpAnyH_done (by kernel_rfl) ?_ _
   go_wp2_with fail
   go_roundg k'
   case measure=>omega
   case rel=>exact ⟨k',wish1 c len more slots.length task s,by omega,Jb _,by go_num,(show _∧_ from ⟨by unfold wish1; rw [if_pos hq]; exact MF.out,HW.out⟩)⟩
  ·go_upto_region 5 with (first
    | (go_at_call 18; refine A1.out.mono ?_; rintro e Z ⟨rfl,hd,st⟩)
    | fail)
   have MZ:=HR.out.1.thrown hd st
   obtain ⟨y0,y1,y2,_⟩:=MZ.cs
   have hz:=MZ.lt
   have MA:=hid' MZ.drew
   have HW:=hid' hW
   clear hd st MZ hW A1
   have hS0:S4 mb (.pointer (some ⟨pb,0,none⟩)) (.int .i64 more) (.slice ps slots.length cs) Z.drew:=⟨y0,y1,y2,hz⟩
   refine wp_region_held_drew (S:=S4 mb (.pointer (some ⟨pb,0,none⟩)) (.int .i64 more) (.slice ps slots.length cs)) (by kernel_rfl) hS0 (fun _=>?_)
   refine tkH (v:=?_) 0 41 hS0 ?_ ?_; rotate_left 1
   ·(rintro w' ⟨e0,e1,e2,e3⟩; go_simp; try with_reducible rfl)
   simp only [Act.put,Jh,Ji,Jj]
   refine tkH (v:=?_) 1 42 hS0 ?_ ?_; rotate_left 1
   ·(rintro w' ⟨e0,e1,e2,e3⟩; go_simp; try with_reducible rfl)
   simp only [Act.put,Jh,Ji,Jj]
   refine tkH (v:=?_) 2 43 hS0 ?_ ?_; rotate_left 1
   ·(rintro w' ⟨e0,e1,e2,e3⟩; go_simp; try with_reducible rfl)
   simp only [Act.put,Jh,Ji,Jj]
   refine tkH (v:=?_) 3 44 hS0 ?_ ?_; rotate_left 1
   ·(rintro w' ⟨e0,e1,e2,e3⟩; go_simp; try with_reducible rfl)
   simp only [Act.put,Jh,Ji,Jj]
   refine tkH (v:=?_) 4 45 hS0 ?_ ?_; rotate_left 1
   ·(rintro w' ⟨e0,e1,e2,e3⟩; go_simp; try with_reducible rfl)
   simp only [Act.put,Jh,Ji,Jj]
   refine tkH (v:=?_) 5 46 hS0 ?_ ?_; rotate_left 1
   ·(rintro w' ⟨e0,e1,e2,e3⟩; go_simp; try with_reducible rfl)
   simp only [Act.put,Jh,Ji,Jj]
   refine tkH (v:=?_) 6 47 hS0 ?_ ?_; rotate_left 1
   ·(rintro w' ⟨e0,e1,e2,e3⟩; go_simp; try with_reducible rfl)
   simp only [Act.put,Jh,Ji,Jj]
   refine tkH (v:=?_) 7 48 hS0 ?_ ?_; rotate_left 1
   ·(rintro w' ⟨e0,e1,e2,e3⟩; go_simp; try with_reducible rfl)
   simp only [Act.put,Jh,Ji,Jj]
   refine tkH (v:=?_) 8 49 hS0 ?_ ?_; rotate_left 1
   ·(rintro w' ⟨e0,e1,e2,e3⟩; go_simp; try with_reducible rfl)
   simp only [Act.put,Jh,Ji,Jj]
   refine tkH (v:=?_) 10 51 hS0 ?_ ?_; rotate_left 1
   ·(rintro w' ⟨e0,e1,e2,e3⟩; go_simp; try with_reducible rfl)
   simp only [Act.put,Jh,Ji,Jj]
   refine tkH (v:=?_) 11 52 hS0 ?_ ?_; rotate_left 1
   ·(rintro w' ⟨e0,e1,e2,e3⟩; go_simp; try with_reducible rfl)
   simp only [Act.put,Jh,Ji,Jj]
   refine tkH (v:=?_) 12 53 hS0 ?_ ?_; rotate_left 1
   ·(rintro w' ⟨e0,e1,e2,e3⟩; go_simp; try with_reducible rfl)
   simp only [Act.put,Jh,Ji,Jj]
   refine tkH (v:=?_) 13 54 hS0 ?_ ?_; rotate_left 1
   ·(rintro w' ⟨e0,e1,e2,e3⟩; go_simp; try with_reducible rfl)
   simp only [Act.put,Jh,Ji,Jj]
   refine tkH (v:=?_) 14 55 hS0 ?_ ?_; rotate_left 1
   ·(rintro w' ⟨e0,e1,e2,e3⟩; go_simp; try with_reducible rfl)
   simp only [Act.put,Jh,Ji,Jj]
   refine tkH (v:=?_) 17 58 hS0 ?_ ?_; rotate_left 1
   ·(rintro w' ⟨e0,e1,e2,e3⟩; go_simp; try with_reducible rfl)
   simp only [Act.put,Jh,Ji,Jj]
   refine wpAnyH_ready (rs:=[9]) (by kernel_rfl) (by simp) ?_
   refine AllReadyH.cons rfl (fun K hK=>?_) AllReadyH.nil
   go_simp
   refine (id_any _ more task ht0 (by omega) hM.more0.1 (by have:=hM.more0; omega)).mono ?_
   rintro e Z1 ⟨rfl,bz1⟩
   have M1:=MA.out.of_below bz1
   have hS1:S4 mb (.pointer (some ⟨pb,0,none⟩)) (.int .i64 more) (.slice ps slots.length cs) Z1:=S4.of M1
   refine hK.out _ _ hS1 (fun _=>?_)
   clear hK K bz1
   have D1:=hid' (next_any M1.dice 2 (by omega) (by omega))
   have MB:=hid' M1
   clear M1
   refine wpAnyH_ready (rs:=[15]) (by kernel_rfl) (by simp) ?_
   refine AllReadyH.cons rfl (fun K hK=>?_) AllReadyH.nil
   go_simp
   refine D1.out.mono ?_
   rintro e Z2 ⟨rfl,hd2,st2⟩
   have M2:=MB.out.thrown hd2 st2
   have hS2:S4 mb (.pointer (some ⟨pb,0,none⟩)) (.int .i64 more) (.slice ps slots.length cs) Z2:=S4.of M2
   refine hK.out _ _ hS2 (fun _=>?_)
   clear hK K hd2 st2 D1 MB hS1
   have MC:=hid' M2
   clear M2
   refine wpAnyH_ready (rs:=[16]) (by kernel_rfl) (by simp) ?_
   refine AllReadyH.cons rfl (fun K hK=>?_) AllReadyH.nil
   go_simp
   have hv:=nv_bounds c len (na len s.2) (n:=2) (by omega)
   refine (id_any _ more (nv c len (na len s.2) 2) hv.1 (by omega) hM.more0.1 (by have:=hM.more0; omega)).mono ?_
   rintro e Z3 ⟨rfl,bz3⟩
   have M3:=MC.out.of_below bz3
   have hS3:S4 mb (.pointer (some ⟨pb,0,none⟩)) (.int .i64 more) (.slice ps slots.length cs) Z3:=S4.of M3
   refine hK.out _ _ hS3 (fun _=>?_)
   clear hK K bz3 MC hS2
   have D3:=hid' (next_any M3.dice 150 (by omega) (by omega))
   have MD:=hid' M3
   clear M3
   refine wpAnyH_ready (rs:=[18]) (by kernel_rfl) (by simp) ?_
   refine AllReadyH.cons rfl (fun K hK=>?_) AllReadyH.nil
   go_simp
   refine D3.out.mono ?_
   rintro e Z4 ⟨rfl,hd4,st4⟩
   have M4:=MD.out.thrown hd4 st4
   have hS4:S4 mb (.pointer (some ⟨pb,0,none⟩)) (.int .i64 more) (.slice ps slots.length cs) Z4:=S4.of M4
   refine hK.out _ _ hS4 (fun _=>?_)
   clear hK K hd4 st4 D3 MD hS3
   obtain ⟨l0,l1,l2,l3,hp4,hs4⟩:=M4.plan
   have P4:=hid' (prefer_any hp4 (idOf more task) 0 (idOf more (nv c len (na len s.2) 2)) (nv c len (na len (na len s.2)) 150))
   have ME:=hid' (Jc M4 (Jc hp4 hs4))
   clear M4 hp4 hs4
   refine wpAnyH_ready (rs:=[19]) (by kernel_rfl) (by simp) ?_
   refine AllReadyH.cons rfl (fun K hK=>?_) AllReadyH.nil
   go_simp
   refine P4.out.mono ?_
   rintro e Z5 ⟨rfl,hp5,ho5⟩
   have M5:=ME.out.1.did ME.out.2.1 ho5 hp5 (sim_pref ME.out.2.2 (idOf more task) 0 (idOf more (nv c len (na len s.2) 2)) (nv c len (na len (na len s.2)) 150)).2
   have hS5:S4 mb (.pointer (some ⟨pb,0,none⟩)) (.int .i64 more) (.slice ps slots.length cs) Z5:=S4.of M5
   refine hK.out _ _ hS5 (fun _=>?_)
   clear hK K ho5 hp5 P4 ME hS4 hS0
   have MF:=hid' M5
   clear M5
   refine wpAnyH_done (by kernel_rfl) ?_ _
   go_wp2_with fail
   go_roundg k'
   case measure=>omega
   case rel=>exact ⟨k',wish1 c len more slots.length task s,by omega,Jb _,by go_num,(show _∧_ from ⟨by unfold wish1; rw [if_neg hq]; exact MF.out,HW.out⟩)⟩
 ·obtain rfl:k=0:=by omega
  go_wp2_with fail
  go_end0
  have h1:=HR.out.1
  have h2:s=wishT c len more slots.length task (R,a):=HR.out.2
  rw [← h2]
  exact ⟨rfl,h1⟩
end
end
section
open Go.RowKit
theorem idOf_bounds (more k:Int):0≤idOf more k∧idOf more k≤99:=by unfold idOf; omega
theorem idOf_inj {more:Int}{j k:Nat}(hj:j<14)(hk:k<14)(e:idOf more j=idOf more k):j=k:=by unfold idOf at e; omega
def idsL (more:Int)(n:Nat):List Int:=(List.range n).map (fun k:Nat=>idOf more (k:Int))
theorem idsL_succ (more:Int)(n:Nat):idsL more (n+1)=idsL more n ++ [idOf more n]:=by simp [idsL,List.range_succ]
theorem ids_at {more:Int}{n:Nat}{xs:List Th}(h:xs.map (·.1)=idsL more n){k:Nat}(hk:k<n):∃ hl:k<xs.length,xs[k].1=idOf more k:=by
 have hl:xs.length=n:=by
  have:=congrArg List.length h
  simpa [idsL] using this
 refine ⟨by omega,?_⟩
 have:=congrArg (fun l=>l[k]?) h
 simpa [idsL,hk,show k<xs.length by omega] using this
theorem at_ids {more:Int}{n k:Nat}{xs:List Th}(h:xs.map (·.1)=idsL more n)(hn:n≤14)(hk:k<n):atOf (idOf more k) xs=k:=by
 obtain ⟨hl,e⟩:=ids_at h hk
 refine atOf_found hl (fun j hj hlt q=>?_) e
 obtain ⟨_,e'⟩:=ids_at h (k:=j) (by omega)
 rw [e'] at q
 have:=idOf_inj (by omega) (by omega) q
 omega
theorem no_ids {more:Int}{n k:Nat}{xs:List Th}(h:xs.map (·.1)=idsL more n)(hk:n≤k)(hk':k<14):atOf (idOf more k) xs<0:=by
 rw [atOf_neg]
 intro x hx q
 obtain ⟨j,hj,rfl⟩:=List.mem_iff_getElem.1 hx
 have hl:xs.length=n:=by
  have:=congrArg List.length h
  simpa [idsL] using this
 obtain ⟨_,e⟩:=ids_at h (k:=j) (by omega)
 rw [e] at q
 have:=idOf_inj (by omega) hk' q
 omega
structure RK (more:Int)(R:RSt)(nr nj nm nt:Nat):Prop where
 i0:R.t0.map (·.1)=idsL more nr
 i1:R.t1.map (·.1)=idsL more nm
 i2:R.t2.map (·.1)=idsL more nj
 i3:R.t3.map (·.1)=idsL more nt
section
variable {more:Int}{R:RSt}{nr nj nm nt:Nat}
theorem len_of {xs:List Th}{n:Nat}(h:xs.map (·.1)=idsL more n):xs.length=n:=by
 have:=congrArg List.length h
 simpa [idsL] using this
theorem RK.rack (h:RK more R nr nj nm nt)(hn:nr<4):c2 R (idOf more nr)=0∧RK more (n2 R (idOf more nr)) (nr+1) nj nm nt:=by
 have hb:=idOf_bounds more nr
 have hc:c2 R (idOf more nr)=0:=by
  have h1:=no_ids h.i0 (Jb _) (by omega)
  have h2:=len_of h.i0
  unfold c2 makeOf
  rw [if_neg (by omega),if_neg (by omega),if_neg (by omega),if_neg (by omega),if_neg (by simp)]
 refine ⟨hc,?_⟩
 unfold n2
 rw [if_pos hc]
 exact ⟨by rw [List.map_append,h.i0,idsL_succ]; rfl,h.i1,h.i2,h.i3⟩
theorem RK.again (h:RK more R nr nj nm nt)(hn:0<nr)(hn':nr≤4):c2 R (idOf more 0)=2∧n2 R (idOf more 0)=R:=by
 have hb:=idOf_bounds more 0
 have hc:c2 R (idOf more 0)=2:=by
  have h1:atOf (idOf more ((0:Nat):Int)) R.t0=((0:Nat):Int):=at_ids h.i0 (by omega) hn
  have h1':atOf (idOf more 0) R.t0=0:=h1
  unfold c2 makeOf
  rw [if_neg (by omega),if_pos (by omega)]
 refine ⟨hc,?_⟩
 unfold n2
 rw [if_neg (by omega)]
theorem RK.job (h:RK more R nr nj nm nt)(hn:nj<4){v:Int}(h0:0≤v)(h1:v≤1000):c4 R (idOf more nj) v=0∧RK more (n4 R (idOf more nj) v) nr (nj+1) nm nt:=by
 have hb:=idOf_bounds more nj
 have hc:c4 R (idOf more nj) v=0:=by
  have h1:=no_ids h.i2 (Jb _) (by omega)
  have h2:=len_of h.i2
  unfold c4 makeOf
  rw [if_neg (by omega),if_neg (by omega),if_neg (by omega),if_neg (by omega),if_neg (by omega)]
 refine ⟨hc,?_⟩
 unfold n4
 rw [if_pos hc]
 exact ⟨h.i0,h.i1,by rw [List.map_append,h.i2,idsL_succ]; rfl,h.i3⟩
theorem RK.mach (h:RK more R nr nj nm nt)(hn:nm<8)(hr':nr≤4){r:Nat}(hr:r<nr){v:Int}(h0:1≤v)(h1:v≤4):c3 R (idOf more nm) (idOf more r) v=0∧RK more (n3 R (idOf more nm) (idOf more r) v) nr nj (nm+1) nt:=by
 have hb:=idOf_bounds more nm
 have hc:c3 R (idOf more nm) (idOf more r) v=0:=by
  have h1:=no_ids h.i1 (Jb _) (by omega)
  have h2:=len_of h.i1
  have h3:=at_ids h.i0 (by omega) hr
  unfold c3 makeOf
  rw [if_neg (by omega),if_neg (by omega),if_neg (by omega),if_neg (by omega),if_neg (by omega)]
 refine ⟨hc,?_⟩
 unfold n3
 rw [if_pos hc]
 exact ⟨h.i0,by rw [List.map_append,h.i1,idsL_succ]; rfl,h.i2,h.i3⟩
theorem RK.task (h:RK more R nr nj nm nt)(hn:nt<14)(hj':nj≤4){j:Nat}(hj:j<nj){v:Int}(h0:0≤v)(h1:v≤1000):c5 R (idOf more nt) (idOf more j) v=0∧RK more (n5 R (idOf more nt) (idOf more j) v) nr nj nm (nt+1):=by
 have hb:=idOf_bounds more nt
 have hc:c5 R (idOf more nt) (idOf more j) v=0:=by
  have h1:=no_ids h.i3 (Jb _) (by omega)
  have h2:=len_of h.i3
  have h3:=at_ids h.i2 (by omega) hj
  unfold c5 makeOf
  rw [if_neg (by omega),if_neg (by omega),if_neg (by omega),if_neg (by omega),if_neg (by omega)]
 refine ⟨hc,?_⟩
 unfold n5
 rw [if_pos hc]
 exact ⟨h.i0,h.i1,h.i2,by rw [List.map_append,h.i3,idsL_succ]; rfl⟩
theorem RK.pref (h:RK more R nr nj nm nt)(t k i c:Int):RK more (n6 R t k i c) nr nj nm nt:=by
 unfold n6
 split
 ·exact ⟨h.i0,h.i1,h.i2,h.i3⟩
 ·exact h
theorem RK.wish1 (h:RK more R nr nj nm nt)(c:Nat→Int)(len ns:Nat)(task:Int)(a:Nat):RK more (wish1 c len more ns task (R,a)).1 nr nj nm nt:=by
 unfold Ytjdindfjfpdikab.wish1
 split
 ·exact h.pref _ _ _ _
 ·exact h.pref _ _ _ _
theorem RK.wishN {nr nj nm nt:Nat}(c:Nat→Int)(len ns:Nat)(task:Int):∀ (k:Nat)(s:RSt×Nat),RK more s.1 nr nj nm nt→RK more (wishN c len more ns task k s).1 nr nj nm nt
 | 0,_,h=>h
 | k+1,(_,a),h=>RK.wishN c len ns task k _ (RK.wish1 h c len ns task a)
theorem RK.wishT (h:RK more R nr nj nm nt)(c:Nat→Int)(len ns:Nat)(task:Int)(a:Nat):RK more (wishT c len more ns task (R,a)).1 nr nj nm nt:=RK.wishN c len ns task _ _ h
theorem rk0:RK more R0 0 0 0 0:=⟨rfl,rfl,rfl,rfl⟩
end
def madeRJ (c:Nat→Int)(len:Nat)(more:Int):Nat→RSt×Nat→RSt×Nat
 | 0,s=>s
 | k+1,s=>(fun q:RSt×Nat=>(n4 (n2 q.1 (idOf more k)) (idOf more k) (nv c len q.2 200),na len q.2)) (madeRJ c len more k s)
def mach1 (c:Nat→Int)(len:Nat)(more:Int)(k:Nat)(s:RSt×Nat×List Int):RSt×Nat×List Int :=
 (n3 s.1 (idOf more k) (idOf more (nv c len (na len s.2.1) 2)) (1+nv c len s.2.1 3),na len (na len s.2.1),s.2.2 ++ [1+nv c len s.2.1 3])
def machN (c:Nat→Int)(len:Nat)(more:Int):Nat→RSt×Nat×List Int→RSt×Nat×List Int
 | 0,s=>(s.1,na len s.2.1,s.2.2)
 | f+1,s=>if (s.2.2.length:Int)<1+nv c len s.2.1 4 then machN c len more f (mach1 c len more s.2.2.length (s.1,na len s.2.1,s.2.2)) else (s.1,na len s.2.1,s.2.2)
def task1 (c:Nat→Int)(len:Nat)(more:Int)(ns k:Nat)(s:RSt×Nat):RSt×Nat :=
 wishT c len more ns k (n5 s.1 (idOf more k) (idOf more (nv c len s.2 2)) (nv c len (na len s.2) 200),na len (na len s.2))
def taskN (c:Nat→Int)(len:Nat)(more:Int)(ns:Nat):Nat→RSt×Nat→RSt×Nat
 | 0,s=>s
 | k+1,s=>task1 c len more ns k (taskN c len more ns k s)
end
section
open Go.RowKit
theorem getD_left {α:Type}{l m:List α}{i:Nat}(h:i<l.length)(d:α):(l ++ m).getD i d=l.getD i d:=by
 simp [List.getD,List.getElem?_append_left h]
end
section
open Go.RowKit
section
variable {base:Nat}{w0:Fr}{w w':World}{mb pb b0 b1 b2 b3 xb:Nat}{more:Int}{vs:Value}{slots:List Int}{tasks:Int}{R R':RSt}{p:Option Addr}{len cap a a':Nat}{c:Nat→Int}
def CelX (w w':World):Prop:=∀ (b:Nat)(cs:Array Value)(t:TypeId)(f:Nat×Nat),t≠25→w.heap[b]?=some (.cells cs t f)→w'.heap[b]?=some (.cells cs t f)
theorem CelX.of_cel (h:Cel w w'):CelX w w':=fun b cs t f _ q=>h b cs t f q
theorem CelX.trans {w'':World}(h:CelX w w')(h':CelX w' w''):CelX w w'':=fun b cs t f q1 q=>h' b cs t f q1 (h b cs t f q1 q)
theorem CelX.of_stir (h:MK base w0 w mb pb b0 b1 b2 b3 xb more vs slots tasks R p len cap c a)(hs:Stir xb w w'):CelX w w':=fun b cs t f ht q=>(hs.block b (fun e=>by
 have hx:=h.dice.cells
 subst e
 rw [hx] at q
 cases q
 exact ht rfl)).trans q
theorem mk_rack (h:MK base w0 w mb pb b0 b1 b2 b3 xb more vs slots tasks R p len cap c a)(x:Int) :
  Calls Try.prog 15 #[.pointer (some ⟨pb,0,none⟩),.int .i64 x] w fun e w'=>e=.returned (.int .i64 (c2 R x))∧MK base w0 w' mb pb b0 b1 b2 b3 xb more vs slots tasks (n2 R x) p len cap c a∧CelX w w':=by
 obtain ⟨l0,l1,l2,l3,hp,hs⟩:=h.plan
 refine (rack_any sortSaid hp x hs.len).mono ?_
 rintro e w' ⟨rfl,hp',ho⟩
 exact ⟨by rw [(sim_rack hs x).1],h.did hp ho hp' (sim_rack hs x).2,CelX.of_cel (Cel.of_plan hp ho)⟩
theorem mk_mach (h:MK base w0 w mb pb b0 b1 b2 b3 xb more vs slots tasks R p len cap c a)(x y z:Int) :
  Calls Try.prog 19 #[.pointer (some ⟨pb,0,none⟩),.int .i64 x,.int .i64 y,.int .i64 z] w fun e w'=>e=.returned (.int .i64 (c3 R x y z))∧MK base w0 w' mb pb b0 b1 b2 b3 xb more vs slots tasks (n3 R x y z) p len cap c a∧CelX w w':=by
 obtain ⟨l0,l1,l2,l3,hp,hs⟩:=h.plan
 refine (machine_any sortSaid hp x y z hs.len).mono ?_
 rintro e w' ⟨rfl,hp',ho⟩
 exact ⟨by rw [(sim_mach hs x y z).1],h.did hp ho hp' (sim_mach hs x y z).2,CelX.of_cel (Cel.of_plan hp ho)⟩
theorem mk_job (h:MK base w0 w mb pb b0 b1 b2 b3 xb more vs slots tasks R p len cap c a)(x y:Int) :
  Calls Try.prog 17 #[.pointer (some ⟨pb,0,none⟩),.int .i64 x,.int .i64 y] w fun e w'=>e=.returned (.int .i64 (c4 R x y))∧MK base w0 w' mb pb b0 b1 b2 b3 xb more vs slots tasks (n4 R x y) p len cap c a∧CelX w w':=by
 obtain ⟨l0,l1,l2,l3,hp,hs⟩:=h.plan
 refine (job_any sortSaid hp x y hs.len).mono ?_
 rintro e w' ⟨rfl,hp',ho⟩
 exact ⟨by rw [(sim_job hs x y).1],h.did hp ho hp' (sim_job hs x y).2,CelX.of_cel (Cel.of_plan hp ho)⟩
theorem mk_task (h:MK base w0 w mb pb b0 b1 b2 b3 xb more vs slots tasks R p len cap c a)(x y z:Int) :
  Calls Try.prog 20 #[.pointer (some ⟨pb,0,none⟩),.int .i64 x,.int .i64 y,.int .i64 z] w fun e w'=>e=.returned (.int .i64 (c5 R x y z))∧MK base w0 w' mb pb b0 b1 b2 b3 xb more vs slots tasks (n5 R x y z) p len cap c a∧CelX w w':=by
 obtain ⟨l0,l1,l2,l3,hp,hs⟩:=h.plan
 refine (task_any sortSaid hp x y z hs.len).mono ?_
 rintro e w' ⟨rfl,hp',ho⟩
 exact ⟨by rw [(sim_task hs x y z).1],h.did hp ho hp' (sim_task hs x y z).2,CelX.of_cel (Cel.of_plan hp ho)⟩
theorem mk_next (h:MK base w0 w mb pb b0 b1 b2 b3 xb more vs slots tasks R p len cap c a)(n:Int)(h1:1≤n)(h2:n≤1001) :
  Calls Try.prog 18 #[.pointer (some ⟨xb,0,none⟩),.int .i64 n] w fun e w'=>e=.returned (.int .i64 (nv c len a n))∧MK base w0 w' mb pb b0 b1 b2 b3 xb more vs slots tasks R p len cap c (na len a)∧CelX w w':=by
 refine (next_any h.dice n h1 h2).mono ?_
 rintro e w' ⟨rfl,hd,st⟩
 exact ⟨rfl,h.thrown hd st,CelX.of_stir h st⟩
theorem mk_id (h:MK base w0 w mb pb b0 b1 b2 b3 xb more vs slots tasks R p len cap c a)(k:Int)(h0:0≤k)(h1:k≤1000) :
  Calls Try.prog 16 #[.agg #[.int .i64 more],.int .i64 k] w fun e w'=>e=.returned (.int .i64 (idOf more k))∧MK base w0 w' mb pb b0 b1 b2 b3 xb more vs slots tasks R p len cap c a∧CelX w w':=by
 refine (id_any w more k h0 h1 h.more0.1 (by have:=h.more0; omega)).mono ?_
 rintro e w' ⟨rfl,hb⟩
 exact ⟨rfl,h.of_below hb,CelX.of_cel (Cel.of_below hb)⟩
end
end
end Go.Proofs.Ytjdindfjfpdikab
