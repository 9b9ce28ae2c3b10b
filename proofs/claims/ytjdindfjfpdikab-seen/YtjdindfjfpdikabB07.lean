import Derived.WalkKit
import Derived.Below
import Derived.Test.YtjdindfjfpdikabProg
import Derived.Deep.LoopGhost
import Derived.BigRegion
import Derived.BigQuiet
import Derived.Deep.QuietTactic
import Derived.OpenShut
import Derived.Laws.CopyOwn
import Derived.OwnWalk
import Derived.Deep.DeepCutAuto
import Derived.Deep.RegionLaw
import Derived.Test.YtjdindfjfpdikabPre
set_option maxRecDepth 100000
set_option maxHeartbeats 8000000
namespace Go.Proofs.Ytjdindfjfpdikab
section
structure Ar where
 f:Int
 t:Int
 c:Int
 k:Int
def ArcOk (N:Int)(a:Ar):Prop:=(0≤a.f∧a.f<N)∧(0≤a.t∧a.t<N)∧(0≤a.c∧a.c≤1000)∧(-10000≤a.k∧a.k≤10000)
def NetOk (N:Int)(ls:Nat)(S:Nat→Int)(la:Nat)(A:Nat→Ar):Prop :=
 (0≤N∧N≤60)∧(ls:Int)=N∧la≤600∧(∀ i,i<ls→-1000≤S i∧S i≤1000)∧∀ i,i<la→ArcOk N (A i)
def inn (A:Nat→Ar)(F:Nat→Int)(v:Nat):Nat→Int
 | 0=>0
 | n+1=>inn A F v n+(if (A n).t=(v:Int) then F n else 0)
def out (A:Nat→Ar)(F:Nat→Int)(v:Nat):Nat→Int
 | 0=>0
 | n+1=>out A F v n+(if (A n).f=(v:Int) then F n else 0)
def Caps (la:Nat)(A:Nat→Ar)(F:Nat→Int):Prop:=∀ i,i<la→0≤F i∧F i≤(A i).c
def Bal (ls:Nat)(S:Nat→Int)(la:Nat)(A:Nat→Ar)(F:Nat→Int):Prop:=∀ v,v<ls→S v+inn A F v la=out A F v la
def FlowOk (ls:Nat)(S:Nat→Int)(la:Nat)(A:Nat→Ar)(lf:Nat)(F:Nat→Int):Prop :=
 lf=la∧Caps la A F∧Bal ls S la A F
def dd (P:Nat→Int)(a:Ar):Int:=a.k+P a.f.toNat - P a.t.toNat
def PairOk (P:Nat→Int)(a:Ar)(x:Int):Prop:=¬ (dd P a<0∧x<a.c)∧¬ (0<dd P a∧0<x)
def PriceOk (N:Int)(la:Nat)(A:Nat→Ar)(F:Nat→Int)(lp:Nat)(P:Nat→Int):Prop :=
 (lp:Int)=N∧(∀ i,i<lp→-1000000≤P i∧P i≤1000000)∧∀ i,i<la→PairOk P (A i) (F i)
structure IsChk (e:Int)(N:Int)(ls:Nat)(S:Nat→Int)(la:Nat)(A:Nat→Ar)(lf:Nat)(F:Nat→Int)(lp:Nat)(P:Nat→Int):Prop where
 net:¬ NetOk N ls S la A→e=8
 flow:NetOk N ls S la A→¬ FlowOk ls S la A lf F→e=9
 price:NetOk N ls S la A→FlowOk ls S la A lf F→¬ PriceOk N la A F lp P→e=10
 ok:NetOk N ls S la A→FlowOk ls S la A lf F→PriceOk N la A F lp P→e=0
theorem inn_bound {A:Nat→Ar}{F:Nat→Int}{v la:Nat}(h:∀ i,i<la→0≤F i∧F i≤1000):0≤inn A F v la∧inn A F v la≤1000*la:=by
 induction la with
 | zero=>simp [inn]
 | succ n ih =>
  have h1:=ih (fun i hi=>h i (by omega))
  have h2:=h n (by omega)
  simp only [inn]
  split <;> omega
theorem out_bound {A:Nat→Ar}{F:Nat→Int}{v la:Nat}(h:∀ i,i<la→0≤F i∧F i≤1000):0≤out A F v la∧out A F v la≤1000*la:=by
 induction la with
 | zero=>simp [out]
 | succ n ih =>
  have h1:=ih (fun i hi=>h i (by omega))
  have h2:=h n (by omega)
  simp only [out]
  split <;> omega
def sumN (g:Nat→Int):Nat→Int
 | 0=>0
 | n+1=>sumN g n+g n
theorem sumN_add (g h:Nat→Int)(n:Nat):sumN (fun i=>g i+h i) n=sumN g n+sumN h n:=by
 induction n with
 | zero=>rfl
 | succ n ih=>simp only [sumN,ih]; omega
theorem sumN_sub (g h:Nat→Int)(n:Nat):sumN (fun i=>g i - h i) n=sumN g n - sumN h n:=by
 induction n with
 | zero=>rfl
 | succ n ih=>simp only [sumN,ih]; omega
theorem sumN_congr {g h:Nat→Int}{n:Nat}(e:∀ i,i<n→g i=h i):sumN g n=sumN h n:=by
 induction n with
 | zero=>rfl
 | succ n ih=>simp only [sumN]; rw [ih (fun i hi=>e i (by omega)),e n (by omega)]
theorem sumN_zero (n:Nat):sumN (fun _=>0) n=0:=by
 induction n with
 | zero=>rfl
 | succ n ih=>simp only [sumN,ih]; rfl
theorem sumN_one (p:Nat→Int)(x:Int)(f N:Nat)(hf:f<N):sumN (fun v=>p v*(if (f:Int)=(v:Int) then x else 0)) N=p f*x:=by
 induction N with
 | zero=>omega
 | succ n ih =>
  simp only [sumN]
  by_cases e:f=n
  ·subst e
   rw [sumN_congr (h:=fun _=>0) (fun i hi=>by rw [if_neg (by omega)]; simp),sumN_zero]
   simp
  ·rw [ih (by omega),if_neg (by omega)]
   simp
theorem sumN_le {g h:Nat→Int}{n:Nat}(e:∀ i,i<n→g i≤h i):sumN g n≤sumN h n:=by
 induction n with
 | zero=>exact Int.le_refl _
 | succ n ih =>
  have h1:=ih (fun i hi=>e i (by omega))
  have h2:=e n (by omega)
  simp only [sumN]
  omega
def cost (A:Nat→Ar)(F:Nat→Int)(la:Nat):Int:=sumN (fun i=>F i*(A i).k) la
end
section
open Go.RowKit
def Ints (w:World)(p:Option Addr)(len:Nat)(F:Nat→Int):Prop :=
 len=0∨∃ sb off,p=some ⟨sb,off,none⟩∧sb<w.heap.size∧∀ i,i<len→w.cell? ⟨sb,off+i,none⟩=some (.int .i64 (F i))
def Arcs (w:World)(p:Option Addr)(len:Nat)(A:Nat→Ar):Prop :=
 len=0∨∃ sb off,p=some ⟨sb,off,none⟩∧sb<w.heap.size∧∀ i,i<len→w.cell? ⟨sb,off+i*4,none⟩=some (.int .i64 (A i).f)∧w.cell? ⟨sb,off+i*4+1,none⟩=some (.int .i64 (A i).t)∧w.cell? ⟨sb,off+i*4+2,none⟩=some (.int .i64 (A i).c)∧w.cell? ⟨sb,off+i*4+3,none⟩=some (.int .i64 (A i).k)
section
variable {w w':World}{p:Option Addr}{len n:Nat}{F:Nat→Int}{A:Nat→Ar}
theorem Ints.below (h:Ints w p len F)(hb:Below w.heap.size w w'):Ints w' p len F:=by
 rcases h with h | ⟨sb,off,hp,hs,hc⟩
 ·exact Jr h
 ·exact Js ⟨sb,off,hp,Jm hs hb.size,fun i hi=>(hb.cell (p:=⟨sb,off+i,none⟩) hs).trans (hc i hi)⟩
theorem Arcs.below (h:Arcs w p len A)(hb:Below w.heap.size w w'):Arcs w' p len A:=by
 rcases h with h | ⟨sb,off,hp,hs,hc⟩
 ·exact Jr h
 ·refine Js ⟨sb,off,hp,Jm hs hb.size,fun i hi=>?_⟩
  have mv:∀ o,w'.cell? ⟨sb,o,none⟩=w.cell? ⟨sb,o,none⟩:=fun o=>hb.cell (p:=⟨sb,o,none⟩) hs
  obtain ⟨h0,h1,h2,h3⟩:=hc i hi
  exact ⟨(mv _).trans h0,(mv _).trans h1,(mv _).trans h2,(mv _).trans h3⟩
theorem Ints.at (h:Ints w p len F){i:Nat}(hi:i<len):∃ sb off,p=some ⟨sb,off,none⟩∧sb<w.heap.size∧w.cell? ⟨sb,off+i,none⟩=some (.int .i64 (F i)):=by
 rcases h with h | ⟨sb,off,hp,hs,hc⟩
 ·omega
 ·exact ⟨sb,off,hp,hs,hc i hi⟩
theorem Arcs.at (h:Arcs w p len A){i:Nat}(hi:i<len):∃ sb off,p=some ⟨sb,off,none⟩∧sb<w.heap.size∧w.cell? ⟨sb,off+i*4,none⟩=some (.int .i64 (A i).f)∧w.cell? ⟨sb,off+i*4+1,none⟩=some (.int .i64 (A i).t)∧w.cell? ⟨sb,off+i*4+2,none⟩=some (.int .i64 (A i).c)∧w.cell? ⟨sb,off+i*4+3,none⟩=some (.int .i64 (A i).k):=by
 rcases h with h | ⟨sb,off,hp,hs,hc⟩
 ·omega
 ·exact ⟨sb,off,hp,hs,hc i hi⟩
end
end
section
open Go.RowKit
structure Ans (e:Ending)(p:Prop):Prop where
 out:∃ b,e=.returned (.bool b)∧(b=true↔p)
theorem veil {p:Prop}(h:p):Hid p:=h
def inB (a b x:Int):Bool:=decide (a≤x∧x≤b)
theorem inB_iff {a b x:Int}:inB a b x=true↔a≤x∧x≤b:=by simp [inB]
theorem within_any (x a b:Int)(w:World):Calls Try.prog 66 #[.int .i64 x,.int .i64 a,.int .i64 b] w fun e w'=>e=.returned (.bool (inB a b x))∧w'=w:=by
 by_cases h0:a≤x
 ·by_cases h1:x≤b
  ·have e:inB a b x=true:=inB_iff.2 ⟨h0,h1⟩
   go_enter Try.func66,Try.ntmps66
   go_wp2
   go_ret
   exact ⟨by first | rfl | (rw [e]; rfl),rfl⟩
  ·have e:inB a b x=false:=by rw [Bool.eq_false_iff]; exact fun q=>h1 (inB_iff.1 q).2
   go_enter Try.func66,Try.ntmps66
   go_wp2
   go_ret
   exact ⟨by first | rfl | (rw [e]; rfl),rfl⟩
 ·have e:inB a b x=false:=by rw [Bool.eq_false_iff]; exact fun q=>h0 (inB_iff.1 q).1
  go_enter Try.func66,Try.ntmps66
  go_wp2
  go_ret
  exact ⟨by first | rfl | (rw [e]; rfl),rfl⟩
theorem arcMayBe_any (a:Ar)(N:Int)(w:World)(hN:0≤N∧N≤60):Calls Try.prog 67 #[.agg #[.int .i64 a.f,.int .i64 a.t,.int .i64 a.c,.int .i64 a.k],.int .i64 N] w fun e w'=>Ans e (ArcOk N a)∧Below w.heap.size w w':=by
 obtain ⟨f,t,c,k⟩:=a
 have hbw:Below w.heap.size w (w.alloc (.cells #[.int .i64 f,.int .i64 t,.int .i64 c,.int .i64 k] 50)):=(Jd _ _).alloc (Jb _) _
 by_cases h0:0≤f∧f≤N - 1
 ·by_cases h1:0≤t∧t≤N - 1
  ·by_cases h2:0≤c∧c≤1000
   ·have d0:inB 0 (N - 1) f=true:=inB_iff.2 h0
    have d1:inB 0 (N - 1) t=true:=inB_iff.2 h1
    have d2:inB 0 1000 c=true:=inB_iff.2 h2
    have H:=veil (Jc h0 (Jc h1 h2))
    clear h0 h1 h2
    go_enter Try.func67,Try.ntmps67
    go_wp2_with fail
    refine (within_any _ _ _ _).mono ?_
    rintro e w' ⟨rfl,rfl⟩
    rw [d0]
    go_wp2_with fail
    refine (within_any _ _ _ _).mono ?_
    rintro e w' ⟨rfl,rfl⟩
    rw [d1]
    go_wp2_with fail
    refine (within_any _ _ _ _).mono ?_
    rintro e w' ⟨rfl,rfl⟩
    rw [d2]
    go_wp2_with fail
    refine (within_any _ _ _ _).mono ?_
    rintro e w' ⟨rfl,rfl⟩
    go_wp2_with fail
    go_ret
    refine ⟨⟨_,rfl,?_⟩,hbw⟩
    rw [inB_iff]
    have:=H.out
    exact ⟨fun h=>⟨⟨this.1.1,by show f<N; omega⟩,⟨this.2.1.1,by show t<N; omega⟩,this.2.2,h⟩,fun h=>h.2.2.2⟩
   ·have d0:inB 0 (N - 1) f=true:=inB_iff.2 h0
    have d1:inB 0 (N - 1) t=true:=inB_iff.2 h1
    have d2:inB 0 1000 c=false:=by rw [Bool.eq_false_iff]; exact fun q=>h2 (inB_iff.1 q)
    have H:=veil h2
    clear h0 h1 h2
    go_enter Try.func67,Try.ntmps67
    go_wp2_with fail
    refine (within_any _ _ _ _).mono ?_
    rintro e w' ⟨rfl,rfl⟩
    rw [d0]
    go_wp2_with fail
    refine (within_any _ _ _ _).mono ?_
    rintro e w' ⟨rfl,rfl⟩
    rw [d1]
    go_wp2_with fail
    refine (within_any _ _ _ _).mono ?_
    rintro e w' ⟨rfl,rfl⟩
    rw [d2]
    go_wp2_with fail
    go_ret
    exact ⟨⟨_,rfl,⟨(fun h=>by cases h),fun h=>absurd h.2.2.1 H.out⟩⟩,hbw⟩
  ·have d0:inB 0 (N - 1) f=true:=inB_iff.2 h0
   have d1:inB 0 (N - 1) t=false:=by rw [Bool.eq_false_iff]; exact fun q=>h1 (inB_iff.1 q)
   have H:=veil h1
   clear h0 h1
   go_enter Try.func67,Try.ntmps67
   go_wp2_with fail
   refine (within_any _ _ _ _).mono ?_
   rintro e w' ⟨rfl,rfl⟩
   rw [d0]
   go_wp2_with fail
   refine (within_any _ _ _ _).mono ?_
   rintro e w' ⟨rfl,rfl⟩
   rw [d1]
   go_wp2_with fail
   go_ret
   exact ⟨⟨_,rfl,⟨(fun h=>by cases h),fun h=>absurd ⟨h.2.1.1,by have:=h.2.1.2; simp only at this; omega⟩ H.out⟩⟩,hbw⟩
 ·have d0:inB 0 (N - 1) f=false:=by rw [Bool.eq_false_iff]; exact fun q=>h0 (inB_iff.1 q)
  have H:=veil h0
  clear h0
  go_enter Try.func67,Try.ntmps67
  go_wp2_with fail
  refine (within_any _ _ _ _).mono ?_
  rintro e w' ⟨rfl,rfl⟩
  rw [d0]
  go_wp2_with fail
  go_ret
  exact ⟨⟨_,rfl,⟨(fun h=>by cases h),fun h=>absurd ⟨h.1.1,by have:=h.1.2; simp only at this; omega⟩ H.out⟩⟩,hbw⟩
end
section
open Go.RowKit
theorem beyond {w w1 w2:World}(h1:Below w.heap.size w w1)(h2:Below w1.heap.size w1 w2):Below w.heap.size w w2:=h1.trans (h2.mono h1.size)
theorem at_cells {w:World}{b:Nat}{cs:Array Value}{t:TypeId}(h:w.heap[b]?=some (.cells cs t))(i:Nat):w.cell? ⟨b,i,none⟩=cs[i]?:=by simp [World.cell?,h]
theorem at_new {w w':World}{o:Obj}(hb:Below (w.alloc o).heap.size (w.alloc o) w'):w'.heap[w.heap.size]?=some o:=by
 rw [hb.block _ (by simp)]
 exact heap_alloc_new w o
theorem mayBe_any (w:World)(N:Int)(p q:Option Addr)(ls cs la ca:Nat)(S:Nat→Int)(A:Nat→Ar)(hS:Ints w p ls S)(hA:Arcs w q la A) :
  Calls Try.prog 51 #[.agg #[.int .i64 N,.slice p ls cs,.slice q la ca]] w fun e w'=>Ans e (NetOk N ls S la A)∧Below w.heap.size w w':=by
 have hbw:Below w.heap.size w (w.alloc (.cells #[.int .i64 N,.slice p ls cs,.slice q la ca] 39)):=(Jd _ _).alloc (Jb _) _
 by_cases hN:0≤N∧N≤60
 case neg =>
  have d0:inB 0 60 N=false:=by rw [Bool.eq_false_iff]; exact fun q=>hN (inB_iff.1 q)
  have H:=veil hN
  clear hN
  go_enter Try.func51,Try.ntmps51
  go_wp2_with fail
  refine (within_any _ _ _ _).mono ?_
  rintro e w' ⟨rfl,rfl⟩
  rw [d0]
  go_wp2_with fail
  go_ret
  exact ⟨⟨_,rfl,⟨(fun h=>by cases h),fun h=>absurd h.1 H.out⟩⟩,hbw⟩
 have d0:inB 0 60 N=true:=inB_iff.2 hN
 by_cases hl:(ls:Int)=N
 case neg =>
  have dl:((ls:Int) == N)=false:=by simpa using hl
  have H:=veil hl
  clear hN hl
  go_enter Try.func51,Try.ntmps51
  go_wp2_with fail
  refine (within_any _ _ _ _).mono ?_
  rintro e w' ⟨rfl,rfl⟩
  rw [d0]
  go_wp2_with fail
  go_ret
  exact ⟨⟨_,rfl,⟨(fun h=>by cases h),fun h=>absurd h.2.1 H.out⟩⟩,hbw⟩
 subst hl
 by_cases ha:la≤600
 case neg =>
  have H:=veil ha
  have hai:(600:Int)<(la:Int):=by omega
  clear hN ha
  go_enter Try.func51,Try.ntmps51
  go_wp2_with fail
  refine (within_any _ _ _ _).mono ?_
  rintro e w' ⟨rfl,rfl⟩
  rw [d0]
  go_wp2_with fail
  go_ret
  exact ⟨⟨_,rfl,⟨(fun h=>by cases h),fun h=>absurd h.2.2.1 H.out⟩⟩,hbw⟩
 have hai:¬ (600:Int)<(la:Int):=by omega
 have Hn:=veil hN
 go_enter Try.func51,Try.ntmps51
 go_wp2_with fail
 refine (within_any _ _ _ _).mono ?_
 rintro e w' ⟨rfl,rfl⟩
 rw [d0]
 have hS1:=hS.below hbw
 have hA1:=hA.below hbw
 have Hw:=veil hbw
 clear hS hA hbw
 go_wp2_with fail
 go_loop [28] (fun i=>∃ j:Nat,j≤ls∧i=.int .i64 j∧Hid (∀ m,m<j→-1000≤S m∧S m≤1000)) (fun i=>ls - (intOf i).toNat)
 case atStart=>exact ⟨0,Jq _,rfl,fun m hm=>by omega⟩
 case' round=>skip
 obtain ⟨j,hj,rfl,hno⟩:=hrel
 by_cases hlt:j<ls
 ·obtain ⟨sb,off,rfl,hsb,hc⟩:=hS1.at hlt
  have hjI:(j:Int)<(ls:Int):=by omega
  by_cases hs:-1000≤S j∧S j≤1000
  ·have ds:inB (-1000) 1000 (S j)=true:=inB_iff.2 hs
   have hno':Hid (∀ m,m<j+1→-1000≤S m∧S m≤1000):=fun m hm=>by
    by_cases h1:m<j
    ·exact hno.out m h1
    ·obtain rfl:m=j:=by omega
     exact hs
   clear hs hS1
   go_wp2_with fail
   refine (within_any _ _ _ _).mono ?_
   rintro e w' ⟨rfl,rfl⟩
   rw [ds]
   go_wp2_with fail
   go_round
   case rel=>exact ⟨j+1,by omega,by go_num,hno'⟩
   case measure=>simp [intOf]; omega
  ·have ds:inB (-1000) 1000 (S j)=false:=by rw [Bool.eq_false_iff]; exact fun q=>hs (inB_iff.1 q)
   have H:=veil hs
   clear hs hS1
   go_wp2_with fail
   refine (within_any _ _ _ _).mono ?_
   rintro e w' ⟨rfl,rfl⟩
   rw [ds]
   go_wp2_with fail
   go_ret
   exact ⟨⟨_,rfl,⟨(fun h=>by cases h),fun h=>absurd (h.2.2.2.1 j hlt) H.out⟩⟩,Hw.out⟩
 obtain rfl:j=ls:=by omega
 clear hlt hj
 go_wp2_with fail
 obtain ⟨W,hW⟩:∃ W,w.alloc (.cells #[.int .i64 j,.slice p j cs,.slice q la ca] 39)=W:=⟨_,rfl⟩
 have hWb:W.heap[w.heap.size]?=some (.cells #[.int .i64 j,.slice p j cs,.slice q la ca] 39):=by rw [← hW]; exact heap_alloc_new w _
 rw [hW] at Hw hS1 hA1
 rw [hW]
 clear hW
 go_loopg [39] la (fun gk iv wr=>∃ i:Nat,i≤la∧la - i≤gk∧iv=.int .i64 i∧Below W.heap.size W wr∧Hid (∀ m,m<i→ArcOk j (A m)))
 case atStart=>exact ⟨0,Jq _,Jb _,rfl,Jd _ _,fun m hm=>by omega⟩
 case' round=>skip
 obtain ⟨i,hi,hgk,rfl,hb,hok⟩:=hrel
 have hwl:w.heap.size<W.heap.size:=(Ja.1 hWb).1
 have hwr:w.heap.size<wr.heap.size:=Jm hwl hb.size
 by_cases hlt:i<la
 ·obtain ⟨sb,off,rfl,hsb,g0,g1,g2,g3⟩:=(hA1.below hb).at hlt
  have c0:=at_cells ((hb.block _ hwl).trans hWb) 0
  simp only [Jg,Je] at c0
  have hiI:(i:Int)<(la:Int):=by omega
  have hwr1:w.heap.size<wr.heap.size+1:=by omega
  have hbo:Below wr.heap.size wr (wr.alloc (.cells #[.int .i64 (A i).f,.int .i64 (A i).t,.int .i64 (A i).c,.int .i64 (A i).k] 50)):=(Jd _ _).alloc (Jb _) _
  have Hb:=veil (Jc hb hbo)
  have A1:=veil (arcMayBe_any (A i) j (wr.alloc (.cells #[.int .i64 (A i).f,.int .i64 (A i).t,.int .i64 (A i).c,.int .i64 (A i).k] 50)) Hn.out)
  clear hb hbo hN
  go_wp2_with fail
  refine A1.out.mono ?_
  rintro e w2 ⟨⟨b,rfl,hbk⟩,hb2⟩
  have Hb2:=veil (Jc hbk hb2)
  clear hbk hb2
  cases b with
  | false =>
   go_wp2_with fail
   go_ret
   exact ⟨⟨_,rfl,⟨(fun h=>by cases h),fun h=>absurd (Hb2.out.1.2 (h.2.2.2.2 i hlt)) (by decide)⟩⟩,beyond Hw.out (beyond Hb.out.1 (beyond Hb.out.2 Hb2.out.2))⟩
  | true =>
   go_wp2_with fail
   go_roundg (la - (i+1))
   case measure=>omega
   case rel =>
    refine ⟨i+1,by omega,Jb _,by go_num,beyond Hb.out.1 (beyond Hb.out.2 Hb2.out.2),fun m hm=>?_⟩
    by_cases h1:m<i
    ·exact hok.out m h1
    ·obtain rfl:m=i:=by omega
     exact Hb2.out.1.1 (by simp)
 ·obtain rfl:i=la:=by omega
  clear hlt hi hN
  go_wp2_with fail
  go_ret
  exact ⟨⟨_,rfl,⟨fun _=>⟨Hn.out,rfl,ha,hno.out,hok.out⟩,fun _=>rfl⟩⟩,beyond Hw.out hb⟩
end
section
open Go.RowKit
theorem infoI:(Try.prog.info? 3).map (fun i=>(i.zero,i.size,i.bytes))=some (some (.int .i64 0),1,8):=by kernel_rfl
theorem sizeI:(Try.prog.info? 3).map (·.size)=some 1:=by kernel_rfl
def numL (n:Nat)(G:Nat→Int):List Value:=(List.range n).map (fun i=>Value.int .i64 (G i))
def Nums (w:World)(g n:Nat)(G:Nat→Int):Prop:=w.heap[g]?=some (.cells (numL n G).toArray 3)
def setN (G:Nat→Int)(k:Nat)(x:Int):Nat→Int:=fun i=>if i=k then x else G i
theorem numL_length (n:Nat)(G:Nat→Int):(numL n G).length=n:=by simp [numL]
theorem numL_at {n i:Nat}(G:Nat→Int)(h:i<n):(numL n G)[i]?=some (.int .i64 (G i)):=by simp [numL,h]
theorem numL_congr {n:Nat}{G H:Nat→Int}(h:∀ i,i<n→G i=H i):numL n G=numL n H:=by
 unfold numL
 refine List.map_congr_left (fun i hi=>?_)
 rw [h i (List.mem_range.1 hi)]
theorem numL_set (n k:Nat)(G:Nat→Int)(x:Int):(numL n G).set k (.int .i64 x)=numL n (setN G k x):=by
 refine List.ext_getElem? (fun i=>?_)
 by_cases hi:i<n
 ·rw [numL_at _ hi,List.getElem?_set]
  by_cases e:k=i
  ·subst e; simp [numL_length,hi,setN]
  ·rw [if_neg e,numL_at _ hi]; simp [setN,Ne.symm e]
 ·rw [List.getElem?_eq_none (by rw [List.length_set,numL_length]; omega),List.getElem?_eq_none (by rw [numL_length]; omega)]
section
variable {w w':World}{g n:Nat}{G H:Nat→Int}
theorem Nums.lt (h:Nums w g n G):g<w.heap.size:=(Ja.1 h).1
theorem Nums.cell (h:Nums w g n G){i:Nat}(hi:i<n):w.cell? ⟨g,i,none⟩=some (.int .i64 (G i)):=by rw [at_cells h,Jg,numL_at G hi]
theorem Nums.frozen (h:Nums w g n G)(i:Nat):w.frozen? ⟨g,i,none⟩=false:=by unfold Nums at h; simp [World.frozen?,h]
theorem Nums.move (h:Nums w g n G)(hb:w'.heap[g]?=w.heap[g]?):Nums w' g n G:=hb.trans h
theorem Nums.below (h:Nums w g n G)(hb:Below w.heap.size w w'):Nums w' g n G:=h.move (hb.block g h.lt)
theorem Nums.congr (h:Nums w g n G)(e:∀ i,i<n→G i=H i):Nums w g n H:=by unfold Nums at h ⊢; rw [h,numL_congr e]
theorem Nums.set (h:Nums w g n G)(k:Nat)(x:Int):Nums (w.setCell ⟨g,k,none⟩ (.int .i64 x)) g n (setN G k x):=by
 unfold Nums at h ⊢
 have:(w.setCell ⟨g,k,none⟩ (.int .i64 x)).heap[g]?=some (.cells ((numL n G).toArray.setIfInBounds k (.int .i64 x)) 3):=by
  simp [World.setCell,Array.getElem?_modify,h]
 rw [this,Jh,numL_set]
theorem nums_made {base:Nat}{v:Value}(h:w.ownsRow base 3 1 v n (madeCells (Value.cells (.int .i64 0)) (n*1)).toList)(hv:v=.slice (some ⟨g,0,none⟩) n n):Nums w g n (fun _=>0):=by
 obtain ⟨hl,hr⟩:=h
 rcases hr with ⟨e,_⟩ | ⟨g',cap,cur,e,_,hg,_,_,hs,ht⟩
 ·rw [e] at hv; cases hv
 ·rw [e] at hv
  cases hv
  unfold Nums
  rw [hg]
  congr 2
  have e1:cur.toList=(madeCells (Value.cells (.int .i64 0)) (n*1)).toList:=by
   rw [← ht]
   exact (List.take_of_length_le (by simp [hs])).symm
  have e2:cur=(madeCells (Value.cells (.int .i64 0)) (n*1)):=by
   apply Array.ext'
   exact e1
  rw [e2]
  apply Array.ext'
  refine List.ext_getElem? (fun i=>?_)
  have hlen:(madeCells (Value.cells (.int .i64 0)) (n*1)).toList.length=n:=by rw [← e1]; simpa using hs
  by_cases hi:i<n
  ·have:(madeCells (Value.cells (.int .i64 0)) (n*1)).toList[i]?=some (.int .i64 0):=by
    simp [madeCells,Value.cells,hi,Nat.mod_one]
   rw [this]
   exact (numL_at (fun _=>0) hi).symm
  ·rw [List.getElem?_eq_none (by omega),List.getElem?_eq_none (by simp [numL]; omega)]
end
end
section
open Go.RowKit
def left (S:Nat→Int)(A:Nat→Ar)(F:Nat→Int)(i v:Nat):Int:=S v - out A F v i+inn A F v i
theorem left_succ (S:Nat→Int)(A:Nat→Ar)(F:Nat→Int)(i v:Nat)(h0:0≤(A i).f)(h1:0≤(A i).t) :
  setN (setN (left S A F i) (A i).f.toNat (left S A F i (A i).f.toNat - F i)) (A i).t.toNat (setN (left S A F i) (A i).f.toNat (left S A F i (A i).f.toNat - F i) (A i).t.toNat+F i) v=left S A F (i+1) v:=by
 have e0:(A i).f=(v:Int)↔v=(A i).f.toNat:=by omega
 have e1:(A i).t=(v:Int)↔v=(A i).t.toNat:=by omega
 simp only [left,out,inn,e0,e1]
 generalize (A i).f.toNat=f
 generalize (A i).t.toNat=t
 unfold setN
 by_cases ht:v=t
 ·subst ht
  rw [if_pos rfl,if_pos rfl]
  by_cases hf:v=f
  ·subst hf; rw [if_pos rfl,if_pos rfl]; (try simp only [left]); omega
  ·rw [if_neg hf,if_neg hf]; (try simp only [left]); omega
 ·rw [if_neg ht,if_neg ht]
  by_cases hf:v=f
  ·subst hf; rw [if_pos rfl,if_pos rfl]; (try simp only [left]); omega
  ·rw [if_neg hf,if_neg hf]; (try simp only [left]); omega
theorem left_bound {S:Nat→Int}{A:Nat→Ar}{F:Nat→Int}{i v:Nat}(hS:-1000≤S v∧S v≤1000)(hi:i≤600)(hF:∀ m,m<i→0≤F m∧F m≤1000):-700000≤left S A F i v∧left S A F i v≤700000:=by
 have h1:=out_bound (A:=A) (v:=v) hF
 have h2:=inn_bound (A:=A) (v:=v) hF
 unfold left
 omega
theorem splice_all (n:Nat)(G H:Nat→Int):splice (numL n G) 0 (numL n H)=numL n H:=by
 simp [splice,numL_length,List.drop_eq_nil_of_le]
theorem isFlow_any (w:World)(p q r:Option Addr)(ls cs la ca lf cf:Nat)(S:Nat→Int)(A:Nat→Ar)(F:Nat→Int)(hn:NetOk ls ls S la A)(hS:Ints w p ls S)(hA:Arcs w q la A)(hF:Ints w r lf F) :
  Calls Try.prog 52 #[.agg #[.int .i64 ls,.slice p ls cs,.slice q la ca],.slice r lf cf] w fun e w'=>Ans e (FlowOk ls S la A lf F)∧Below w.heap.size w w':=by
 have hbw:Below w.heap.size w (w.alloc (.cells #[.int .i64 ls,.slice p ls cs,.slice q la ca] 39)):=(Jd _ _).alloc (Jb _) _
 by_cases hl:lf=la
 case neg =>
  have dl:((lf:Int) == (la:Int))=false:=by simp; omega
  have H:=veil hl
  clear hl
  go_enter Try.func52,Try.ntmps52
  go_wp2_with fail
  go_ret
  exact ⟨⟨_,rfl,⟨(fun h=>by cases h),fun h=>absurd h.1 H.out⟩⟩,hbw⟩
 subst hl
 obtain ⟨i0,hi0,hz0,hz1,hz2⟩:=info_parts infoI
 have h60:ls≤60:=by have:=hn.1.2; omega
 have h600:lf≤600:=hn.2.2.1
 have hsrc:0<(numL ls S).length→∃ sb off:Nat,p=some ⟨sb,off,none⟩∧sb<w.heap.size∧∀ (j:Nat) (v:Value),(numL ls S)[j]?=some v→w.cell? ⟨sb,off+j,none⟩=some v:=fun h0=>by
  rw [numL_length] at h0
  rcases hS with h | ⟨sb,off,hp,hs,hc⟩
  ·omega
  ·refine ⟨sb,off,hp,hs,fun j v hv=>?_⟩
   have hj:j<ls:=by
    have:=(List.getElem?_eq_some_iff.1 hv).1
    rwa [numL_length] at this
   rw [numL_at S hj] at hv
   rw [hc j hj]
   exact hv
 have Hn:=veil hn
 have Hw:=veil hbw
 have Hx:=veil (Jc hS (Jc hA hF))
 have Hs:=veil hsrc
 clear hn hbw hS hA hF hsrc
 have hlenC:(numL ls S).length=Nat.min ls ls:=by rw [numL_length]; exact (Nat.min_self ls).symm
 have h1c:∀ v∈numL ls S,v.oneCell'=true:=fun v hv=>by
  obtain ⟨i,_,rfl⟩:=List.mem_map.1 hv
  rfl
 have hfitC:0+(numL ls S).length≤(numL ls (fun _=>0)).length:=by rw [numL_length,numL_length]; omega
 obtain ⟨W,hW⟩:∃ W,w.alloc (.cells #[.int .i64 ls,.slice p ls cs,.slice q lf ca] 39)=W:=⟨_,rfl⟩
 have hWz:W.heap.size=w.heap.size+1:=by rw [← hW]; simp
 have hWb:W.heap[w.heap.size]?=some (.cells #[.int .i64 ls,.slice p ls cs,.slice q lf ca] 39):=by rw [← hW]; exact heap_alloc_new w _
 have HW:=veil (Jc hW (Jc hWz hWb))
 clear hWz hWb hW
 go_enter Try.func52,Try.ntmps52
 go_upto_region 4 with (first
  | (at_make; refine wpList_make_full _ rfl _ _ 22 rfl 0 3 i0 (.int .i64 0) 1 Try.underlying22 hi0 hz0 hz1 .i64 .i64 (ls:Int) (ls:Int) ls rfl rfl rfl rfl (by rw [hz2]; omega) (by unfold maxLen; omega) (Jq _) ?_; intro w1 hrow hg1)
  | fail)
 rw [HW.out.1] at hrow hg1 Hw
 have hN1:=nums_made (g:=W.heap.size) hrow rfl
 rw [HW.out.2.1] at hN1
 have hb1:Below (w.heap.size+1) W w1:=(Jd _ _).grown hg1 (by have:=HW.out.2.1; omega) (fun k e=>by cases e)
 have hsz1:w.heap.size<w1.heap.size:=by have h1:=hb1.size; have h2:=HW.out.2.1; omega
 have k1:=at_cells ((hb1.block _ (by omega)).trans HW.out.2.2) 1
 simp only [Jg,Jf,Je] at k1
 have hsrc1:0<(numL ls S).length→∃ ad:Addr,p=some ad∧∀ (j:Nat) (v:Value),(numL ls S)[j]?=some v→w1.cell? (ad.add j)=some v:=fun h0=>by
  obtain ⟨sb,off,h2,h3,h4⟩:=Hs.out h0
  exact ⟨_,h2,fun j v hv=>by rw [Addr.add_lit]; exact (hb1.cell (p:=⟨sb,off+j,none⟩) (by show sb<w.heap.size+1; omega)).trans ((Hw.out.cell (p:=⟨sb,off+j,none⟩) h3).trans (h4 j v hv))⟩
 have H1:=veil (Jc hN1 (Jc hb1 hsrc1))
 clear hrow hg1 hN1 hb1 hsrc1
 go_upto_region 5 with (first
  | (refine wpList_copy_splice rfl _ _ 22 22 rfl 3 Try.underlying22 sizeI _ _ _ _ _ _ rfl rfl (w.heap.size+1) 0 (numL ls (fun _=>0)) 3 H1.out.1 (numL ls S) hlenC (fun h0=>⟨by simp,H1.out.2.2 h0⟩) hfitC h1c (w.heap.size+1) W H1.out.2.1 (Jb _) ?_; intro w2 hG2 hB2)
  | fail)
 clear k1 hsz1 H1 Hs hlenC h1c hfitC
 have k2:=at_cells ((hB2.block _ (by omega)).trans HW.out.2.2) 2
 simp only [Jg,Jf,Je] at k2
 have hsz2:w.heap.size<w2.heap.size:=by have h1:=hB2.size; have h2:=HW.out.2.1; omega
 have hG:Nums w2 (w.heap.size+1) ls (left S A F 0):=by
  have:=hG2.out
  rw [splice_all] at this
  exact Nums.congr (G:=S) this (fun i _=>by simp [left,out,inn])
 have H2:=veil (Jc hG hB2)
 clear hG hG2 hB2
 go_wp2_with fail
 go_loopg [26] lf (fun gk iv wr=>∃ i:Nat,i≤lf∧lf - i≤gk∧iv=.int .i64 i∧Nums wr (w.heap.size+1) ls (left S A F i)∧Below (w.heap.size+1) W wr∧Hid (∀ m,m<i→0≤F m∧F m≤(A m).c))
 case atStart=>exact ⟨0,Jq _,Jb _,rfl,H2.out.1,H2.out.2,fun m hm=>by omega⟩
 case' round=>skip
 clear k2 hsz2 H2
 obtain ⟨i,hi,hgk,rfl,hG,hb,hok⟩:=hrel
 have hbw:Below w.heap.size w wr:=Hw.out.trans (hb.mono (Nat.le_succ _))
 by_cases hlt:i<lf
 ·obtain ⟨sb,off,rfl,hsb',g0,g1,g2,g3⟩:=Hx.out.2.1.at hlt
  obtain ⟨sf,of',rfl,hsf',gf⟩:=Hx.out.2.2.at hlt
  have hsb:sb<wr.heap.size:=Jm hsb' hbw.size
  have hsf:sf<wr.heap.size:=Jm hsf' hbw.size
  have mvb:∀ o,wr.cell? ⟨sb,o,none⟩=w.cell? ⟨sb,o,none⟩:=fun o=>hbw.cell (p:=⟨sb,o,none⟩) hsb'
  rw [← mvb] at g0 g1 g2 g3
  rw [← hbw.cell (p:=⟨sf,of'+i,none⟩) hsf'] at gf
  clear mvb
  have hiI:(i:Int)<(lf:Int):=by omega
  have hac:=Hn.out.2.2.2.2 i hlt
  obtain ⟨f,hf⟩:∃ f:Nat,(A i).f=(f:Int):=⟨(A i).f.toNat,by have:=hac.1.1; omega⟩
  obtain ⟨t,ht⟩:∃ t:Nat,(A i).t=(t:Int):=⟨(A i).t.toNat,by have:=hac.2.1.1; omega⟩
  have hfl:f<ls:=by have:=hac.1.2; omega
  have htl:t<ls:=by have:=hac.2.1.2; omega
  rw [hf] at g0
  rw [ht] at g1
  have hfr:sf<wr.heap.size+1:=by omega
  have hsr:sb<wr.heap.size+1:=by omega
  have hbo:Below wr.heap.size wr (wr.alloc (.cells #[.int .i64 f,.int .i64 t,.int .i64 (A i).c,.int .i64 (A i).k] 50)):=(Jd _ _).alloc (Jb _) _
  have Hh:=veil (Jc hG (Jc hb (Jc hbw (Jc hbo (Jc hac (Jc hf ht))))))
  clear hG hb hbw hbo hac hf ht
  by_cases hc:0≤F i∧F i≤(A i).c
  ·have d0:inB 0 (A i).c (F i)=true:=inB_iff.2 hc
   have Hc:=veil hc
   clear hc
   go_upto_region 8 with fail
   go_quiet ((go_at_call 66; exact Calls.quiet_of_same (within_any _ _ _ _)))
   rw [d0]
   go_upto_region 10 with fail
   obtain ⟨u,hu⟩:∃ u,(wr.alloc (.cells #[.int .i64 f,.int .i64 t,.int .i64 (A i).c,.int .i64 (A i).k] 50)).drewN nq=u:=⟨_,rfl⟩
   have hbu:Below wr.heap.size wr u:=by rw [← hu]; exact ⟨Hh.out.2.2.2.1.os,Hh.out.2.2.2.1.tape,Hh.out.2.2.2.1.output,Hh.out.2.2.2.1.size,Hh.out.2.2.2.1.block⟩
   have hub:u.heap[wr.heap.size]?=some (.cells #[.int .i64 f,.int .i64 t,.int .i64 (A i).c,.int .i64 (A i).k] 50):=by rw [← hu]; exact heap_alloc_new wr _
   rw [hu]
   clear hu
   have hGu:=Hh.out.1.below hbu
   have a0:=at_cells hub 0
   simp only [Jg,Je] at a0
   have gfu:=(hbu.cell (p:=⟨sf,of'+i,none⟩) hsf).trans gf
   have gv:=hGu.cell hfl
   have fz:=hGu.frozen f
   have z0:wr.heap.size<u.heap.size:=(Ja.1 hub).1
   have z1:sf<u.heap.size:=Jm hsf hbu.size
   have z2:w.heap.size+1<u.heap.size:=hGu.lt
   have hm1000:∀ m,m<i→0≤F m∧F m≤1000:=fun m hm=>⟨(hok.out m hm).1,Int.le_trans (hok.out m hm).2 (Hn.out.2.2.2.2 m (by omega)).2.2.1.2⟩
   have hB:=left_bound (A:=A) (v:=f) (Hn.out.2.2.2.1 f hfl) (Nat.le_trans hi Hn.out.2.2.1) hm1000
   have hBt:=veil (left_bound (A:=A) (v:=t) (Hn.out.2.2.2.1 t htl) (Nat.le_trans hi Hn.out.2.2.1) hm1000)
   have hF0:=Hc.out.1
   have hF1:F i≤1000:=Int.le_trans Hc.out.2 Hh.out.2.2.2.2.1.2.2.1.2
   have hfI:(f:Int)<(ls:Int):=by omega
   have htI:(t:Int)<(ls:Int):=by omega
   have HU:=veil (Jc hbu (Jc hub hGu))
   clear hbu hub hGu hm1000 g0 g1 g2 g3 gf
   go_region
   go_upto_region 11 with fail
   have hgw:w.heap.size+1<wr.heap.size:=Hh.out.1.lt
   obtain ⟨u2,hu2⟩:∃ u2,(u.setCell ⟨w.heap.size+1,f,none⟩ (.int .i64 (left S A F i f - F i))).drew=u2:=⟨_,rfl⟩
   have hG2:Nums u2 (w.heap.size+1) ls (setN (left S A F i) f (left S A F i f - F i)):=by rw [← hu2]; exact HU.out.2.2.set f _
   have hub2:u2.heap[wr.heap.size]?=some (.cells #[.int .i64 f,.int .i64 t,.int .i64 (A i).c,.int .i64 (A i).k] 50):=by
    rw [← hu2]
    exact (Below.heap_setCell u ⟨w.heap.size+1,f,none⟩ _ wr.heap.size (by simp; omega)).trans HU.out.2.1
   have gf2:u2.cell? ⟨sf,of'+i,none⟩=some (.int .i64 (F i)):=by
    have e:u2.heap[sf]?=u.heap[sf]?:=by rw [← hu2]; exact Below.heap_setCell u ⟨w.heap.size+1,f,none⟩ _ sf (by simp; omega)
    rw [← gfu]
    simp only [World.cell?,e]
   have hB2:Below (w.heap.size+1) W u2:=by
    rw [← hu2]
    exact ((Hh.out.2.1.trans (HU.out.1.mono (by omega))).setCell (p:=⟨w.heap.size+1,f,none⟩) (Jb _) _).drew
   rw [hu2]
   have y0:wr.heap.size<u2.heap.size:=(Ja.1 hub2).1
   have y1:sf<u2.heap.size:=by omega
   have y2:w.heap.size+1<u2.heap.size:=by omega
   have b1:=at_cells hub2 1
   simp only [Jg,Jf,Je] at b1
   have gv2:=hG2.cell htl
   have fz2:=hG2.frozen t
   have hBx:-710000≤setN (left S A F i) f (left S A F i f - F i) t∧setN (left S A F i) f (left S A F i f - F i) t≤710000:=by
    have:=hBt.out
    unfold setN
    split <;> omega
   obtain ⟨x,hx⟩:∃ x,setN (left S A F i) f (left S A F i f - F i) t=x:=⟨_,rfl⟩
   rw [hx] at gv2 hBx
   have HV:=veil (Jc hG2 (Jc hB2 hx))
   clear hG2 hub2 hB2 hx a0 gfu gv fz z0 z1 z2 hB hu2
   go_region
   go_upto_region 12 with fail
   go_wp2_with fail
   go_roundg (lf - (i+1))
   case measure=>omega
   case rel =>
    refine ⟨i+1,by omega,Jb _,by go_num,?_,(HV.out.2.1.setCell (p:=⟨w.heap.size+1,t,none⟩) (Jb _) _).drew,fun m hm=>?_⟩
    ·have h1:=HV.out.1.set t (x+F i)
     refine Nums.congr (G:=setN (setN (left S A F i) f (left S A F i f - F i)) t (x+F i)) h1 (fun v _=>?_)
     have h2:=left_succ S A F i v Hh.out.2.2.2.2.1.1.1 Hh.out.2.2.2.2.1.2.1.1
     rw [← h2,Hh.out.2.2.2.2.2.1,Hh.out.2.2.2.2.2.2]
     simp only [Jn]
     rw [HV.out.2.2]
    ·by_cases h1:m<i
     ·exact hok.out m h1
     ·obtain rfl:m=i:=by omega
      exact Hc.out
  ·have d0:inB 0 (A i).c (F i)=false:=by rw [Bool.eq_false_iff]; exact fun q=>hc (inB_iff.1 q)
   have Hc:=veil hc
   clear hc
   go_upto_region 8 with fail
   go_quiet ((go_at_call 66; exact Calls.quiet_of_same (within_any _ _ _ _)))
   rw [d0]
   go_wp2_with fail
   go_ret
   have hbo:=Hh.out.2.2.2.1
   exact ⟨⟨_,rfl,⟨(fun h=>by cases h),fun h=>absurd (h.2.1 i hlt) Hc.out⟩⟩,beyond Hh.out.2.2.1 ⟨hbo.os,hbo.tape,hbo.output,hbo.size,hbo.block⟩⟩
 obtain rfl:i=lf:=by omega
 clear hlt hi hgk
 have Hb:=veil (Jc hG (Jc hb hbw))
 have hgl:=hG.lt
 clear hG hb hbw
 go_wp2_with fail
 go_loop [64] (fun iv=>∃ v:Nat,v≤ls∧iv=.int .i64 v∧Hid (∀ m,m<v→left S A F i m=0)) (fun iv=>ls - (intOf iv).toNat)
 case atStart=>exact ⟨0,Jq _,rfl,fun m hm=>by omega⟩
 case' round=>skip
 obtain ⟨v,hv,rfl,hz⟩:=hrel
 by_cases hlt:v<ls
 ·have hvI:(v:Int)<(ls:Int):=by omega
  have gv:=Hb.out.1.cell hlt
  by_cases h0:left S A F i v=0
  ·rw [h0] at gv
   go_wp2_with fail
   go_round
   case rel =>
    refine ⟨v+1,by omega,by go_num,fun m hm=>?_⟩
    by_cases h1:m<v
    ·exact hz.out m h1
    ·obtain rfl:m=v:=by omega
     exact h0
   case measure=>simp [intOf]; omega
  ·have d0:(left S A F i v == 0)=false:=by simpa using h0
   have Hc:=veil h0
   clear h0
   go_wp2_with fail
   go_ret
   exact ⟨⟨_,rfl,⟨(fun h=>by cases h),fun h=>absurd (by have:=h.2.2 v hlt; unfold left; omega) Hc.out⟩⟩,Hb.out.2.2⟩
 ·obtain rfl:v=ls:=by omega
  clear hlt hv
  go_wp2_with fail
  go_ret
  refine ⟨⟨_,rfl,⟨fun _=>⟨rfl,hok.out,fun m hm=>?_⟩,fun _=>rfl⟩⟩,Hb.out.2.2⟩
  have:=hz.out m hm
  unfold left at this
  omega
end
end Go.Proofs.Ytjdindfjfpdikab
