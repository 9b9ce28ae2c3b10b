import Derived.Deep.LoopGhost
import Derived.Test.YtjdindfjfpdikaaGreatB20
import Derived.Test.YtjdindfjfpdikaaGreatB21
import Derived.Test.YtjdindfjfpdikaaGreatB22
import Derived.Test.YtjdindfjfpdikaaGreatB28
import Derived.Test.YtjdindfjfpdikaaGreatPre
set_option maxRecDepth 100000
set_option maxHeartbeats 8000000
namespace Go.Proofs.YtjdindfjfpdikaaGreat
section
open Go.RowKit
def onF (R:RSt)(P:Nat→Nat)(i j:Nat):Int:=if j<i then onId R P j else R.on.getD j (-1)
def wtF (R:RSt)(P:Nat→Nat)(i j:Nat):Int:=if j<i∧(0≤onId R P j∨0≤R.on.getD j (-1)) then 0 else R.wt.getD j 0
def Rn (R:RSt)(P:Nat→Nat)(i:Nat):RSt:={ R with on:=intL R.t3.length (onF R P i),wt:=intL R.t3.length (wtF R P i) }
theorem Ze6 {l:List Int}{T:Nat}{d:Int}{f:Nat→Int}(hl:l.length=T)(h:∀ j,j<T→f j=l.getD j d):intL T f=l:=by
 apply List.ext_getElem
 ·rw [Zad,hl]
 ·intro j h1 h2
  rw [ZaM,h j (by omega),Zac h2]
theorem Zkg {R:RSt}(hf:RunFit R)(P:Nat→Nat):Rn R P 0=R:=by
 have e1:intL R.t3.length (onF R P 0)=R.on:=Ze6 (d:=-1) hf.lo (fun j _=>by unfold onF; rw [if_neg (by omega)])
 have e2:intL R.t3.length (wtF R P 0)=R.wt:=Ze6 (d:=0) hf.wl (fun j _=>by unfold wtF; rw [if_neg (by omega)])
 unfold Rn
 rw [e1,e2]
theorem ZfN {R:RSt}{P:Nat→Nat}{i:Nat}:(intL R.t3.length (onF R P i)).set i (onId R P i)=intL R.t3.length (onF R P (i+1)):=by
 rw [Zez]
 refine Za2 (fun j _=>?_)
 simp only [updI,onF]
 by_cases e:j=i
 ·rw [if_pos e,if_pos (by omega),e]
 ·rw [if_neg e]
  by_cases q:j<i
  ·rw [if_pos q,if_pos (by omega)]
  ·rw [if_neg q,if_neg (by omega)]
theorem ZiD {R:RSt}{P:Nat→Nat}{i:Nat}(h:0≤onId R P i∨0≤R.on.getD i (-1)):(intL R.t3.length (wtF R P i)).set i 0=intL R.t3.length (wtF R P (i+1)):=by
 rw [Zez]
 refine Za2 (fun j _=>?_)
 simp only [updI,wtF]
 by_cases e:j=i
 ·rw [if_pos e,if_pos ⟨by omega,by rw [e]; exact h⟩]
 ·rw [if_neg e]
  by_cases q:j<i∧(0≤onId R P j∨0≤R.on.getD j (-1))
  ·rw [if_pos q,if_pos ⟨by omega,q.2⟩]
  ·rw [if_neg q,if_neg (fun r=>q ⟨by omega,r.2⟩)]
theorem Zk9 {R:RSt}{P:Nat→Nat}{i:Nat}(h:¬ (0≤onId R P i∨0≤R.on.getD i (-1))):intL R.t3.length (wtF R P i)=intL R.t3.length (wtF R P (i+1)):=by
 refine Za2 (fun j _=>?_)
 simp only [wtF]
 by_cases e:j=i
 ·rw [if_neg (by omega),if_neg (fun r=>h (by rw [← e]; exact r.2))]
 ·by_cases q:j<i∧(0≤onId R P j∨0≤R.on.getD j (-1))
  ·rw [if_pos q,if_pos ⟨by omega,q.2⟩]
  ·rw [if_neg q,if_neg (fun r=>q ⟨by omega,r.2⟩)]
theorem Zhm {w:World}{b:Nat}{cs:Array Value}{t:TypeId}(h:w.heap[b]?=some (.cells cs t))(i:Nat):w.cell? ⟨b,i,none⟩=cs[i]?:=by simp [World.cell?,h]
theorem Zdw {w:World}{b:Nat}{cs:Array Value}{t:TypeId}(h:w.heap[b]?=some (.cells cs t))(i:Nat):w.frozen? ⟨b,i,none⟩=false:=by simp [World.frozen?,h]
theorem ARow.slK {b0:Nat}{w:World}{v:Value}{xs:List Ar}(h:ARow b0 w v xs):∃ p c,v=.slice p xs.length c:=by
 rcases h.2 with ⟨e1,e2⟩ | ⟨g,cap,cur,e1,_⟩
 ·exact ⟨none,0,by rw [e1,e2]⟩
 ·exact ⟨_,_,e1⟩
theorem ARow.weak {b0 b1:Nat}{w:World}{v:Value}{xs:List Ar}(h:ARow b0 w v xs)(hb:b1≤b0):ARow b1 w v xs:=by
 refine ⟨h.1,?_⟩
 rcases h.2 with q | ⟨g,cap,cur,e,hg,r⟩
 ·exact Jr q
 ·exact Js ⟨g,cap,cur,e,by omega,r⟩
section
variable {w:World}{rb:Nat}{V:RVs}{x7 x8 x9 x10 x11:Value}{R:RSt}
theorem Zg2 (h:RefAt w rb V x7 x8 x9 x10 x11 R)(hf:RunFit R)(P:Nat→Nat)(q:Nat→Int)(vo:Value)(hon:RowAt w 3 1 cellsI vo (intL R.t3.length (onId R P)))(hP:PlaceOk R.t1.length (sR R) P R.t3.length)(hC:Cert R.t1.length (sR R) (cR R) P R.t3.length q)(hap:∀ b,vo.ownBlock=some b→b∉foot rb V)(NN:Int)(SUP:List Int)(NET:List Ar)(hNet:∀ W':World,Below w.heap.size w W'→Calls Tryz.prog 76 #[.pointer (some ⟨rb,0,none⟩)] W' fun e w'=>∃ vs va,e=.returned (.agg #[.int .i64 NN,vs,va])∧NRow W'.heap.size w' vs SUP∧ARow W'.heap.size w' va NET∧Below W'.heap.size W' w') :
  Calls Tryz.prog 43 #[.pointer (some ⟨rb,0,none⟩),.int .i64 (pcost (cR R) P R.t3.length),vo] w fun e w'=>e=.returned (.bool true)∧∃ vs va,RefAt w' rb V (.int .i64 (pcost (cR R) P R.t3.length)) (.bool true) (.int .i64 NN) vs va (Rn R P R.t3.length)∧NRow w.heap.size w' vs SUP∧ARow w.heap.size w' va NET∧Only (foot rb V) w w':=by
 have hl8:=hf.len1
 have hl16:=hf.len3
 have A0:=hid (Zej h hf)
 obtain ⟨po,co,hvo⟩:=Zah hon
 rw [Zad] at hvo
 subst hvo
 have hPb:=ZbJ hf (on:=P) (i:=R.t3.length) (Jb _)
 go_enter Tryz.func43,Tryz.ntmps43
 go_wp2_with fail
 refine A0.out.mono ?_
 rintro e w1 ⟨vl,rfl,hvl,hb1⟩
 rw [Zem hf] at hvl
 have H0:=hid (Jc hvl hb1)
 clear A0 hvl hb1
 go_wp2_with fail
 go_loopg [8,9] R.t3.length (fun gk sv iv wr=>∃ i:Nat,i≤R.t3.length∧R.t3.length - i≤gk∧iv=.int .i64 i∧sv=.int .i64 (pcost (cR R) P i)∧Hid (NRow w.heap.size wr vl (intL R.t1.length (leftF R P i))∧Below w.heap.size w wr))
 case atStart =>
  refine ⟨0,Jq _,Jb _,rfl,rfl,?_,H0.out.2⟩
  have e:intL R.t1.length (leftF R P 0)=intL R.t1.length (leftF R (fun _=>0) 0):=Za2 (fun k _=>by unfold leftF; simp [cnt])
  rw [e]
  exact H0.out.1
 case' round=>skip
 clear H0
 obtain ⟨i,hi,hgk,rfl,rfl,H1⟩:=hrel
 rename World=>W0
 by_cases hlt:i<R.t3.length
 ·have hiI:(i:Int)<(R.t3.length:Int):=by omega
  have hPi:=hP.le i hlt
  have pbA:=(ZbJ hf (on:=P) (i:=i) (by omega)).1
  have pbB:=(ZbJ hf (on:=P) (i:=i) (by omega)).2
  have cb:=ZaS hf (i:=i) (k:=P i) hlt
  have cbA:=cb.1
  have cbB:=cb.2
  have ep:pcost (cR R) P (i+1)=pcost (cR R) P i+cR R i (P i):=rfl
  have hpW:=h.below H1.out.2
  have hoW:=hon.below H1.out.2
  rcases hoW.shape (fun _=>rfl) with ⟨_,e0⟩ | ⟨go,capo,curo,hvo,_,hglo,_,_,hco⟩
  ·have e9:=congrArg List.length e0
   rw [Zad] at e9
   simp only [List.length_nil] at e9
   omega
  rw [Zad] at hvo
  have o0:=(hco i 0 (by rw [Zad]; exact hlt) (by decide)).1
  rw [Nat.mul_one,Nat.add_zero,ZaM] at o0
  simp only [cellsI,Je] at o0
  cases hvo
  by_cases hm:P i<R.t1.length
  ·have eid:onId R P i=R.t1[P i].1:=by unfold onId; rw [if_pos hm,Zac hm]
   have hid1:=hf.id1 _ (Jl hm)
   rw [eid] at o0
   have A1:=hid (Zap W0 rb 1 V.v1 R.t1 R.t1[P i].1 (by decide) hpW.c1 hpW.r1 (by omega))
   rw [hf.at1 _ hm] at A1
   have hleft:0<leftF R P i (P i):=by
    have h1:=Zhu (P:=P) (x:=P i) hlt rfl
    have h2:=hP.room (P i) hm
    unfold leftF
    omega
   have hleft4:leftF R P i (P i)≤4:=by
    have:=hf.sl _ (Jl hm)
    unfold leftF sR
    rw [Zac hm]
    omega
   obtain ⟨gl,cl,el,hglb,hgl,hlc⟩:=H1.out.1.at (by omega)
   obtain ⟨l0,l1⟩:=hlc (P i) hm
   subst el
   have hlb:(leftF R P i (P i) == 0)=false:=by simp; omega
   have hkI:((P i:Nat):Int)<(R.t1.length:Int):=by omega
   have hidb:(R.t1[P i].1 == (-1:Int))=false:=by simp; omega
   have hgne:go≠gl:=by have:=hon.lt (b:=go) rfl; omega
   have hl5:=H1.out.1.put (k:=P i) (leftF R P i (P i) - 1)
   have elf:intL R.t1.length (updI (leftF R P i) (P i) (leftF R P i (P i) - 1))=intL R.t1.length (leftF R P (i+1)):=Za2 (fun x _=>by
    simp only [updI]
    unfold leftF
    simp only [cnt]
    by_cases e9:x=P i
    ·rw [if_pos e9,e9,if_pos rfl]; omega
    ·rw [if_neg e9,if_neg (fun r=>e9 r.symm)]; omega)
   rw [elf] at hl5
   have hb5:Below w.heap.size w (W0.setCell ⟨gl,P i,none⟩ (.int .i64 (leftF R P i (P i) - 1))):=H1.out.2.setCell (p:=⟨gl,P i,none⟩) hglb _
   have A2:=hid (Zfb (h.below hb5) hf P i hlt hPi)
   rw [eid] at A2
   have H5:=hid (Jc hl5 (Jc hb5 ep))
   generalize R.t1[P i].1=idm at *
   generalize leftF R P i (P i)=lf at *
   clear hlc hco elf hl5 hb5 ep eid hoW hpW
   go_wp2_with (first
    | (go_at_call 62; refine A1.out.mono ?_; rintro e W1 ⟨rfl,rfl⟩)
    | (go_at_call 68; refine A2.out.mono ?_; rintro e W2 ⟨rfl,b2⟩)
    | fail)
   go_roundg (R.t3.length - (i+1))
   case measure=>omega
   case rel=>exact ⟨i+1,by omega,Jb _,by go_num,by rw [H5.out.2.2],H5.out.1.below b2,Zai H5.out.2.1 b2⟩
  ·have eid:onId R P i=-1:=by unfold onId; rw [if_neg hm]
   rw [eid] at o0
   have A2:=hid (Zfb hpW hf P i hlt hPi)
   rw [eid] at A2
   have elf:intL R.t1.length (leftF R P i)=intL R.t1.length (leftF R P (i+1)):=Za2 (fun x hx=>by
    unfold leftF
    simp only [cnt]
    rw [if_neg (by omega)]
    omega)
   have hl5:=H1.out.1
   rw [elf] at hl5
   have H5:=hid (Jc hl5 (Jc H1.out.2 ep))
   clear hco elf hl5 ep eid hoW hpW
   go_wp2_with (first
    | (go_at_call 68; refine A2.out.mono ?_; rintro e W2 ⟨rfl,b2⟩)
    | fail)
   go_roundg (R.t3.length - (i+1))
   case measure=>omega
   case rel=>exact ⟨i+1,by omega,Jb _,by go_num,by rw [H5.out.2.2],H5.out.1.below b2,Zai H5.out.2.1 b2⟩
 ·obtain rfl:i=R.t3.length:=by omega
  have hpW:=h.below H1.out.2
  have A3:=hid (ZgZ hpW hf)
  have H6:=hid H1.out.2
  clear H1 hgk hlt hi hpW
  go_upto_region 13 with (first
   | (go_at_call 75; refine A3.out.mono ?_; rintro e W1 ⟨on',p',rfl,hL,b1⟩)
   | fail)
  have elst:pcost (cR R) on' R.t3.length=pcost (cR R) P R.t3.length:=Int.le_antisymm (hL.cert.best hL.place hP) (hC.best hP hL.place)
  rw [elst]
  obtain ⟨sm,hsm⟩:∃ sm,pcost (cR R) P R.t3.length=sm:=⟨_,rfl⟩
  have hpW:=h.below (Zai H6.out b1)
  have c5:=hpW.c5
  obtain ⟨pon,con,hvon⟩:=Zah hpW.ro
  rw [hvon,hf.lo] at c5
  have hrb:=hpW.lt
  have H7:=hid (Jc (Zai H6.out b1) hsm)
  simp only [hsm]
  clear A3 elst hL b1 H6 hpW hsm
  go_upto_region 15 with fail
  have A4:=hid (hNet W1 H7.out.1)
  go_upto_region 16 with (first
   | (go_at_call 76; refine A4.out.mono ?_; rintro e W2 ⟨vs,va,rfl,hvs,hva,b2⟩; have hr2:=(h.below H7.out.1).below b2; have g9:=Zhm hr2.cells 9; have g10:=Zhm hr2.cells 10; have g11:=Zhm hr2.cells 11; simp only [Jg,Jf,Je] at g9 g10 g11; have m9:=Zdw hr2.cells 9; have m10:=Zdw hr2.cells 10; have m11:=Zdw hr2.cells 11; have hrb2:=hr2.lt; obtain ⟨ps,cs,hvs2⟩:=Zah hvs.row; subst hvs2; obtain ⟨pa,ca,hva2⟩:=hva.slK; subst hva2)
   | fail)
  obtain ⟨W3,hW3⟩:∃ W3,(((W2.setCell ⟨rb,9,none⟩ (.int .i64 NN)).setCell ⟨rb,10,none⟩ (.slice ps SUP.length cs)).setCell ⟨rb,11,none⟩ (.slice pa NET.length ca))=W3:=⟨_,rfl⟩
  have hr3:RefAt W3 rb V x7 x8 (.int .i64 NN) (.slice ps SUP.length cs) (.slice pa NET.length ca) R:=by
   rw [← hW3]
   exact ((hr2.setx 9 _ x7 x8 (.int .i64 NN) x10 x11 rfl).setx 10 _ x7 x8 (.int .i64 NN) (.slice ps SUP.length cs) x11 rfl).setx 11 _ x7 x8 (.int .i64 NN) (.slice ps SUP.length cs) (.slice pa NET.length ca) rfl
  have hrbF:rb∈foot rb V:=Jp
  have hO3:Only (foot rb V) w W3:=by
   rw [← hW3]
   have g0:∀ (W:World) (i:Nat) (v:Value),Only (foot rb V) W (W.setCell ⟨rb,i,none⟩ v):=fun W i v=>Only.of_grown' (Zaa W ⟨rb,i,none⟩ v) (fun b e=>by cases e; exact hrbF)
   exact (((Only.of_below (Zai H7.out.1 b2)).trans (g0 _ _ _)).trans (g0 _ _ _)).trans (g0 _ _ _)
  have hwW:=(Zai H7.out.1 b2).size
  have hrbw:rb<w.heap.size:=h.lt
  have hbb2:∀ b,W1.heap.size≤b→w.heap.size≤b:=fun b hb=>Nat.le_trans H7.out.1.size hb
  have hvs3:NRow w.heap.size W3 (.slice ps SUP.length cs) SUP:=by
   have h1:NRow w.heap.size W2 (.slice ps SUP.length cs) SUP:=NRow.of hvs.row (fun b e=>hbb2 b (hvs.base b e))
   have hne:(Value.slice ps SUP.length cs).ownBlock≠some rb:=fun e=>by have:=h1.base rb e; omega
   rw [← hW3]
   exact ((h1.kept (Zaa _ _ _) (Js hne)).kept (Zaa _ _ _) (Js hne)).kept (Zaa _ _ _) (Js hne)
  have hva3:ARow w.heap.size W3 (.slice pa NET.length ca) NET:=by
   have h1:ARow w.heap.size W2 (.slice pa NET.length ca) NET:=ARow.weak hva (H7.out.1.size)
   have hne:(Value.slice pa NET.length ca).ownBlock≠some rb:=fun e=>by have:=h1.base rb e; omega
   rw [← hW3]
   exact ((h1.kept (Zaa _ _ _) (Js hne)).kept (Zaa _ _ _) (Js hne)).kept (Zaa _ _ _) (Js hne)
  rw [hW3]
  have hfw:∀ b∈foot rb V,b<w.heap.size:=h.lts
  have H8:=hid (Jc hr3 (Jc hO3 (Jc hvs3 (Jc hva3 hfw))))
  clear hW3 hr3 hO3 hvs3 hva3 hvs hva b2 hr2 g9 g10 g11 m9 m10 m11 A4 hbb2 hwW hfw hrb2
  have e0:=hid (Zkg hf P)
  go_wp2_with fail
  go_loopg [12] R.t3.length (fun gk iv wr=>∃ i:Nat,i≤R.t3.length∧R.t3.length - i≤gk∧iv=.int .i64 i∧Hid (RefAt wr rb V x7 x8 (.int .i64 NN) (.slice ps SUP.length cs) (.slice pa NET.length ca) (Rn R P i)∧Only (foot rb V) w wr∧NRow w.heap.size wr (.slice ps SUP.length cs) SUP∧ARow w.heap.size wr (.slice pa NET.length ca) NET))
  case atStart=>exact ⟨0,Jq _,Jb _,rfl,by rw [e0.out]; exact H8.out.1,H8.out.2.1,H8.out.2.2.1,H8.out.2.2.2.1⟩
  case' round=>skip
  obtain ⟨i,hi,hgk,rfl,H9⟩:=hrel
  rename World=>Z0
  by_cases hlt:i<R.t3.length
  ·have hiI:(i:Int)<(R.t3.length:Int):=by omega
   have hr:=H9.out.1
   have hoZ:RowAt Z0 3 1 cellsI (.slice po R.t3.length co) (intL R.t3.length (onId R P)):=hon.move (fun b e=>H9.out.2.1.block b (hon.lt e) (hap b e))
   rcases hoZ.shape (fun _=>rfl) with ⟨_,e9⟩ | ⟨gz,capz,curz,hvz,_,hglz,_,_,hcz⟩
   ·have e8:=congrArg List.length e9
    rw [Zad] at e8
    simp only [List.length_nil] at e8
    omega
   rw [Zad] at hvz
   have z0:=(hcz i 0 (by rw [Zad]; exact hlt) (by decide)).1
   rw [Nat.mul_one,Nat.add_zero,ZaM] at z0
   simp only [cellsI,Je] at z0
   cases hvz
   have elo:(Rn R P i).on.length=R.t3.length:=Zad _ _
   have elw:(Rn R P i).wt.length=R.t3.length:=Zad _ _
   rcases hr.ro.shape (fun _=>rfl) with ⟨_,e9⟩ | ⟨g5,c5',cur5,hv5,_,hgl5,_,_,hc5⟩
   ·have e8:(Rn R P i).on.length=0:=congrArg List.length e9
    omega
   rw [elo] at hv5
   rcases hr.rt.shape (fun _=>rfl) with ⟨_,e9⟩ | ⟨g6,c6',cur6,hv6,_,hgl6,_,_,hc6⟩
   ·have e8:(Rn R P i).wt.length=0:=congrArg List.length e9
    omega
   rw [elw] at hv6
   have a0:=(hc5 i 0 (by rw [elo]; exact hlt) (by decide)).1
   rw [Nat.mul_one,Nat.add_zero] at a0
   simp only [cellsI,Je] at a0
   have ea:onF R P i i=R.on.getD i (-1):=by unfold onF; rw [if_neg (by omega)]
   replace a0:Z0.cell? ⟨g5,i,none⟩=some (.int .i64 (R.on.getD i (-1))):=a0.trans (congrArg (fun x:Int=>some (Value.int .i64 x)) ((ZaM (n:=R.t3.length) (f:=onF R P i) (i:=i) (by rw [Zad]; exact hlt)).trans ea))
   obtain ⟨b0,b1⟩:=hc6 i 0 (by rw [elw]; exact hlt) (by decide)
   rw [Nat.mul_one,Nat.add_zero] at b0 b1
   simp only [cellsI,Je] at b0
   obtain ⟨wi,hwi⟩:∃ x,(Rn R P i).wt[i]'(by rw [elw]; exact hlt)=x:=⟨_,rfl⟩
   rw [hwi] at b0
   obtain ⟨oi,hoi⟩:∃ x,onId R P i=x:=⟨_,rfl⟩
   obtain ⟨ri,hri⟩:∃ x,R.on.getD i (-1)=x:=⟨_,rfl⟩
   rw [hoi] at z0
   rw [hri] at a0
   have d5:=hr.c5
   rw [hv5] at d5
   have d6:=hr.c6
   rw [hv6] at d6
   have hrbZ:=hr.lt
   have Ho:=hid (Jc hoi hri)
   have hput:=hr.put_wt (g:=g6) (cap:=c6') (by rw [hv6,elw]) i 0
   have hg6f:g6∈foot rb V:=Jk _ (Zab.2 (by simp [hv6,Value.ownBlock]))
   have hg6w:g6<w.heap.size:=H8.out.2.2.2.2 g6 hg6f
   have hSp:NRow w.heap.size (Z0.setCell ⟨g6,i,none⟩ (.int .i64 0)) (.slice ps SUP.length cs) SUP:=H9.out.2.2.1.kept (Zaa _ _ _) (Js (fun e=>by have:=H9.out.2.2.1.base g6 (by simpa using e); omega))
   have hAp:ARow w.heap.size (Z0.setCell ⟨g6,i,none⟩ (.int .i64 0)) (.slice pa NET.length ca) NET:=H9.out.2.2.2.kept (Zaa _ _ _) (Js (fun e=>by have:=H9.out.2.2.2.base g6 (by simpa using e); omega))
   have Hp:=hid (Jc hput (Jc hSp hAp))
   clear hc5 hc6 hcz hput hSp hAp hr hwi ea
   by_cases hA:0≤oi
   ·have hAb:decide (0≤oi)=true:=by simpa using hA
    have ewt:=ZiD (R:=R) (P:=P) (i:=i) (Jr (by rw [Ho.out.1]; exact hA))
    have HRw:=Hp.out.1.1
    have e6:(Rn R P i).wt.set i 0=intL R.t3.length (wtF R P (i+1)):=ewt
    rw [e6] at HRw
    have HRY:=hid HRw
    clear ewt e6 HRw
    go_upto_region 21 with fail
    obtain ⟨Z1,hZ1⟩:∃ Z1,(Z0.setCell ⟨g6,i,none⟩ (.int .i64 0))=Z1:=⟨_,rfl⟩
    have hr1:RefAt Z1 rb V x7 x8 (.int .i64 NN) (.slice ps SUP.length cs) (.slice pa NET.length ca) { Rn R P i with wt:=intL R.t3.length (wtF R P (i+1)) }:=by rw [← hZ1]; exact HRY.out
    have hO1:Only (foot rb V) w Z1:=by rw [← hZ1]; exact (H9.out.2.1).trans Hp.out.1.2
    have hS1:NRow w.heap.size Z1 (.slice ps SUP.length cs) SUP:=by rw [← hZ1]; exact Hp.out.2.1
    have hA1:ARow w.heap.size Z1 (.slice pa NET.length ca) NET:=by rw [← hZ1]; exact Hp.out.2.2
    rw [hZ1]
    have oo1:RowAt Z1 3 1 cellsI (.slice (some ⟨gz,0,none⟩) R.t3.length co) (intL R.t3.length (onId R P)):=hon.move (fun b e=>hO1.block b (hon.lt e) (hap b e))
    rcases oo1.shape (fun _=>rfl) with ⟨_,e9⟩ | ⟨gx,capx,curx,hvx,_,hglx,_,_,hcx⟩
    ·have e8:=congrArg List.length e9
     rw [Zad] at e8
     simp only [List.length_nil] at e8
     omega
    rw [Zad] at hvx
    have y0:=(hcx i 0 (by rw [Zad]; exact hlt) (by decide)).1
    rw [Nat.mul_one,Nat.add_zero,ZaM,Ho.out.1] at y0
    simp only [cellsI,Je] at y0
    cases hvx
    rcases hr1.ro.shape (fun _=>rfl) with ⟨_,e9⟩ | ⟨g5,c5',cur5,hv5,_,hgl5,_,_,hc5⟩
    ·have e8:(intL R.t3.length (onF R P i)).length=0:=congrArg List.length e9
     rw [Zad] at e8
     omega
    have el5:(Rn R P i).on.length=R.t3.length:=Zad _ _
    have hv5':V.vo=.slice (some ⟨g5,0,none⟩) R.t3.length c5':=by rw [hv5]; show Value.slice _ (Rn R P i).on.length _=_; rw [el5]
    obtain ⟨y1,y2⟩:=hc5 i 0 (by show i<(Rn R P i).on.length; rw [el5]; exact hlt) (by decide)
    rw [Nat.mul_one,Nat.add_zero] at y1 y2
    have y1':∃ u,Z1.cell? ⟨g5,i,none⟩=some u:=⟨_,y1⟩
    obtain ⟨u,y1u⟩:=y1'
    have d5:=hr1.c5
    rw [hv5'] at d5
    have hrb1:=hr1.lt
    have hP2:=hr1.put_on (g:=g5) (cap:=c5') (by rw [hv5']; show _=Value.slice _ (Rn R P i).on.length _; rw [el5]) i oi
    have eon:(Rn R P i).on.set i oi=intL R.t3.length (onF R P (i+1)):=by rw [← Ho.out.1]; exact ZfN
    have hfin:RefAt (Z1.setCell ⟨g5,i,none⟩ (.int .i64 oi)).drew rb V x7 x8 (.int .i64 NN) (.slice ps SUP.length cs) (.slice pa NET.length ca) (Rn R P (i+1)):=by
     have h1:=hP2.1
     have e7:({ ({ Rn R P i with wt:=intL R.t3.length (wtF R P (i+1)) }:RSt) with on:=(Rn R P i).on.set i oi }:RSt)=Rn R P (i+1):=by rw [eon]; rfl
     rw [e7] at h1
     exact h1.below (Jd _ _).drew
    have hg5f:g5∈foot rb V:=Jk _ (Zab.2 (by simp [hv5',Value.ownBlock]))
    have hg5w:g5<w.heap.size:=H8.out.2.2.2.2 g5 hg5f
    have hS2:NRow w.heap.size (Z1.setCell ⟨g5,i,none⟩ (.int .i64 oi)).drew (.slice ps SUP.length cs) SUP:=(hS1.kept (Zaa Z1 ⟨g5,i,none⟩ (.int .i64 oi)) (Js (fun e=>by have:=hS1.base g5 (by simpa using e); omega))).below (Jd _ _).drew
    have hA2:ARow w.heap.size (Z1.setCell ⟨g5,i,none⟩ (.int .i64 oi)).drew (.slice pa NET.length ca) NET:=(hA1.kept (Zaa Z1 ⟨g5,i,none⟩ (.int .i64 oi)) (Js (fun e=>by have:=hA1.base g5 (by simpa using e); omega))).below (Jd _ _).drew
    have H12:=hid (Jc hfin (Jc ((hO1.trans hP2.2).drew) (Jc hS2 hA2)))
    clear hfin hS2 hA2 hP2 eon hc5 hcx y1 hr1 hO1 hS1 hA1 hZ1 hv5
    go_region
    go_wp2_with fail
    go_roundg (R.t3.length - (i+1))
    case measure=>omega
    case rel=>exact ⟨i+1,by omega,Jb _,by go_num,H12.out⟩
   ·have hAb:decide (0≤oi)=false:=by simpa using hA
    by_cases hB:0≤ri
    ·have hBb:decide (0≤ri)=true:=by simpa using hB
     have ewt:=ZiD (R:=R) (P:=P) (i:=i) (Js (by rw [Ho.out.2]; exact hB))
     have HRw:=Hp.out.1.1
     have e6:(Rn R P i).wt.set i 0=intL R.t3.length (wtF R P (i+1)):=ewt
     rw [e6] at HRw
     have HRY:=hid HRw
     clear ewt e6 HRw
     go_upto_region 21 with fail
     obtain ⟨Z1,hZ1⟩:∃ Z1,(Z0.setCell ⟨g6,i,none⟩ (.int .i64 0))=Z1:=⟨_,rfl⟩
     have hr1:RefAt Z1 rb V x7 x8 (.int .i64 NN) (.slice ps SUP.length cs) (.slice pa NET.length ca) { Rn R P i with wt:=intL R.t3.length (wtF R P (i+1)) }:=by rw [← hZ1]; exact HRY.out
     have hO1:Only (foot rb V) w Z1:=by rw [← hZ1]; exact (H9.out.2.1).trans Hp.out.1.2
     have hS1:NRow w.heap.size Z1 (.slice ps SUP.length cs) SUP:=by rw [← hZ1]; exact Hp.out.2.1
     have hA1:ARow w.heap.size Z1 (.slice pa NET.length ca) NET:=by rw [← hZ1]; exact Hp.out.2.2
     rw [hZ1]
     have oo1:RowAt Z1 3 1 cellsI (.slice (some ⟨gz,0,none⟩) R.t3.length co) (intL R.t3.length (onId R P)):=hon.move (fun b e=>hO1.block b (hon.lt e) (hap b e))
     rcases oo1.shape (fun _=>rfl) with ⟨_,e9⟩ | ⟨gx,capx,curx,hvx,_,hglx,_,_,hcx⟩
     ·have e8:=congrArg List.length e9
      rw [Zad] at e8
      simp only [List.length_nil] at e8
      omega
     rw [Zad] at hvx
     have y0:=(hcx i 0 (by rw [Zad]; exact hlt) (by decide)).1
     rw [Nat.mul_one,Nat.add_zero,ZaM,Ho.out.1] at y0
     simp only [cellsI,Je] at y0
     cases hvx
     rcases hr1.ro.shape (fun _=>rfl) with ⟨_,e9⟩ | ⟨g5,c5',cur5,hv5,_,hgl5,_,_,hc5⟩
     ·have e8:(intL R.t3.length (onF R P i)).length=0:=congrArg List.length e9
      rw [Zad] at e8
      omega
     have el5:(Rn R P i).on.length=R.t3.length:=Zad _ _
     have hv5':V.vo=.slice (some ⟨g5,0,none⟩) R.t3.length c5':=by rw [hv5]; show Value.slice _ (Rn R P i).on.length _=_; rw [el5]
     obtain ⟨y1,y2⟩:=hc5 i 0 (by show i<(Rn R P i).on.length; rw [el5]; exact hlt) (by decide)
     rw [Nat.mul_one,Nat.add_zero] at y1 y2
     have y1':∃ u,Z1.cell? ⟨g5,i,none⟩=some u:=⟨_,y1⟩
     obtain ⟨u,y1u⟩:=y1'
     have d5:=hr1.c5
     rw [hv5'] at d5
     have hrb1:=hr1.lt
     have hP2:=hr1.put_on (g:=g5) (cap:=c5') (by rw [hv5']; show _=Value.slice _ (Rn R P i).on.length _; rw [el5]) i oi
     have eon:(Rn R P i).on.set i oi=intL R.t3.length (onF R P (i+1)):=by rw [← Ho.out.1]; exact ZfN
     have hfin:RefAt (Z1.setCell ⟨g5,i,none⟩ (.int .i64 oi)).drew rb V x7 x8 (.int .i64 NN) (.slice ps SUP.length cs) (.slice pa NET.length ca) (Rn R P (i+1)):=by
      have h1:=hP2.1
      have e7:({ ({ Rn R P i with wt:=intL R.t3.length (wtF R P (i+1)) }:RSt) with on:=(Rn R P i).on.set i oi }:RSt)=Rn R P (i+1):=by rw [eon]; rfl
      rw [e7] at h1
      exact h1.below (Jd _ _).drew
     have hg5f:g5∈foot rb V:=Jk _ (Zab.2 (by simp [hv5',Value.ownBlock]))
     have hg5w:g5<w.heap.size:=H8.out.2.2.2.2 g5 hg5f
     have hS2:NRow w.heap.size (Z1.setCell ⟨g5,i,none⟩ (.int .i64 oi)).drew (.slice ps SUP.length cs) SUP:=(hS1.kept (Zaa Z1 ⟨g5,i,none⟩ (.int .i64 oi)) (Js (fun e=>by have:=hS1.base g5 (by simpa using e); omega))).below (Jd _ _).drew
     have hA2:ARow w.heap.size (Z1.setCell ⟨g5,i,none⟩ (.int .i64 oi)).drew (.slice pa NET.length ca) NET:=(hA1.kept (Zaa Z1 ⟨g5,i,none⟩ (.int .i64 oi)) (Js (fun e=>by have:=hA1.base g5 (by simpa using e); omega))).below (Jd _ _).drew
     have H12:=hid (Jc hfin (Jc ((hO1.trans hP2.2).drew) (Jc hS2 hA2)))
     clear hfin hS2 hA2 hP2 eon hc5 hcx y1 hr1 hO1 hS1 hA1 hZ1 hv5
     go_region
     go_wp2_with fail
     go_roundg (R.t3.length - (i+1))
     case measure=>omega
     case rel=>exact ⟨i+1,by omega,Jb _,by go_num,H12.out⟩
    ·have hBb:decide (0≤ri)=false:=by simpa using hB
     have ewt:=Zk9 (R:=R) (P:=P) (i:=i) (fun q=>by rw [Ho.out.1,Ho.out.2] at q; rcases q with q | q; exact hA q; exact hB q)
     have HRw:=H9.out.1
     have e6:Rn R P i={ Rn R P i with wt:=intL R.t3.length (wtF R P (i+1)) }:=by rw [← ewt]; rfl
     have HRY:Hid (RefAt Z0 rb V x7 x8 (.int .i64 NN) (.slice ps SUP.length cs) (.slice pa NET.length ca) { Rn R P i with wt:=intL R.t3.length (wtF R P (i+1)) }):=by rw [← e6]; exact HRw
     clear ewt e6 HRw
     go_upto_region 21 with fail
     obtain ⟨Z1,hZ1⟩:∃ Z1,Z0=Z1:=⟨_,rfl⟩
     have hr1:RefAt Z1 rb V x7 x8 (.int .i64 NN) (.slice ps SUP.length cs) (.slice pa NET.length ca) { Rn R P i with wt:=intL R.t3.length (wtF R P (i+1)) }:=by rw [← hZ1]; exact HRY.out
     have hO1:Only (foot rb V) w Z1:=by rw [← hZ1]; exact H9.out.2.1
     have hS1:NRow w.heap.size Z1 (.slice ps SUP.length cs) SUP:=by rw [← hZ1]; exact H9.out.2.2.1
     have hA1:ARow w.heap.size Z1 (.slice pa NET.length ca) NET:=by rw [← hZ1]; exact H9.out.2.2.2
     rw [hZ1]
     have oo1:RowAt Z1 3 1 cellsI (.slice (some ⟨gz,0,none⟩) R.t3.length co) (intL R.t3.length (onId R P)):=hon.move (fun b e=>hO1.block b (hon.lt e) (hap b e))
     rcases oo1.shape (fun _=>rfl) with ⟨_,e9⟩ | ⟨gx,capx,curx,hvx,_,hglx,_,_,hcx⟩
     ·have e8:=congrArg List.length e9
      rw [Zad] at e8
      simp only [List.length_nil] at e8
      omega
     rw [Zad] at hvx
     have y0:=(hcx i 0 (by rw [Zad]; exact hlt) (by decide)).1
     rw [Nat.mul_one,Nat.add_zero,ZaM,Ho.out.1] at y0
     simp only [cellsI,Je] at y0
     cases hvx
     rcases hr1.ro.shape (fun _=>rfl) with ⟨_,e9⟩ | ⟨g5,c5',cur5,hv5,_,hgl5,_,_,hc5⟩
     ·have e8:(intL R.t3.length (onF R P i)).length=0:=congrArg List.length e9
      rw [Zad] at e8
      omega
     have el5:(Rn R P i).on.length=R.t3.length:=Zad _ _
     have hv5':V.vo=.slice (some ⟨g5,0,none⟩) R.t3.length c5':=by rw [hv5]; show Value.slice _ (Rn R P i).on.length _=_; rw [el5]
     obtain ⟨y1,y2⟩:=hc5 i 0 (by show i<(Rn R P i).on.length; rw [el5]; exact hlt) (by decide)
     rw [Nat.mul_one,Nat.add_zero] at y1 y2
     have y1':∃ u,Z1.cell? ⟨g5,i,none⟩=some u:=⟨_,y1⟩
     obtain ⟨u,y1u⟩:=y1'
     have d5:=hr1.c5
     rw [hv5'] at d5
     have hrb1:=hr1.lt
     have hP2:=hr1.put_on (g:=g5) (cap:=c5') (by rw [hv5']; show _=Value.slice _ (Rn R P i).on.length _; rw [el5]) i oi
     have eon:(Rn R P i).on.set i oi=intL R.t3.length (onF R P (i+1)):=by rw [← Ho.out.1]; exact ZfN
     have hfin:RefAt (Z1.setCell ⟨g5,i,none⟩ (.int .i64 oi)).drew rb V x7 x8 (.int .i64 NN) (.slice ps SUP.length cs) (.slice pa NET.length ca) (Rn R P (i+1)):=by
      have h1:=hP2.1
      have e7:({ ({ Rn R P i with wt:=intL R.t3.length (wtF R P (i+1)) }:RSt) with on:=(Rn R P i).on.set i oi }:RSt)=Rn R P (i+1):=by rw [eon]; rfl
      rw [e7] at h1
      exact h1.below (Jd _ _).drew
     have hg5f:g5∈foot rb V:=Jk _ (Zab.2 (by simp [hv5',Value.ownBlock]))
     have hg5w:g5<w.heap.size:=H8.out.2.2.2.2 g5 hg5f
     have hS2:NRow w.heap.size (Z1.setCell ⟨g5,i,none⟩ (.int .i64 oi)).drew (.slice ps SUP.length cs) SUP:=(hS1.kept (Zaa Z1 ⟨g5,i,none⟩ (.int .i64 oi)) (Js (fun e=>by have:=hS1.base g5 (by simpa using e); omega))).below (Jd _ _).drew
     have hA2:ARow w.heap.size (Z1.setCell ⟨g5,i,none⟩ (.int .i64 oi)).drew (.slice pa NET.length ca) NET:=(hA1.kept (Zaa Z1 ⟨g5,i,none⟩ (.int .i64 oi)) (Js (fun e=>by have:=hA1.base g5 (by simpa using e); omega))).below (Jd _ _).drew
     have H12:=hid (Jc hfin (Jc ((hO1.trans hP2.2).drew) (Jc hS2 hA2)))
     clear hfin hS2 hA2 hP2 eon hc5 hcx y1 hr1 hO1 hS1 hA1 hZ1 hv5
     go_region
     go_wp2_with fail
     go_roundg (R.t3.length - (i+1))
     case measure=>omega
     case rel=>exact ⟨i+1,by omega,Jb _,by go_num,H12.out⟩
  ·obtain rfl:i=R.t3.length:=by omega
   have hr:=H9.out.1
   have g7:=Zhm hr.cells 7
   have g8:=Zhm hr.cells 8
   simp only [Jg,Jf,Je] at g7 g8
   have m7:=Zdw hr.cells 7
   have m8:=Zdw hr.cells 8
   have hrbZ:=hr.lt
   have hr8:=(hr.setx 7 (.int .i64 sm) (.int .i64 sm) x8 (.int .i64 NN) (.slice ps SUP.length cs) (.slice pa NET.length ca) rfl).setx 8 (.bool true) (.int .i64 sm) (.bool true) (.int .i64 NN) (.slice ps SUP.length cs) (.slice pa NET.length ca) rfl
   have g1:∀ (W:World) (i:Nat) (v:Value),Only (foot rb V) W (W.setCell ⟨rb,i,none⟩ v):=fun W i v=>Only.of_grown' (Zaa W ⟨rb,i,none⟩ v) (fun b e=>by cases e; exact hrbF)
   have hO8:Only (foot rb V) w ((Z0.setCell ⟨rb,7,none⟩ (.int .i64 sm)).setCell ⟨rb,8,none⟩ (.bool true)):=(H9.out.2.1.trans (g1 _ _ _)).trans (g1 _ _ _)
   have hS8:NRow w.heap.size ((Z0.setCell ⟨rb,7,none⟩ (.int .i64 sm)).setCell ⟨rb,8,none⟩ (.bool true)) (.slice ps SUP.length cs) SUP:=by
    have hne:(Value.slice ps SUP.length cs).ownBlock≠some rb:=fun e=>by have:=H9.out.2.2.1.base rb e; omega
    exact (H9.out.2.2.1.kept (Zaa _ _ _) (Js hne)).kept (Zaa _ _ _) (Js hne)
   have hA8:ARow w.heap.size ((Z0.setCell ⟨rb,7,none⟩ (.int .i64 sm)).setCell ⟨rb,8,none⟩ (.bool true)) (.slice pa NET.length ca) NET:=by
    have hne:(Value.slice pa NET.length ca).ownBlock≠some rb:=fun e=>by have:=H9.out.2.2.2.base rb e; omega
    exact (H9.out.2.2.2.kept (Zaa _ _ _) (Js hne)).kept (Zaa _ _ _) (Js hne)
   rw [← H7.out.2] at hr8
   have H10:=hid (Jc hr8 (Jc hS8 (Jc hA8 hO8)))
   clear hr hr8 hS8 hA8 hO8 g1
   go_wp2_with fail
   go_ret
   refine ⟨rfl,.slice ps SUP.length cs,.slice pa NET.length ca,?_⟩
   have hq:=H10.out
   rw [H7.out.2] at hq ⊢
   exact hq
end
end
section
open Go.RowKit
structure SolveFit (R:RSt):Prop where
 net:NetFit R
 len0:R.t0.length≤4
 rk:∀ x∈R.t1,0≤x.2.1∧x.2.1≤99
def nodesR (R:RSt):Nat:=(nodeR R 3 100).toNat
theorem ZbI (R:RSt):nodeR R 3 100=(nodesR R:Int)∧2≤nodesR R:=by
 unfold nodesR nodeR
 omega
theorem ZhV {R:RSt}(h:SolveFit R):nodesR R≤1000:=by
 have h1:=Zaq R 3 100
 have h2:=h.net.run.len1
 have h3:=h.net.run.len2
 have h4:=h.len0
 have e:lensR R 3=0+R.t0.length+R.t1.length+R.t2.length:=rfl
 unfold nodesR nodeR
 rw [e]
 omega
section
variable {w:World}{rb:Nat}{V:RVs}{x7 x8 x9 x10 x11:Value}{R:RSt}
theorem Zg3 (h:RefAt w rb V x7 x8 x9 x10 x11 R)(hf:SolveFit R)(P:Nat→Nat)(q:Nat→Int)(vo:Value)(hon:RowAt w 3 1 cellsI vo (intL R.t3.length (onId R P)))(hP:PlaceOk R.t1.length (sR R) P R.t3.length)(hC:Cert R.t1.length (sR R) (cR R) P R.t3.length q)(hap:∀ b,vo.ownBlock=some b→b∉foot rb V) :
  Calls Tryz.prog 43 #[.pointer (some ⟨rb,0,none⟩),.int .i64 (pcost (cR R) P R.t3.length),vo] w fun e w'=>e=.returned (.bool true)∧∃ vs va,RefAt w' rb V (.int .i64 (pcost (cR R) P R.t3.length)) (.bool true) (.int .i64 (nodesR R)) vs va (Rn R P R.t3.length)∧NRow w.heap.size w' vs (intL (nodesR R) (updI (supF R) 1 (-(R.t3.length:Int))))∧ARow w.heap.size w' va (netR R)∧Only (foot rb V) w w' :=
 Zg2 h hf.net.run P q vo hon hP hC hap (nodesR R) (intL (nodesR R) (updI (supF R) 1 (-(R.t3.length:Int)))) (netR R) (fun _ hb=>Zic (h.below hb) hf.net (nodesR R) (ZbI R).1 (ZbI R).2 (ZhV hf) hf.rk)
end
end
section
section
variable {R:RSt}
structure Came (R:RSt)(F:Nat→Int)(y:Nat)(d:Dest)(x:Int)(p:Nat):Prop where
 way:wayR R y d x
 arc:∃ i,i<(netR R).length∧arcN R i=⟨nd R (.task y),nd R (.dest d),1,x⟩∧1≤F i
 le:p≤R.t1.length
 onM:p<R.t1.length→d=.mach p∨(d=.rack (rkR R p)∨d=.clus∧∃ i,i<(netR R).length∧arcN R i=⟨nd R (.dest .clus),nd R (.dest (.rack (rkR R p))),1000,0⟩∧1≤F i)∧∃ i,i<(netR R).length∧arcN R i=⟨nd R (.dest (.rack (rkR R p))),nd R (.dest (.mach p)),slR R p,0⟩∧1≤F i
 onN:p=R.t1.length→∃ j,d=.job j
def prcR (R:RSt)(C:Nat→Int):Prc:=⟨C 1,C 0,fun r=>C (nd R (.dest (.rack r))).toNat,fun k=>C (nd R (.dest (.mach k))).toNat,fun j=>C (nd R (.dest (.job j))).toNat,fun y=>C (nd R (.task y)).toNat⟩
theorem Zh3 (C:Nat→Int)(d:Dest):(prcR R C).at d=C (nd R (.dest d)).toNat:=by cases d <;> rfl
structure NetN (R:RSt)(N:Nat):Prop where
 eq:(N:Int)=2+(lensR R 3:Int)+((idsR R 3 100).length:Int)
theorem Fits.low {N:Nat}(h:Fits R)(hN:NetN R N){n:Nd}(hv:VN R n):nd R n<(N:Int):=by
 have hm:=ZaI (R:=R) (show 0≤3 by omega)
 rcases h.code hv with (rfl | rfl) | ⟨k,id,h1,h2,e,h3⟩
 ·show (1:Int)<_; rw [hN.eq]; omega
 ·show (0:Int)<_; rw [hN.eq]; omega
 ·rw [e,hN.eq]
  have h4:=ZaO h2 h1
  have hk:k≤3:=by rcases h3 with ⟨q,_⟩ | ⟨q,_⟩ | ⟨q,_⟩ | ⟨q,_⟩ <;> omega
  by_cases q:k=3
  ·subst q
   have:=Zdy h2 h1
   unfold nodeR
   omega
  ·have:=ZaI (R:=R) (show k+1≤3 by omega)
   omega
theorem Fits.taskN (h:Fits R){y:Nat}(hy:y<R.t3.length):2+(lensR R 3:Int)≤nd R (.task y)∧nd R (.task y)<2+(lensR R 3:Int)+((idsR R 3 100).length:Int):=by
 rcases h.code (n:=.task y) hy with (q | q) | ⟨k,id,h1,h2,e,h3⟩
 ·cases q
 ·cases q
 ·have hk:k=3:=by rcases h3 with ⟨q,r,q',_⟩ | ⟨q,r,q',_⟩ | ⟨q,r,q',_⟩ | ⟨q,_⟩ <;> first | (cases q'; done) | exact q
  subst hk
  have:=Zdy h2 h1
  rw [e]
  unfold nodeR
  omega
theorem Fits.midN (h:Fits R){n:Nd}(hv:VN R n)(ht:∀ y,n≠.task y)(hs:n≠.sink):supN R (nd R n).toNat=0:=by
 rcases h.code hv with (rfl | rfl) | ⟨k,id,h1,h2,e,h3⟩
 ·exact absurd rfl hs
 ·exact Zgt (Jq _)
 ·have h4:=ZaO h2 h1
  have hk:k+1≤3:=by rcases h3 with ⟨q,_⟩ | ⟨q,_⟩ | ⟨q,_⟩ | ⟨q,r,q',_⟩ <;> first | omega | exact absurd q' (ht r)
  have:=ZaI (R:=R) hk
  rw [e]
  exact Ziu (by omega) (by omega)
section
variable {N:Nat}{F C:Nat→Int}
theorem NetFlow.mid (h:NetFlow R N F)(hf:Fits R)(hN:NetN R N){n:Nd}(hv:VN R n)(ht:∀ y,n≠.task y)(hs:n≠.sink):inR R F n=ouR R F n:=by
 have h1:=hf.low hN hv
 have h2:=(hf.two hv).1
 have:=h.bal (nd R n).toNat (by omega)
 rw [hf.midN hv ht hs] at this
 unfold inR ouR
 omega
theorem NetFlow.one (h:NetFlow R N F)(hf:Fits R)(hN:NetN R N){y:Nat}(hy:y<R.t3.length):ouR R F (.task y)=1:=by
 have h1:=hf.low hN (n:=.task y) hy
 have h2:=hf.taskN hy
 exact h.task hf.net hf.ids (v:=(nd R (.task y)).toNat) (by omega) (by omega)
theorem ZeQ (hf:Fits R){i:Nat}{a:Ar}{n:Nd}(hv:VN R n)(e:arcN R i=a)(ht:a.t=nd R n):(arcN R i).t=((nd R n).toNat:Int):=by
 have:=(hf.two hv).1
 rw [e,ht]; omega
theorem Zfq (hf:Fits R){i:Nat}{a:Ar}{n:Nd}(hv:VN R n)(e:arcN R i=a)(ht:a.f=nd R n):(arcN R i).f=((nd R n).toNat:Int):=by
 have:=(hf.two hv).1
 rw [e,ht]; omega
theorem NetFlow.two (h:NetFlow R N F)(hf:Fits R){k:Nat}(hk:k<R.t1.length) :
  ∃ i0 i1,(i0<(netR R).length∧arcN R i0=⟨nd R (.dest (.mach k)),nd R .sink,slR R k,0⟩)∧(i1<(netR R).length∧arcN R i1=⟨nd R (.dest (.rack (rkR R k))),nd R (.dest (.mach k)),slR R k,0⟩) ∧
   inR R F (.dest (.mach k))=F i0∧F i0≤slR R k∧F i1≤F i0:=by
 obtain ⟨id,e,h1,h2⟩:=Zcb hk hf.net.run.id1 (hf.net.run.at1 k hk)
 have en:nd R (.dest (.mach k))=nodeR R 1 id:=by show nodeR R 1 _=_; rw [e,Jn]
 obtain ⟨i0,i1,a0,a1,q1,q2,q3⟩:=h.mach hf.node hf.net h1 (by show 0≤atOf (id:Int) R.t1; omega) h2
 rw [(ZaP hf hk).1] at a1
 refine ⟨i0,i1,?_,?_,?_,q2,q3⟩
 ·rw [en]; exact a0
 ·rw [en]; exact a1
 ·unfold inR; rw [en]; exact q1
variable {g:Nat→Int}{P:Nat→Nat}{o:Nat→Int}
theorem Left.dry (L:Left R F g P o .sink)(hf:Fits R)(ho:∀ y,y<R.t3.length→o y=0){k:Nat}(hk:k<R.t1.length):inR R g (.dest (.mach k))=0:=by
 have e':∀ d,VD R d→¬ (nd R .sink=nd R (.dest d)):=fun d hd q=>by have:=hf.inj (n:=.sink) (n':=.dest d) trivial hd q; cases this
 have gnn:∀ i,i<(netR R).length→0≤g i:=fun i hi=>(L.nn i hi).1
 have leafz:∀ i,i<(netR R).length→∀ y,y<R.t3.length→(arcN R i).f=nd R (.task y)→g i=0:=fun i hi y hy e=>by
  have h1:=Zb2 (A:=arcN R) (F:=g) (v:=(nd R (.task y)).toNat) (i:=i) gnn hi (by have:=(hf.two (n:=.task y) hy).1; rw [e]; omega)
  have h2:=L.task y hy
  rw [ho y hy] at h2
  unfold ouR at h2
  have:=gnn i hi
  omega
 have into:∀ {n:Nd} {i:Nat},VN R n→(arcN R i).t=((nd R n).toNat:Int)→(arcN R i).t=nd R n:=fun {n i} hv e=>by have:=(hf.two hv).1; omega
 have c0:inR R g (.dest .clus)=0:=ZcH (fun i hi e=>by
  have e:=into (n:=.dest .clus) trivial e
  have hA:=Zbm hf (ZaK (ZaL hi))
  generalize hq:arcN R i=a at hA e
  cases hA with
  | rack r hr=>have:=hf.inj (n:=.dest (.rack r)) (n':=.dest .clus) hr trivial e; cases this
  | into k hk=>have:=hf.inj (n:=.dest (.mach k)) (n':=.dest .clus) hk trivial e; cases this
  | sink k hk=>have:=hf.inj (n:=.sink) (n':=.dest .clus) trivial trivial e; cases this
  | job j hj=>have:=hf.inj (n:=.sink) (n':=.dest .clus) trivial trivial e; cases this
  | leaf y hy d x hw=>exact leafz i hi y hy (by rw [hq]))
 have cz:∀ i,i<(netR R).length→(arcN R i).f=nd R (.dest .clus)→g i=0:=fun i hi e=>by
  have h1:=Zb2 (A:=arcN R) (F:=g) (v:=(nd R (.dest .clus)).toNat) (i:=i) gnn hi (by have:=(hf.two (n:=.dest .clus) trivial).1; rw [e]; omega)
  have h2:=L.clus
  rw [Zay (e' .clus trivial),c0] at h2
  unfold ouR at h2
  have:=gnn i hi
  omega
 have rz:∀ r,r<R.t0.length→∀ i,i<(netR R).length→(arcN R i).f=nd R (.dest (.rack r))→g i=0:=fun r hr i hi e=>by
  have h0:inR R g (.dest (.rack r))=0:=ZcH (fun j hj ej=>by
   have ej:=into (n:=.dest (.rack r)) hr ej
   have hA:=Zbm hf (ZaK (ZaL hj))
   generalize hq:arcN R j=a at hA ej
   cases hA with
   | rack r hr=>exact cz j hj (by rw [hq])
   | into k hk=>have:=hf.inj (n:=.dest (.mach k)) (n':=.dest (.rack r)) hk hr ej; cases this
   | sink k hk=>have:=hf.inj (n:=.sink) (n':=.dest (.rack r)) trivial hr ej; cases this
   | job j' hj'=>have:=hf.inj (n:=.sink) (n':=.dest (.rack r)) trivial hr ej; cases this
   | leaf y hy d x hw=>exact leafz j hj y hy (by rw [hq]))
  have h1:=Zb2 (A:=arcN R) (F:=g) (v:=(nd R (.dest (.rack r))).toNat) (i:=i) gnn hi (by have:=(hf.two (n:=.dest (.rack r)) hr).1; rw [e]; omega)
  have h2:=L.rack r hr
  rw [Zay (e' (.rack r) hr),h0] at h2
  unfold ouR at h2
  have:=gnn i hi
  omega
 refine ZcH (fun i hi e=>?_)
 have e:=into (n:=.dest (.mach k)) hk e
 have hA:=Zbm hf (ZaK (ZaL hi))
 generalize hq:arcN R i=a at hA e
 cases hA with
 | rack r hr=>have:=hf.inj (n:=.dest (.rack r)) (n':=.dest (.mach k)) hr hk e; cases this
 | into k' hk'=>exact rz _ (ZaP hf hk').2 i hi (by rw [hq])
 | sink k' hk'=>have:=hf.inj (n:=.sink) (n':=.dest (.mach k)) trivial hk e; cases this
 | job j' hj'=>have:=hf.inj (n:=.sink) (n':=.dest (.mach k)) trivial hk e; cases this
 | leaf y hy d x hw=>exact leafz i hi y hy (by rw [hq])
theorem Left.count (L:Left R F g P o .sink)(hf:Fits R)(ho:∀ y,y<R.t3.length→o y=0){k:Nat}(hk:k<R.t1.length):(cnt P k R.t3.length:Int)=inR R F (.dest (.mach k)):=by
 have e':¬ (nd R .sink=nd R (.dest (.mach k))):=fun q=>by have:=hf.inj (n:=.sink) (n':=.dest (.mach k)) trivial hk q; cases this
 have:=L.mach k hk
 rw [L.dry hf ho hk,Zay e'] at this
 omega
theorem ZiQ (h:NetFlow R N F)(hf:Fits R)(hN:NetN R N){y:Nat}(hy:y<R.t3.length){i0:Nat}(hi0:i0<(netR R).length)(hf0:(arcN R i0).f=nd R (.task y))(h0:1≤F i0){j:Nat}(hj:j<R.t2.length)(hne:(arcN R i0).t≠nd R (.dest (.job j))):inR R F (.dest (.job j))≤15:=by
 have hJ:=(hf.two (n:=.dest (.job j)) hj).1
 have e1:inn (arcN R) (bump F i0 (-1)) (nd R (.dest (.job j))).toNat (netR R).length=inR R F (.dest (.job j)):=by
  rw [ZcG,if_neg (fun q=>hne (by omega))]
  unfold inR
  omega
 have hnn:∀ i,i<(netR R).length→0≤bump F i0 (-1) i:=fun i hi=>by
  have:=h.nn i hi
  unfold bump
  by_cases q:i=i0
  ·subst q; rw [if_pos rfl]; omega
  ·rw [if_neg q]; exact this
 have h1:=ZdA (A:=arcN R) (F:=bump F i0 (-1)) (v:=(nd R (.dest (.job j))).toNat) (N0:=2+lensR R 3) (T:=(idsR R 3 100).length) hnn (fun i hi e=>by
  have e:(arcN R i).t=nd R (.dest (.job j)):=by omega
  have hA:=Zbm hf (ZaK (ZaL hi))
  generalize hq:arcN R i=a at hA e
  cases hA with
  | rack r hr=>have:=hf.inj (n:=.dest (.rack r)) (n':=.dest (.job j)) hr hj e; cases this
  | into k' hk'=>have:=hf.inj (n:=.dest (.mach k')) (n':=.dest (.job j)) hk' hj e; cases this
  | sink k' hk'=>have:=hf.inj (n:=.sink) (n':=.dest (.job j)) trivial hj e; cases this
  | job j' hj'=>have:=hf.inj (n:=.sink) (n':=.dest (.job j)) trivial hj e; cases this
  | leaf y hy d x hw =>
   have:=hf.taskN hy
   show ((2+lensR R 3:Nat):Int)≤nd R (.task y)∧nd R (.task y)<_
   omega)
 have ht:=hf.taskN hy
 obtain ⟨t0,et0⟩:∃ t0:Nat,nd R (.task y)=((2+lensR R 3+t0:Nat):Int):=⟨(nd R (.task y) - (2+(lensR R 3:Int))).toNat,by omega⟩
 have ht0:t0<(idsR R 3 100).length:=by omega
 have h2:sumN (fun t=>out (arcN R) (bump F i0 (-1)) (2+lensR R 3+t) (netR R).length) (idsR R 3 100).length=sumN (fun t=>(fun _=>(1:Int)) t - (fun v=>(fun _=>(1:Int)) v*(if (t0:Int)=(v:Int) then 1 else 0)) t) (idsR R 3 100).length:=Zav (fun t htt=>by
  have hNe:=hN.eq
  rw [ZcM,h.task hf.net hf.ids (v:=2+lensR R 3+t) (by omega) (by omega)]
  by_cases q:t0=t
  ·subst q
   rw [if_pos ⟨hi0,by rw [hf0,et0]⟩]
   simp
  ·rw [if_neg (fun r=>q (by have:=r.2; rw [hf0,et0] at this; omega))]
   show (1:Int)+0=1 - 1*(if (t0:Int)=((t:Nat):Int) then 1 else 0)
   rw [if_neg (fun r=>q (by omega))]
   simp)
 have h3:∀ n,sumN (fun _=>1) n=(n:Int):=fun n=>by
  induction n with
  | zero=>rfl
  | succ n ih=>simp only [sumN,ih]; omega
 have h4:=Zb7 (R:=R) 3 100
 have h5:(tkR R 3).length≤16:=hf.net.run.len3
 rw [h2,ZjU,h3,ZeI (fun _=>1) 1 t0 _ ht0,e1] at h1
 omega
theorem Zk0 (h:NetFlow R N F)(hf:Fits R)(hN:NetN R N)(hp:∀ i,i<(netR R).length→PairOk C (arcN R i) (F i))(L:Left R F g P o .sink)(ho:∀ y,y<R.t3.length→o y=0){used:Nat→Dest}{k:Nat→Int}(hc:∀ y,y<R.t3.length→Came R F y (used y) (k y) (P y)) :
  Read R.t1.length R.t3.length (sR R) (rkR R) (cR R) (prcR R C) (wayR R) used k P:=by
 have fl:∀ {i:Nat} {a:Ar},i<(netR R).length→arcN R i=a→0<F i→C a.f.toNat+a.k≤C a.t.toNat:=fun {i a} hi e q=>by have:=Zhy hp hi q; rw [e] at this; exact this
 have op:∀ {i:Nat} {a:Ar},i<(netR R).length→arcN R i=a→F i<a.c→C a.t.toNat≤C a.f.toNat+a.k:=fun {i a} hi e q=>by have:=ZhZ hp hi (by rw [e]; exact q); rw [e] at this; exact this
 have msink:∀ {p:Nat},p<R.t1.length→1≤inR R F (.dest (.mach p))→(prcR R C).mach p≤(prcR R C).sink:=fun {p} hpM q=>by
  obtain ⟨i0,i1,a0,a1,q1,q2,q3⟩:=h.two hf hpM
  have:=fl a0.1 a0.2 (by omega)
  simpa [prcR,nd] using this
 refine ⟨fun y hy=>(hc y hy).le,fun y hy=>(hc y hy).way,fun y hy d x hw=>?_,fun y hy=>?_,fun y hy hpM=>?_,fun y hy hpN=>?_,fun m hm hcn=>?_,fun y hy hpM hu=>?_,fun y hy hpM hu=>?_,fun y hy hpM hu=>?_,fun m hm=>?_,fun y hy hpM j x hw=>?_,fun y hy m hm d x hw hto=>ZiC hf.rack hm d x hw hto,fun y hy m hm=>ZjZ hf.rack hm,fun y hy j x hw=>hw.2.2,fun y hy=>?_⟩
 ·obtain ⟨i,hi,e⟩:=Zfp hf (ArcP.leaf (R:=R) y hy d x hw)
  obtain ⟨i',hi',e',hF'⟩:=(hc y hy).arc
  by_cases q:F i<1
  ·right
   have:=op hi e q
   rw [Zh3]
   exact this
  ·left
   have h1:=h.one hf hN hy
   unfold ouR at h1
   have u1:=Zfq hf (n:=.task y) hy e rfl
   have u2:=Zfq hf (n:=.task y) hy e' rfl
   have:i=i':=by
    rcases Nat.lt_trichotomy i i' with r | r | r
    ·have:=ZfQ (A:=arcN R) (F:=F) h.nn r hi' u1 u2; omega
    ·exact r
    ·have:=ZfQ (A:=arcN R) (F:=F) h.nn r hi u2 u1; omega
   subst this
   rw [e] at e'
   have e1:nd R (.dest d)=nd R (.dest (used y)):=congrArg Ar.t e'
   have e2:x=k y:=congrArg Ar.k e'
   have:=hf.inj (n:=.dest d) (n':=.dest (used y)) (ZbK hw) (ZbK (hc y hy).way) e1
   cases this
   exact ⟨rfl,e2⟩
 ·obtain ⟨i',hi',e',hF'⟩:=(hc y hy).arc
  rw [Zh3]
  exact fl hi' e' (by omega)
 ·rcases (hc y hy).onM hpM with e | ⟨e | ⟨e,_⟩,_⟩ <;> rw [e]
  ·exact rfl
  ·exact rfl
  ·trivial
 ·obtain ⟨j,hj⟩:=(hc y hy).onN hpN
  have hjv:VD R (.job j):=by have:=ZbK (hc y hy).way; rw [hj] at this; exact this
  refine ⟨j,hj,?_⟩
  obtain ⟨i',hi',e',hF'⟩:=(hc y hy).arc
  rw [hj] at e'
  have h1:=Zc1 (A:=arcN R) (F:=F) (v:=(nd R (.dest (.job j))).toNat) (i:=i') h.nn hi' (ZeQ hf (n:=.dest (.job j)) hjv e' rfl)
  have h2:=h.mid hf hN (n:=.dest (.job j)) hjv (fun y q=>by cases q) (fun q=>by cases q)
  unfold inR ouR at h2
  obtain ⟨i,hi,e,hF⟩:=ZfP (A:=arcN R) (F:=F) (v:=(nd R (.dest (.job j))).toNat) (la:=(netR R).length) (by omega)
  have hA:=Zbm hf (ZaK (ZaL hi))
  have e:(arcN R i).f=nd R (.dest (.job j)):=by have:=(hf.two (n:=.dest (.job j)) hjv).1; omega
  generalize hq:arcN R i=a at hA e
  cases hA with
  | rack r hr=>have:=hf.inj (n:=.dest .clus) (n':=.dest (.job j)) trivial hjv e; cases this
  | into k' hk'=>have:=hf.inj (n:=.dest (.rack _)) (n':=.dest (.job j)) (ZaP hf hk').2 hjv e; cases this
  | sink k' hk'=>have:=hf.inj (n:=.dest (.mach k')) (n':=.dest (.job j)) hk' hjv e; cases this
  | job j' hj' =>
   have:=hf.inj (n:=.dest (.job j')) (n':=.dest (.job j)) hj' hjv e
   cases this
   have:=fl hi hq hF
   simpa [prcR,nd] using this
  | leaf y' hy' d x hw=>have:=hf.inj (n:=.task y') (n':=.dest (.job j)) hy' hjv e; cases this
 ·obtain ⟨i0,i1,a0,a1,q1,q2,q3⟩:=h.two hf hm
  have h1:=L.count hf ho hm
  have hs:(sR R m:Int)=slR R m:=by
   have:=(hf.net.run.sl _ (Jl hm)).1
   unfold sR slR
   rw [Zac hm]
   omega
  have g0:=op a0.1 a0.2 (by show F i0<slR R m; omega)
  have g1:=op a1.1 a1.2 (by show F i1<slR R m; omega)
  exact ⟨by simpa [prcR,nd] using g0,by simpa [prcR] using g1⟩
 ·obtain ⟨i',hi',e',hF'⟩:=(hc y hy).arc
  obtain ⟨i0,i1,a0,a1,q1,q2,q3⟩:=h.two hf hpM
  rw [hu] at e'
  have u1:=ZeQ hf (n:=.dest (.mach (P y))) hpM e' rfl
  have u2:=ZeQ hf (n:=.dest (.mach (P y))) hpM a1.2 rfl
  have hne:i'≠i1:=fun q=>by
   subst q
   have:nd R (.task y)=nd R (.dest (.rack (rkR R (P y)))):=congrArg Ar.f (e'.symm.trans a1.2)
   have:=hf.inj (n:=.task y) (n':=.dest (.rack _)) hy (ZaP hf hpM).2 this
   cases this
  have hs:F i'+F i1≤inR R F (.dest (.mach (P y))):=by
   rcases Nat.lt_or_gt_of_ne hne with r | r
   ·exact ZfD (A:=arcN R) (F:=F) h.nn r a1.1 u1 u2
   ·have:=ZfD (A:=arcN R) (F:=F) h.nn r hi' u2 u1; unfold inR; omega
  have hnn1:=h.nn i1 a1.1
  have g1:=op a1.1 a1.2 (by show F i1<slR R (P y); omega)
  exact ⟨by simpa [prcR] using g1,msink hpM (by omega)⟩
 ·rcases (hc y hy).onM hpM with e | ⟨_,i,hi,e,hF⟩
  ·rw [hu] at e; cases e
  ·have h1:=Zc1 (A:=arcN R) (F:=F) (v:=(nd R (.dest (.mach (P y)))).toNat) (i:=i) h.nn hi (ZeQ hf (n:=.dest (.mach (P y))) hpM e rfl)
   have:=fl hi e (by omega)
   exact ⟨by simpa [prcR] using this,msink hpM (by unfold inR; omega)⟩
 ·rcases (hc y hy).onM hpM with e | ⟨e2,i,hi,e,hF⟩
  ·rw [hu] at e; cases e
  ·rcases e2 with e2 | ⟨_,i2,hi2,e2,hF2⟩
   ·rw [hu] at e2; cases e2
   have h1:=Zc1 (A:=arcN R) (F:=F) (v:=(nd R (.dest (.mach (P y)))).toNat) (i:=i) h.nn hi (ZeQ hf (n:=.dest (.mach (P y))) hpM e rfl)
   have g1:=fl hi e (by omega)
   have g2:=fl hi2 e2 (by omega)
   exact ⟨by simpa [prcR,nd,nodeOf] using g2,by simpa [prcR] using g1,msink hpM (by unfold inR; omega)⟩
 ·have hr:=(ZaP hf hm).2
  obtain ⟨i,hi,e⟩:=Zfp hf (ArcP.rack (R:=R) _ hr)
  have h1:=h.clus hf.net hf.ids hN.eq
  have h2:=Zb2 (A:=arcN R) (F:=F) (v:=0) (i:=i) h.nn hi (by rw [e]; rfl)
  have:=op hi e (by show F i<1000; omega)
  simpa [prcR,nd,nodeOf] using this
 ·have hjv:VD R (.job j):=ZbK hw
  obtain ⟨i',hi',e',hF'⟩:=(hc y hy).arc
  have hr:=ZiQ h hf hN hy hi' (by rw [e']) hF' hjv (fun q=>by
   rw [e'] at q
   have:=hf.inj (n:=.dest (used y)) (n':=.dest (.job j)) (ZbK (hc y hy).way) hjv q
   injection this with this
   rcases (hc y hy).onM hpM with e | ⟨e | ⟨e,_⟩,_⟩ <;> rw [e] at this <;> cases this)
  obtain ⟨i,hi,e⟩:=Zfp hf (ArcP.job (R:=R) j hjv)
  have h2:=h.mid hf hN (n:=.dest (.job j)) hjv (fun y q=>by cases q) (fun q=>by cases q)
  unfold ouR at h2
  have h3:=Zb2 (A:=arcN R) (F:=F) (v:=(nd R (.dest (.job j))).toNat) (i:=i) h.nn hi (Zfq hf (n:=.dest (.job j)) hjv e rfl)
  have:=op hi e (by show F i<16; omega)
  simpa [prcR,nd] using this
 ·obtain ⟨j,hj,e⟩:=hf.net.run.job y hy
  refine ⟨j,hj,?_,rfl⟩
  obtain ⟨x,hx,e1,e2⟩:=Zag (id:=R.t3[y].2.1) (xs:=R.t2) (by omega)
  have:x=j:=by omega
  subst this
  rw [Zac hj,Zac hy,e2]
theorem Zjg (h:NetFlow R N F)(hf:Fits R)(L:Left R F g P o .sink)(ho:∀ y,y<R.t3.length→o y=0)(hP:∀ y,y<R.t3.length→P y≤R.t1.length):PlaceOk R.t1.length (sR R) P R.t3.length:=by
 refine ⟨hP,fun m hm=>?_⟩
 obtain ⟨i0,i1,a0,a1,q1,q2,q3⟩:=h.two hf hm
 have h1:=L.count hf ho hm
 have hs:(sR R m:Int)=slR R m:=by
  have:=(hf.net.run.sl _ (Jl hm)).1
  unfold sR slR
  rw [Zac hm]
  omega
 omega
end
end
end
end Go.Proofs.YtjdindfjfpdikaaGreat
