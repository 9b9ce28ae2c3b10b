import Derived.Deep.QuietTactic
import Derived.BigQuiet
import Derived.Test.YtjdindfjfpdikaaGreatB17
import Derived.Test.YtjdindfjfpdikaaGreatPre
set_option maxRecDepth 100000
set_option maxHeartbeats 8000000
namespace Go.Proofs.YtjdindfjfpdikaaGreat
section
open Go.RowKit
def sR (R:RSt)(k:Nat):Nat:=(R.t1.getD k (0,0,0)).2.2.toNat
def leftF (R:RSt)(on:Nat→Nat)(i k:Nat):Int:=(sR R k:Int) - (cnt on k i:Int)
theorem Zem {R:RSt}(hf:RunFit R):R.t1.map (fun x=>x.2.2)=intL R.t1.length (leftF R (fun _=>0) 0):=by
 apply List.ext_getElem
 ·simp [intL]
 ·intro k h1 h2
  rw [ZaM,List.getElem_map]
  have hk:k<R.t1.length:=by simpa using h1
  have:=hf.sl _ (Jl hk)
  unfold leftF sR
  rw [Zac hk]
  simp only [cnt]
  omega
theorem Cert.congr {M:Nat}{s:Nat→Nat}{c:Nat→Nat→Int}{on on':Nat→Nat}{i:Nat}{p:Nat→Int}(h:Cert M s c on i p)(e:∀ j,j<i→on j=on' j):Cert M s c on' i p :=
 ⟨h.pos,h.none,fun k hk q=>h.free k hk (by rw [Za6 e]; exact q),fun j hj k hk=>by rw [← e j hj]; exact h.least j hj k hk⟩
theorem PlaceOk.congr {M:Nat}{s:Nat→Nat}{on on':Nat→Nat}{i:Nat}(h:PlaceOk M s on i)(e:∀ j,j<i→on j=on' j):PlaceOk M s on' i :=
 ⟨fun j hj=>by rw [← e j hj]; exact h.le j hj,fun k hk=>by rw [← Za6 e]; exact h.room k hk⟩
theorem ZbJ {R:RSt}(hf:RunFit R){on:Nat→Nat}:∀ {i:Nat},i≤R.t3.length→0≤pcost (cR R) on i∧pcost (cR R) on i≤1150*(i:Int)
 | 0,_=>by simp [pcost,sumN]
 | i+1,h=>by
  have ih:=ZbJ hf (on:=on) (i:=i) (by omega)
  have hb:=ZaS hf (i:=i) (k:=on i) (by omega)
  have e:pcost (cR R) on (i+1)=pcost (cR R) on i+cR R i (on i):=rfl
  rw [e]
  omega
theorem ZaV {B n:Nat}{w W:World}(h:Below B w W):Below B w (W.drewN n):=⟨h.os,h.tape,h.output,h.size,h.block⟩
structure LInv (R:RSt)(on:Nat→Nat)(i:Nat)(p:Nat→Int):Prop where
 place:PlaceOk R.t1.length (sR R) on i
 cert:Cert R.t1.length (sR R) (cR R) on i p
 bound:∀ k,k≤R.t1.length→p k≤1150*(i:Int)
structure EndAt (R:RSt)(on:Nat→Nat)(i:Nat)(far:Nat→Int)(k e:Nat):Prop where
 le:e≤R.t1.length
 free:e<R.t1.length→e<k∧0<leftF R on i e
 none:far e≤far R.t1.length
 min:∀ x,x<k→0<leftF R on i x→far e≤far x
section
variable {w:World}{rb:Nat}{V:RVs}{x7 x8 x9 x10 x11:Value}{R:RSt}
theorem ZgZ (h:RefAt w rb V x7 x8 x9 x10 x11 R)(hf:RunFit R) :
  Calls Tryz.prog 75 #[.pointer (some ⟨rb,0,none⟩)] w fun e w'=>∃ on p,e=.returned (.int .i64 (pcost (cR R) on R.t3.length))∧LInv R on R.t3.length p∧Below w.heap.size w w':=by
 have hl8:=hf.len1
 have hl16:=hf.len3
 obtain ⟨p1,c1',hv1⟩:=Zah h.r1
 obtain ⟨p3,c3',hv3⟩:=Zah h.r3
 have c1:=h.c1
 rw [hv1] at c1
 have hrb:=h.lt
 have A0:=hid (Zej h hf)
 go_enter Tryz.func75,Tryz.ntmps75
 go_wp2_with fail
 refine A0.out.mono ?_
 rintro e w1 ⟨vl,rfl,hvl,hb1⟩
 rw [Zem hf] at hvl
 have H0:=hid (Jc hvl hb1)
 clear A0 hvl hb1 c1
 go_wp2_with fail
 go_loopg [5,6,7] R.t3.length (fun gk vo sv iv wr=>∃ (i:Nat) (on:Nat→Nat) (p:Nat→Int),i≤R.t3.length∧R.t3.length - i≤gk∧iv=.int .i64 i∧sv=.int .i64 (pcost (cR R) on i)∧Hid (LInv R on i p∧NRow w.heap.size wr vo (intL i (natI on))∧NRow w.heap.size wr vl (intL R.t1.length (leftF R on i))∧(∀ b,vo.ownBlock=some b→vl.ownBlock≠some b)∧Below w.heap.size w wr))
 case atStart=>exact ⟨0,fun _=>0,fun _=>0,Jq _,Jb _,rfl,rfl,⟨ZgV _ _ _,Zho _ _ _ _,fun k _=>by simp⟩,NRow.nil _ _,H0.out.1,(fun b e=>by cases e),H0.out.2⟩
 case' round=>skip
 clear H0
 obtain ⟨i,on,p,hi,hgk,rfl,rfl,H1⟩:=hrel
 rename World=>W0
 have hp0:=h.below H1.out.2.2.2.2
 have c3:=hp0.c3
 rw [hv3] at c3
 have hrb0:=hp0.lt
 by_cases hlt:i<R.t3.length
 ·have hiI:(i:Int)<(R.t3.length:Int):=by omega
  have hM:=ZbF i (natI (updN on i R.t1.length))
  have e1:natI (updN on i R.t1.length) i=(R.t1.length:Int):=by simp [natI,updN]
  have eold:∀ j,j<i→on j=updN on i R.t1.length j:=fun j hj=>by simp [updN,show j≠i by omega]
  have e2:intL i (natI (updN on i R.t1.length))=intL i (natI on):=Za2 (fun j hj=>by unfold natI; rw [← eold j hj])
  rw [e1,e2] at hM
  have ba:Below W0.heap.size W0 (W0.alloc (.cells #[.int .i64 (R.t1.length:Int)] 3)):=(Jd _ _).alloc (Jb _) _
  have hrA:=H1.out.2.1.below ba
  have hbs:=H1.out.2.2.2.2.size
  have HM:=hid (Jc hM eold)
  clear hM e1 e2 eold hp0
  go_upto_region 9 with (first
   | (at_builtin; refine ZaJ _ w.heap.size (R.t1.length:Int) u5 _ rfl _ _ rfl rfl hrA W0.heap.size rfl (by simp) (by simp; omega) (by rw [Zad]; omega) ?_; intro vo' w3 hrow3 hg3 hloc3)
   | fail)
  rw [HM.out.1] at hrow3
  obtain ⟨go,co,rfl,hgo,hgol,_⟩:=hrow3.at (by omega)
  have hb3:Below w.heap.size w w3:=(Zai H1.out.2.2.2.2 ba).grown hg3 (by simp; omega) (fun b e=>H1.out.2.1.base b e)
  have hl3:NRow w.heap.size w3 vl (intL R.t1.length (leftF R on i)):=(H1.out.2.2.1.below ba).kept hg3 (by
   cases hq:vl.ownBlock with
   | none=>exact Jr rfl
   | some b=>exact Js (fun q=>H1.out.2.2.2.1 b q.symm hq))
  have hne3:vl.ownBlock≠some go:=fun q=>by
   rcases hloc3 with e' | e'
   ·exact H1.out.2.2.2.1 go e'.symm q
   ·have h5:=H1.out.2.2.1.row.lt q
    have h6:∀ o,(W0.alloc o).heap.size=W0.heap.size+1:=fun o=>by simp
    rw [h6] at e'
    simp [Value.ownBlock] at e'
    omega
  have L1:=H1.out.1
  have A1:=hid (Zij (h.below hb3) hf i hlt go co (updN on i R.t1.length) hrow3.row (fun j hj=>by rw [← HM.out.2 j hj]; exact L1.place.le j hj) p (sR R) (L1.cert.congr HM.out.2) (fun k hk=>by have:=L1.bound k hk; omega))
  have H3:=hid (Jc hrow3 (Jc hl3 (Jc hne3 hb3)))
  clear hrow3 hl3 hne3 hb3 hg3 hloc3 hrA L1
  go_wp2_with fail
  refine A1.out.mono ?_
  rintro e w4 ⟨gf,cf,gb,cb,far,by',rfl,hgfb,FB,hW⟩
  have hOn4:=H3.out.1.below FB.below
  have hL4:=H3.out.2.1.below FB.below
  have hL1:=H1.out.1
  have H4:=hid (Jc FB (Jc hOn4 (Jc hL4 (Zai H3.out.2.2.2 FB.below))))
  have hz3:w3.heap.size≤w4.heap.size:=FB.below.size
  clear FB hOn4 hL4 A1
  go_wp2_with fail
  go_loopg [10,11] R.t1.length (fun gk ev kv wr=>∃ e k:Nat,k≤R.t1.length∧R.t1.length - k≤gk∧ev=.int .i64 e∧kv=.int .i64 k∧Hid (EndAt R on i far k e∧Below w4.heap.size w4 wr))
  case atStart=>exact ⟨R.t1.length,0,Jq _,Jb _,rfl,rfl,⟨Jb _,fun q=>by omega,Int.le_refl _,fun x hx=>by omega⟩,Jd _ _⟩
  case' round=>skip
  obtain ⟨e,k,hk,hgk2,rfl,rfl,H5⟩:=hrel
  rename World=>W2
  have hE:=H5.out.1
  have hel:=hE.le
  have FB2:=H4.out.1.keep H5.out.2
  obtain ⟨_,_,ef,_,hgf2,hfc2⟩:=FB2.far.at (by omega)
  cases ef
  have fe:=(hfc2 e (by omega)).1
  have heI:(e:Int)<(R.t1.length:Int)+1:=by omega
  by_cases hlt2:k<R.t1.length
  ·have hkI:(k:Int)<(R.t1.length:Int):=by omega
   have hkI1:(k:Int)<(R.t1.length:Int)+1:=by omega
   obtain ⟨gl,cl,el,_,hgl2,hlc2⟩:=(H4.out.2.2.1.below H5.out.2).at (by omega)
   have l0:=(hlc2 k hlt2).1
   have f0:=(hfc2 k (by omega)).1
   obtain ⟨lk,hlk⟩:∃ x,leftF R on i k=x:=⟨_,rfl⟩
   obtain ⟨fk,hfk⟩:∃ x,far k=x:=⟨_,rfl⟩
   obtain ⟨fx,hfx⟩:∃ x,far e=x:=⟨_,rfl⟩
   rw [hlk] at l0
   rw [hfk] at f0
   rw [hfx] at fe
   have Hq:=hid (Jc hlk (Jc hfk hfx))
   clear hlc2 hfc2 hlk hfk hfx FB2
   subst el
   by_cases hl0:0<lk
   ·have hlb:decide (0<lk)=true:=by simpa using hl0
    by_cases hff:fk<fx
    ·have hfb:decide (fk<fx)=true:=by simpa using hff
     go_wp2_with fail
     go_quiet (fail)
     go_wp2_with fail
     go_roundg (R.t1.length - (k+1))
     case measure=>omega
     case rel =>
      refine ⟨k,k+1,by omega,Jb _,rfl,by go_num,⟨by omega,fun _=>⟨by omega,by rw [Hq.out.1]; exact hl0⟩,?_,fun x hx q=>?_⟩,ZaV H5.out.2⟩
      ·have:=hE.none; rw [Hq.out.2.2] at this; rw [Hq.out.2.1]; omega
      ·by_cases ex:x<k
       ·have:=hE.min x ex q; rw [Hq.out.2.2] at this; rw [Hq.out.2.1]; omega
       ·obtain rfl:x=k:=by omega
        exact Int.le_refl _
    ·have hfb:decide (fk<fx)=false:=by simpa using hff
     go_wp2_with fail
     go_quiet (fail)
     go_wp2_with fail
     go_roundg (R.t1.length - (k+1))
     case measure=>omega
     case rel =>
      refine ⟨e,k+1,by omega,Jb _,rfl,by go_num,⟨hel,fun q=>⟨by have:=(hE.free q).1; omega,(hE.free q).2⟩,hE.none,fun x hx q=>?_⟩,ZaV H5.out.2⟩
      by_cases ex:x<k
      ·exact hE.min x ex q
      ·obtain rfl:x=k:=by omega
       rw [Hq.out.2.1,Hq.out.2.2]; omega
   ·have hlb:decide (0<lk)=false:=by simpa using hl0
    go_wp2_with fail
    go_quiet (fail)
    go_wp2_with fail
    go_roundg (R.t1.length - (k+1))
    case measure=>omega
    case rel =>
     refine ⟨e,k+1,by omega,Jb _,rfl,by go_num,⟨hel,fun q=>⟨by have:=(hE.free q).1; omega,(hE.free q).2⟩,hE.none,fun x hx q=>?_⟩,ZaV H5.out.2⟩
     by_cases ex:x<k
     ·exact hE.min x ex q
     ·obtain rfl:x=k:=by omega
      rw [Hq.out.1] at q; omega
  ·obtain rfl:k=R.t1.length:=by omega
   have pb:=ZbJ hf (on:=on) (i:=i) (by omega)
   have fb1:=hW.inv.top e hel
   have fb2:=(ZaS hf (k:=e) hlt).2
   have fb3:=hW.inv.lows (hL1.cert.congr HM.out.2) (fun k _=>(ZaS hf hlt).1) e hel
   have fb4:=hL1.bound e hel
   have pbA:=pb.1
   have pbB:=pb.2
   have hB2:Below w.heap.size w W2:=Zai H4.out.2.2.2 H5.out.2
   have hOn2:=H4.out.2.1.below H5.out.2
   have hLl2:=H4.out.2.2.1.below H5.out.2
   have hpe:p e=0:=by
    by_cases q:e<R.t1.length
    ·have h1:=(hE.free q).2
     exact hL1.cert.free e q (by unfold leftF at h1; omega)
    ·have:e=R.t1.length:=by omega
     rw [this]; exact hL1.cert.none
   obtain ⟨n0,hSh⟩:=ShInv.zero hW (hL1.cert.congr HM.out.2) (fun j hj=>by rw [← HM.out.2 j hj]; exact hL1.place.le j hj) hel hE.none hpe
   have hFm:-20000≤far e:=by omega
   have hFM:far e≤1150:=by omega
   have hPM:pcost (cR R) on i≤20000:=by omega
   clear hfc2 hgk2
   by_cases heM:e<R.t1.length
   ·have heMI:(e:Int)<(R.t1.length:Int):=by omega
    obtain ⟨gl,cl,el,hglb,hgl2,hlc2⟩:=hLl2.at (by omega)
    obtain ⟨l0,l1⟩:=hlc2 e heM
    have lB:0<leftF R on i e∧leftF R on i e≤4:=⟨(hE.free heM).2,by
     have:=hf.sl _ (Jl heM)
     unfold leftF sR
     rw [Zac heM]
     omega⟩
    have lA:=lB.1
    have lC:=lB.2
    subst el
    have hgon:go≠gl:=fun q=>H3.out.2.2.1 (by rw [q]; rfl)
    have hgbn:gl≠gb:=by have:=H3.out.2.1.row.lt (b:=gl) rfl; have:=FB2.by'.base gb rfl; omega
    have hl5:=hLl2.put (k:=e) (leftF R on i e - 1)
    obtain ⟨lf,hlf0⟩:∃ lf:Nat→Int,(fun x=>leftF R on i x - (if x=e then 1 else 0))=lf:=⟨_,rfl⟩
    have elf:updI (leftF R on i) e (leftF R on i e - 1)=lf:=by
     rw [← hlf0]
     funext x
     simp only [updI]
     by_cases q:x=e
     ·simp only [q,if_true]
     ·simp only [if_neg q]; omega
    rw [elf] at hl5
    have H6:=hid (Jc (hOn2.kept (Zaa W2 ⟨gl,e,none⟩ (.int .i64 (leftF R on i e - 1))) (Js (fun q=>hgon (by simpa [Value.ownBlock] using q)))) (Jc hl5 (Jc (FB2.by'.kept (Zaa W2 ⟨gl,e,none⟩ (.int .i64 (leftF R on i e - 1))) (Js (fun q=>hgbn (by simpa [Value.ownBlock] using q.symm)))) (hB2.setCell (p:=⟨gl,e,none⟩) hglb (.int .i64 (leftF R on i e - 1))))))
    clear hl5 elf hLl2 hOn2 hlc2 FB2
    go_wp2_with fail
    go_loopg [12] n0 (fun gk kv wr=>∃ (k n:Nat) (onc:Nat→Nat),kv=.int .i64 k∧n≤gk∧Hid (ShInv R.t1.length i (cR R) (updN on i R.t1.length) by' far p e onc k n∧onc i=R.t1.length∧NRow w.heap.size wr (.slice (some ⟨go,0,none⟩) (i+1) co) (intL (i+1) (natI onc))∧NRow w.heap.size wr (.slice (some ⟨gl,0,none⟩) R.t1.length cl) (intL R.t1.length lf)∧NRow w3.heap.size wr (.slice (some ⟨gb,0,none⟩) (R.t1.length+1) cb) (intL (R.t1.length+1) (natI by'))∧Below w.heap.size w wr))
    case atStart=>exact ⟨e,n0,_,rfl,Jb _,hSh,by simp [updN],H6.out.1,H6.out.2.1,H6.out.2.2.1,H6.out.2.2.2⟩
    case' round=>skip
    clear H6
    obtain ⟨k,n,onc,rfl,hn,H7⟩:=hrel
    rename World=>W3
    have hkle:=H7.out.1.le
    obtain ⟨_,_,eb,_,hgb3,hbc3⟩:=H7.out.2.2.2.2.1.at (by omega)
    cases eb
    have b0:=(hbc3 k (by omega)).1
    obtain ⟨_,_,eo,_,hgo3,hoc3⟩:=H7.out.2.2.1.at (by omega)
    cases eo
    have hkI:(k:Int)<(R.t1.length:Int)+1:=by omega
    by_cases hlast:by' k=i
    ·have b0':W3.cell? ⟨gb,k,none⟩=some (.int .i64 i):=by rw [b0]; unfold natI; rw [hlast]
     obtain ⟨o0,o1⟩:=hoc3 i (by omega)
     have o0':W3.cell? ⟨go,i,none⟩=some (.int .i64 (R.t1.length:Int)):=by rw [o0]; unfold natI; rw [H7.out.2.1]
     have hiI1:(i:Int)<(i:Int)+1:=by omega
     clear b0 o0 hbc3 hoc3
     go_wp2_with fail
     have hlast4:=H7.out.1.last hW (hL1.cert.congr HM.out.2) (hL1.place.congr HM.out.2) hlast hE.none (fun x hx q=>hE.min x hx (by
      have:=Za6 (x:=x) HM.out.2
      unfold leftF; omega)) (fun q=>by
      have h1:=(hE.free q).2
      have:=Za6 (x:=e) HM.out.2
      unfold leftF at h1; omega)
     have hset:=H7.out.2.2.1.put (k:=i) (k:Int)
     rw [ZcJ] at hset
     have hbset:Below w.heap.size w (W3.setCell ⟨go,i,none⟩ (.int .i64 (k:Int))):=H7.out.2.2.2.2.2.setCell (p:=⟨go,i,none⟩) (H7.out.2.2.1.base go rfl) _
     have hlset:=H7.out.2.2.2.1.kept (Zaa W3 ⟨go,i,none⟩ (.int .i64 (k:Int))) (Js H3.out.2.2.1)
     have hpb:∀ x,x≤R.t1.length→np p far (far e) x≤1150*((i+1:Nat):Int):=fun x hx=>by
      have h1:=hL1.bound x hx
      have h2:=hW.inv.lows (hL1.cert.congr HM.out.2) (fun k _=>(ZaS hf hlt).1) x hx
      have h3:=hW.inv.top e hE.le
      have h4:=(ZaS hf (k:=e) hlt).2
      have h5:((i+1:Nat):Int)=(i:Int)+1:=by simp
      unfold np
      rw [h5]
      omega
     have hsum:pcost (cR R) on i+far e=pcost (cR R) (updN onc i k) (i+1):=by
      rw [hlast4.2.2.1,Zb3 (on:=on) HM.out.2]
     have hlf:intL R.t1.length lf=intL R.t1.length (leftF R (updN onc i k) (i+1)):=Za2 (fun x hx=>by
      rw [← hlf0]
      have h1:=hlast4.2.2.2 x
      have h2:=Za6 (x:=x) HM.out.2
      unfold leftF
      rw [h1,← h2]
      by_cases q:x=e
      ·simp only [q,if_true]; omega
      ·simp only [if_neg q]; omega)
     rw [hlf] at hlset
     rw [hsum]
     go_roundg (R.t3.length - (i+1))
     case measure=>omega
     case rel=>exact ⟨i+1,updN onc i k,np p far (far e),by omega,Jb _,by go_num,rfl,⟨hlast4.1,hlast4.2.1,hpb⟩,hset,hlset,fun b eb'=>by cases eb'; exact H3.out.2.2.1,hbset⟩
    ·obtain ⟨n',rfl,hsame,hSn⟩:=H7.out.1.next hW (hL1.cert.congr HM.out.2) hlast
     obtain ⟨hj1,hj2,_⟩:=hW.exact hkle hlast
     obtain ⟨o0,o1⟩:=hoc3 (by' k) (by omega)
     have o0':W3.cell? ⟨go,by' k,none⟩=some (.int .i64 (updN on i R.t1.length (by' k):Nat)):=by rw [o0]; unfold natI; rw [hsame]
     have b0':W3.cell? ⟨gb,k,none⟩=some (.int .i64 (by' k)):=b0
     have hjI:((by' k:Nat):Int)<(i:Int)+1:=by omega
     have hjb:(((by' k:Nat):Int) == (i:Int))=false:=by simp; omega
     clear b0 o0 hbc3 hoc3
     generalize hjj:by' k=j at *
     go_wp2_with fail
     have hset:=H7.out.2.2.1.put (k:=j) (k:Int)
     rw [ZcJ] at hset
     have hgne:go≠gb:=by have:=H7.out.2.2.2.2.1.base gb rfl; omega
     go_roundg n'
     case measure=>omega
     case rel=>exact ⟨_,n',updN onc j k,rfl,Jb _,hSn,by simp only [updN]; rw [if_neg (by omega)]; exact H7.out.2.1,hset,H7.out.2.2.2.1.kept (Zaa _ _ _) (Js H3.out.2.2.1),H7.out.2.2.2.2.1.kept (Zaa _ _ _) (Js (fun q=>hgne (by simpa [Value.ownBlock] using q.symm))),H7.out.2.2.2.2.2.setCell (p:=⟨go,j,none⟩) (H7.out.2.2.1.base go rfl) _⟩
   ·have heMb:decide ((e:Int)<(R.t1.length:Int))=false:=by simp; omega
    obtain ⟨lf,hlf0⟩:∃ lf:Nat→Int,(fun x=>leftF R on i x - (if x=e then 1 else 0))=lf:=⟨_,rfl⟩
    have elf:intL R.t1.length (leftF R on i)=intL R.t1.length lf:=Za2 (fun x hx=>by rw [← hlf0]; simp only; rw [if_neg (by omega)]; omega)
    rw [elf] at hLl2
    have H6:=hid (Jc hOn2 (Jc hLl2 (Jc FB2.by' hB2)))
    clear elf hLl2 hOn2 FB2
    go_wp2_with fail
    go_loopg [12] n0 (fun gk kv wr=>∃ (k n:Nat) (onc:Nat→Nat),kv=.int .i64 k∧n≤gk∧Hid (ShInv R.t1.length i (cR R) (updN on i R.t1.length) by' far p e onc k n∧onc i=R.t1.length∧NRow w.heap.size wr (.slice (some ⟨go,0,none⟩) (i+1) co) (intL (i+1) (natI onc))∧NRow w.heap.size wr vl (intL R.t1.length lf)∧NRow w3.heap.size wr (.slice (some ⟨gb,0,none⟩) (R.t1.length+1) cb) (intL (R.t1.length+1) (natI by'))∧Below w.heap.size w wr))
    case atStart=>exact ⟨e,n0,_,rfl,Jb _,hSh,by simp [updN],H6.out.1,H6.out.2.1,H6.out.2.2.1,H6.out.2.2.2⟩
    case' round=>skip
    clear H6
    obtain ⟨k,n,onc,rfl,hn,H7⟩:=hrel
    rename World=>W3
    have hkle:=H7.out.1.le
    obtain ⟨_,_,eb,_,hgb3,hbc3⟩:=H7.out.2.2.2.2.1.at (by omega)
    cases eb
    have b0:=(hbc3 k (by omega)).1
    obtain ⟨_,_,eo,_,hgo3,hoc3⟩:=H7.out.2.2.1.at (by omega)
    cases eo
    have hkI:(k:Int)<(R.t1.length:Int)+1:=by omega
    by_cases hlast:by' k=i
    ·have b0':W3.cell? ⟨gb,k,none⟩=some (.int .i64 i):=by rw [b0]; unfold natI; rw [hlast]
     obtain ⟨o0,o1⟩:=hoc3 i (by omega)
     have o0':W3.cell? ⟨go,i,none⟩=some (.int .i64 (R.t1.length:Int)):=by rw [o0]; unfold natI; rw [H7.out.2.1]
     have hiI1:(i:Int)<(i:Int)+1:=by omega
     clear b0 o0 hbc3 hoc3
     go_wp2_with fail
     have hlast4:=H7.out.1.last hW (hL1.cert.congr HM.out.2) (hL1.place.congr HM.out.2) hlast hE.none (fun x hx q=>hE.min x hx (by
      have:=Za6 (x:=x) HM.out.2
      unfold leftF; omega)) (fun q=>by
      have h1:=(hE.free q).2
      have:=Za6 (x:=e) HM.out.2
      unfold leftF at h1; omega)
     have hset:=H7.out.2.2.1.put (k:=i) (k:Int)
     rw [ZcJ] at hset
     have hbset:Below w.heap.size w (W3.setCell ⟨go,i,none⟩ (.int .i64 (k:Int))):=H7.out.2.2.2.2.2.setCell (p:=⟨go,i,none⟩) (H7.out.2.2.1.base go rfl) _
     have hlset:=H7.out.2.2.2.1.kept (Zaa W3 ⟨go,i,none⟩ (.int .i64 (k:Int))) (Js H3.out.2.2.1)
     have hpb:∀ x,x≤R.t1.length→np p far (far e) x≤1150*((i+1:Nat):Int):=fun x hx=>by
      have h1:=hL1.bound x hx
      have h2:=hW.inv.lows (hL1.cert.congr HM.out.2) (fun k _=>(ZaS hf hlt).1) x hx
      have h3:=hW.inv.top e hE.le
      have h4:=(ZaS hf (k:=e) hlt).2
      have h5:((i+1:Nat):Int)=(i:Int)+1:=by simp
      unfold np
      rw [h5]
      omega
     have hsum:pcost (cR R) on i+far e=pcost (cR R) (updN onc i k) (i+1):=by
      rw [hlast4.2.2.1,Zb3 (on:=on) HM.out.2]
     have hlf:intL R.t1.length lf=intL R.t1.length (leftF R (updN onc i k) (i+1)):=Za2 (fun x hx=>by
      rw [← hlf0]
      have h1:=hlast4.2.2.2 x
      have h2:=Za6 (x:=x) HM.out.2
      unfold leftF
      rw [h1,← h2]
      by_cases q:x=e
      ·simp only [q,if_true]; omega
      ·simp only [if_neg q]; omega)
     rw [hlf] at hlset
     rw [hsum]
     go_roundg (R.t3.length - (i+1))
     case measure=>omega
     case rel=>exact ⟨i+1,updN onc i k,np p far (far e),by omega,Jb _,by go_num,rfl,⟨hlast4.1,hlast4.2.1,hpb⟩,hset,hlset,fun b eb'=>by cases eb'; exact H3.out.2.2.1,hbset⟩
    ·obtain ⟨n',rfl,hsame,hSn⟩:=H7.out.1.next hW (hL1.cert.congr HM.out.2) hlast
     obtain ⟨hj1,hj2,_⟩:=hW.exact hkle hlast
     obtain ⟨o0,o1⟩:=hoc3 (by' k) (by omega)
     have o0':W3.cell? ⟨go,by' k,none⟩=some (.int .i64 (updN on i R.t1.length (by' k):Nat)):=by rw [o0]; unfold natI; rw [hsame]
     have b0':W3.cell? ⟨gb,k,none⟩=some (.int .i64 (by' k)):=b0
     have hjI:((by' k:Nat):Int)<(i:Int)+1:=by omega
     have hjb:(((by' k:Nat):Int) == (i:Int))=false:=by simp; omega
     clear b0 o0 hbc3 hoc3
     generalize hjj:by' k=j at *
     go_wp2_with fail
     have hset:=H7.out.2.2.1.put (k:=j) (k:Int)
     rw [ZcJ] at hset
     have hgne:go≠gb:=by have:=H7.out.2.2.2.2.1.base gb rfl; omega
     go_roundg n'
     case measure=>omega
     case rel=>exact ⟨_,n',updN onc j k,rfl,Jb _,hSn,by simp only [updN]; rw [if_neg (by omega)]; exact H7.out.2.1,hset,H7.out.2.2.2.1.kept (Zaa _ _ _) (Js H3.out.2.2.1),H7.out.2.2.2.2.1.kept (Zaa _ _ _) (Js (fun q=>hgne (by simpa [Value.ownBlock] using q.symm))),H7.out.2.2.2.2.2.setCell (p:=⟨go,j,none⟩) (H7.out.2.2.1.base go rfl) _⟩
 ·obtain rfl:i=R.t3.length:=by omega
  go_wp2_with fail
  go_ret
  exact ⟨on,p,rfl,H1.out.1,H1.out.2.2.2.2⟩
end
end
section
open Go.RowKit
structure NetFit (R:RSt):Prop where
 run:RunFit R
 len:Lens R
 id2:∀ x∈R.t2,0≤x.1∧x.1≤99
 on:∀ i,(hi:i<R.on.length)→R.on[i]=-1∨∃ k,∃ hk:k<R.t1.length,R.on[i]=R.t1[k].1
 ws:∀ x∈R.ws,x.2.2.2≤1000
def moreR (o:Int):Int:=if 0≤o then 50 else 0
def leafW (R:RSt)(fr t mo:Int)(kd:Nat)(id:Int):List Ar:=match wishR R t kd id with
 | some c=>[⟨fr,nodeR R kd id.toNat,1,c+mo⟩]
 | none=>[]
def leafK (R:RSt)(fr t mo:Int)(kd:Nat)(l:List Int):List Ar:=l.flatMap (leafW R fr t mo kd)
def leafUp (R:RSt)(fr t mo:Int):Nat→List Ar
 | 0=>[]
 | m+1=>leafUp R fr t mo m ++ leafK R fr t mo (1 - m) (idsR R (1 - m) 100)
def leafRun (R:RSt)(i:Nat)(fr o:Int):List Ar:=if 0≤o then [⟨fr,nodeR R 1 o.toNat,1,cR R i (atOf o R.t1).toNat⟩] else []
def leafJob (R:RSt)(i:Nat)(fr:Int):Ar:=⟨fr,nodeR R 2 (R.t3.getD i (0,0,0)).2.1.toNat,1,cR R i R.t1.length⟩
def leafAny (R:RSt)(i:Nat)(fr mo:Int):Ar:=⟨fr,0,1,(R.t3.getD i (0,0,0)).2.2+mo⟩
def leafR (R:RSt)(i id:Nat):List Ar :=
 leafRun R i (nodeR R 3 id) (R.on.getD i (-1)) ++ [leafJob R i (nodeR R 3 id)] ++ leafUp R (nodeR R 3 id) id (moreR (R.on.getD i (-1))) 2 ++ [leafAny R i (nodeR R 3 id) (moreR (R.on.getD i (-1)))]
theorem Zd9 {R:RSt}{fr t mo:Int}{kd:Nat}{l:List Int}{n:Nat}(hn:n<l.length):leafK R fr t mo kd (l.take (n+1))=leafK R fr t mo kd (l.take n) ++ leafW R fr t mo kd l[n]:=by
 unfold leafK
 rw [List.take_succ_eq_append_getElem hn,List.flatMap_append]
 simp
theorem Ze5 (R:RSt)(fr t mo:Int)(kd:Nat)(id:Int):(leafW R fr t mo kd id).length≤1:=by
 unfold leafW
 split <;> simp
theorem ZbU {R:RSt}{fr t mo:Int}{kd:Nat}:∀ (l:List Int),(leafK R fr t mo kd l).length≤l.length
 | []=>by simp [leafK]
 | a :: l=>by
  have h1:=ZbU (R:=R) (fr:=fr) (t:=t) (mo:=mo) (kd:=kd) l
  have h2:=Ze5 R fr t mo kd a
  unfold leafK at h1 ⊢
  rw [List.flatMap_cons,Jo,List.length_cons]
  omega
theorem Zew {R:RSt}{k n m:Nat}(hm:m<(idsR R k n).length):∃ j:Nat,j<n∧(idsR R k n)[m]=(j:Int):=by
 have h1:(idsR R k n)[m]∈idsR R k n:=Jl hm
 unfold idsR at h1
 obtain ⟨j,hj,e⟩:=List.mem_map.1 h1
 have:=(List.mem_filter.1 hj).1
 exact ⟨j,List.mem_range.1 this,e.symm⟩
theorem ZdW {R:RSt}(hf:NetFit R){t k id c:Int}(h:wishR R t k id=some c):0≤c∧c≤1000:=by
 unfold wishR at h
 cases hq:R.ws.find? (isWi t k id) with
 | none=>rw [hq] at h; cases h
 | some x =>
  rw [hq] at h
  cases h
  have hm:=List.mem_of_find?_eq_some hq
  exact ⟨hf.run.ws x hm,hf.ws x hm⟩
theorem Zgu {b0 b1:Nat}{w:World}{v v':Value}{xs:List Ar}{ys:List Int}(hA:ARow b0 w v xs)(hN:NRow b1 w v' ys):v'.ownBlock=none∨v'.ownBlock≠v.ownBlock:=by
 cases hq:v'.ownBlock with
 | none=>exact Jr rfl
 | some b =>
  right
  intro e
  obtain ⟨cur,h1⟩:=hN.row.elem hq
  rcases hA.2 with ⟨rfl,_⟩ | ⟨g,cap,cur',rfl,_,hg,_⟩
  ·cases e
  ·cases e
   rw [hg] at h1
   simp at h1
section
variable {w:World}{rb:Nat}{V:RVs}{x7 x8 x9 x10 x11:Value}{R:RSt}
theorem ZfT (h:RefAt w rb V x7 x8 x9 x10 x11 R)(hf:NetFit R)(i id:Nat)(hi:i<R.t3.length)(hid0:id≤99)(hat:atOf (id:Int) R.t3=i) :
  Calls Tryz.prog 98 #[.pointer (some ⟨rb,0,none⟩),.int .i64 id] w fun e w'=>∃ v,e=.returned v∧ARow w.heap.size w' v (leafR R i id)∧Below w.heap.size w w':=by
 have A1:=hid (Zdi h hf.len (show 3≤3 by omega) id)
 have e3:tkR R 3=R.t3:=rfl
 rw [e3,hat] at A1
 have A2:=hid (Za1 h hf.len (show 3≤3 by omega) (show id≤100 by omega))
 have hio:i<R.on.length:=by rw [hf.run.lo]; exact hi
 rcases h.ro.shape (fun _=>rfl) with ⟨_,e0⟩ | ⟨go,capo,curo,hvo,_,hglo,hleo,_,hco⟩
 ·rw [e0] at hio; simp at hio
 have q4:=(hco i 0 hio (by decide)).1
 simp only [cellsI,Je,Nat.add_zero,Nat.mul_one] at q4
 have c5:=h.c5
 rw [hvo] at c5
 have hrb:=h.lt
 have hioI:(i:Int)<(R.on.length:Int):=by omega
 have hon:=hf.on i hio
 obtain ⟨o,ho⟩:∃ o,R.on[i]=o:=⟨_,rfl⟩
 rw [ho] at q4 hon
 have hoD:R.on.getD i (-1)=o:=by rw [Zac hio,ho]
 obtain ⟨fr,hfr⟩:∃ fr,nodeR R 3 id=fr:=⟨_,rfl⟩
 rw [hfr] at A2
 have Hfr:=hid (Jc hfr hoD)
 clear hco hfr hoD e3
 go_enter Tryz.func98,Tryz.ntmps98
 go_upto_region 6 with (first
  | (go_at_call 62; refine A1.out.mono ?_; rintro e w2 ⟨rfl,rfl⟩)
  | (go_at_call 96; refine A2.out.mono ?_; rintro e w3 ⟨rfl,rfl⟩)
  | fail)
 by_cases ho0:0≤o
 ·obtain ⟨k,hk,hok⟩:∃ k,∃ hk:k<R.t1.length,o=R.t1[k].1:=by
   rcases hon with e | q
   ·omega
   ·exact q
  have hob:=hf.run.id1 _ (Jl hk)
  rw [← hok] at hob
  obtain ⟨on',hon'⟩:∃ n:Nat,o=(n:Int):=⟨o.toNat,by omega⟩
  have hatk:atOf o R.t1=k:=by rw [hok]; exact hf.run.at1 k hk
  have A3:=hid (Za1 h hf.len (show 1≤3 by omega) (show on'≤100 by omega))
  have A6:=hid (Zcn h i k o (by omega) hi hio (by have:=hf.run.len1; omega) hk hatk (by have:=hf.run.lw; omega) (hf.run.n3 _ (Jl hi)) hf.run.ws)
  have ec:cR R i k=minW R.t3[i].1 o R.t1[k].2.1 R.t3[i].2.2 R.ws+mvR R.on[i] o:=by
   unfold cR
   rw [if_pos hk,Zac hi,Zac hk,Zac hio,← hok]
  rw [← ec] at A6
  have eRun:leafRun R i fr o=[⟨fr,nodeR R 1 on',1,cR R i k⟩]:=by
   unfold leafRun
   rw [if_pos ho0,hatk,hon',Jn,Jn]
  obtain ⟨n1,hn1⟩:∃ x,nodeR R 1 on'=x:=⟨_,rfl⟩
  obtain ⟨ck,hck⟩:∃ x,cR R i k=x:=⟨_,rfl⟩
  rw [hn1] at A3 eRun
  rw [hck] at A6 eRun
  have d1:decide (0≤o)=true:=by simpa using ho0
  have hmo:moreR o=50:=by unfold moreR; rw [if_pos ho0]
  have HR:=hid (Jc eRun hmo)
  clear ec hn1 hck eRun hmo hatk hok hon
  subst hon'
  go_upto_region 9 with (first
   | (go_at_call 96; refine A3.out.mono ?_; rintro e W4 ⟨rfl,rfl⟩)
   | (go_at_call 68; refine A6.out.mono ?_; rintro e W5 ⟨rfl,b5⟩; have hArA:=(ARow.nil W4.heap.size W5).below ((Jd _ _).alloc (Jb _) (.cells #[.int .i64 fr,.int .i64 n1,.int .i64 1,.int .i64 ck] 93)); have b5s:=b5.size)
   | (at_builtin; refine ZaX _ W4.heap.size ⟨fr,n1,1,ck⟩ (.slice none 0 0) [] rfl _ _ rfl rfl hArA W5.heap.size rfl (heap_alloc_new W5 _) (by simp; omega) (by simp) ?_; intro v5 W6 hArow hg6 hloc6)
   | fail)
  have hbW:Below W4.heap.size W4 W6:=(Zai b5 ((Jd _ _).alloc (Jb _) _)).grown hg6 (by simp; omega) (fun b e=>by cases e)
  obtain ⟨L0,hL0⟩:∃ L0,([] ++ [(⟨fr,n1,1,ck⟩:Ar)])=L0:=⟨_,rfl⟩
  have hL0n:L0.length≤1:=by rw [← hL0]; simp
  rw [hL0] at hArow
  have HL0:=hid hL0
  obtain ⟨mo,hmo⟩:∃ mo:Int,(50:Int)=mo:=⟨_,rfl⟩
  have hmoI:0≤mo∧mo≤50:=by omega
  have hmo0:=hmoI.1
  have hmo1:=hmoI.2
  simp only [hmo]
  have Hmo:=hid hmo
  have HRun:=hid (HR.out.1.trans HL0.out)
  have HMore:=hid (HR.out.2.trans Hmo.out)
  clear hmo hL0 hg6 hloc6 b5 b5s A3 A6 hArA c5 q4 hvo hglo d1 hmoI
  have hpW:=h.below hbW
  obtain ⟨j,hj,ej⟩:=hf.run.job i hi
  have hjid:R.t2[j].1=R.t3[i].2.1:=by
   obtain ⟨k',hk',e1,e2⟩:=Zag (id:=R.t3[i].2.1) (xs:=R.t2) (by omega)
   rw [ej] at e1
   have:k'=j:=by omega
   subst this
   exact e2
  have hjb:=hf.id2 _ (Jl hj)
  rw [hjid] at hjb
  obtain ⟨jn,hjn⟩:∃ jn:Nat,R.t3[i].2.1=(jn:Int):=⟨R.t3[i].2.1.toNat,by omega⟩
  have hit:i<R.wt.length:=by rw [hf.run.wl]; exact hi
  have ecN:cR R i R.t1.length=R.t2[j].2.2+R.wt[i]+mvR R.on[i] (-1):=by
   unfold cR
   rw [if_neg (by omega),Zac hi,ej,Jn,Zac hj,Zac hit,Zac hio]
  have A4:=hid (Za1 hpW hf.len (show 2≤3 by omega) (show jn≤100 by omega))
  have A5:=hid (ZbA hpW i j hi hio hit (by have:=hf.run.len2; omega) hj ej (hf.run.n2 _ (Jl hj)).1 (hf.run.n2 _ (Jl hj)).2 (hf.run.wt _ (Jl hit)).1 (hf.run.wt _ (Jl hit)).2)
  rw [← ecN] at A5
  rcases hpW.r3.shape (fun _=>rfl) with ⟨_,e0⟩ | ⟨g3,cap3,cur3,hv3,_,hgl3,hle3,_,hc3⟩
  ·rw [e0] at hi; simp at hi
  have p1:=(hc3 i 1 hi (by decide)).1
  simp only [cellsT,Je,Jf] at p1
  rw [hjn] at p1
  have c3:=hpW.c3
  rw [hv3] at c3
  have hrbW:=hpW.lt
  have hiI:(i:Int)<(R.t3.length:Int):=by omega
  have eJob:leafJob R i fr=⟨fr,nodeR R 2 jn,1,cR R i R.t1.length⟩:=by
   unfold leafJob
   rw [Zac hi,hjn,Jn]
  obtain ⟨nj,hnj⟩:∃ x,nodeR R 2 jn=x:=⟨_,rfl⟩
  obtain ⟨cn,hcn⟩:∃ x,cR R i R.t1.length=x:=⟨_,rfl⟩
  rw [hnj] at A4 eJob
  rw [hcn] at A5 eJob
  have HJ:=hid (Jc eJob (Jc hArow hbW))
  have hbWs:=hbW.size
  clear hc3 hjid hjn ecN hnj hcn eJob hArow hbW ej hpW
  go_upto_region 10 with (first
   | (go_at_call 96; refine A4.out.mono ?_; rintro e Y4 ⟨rfl,rfl⟩)
   | (go_at_call 68; refine A5.out.mono ?_; rintro e Y5 ⟨rfl,b5⟩; have hArA:=(HJ.out.2.1.below b5).below ((Jd _ _).alloc (Jb _) (.cells #[.int .i64 fr,.int .i64 nj,.int .i64 1,.int .i64 cn] 93)); have b5s:=b5.size)
   | (at_builtin; refine ZaX _ _ ⟨fr,nj,1,cn⟩ v5 L0 rfl _ _ rfl rfl hArA Y5.heap.size rfl (heap_alloc_new Y5 _) (by simp; omega) (by omega) ?_; intro v6 Y6 hrow6 hg6 hloc6)
   | fail)
  have hb6:Below W4.heap.size W4 Y6:=(Zai (Zai HJ.out.2.2 b5) ((Jd _ _).alloc (Jb _) _)).grown hg6 (by simp; omega) (fun b e=>HJ.out.2.1.base b e)
  have H6:=hid (Jc hrow6 hb6)
  obtain ⟨L1,hL1⟩:∃ L1,L0 ++ [(⟨fr,nj,1,cn⟩:Ar)]=L1:=⟨_,rfl⟩
  have hL1n:L1.length≤2:=by rw [← hL1]; simp; omega
  have HL1:=hid hL1
  clear hrow6 hb6 hg6 hloc6 hL1 A4 A5 hArA b5 b5s p1 c3 hv3 hgl3 hrbW hbWs
  go_wp2_with fail
  go_loopg [5,10] 2 (fun gk vl kv wr=>∃ m:Nat,m≤2∧2 - m≤gk∧kv=.int .i64 (1 - (m:Int))∧Hid (ARow W4.heap.size wr vl (L1 ++ leafUp R fr id mo m)∧(leafUp R fr id mo m).length≤100*m∧Below W4.heap.size W4 wr))
  case atStart=>exact ⟨0,Jq _,Jb _,by simp,by rw [← HL1.out]; simpa [leafUp] using H6.out.1,by simp [leafUp],H6.out.2⟩
  case' round=>skip
  clear H6
  obtain ⟨m,hm,hgk,rfl,H7⟩:=hrel
  rename World=>Z0
  by_cases hlt:m<2
  ·obtain ⟨kd,hkd,hkd1,hkd2⟩:∃ kd:Nat,(1 - (m:Int))=(kd:Int)∧kd≤1∧1 - m=kd:=⟨1 - m,by omega,by omega,rfl⟩
   have hkI:(0:Int)≤(kd:Int):=by omega
   have A7:=hid (Zbv (h.below H7.out.2.2) hf.len (show kd≤3 by omega))
   simp only [hkd]
   have hil:=Zaq R kd 100
   have hup:leafUp R fr id mo (m+1)=leafUp R fr id mo m ++ leafK R fr id mo kd (idsR R kd 100):=by
    show leafUp R fr id mo m ++ leafK R fr id mo (1 - m) (idsR R (1 - m) 100)=_
    rw [hkd2]
   have hkK:=ZbU (R:=R) (fr:=fr) (t:=id) (mo:=mo) (kd:=kd) (idsR R kd 100)
   have Hup:=hid (Jc hup hkd)
   clear hup hkd
   go_wp2_with fail
   refine A7.out.mono ?_
   rintro e Z1 ⟨vi,rfl,hNi,b1⟩
   have H8:=hid (Jc (H7.out.1.below b1) (Jc hNi (Zai H7.out.2.2 b1)))
   obtain ⟨pi,ci,hvi⟩:=Zah hNi.row
   subst hvi
   clear hNi b1 A7
   go_wp2_with fail
   go_loopg [5,12] ((idsR R kd 100).length) (fun gk vl nv wr=>∃ n:Nat,n≤(idsR R kd 100).length∧(idsR R kd 100).length - n≤gk∧nv=.int .i64 n∧Hid (ARow W4.heap.size wr vl (L1 ++ leafUp R fr id mo m ++ leafK R fr id mo kd ((idsR R kd 100).take n))∧NRow Z0.heap.size wr (.slice pi (idsR R kd 100).length ci) (idsR R kd 100)∧Below W4.heap.size W4 wr))
   case atStart=>exact ⟨0,Jq _,Jb _,rfl,by simpa [leafK] using H8.out.1,H8.out.2.1,H8.out.2.2⟩
   case' round=>skip
   clear H8
   obtain ⟨n,hn,hgk2,rfl,H9⟩:=hrel
   rename World=>Z2
   by_cases hlt2:n<(idsR R kd 100).length
   ·have hnI:(n:Int)<((idsR R kd 100).length:Int):=by omega
    rcases H9.out.2.1.row.shape (fun _=>rfl) with ⟨_,e0⟩ | ⟨gi,capi,curi,hvi,_,hgli,_,_,hci⟩
    ·rw [e0] at hlt2; simp at hlt2
    have p0:=(hci n 0 hlt2 (by decide)).1
    simp only [cellsI,Je,Nat.add_zero,Nat.mul_one] at p0
    cases hvi
    obtain ⟨jd,hjd,ejd⟩:=Zew hlt2
    rw [ejd] at p0
    have hsn:=Zd9 (R:=R) (fr:=fr) (t:=id) (mo:=mo) (kd:=kd) hlt2
    rw [ejd] at hsn
    have hkl:=ZbU (R:=R) (fr:=fr) (t:=id) (mo:=mo) (kd:=kd) ((idsR R kd 100).take n)
    have htl:((idsR R kd 100).take n).length=n:=by rw [List.length_take]; omega
    have hpZ:=h.below H9.out.2.2
    have A8:=hid (ZdQ hpZ hf.run.lw id kd jd)
    cases hwq:wishR R id kd jd with
    | some c =>
     have hcb:=ZdW hf hwq
     have hcb0:=hcb.1
     have hcb1:=hcb.2
     rw [hwq] at A8
     have hWl:leafW R fr id mo kd jd=[⟨fr,nodeR R kd jd,1,c+mo⟩]:=by unfold leafW; rw [hwq,Jn]
     rw [hWl] at hsn
     obtain ⟨nk,hnk⟩:∃ x,nodeR R kd jd=x:=⟨_,rfl⟩
     rw [hnk] at hsn
     have A9:=hid (fun (W':World) (b':Below Z2.heap.size Z2 W')=>Za1 (hpZ.below b') hf.len (show kd≤3 by omega) (show jd≤100 by omega))
     rw [hnk] at A9
     have Hsn:=hid hsn
     clear hci hWl hsn hnk ejd hpZ hwq
     go_wp2_with fail
     refine A8.out.mono ?_
     rintro e Z3 ⟨rfl,b3⟩
     have p3:=(b3.cell (p:=⟨gi,n,none⟩) hgli).trans p0
     have hgl3:gi<Z3.heap.size:=Jm hgli b3.size
     have A10:=hid (A9.out Z3 b3)
     have b3s:=b3.size
     have hArA:=(H9.out.1.below b3).below ((Jd _ _).alloc (Jb _) (.cells #[.int .i64 fr,.int .i64 nk,.int .i64 1,.int .i64 (c+mo)] 93))
     have hb9:=H9.out.2.2.size
     have hll:(L1 ++ leafUp R fr id mo m ++ leafK R fr id mo kd ((idsR R kd 100).take n)).length≤1000000:=by rw [Jo,Jo]; have:=H7.out.2.1; omega
     clear A9
     go_upto_region 16 with (first
      | (go_at_call 96; refine A10.out.mono ?_; rintro e Z4 ⟨rfl,rfl⟩)
      | (at_builtin; refine ZaX _ _ ⟨fr,nk,1,c+mo⟩ _ _ rfl _ _ rfl rfl hArA Z4.heap.size rfl (heap_alloc_new Z4 _) (by simp; omega) hll ?_; intro v7 Z5 hrow7 hg7 hloc7)
      | fail)
     have hNA:=(H9.out.2.1.below b3).below ((Jd _ _).alloc (Jb _) (.cells #[.int .i64 fr,.int .i64 nk,.int .i64 1,.int .i64 (c+mo)] 93))
     have hN5:=hNA.kept hg7 (Zgu hArA hNA)
     have hb7:Below W4.heap.size W4 Z5:=(Zai (Zai H9.out.2.2 b3) ((Jd _ _).alloc (Jb _) _)).grown hg7 (by simp; omega) (fun b e=>H9.out.1.base b e)
     rw [List.append_assoc,← Hsn.out] at hrow7
     clear hNA hArA hg7 hloc7
     go_wp2_with fail
     go_roundg ((idsR R kd 100).length - (n+1))
     case measure=>omega
     case rel=>exact ⟨n+1,by omega,Jb _,by go_num,hrow7,hN5,hb7⟩
    | none =>
     rw [hwq] at A8
     have hWl:leafW R fr id mo kd jd=[]:=by unfold leafW; rw [hwq]
     rw [hWl,List.append_nil] at hsn
     have Hsn:=hid hsn
     clear hci hWl hsn ejd hpZ hwq
     go_wp2_with fail
     refine A8.out.mono ?_
     rintro e Z3 ⟨rfl,b3⟩
     go_wp2_with fail
     go_roundg ((idsR R kd 100).length - (n+1))
     case measure=>omega
     case rel=>exact ⟨n+1,by omega,Jb _,by go_num,by rw [Hsn.out]; exact H9.out.1.below b3,H9.out.2.1.below b3,Zai H9.out.2.2 b3⟩
   ·obtain rfl:n=(idsR R kd 100).length:=by omega
    have hfull:=H9.out.1
    rw [List.take_length,List.append_assoc,← Hup.out.1] at hfull
    have hful2:(leafUp R fr id mo (m+1)).length≤100*(m+1):=by rw [Hup.out.1,Jo]; have:=H7.out.2.1; omega
    have Hf:=hid (Jc hfull (Jc hful2 H9.out.2.2))
    clear hfull hful2
    go_wp2_with fail
    go_roundg (2 - (m+1))
    case measure=>omega
    case rel=>exact ⟨m+1,by omega,Jb _,by have q:=Hup.out.2; go_num,Hf.out.1,Hf.out.2.1,Hf.out.2.2⟩
  ·obtain rfl:m=2:=by omega
   have hpZ:=h.below H7.out.2.2
   rcases hpZ.r3.shape (fun _=>rfl) with ⟨_,e0⟩ | ⟨g3,cap3,cur3,hv3,_,hgl3,hle3,_,hc3⟩
   ·rw [e0] at hi; simp at hi
   have p2:=(hc3 i 2 hi (by decide)).1
   simp only [cellsT,Je,Jf] at p2
   have hz3:=hf.run.n3 _ (Jl hi)
   obtain ⟨z3,hz⟩:∃ z,R.t3[i].2.2=z:=⟨_,rfl⟩
   rw [hz] at p2 hz3
   have hz30:=hz3.1
   have hz31:=hz3.2
   have c3:=hpZ.c3
   rw [hv3] at c3
   have hrbZ:=hpZ.lt
   have hArA:=H7.out.1.below ((Jd _ _).alloc (Jb _) (.cells #[.int .i64 fr,.int .i64 0,.int .i64 1,.int .i64 (z3+mo)] 93))
   have hll:(L1 ++ leafUp R fr id mo 2).length≤1000000:=by rw [Jo]; have:=H7.out.2.1; omega
   have hb7s:=H7.out.2.2.size
   have Hz:=hid hz
   clear hc3 hz hpZ
   go_wp2_with (first
    | (at_builtin; refine ZaX _ _ ⟨fr,0,1,z3+mo⟩ _ _ rfl _ _ rfl rfl hArA Z0.heap.size rfl (heap_alloc_new Z0 _) (by simp; omega) hll ?_; intro v8 Z5 hrow8 hg8 hloc8)
    | fail)
   have hb8:Below W4.heap.size W4 Z5:=(Zai H7.out.2.2 ((Jd _ _).alloc (Jb _) _)).grown hg8 (by simp; omega) (fun b e=>H7.out.1.base b e)
   go_ret
   refine ⟨_,rfl,?_,hb8⟩
   have eAll:leafR R i id=L1 ++ leafUp R fr id mo 2 ++ [⟨fr,0,1,z3+mo⟩]:=by
    unfold leafR leafAny
    rw [Hfr.out.1,Hfr.out.2,HRun.out,HMore.out,HJ.out.1,HL1.out,Zac hi,Hz.out]
   rw [eAll]
   exact hrow8
 ·have d1:decide (0≤o)=false:=by simpa using ho0
  have hbW:Below w3.heap.size w3 w3:=Jd _ _
  have hArow:=ARow.nil w3.heap.size w3
  obtain ⟨L0,hL0⟩:∃ L0,([]:List Ar)=L0:=⟨_,rfl⟩
  have hL0n:L0.length≤1:=by rw [← hL0]; simp
  rw [hL0] at hArow
  have HRun:=hid (show leafRun R i fr o=L0 by unfold leafRun; rw [if_neg ho0]; exact hL0)
  have HMore:=hid (show moreR o=0 by unfold moreR; rw [if_neg ho0])
  clear hL0 hon
  go_upto_region 9 with fail
  have hpW:=h.below hbW
  obtain ⟨j,hj,ej⟩:=hf.run.job i hi
  have hjid:R.t2[j].1=R.t3[i].2.1:=by
   obtain ⟨k',hk',e1,e2⟩:=Zag (id:=R.t3[i].2.1) (xs:=R.t2) (by omega)
   rw [ej] at e1
   have:k'=j:=by omega
   subst this
   exact e2
  have hjb:=hf.id2 _ (Jl hj)
  rw [hjid] at hjb
  obtain ⟨jn,hjn⟩:∃ jn:Nat,R.t3[i].2.1=(jn:Int):=⟨R.t3[i].2.1.toNat,by omega⟩
  have hit:i<R.wt.length:=by rw [hf.run.wl]; exact hi
  have ecN:cR R i R.t1.length=R.t2[j].2.2+R.wt[i]+mvR R.on[i] (-1):=by
   unfold cR
   rw [if_neg (by omega),Zac hi,ej,Jn,Zac hj,Zac hit,Zac hio]
  have A4:=hid (Za1 hpW hf.len (show 2≤3 by omega) (show jn≤100 by omega))
  have A5:=hid (ZbA hpW i j hi hio hit (by have:=hf.run.len2; omega) hj ej (hf.run.n2 _ (Jl hj)).1 (hf.run.n2 _ (Jl hj)).2 (hf.run.wt _ (Jl hit)).1 (hf.run.wt _ (Jl hit)).2)
  rw [← ecN] at A5
  rcases hpW.r3.shape (fun _=>rfl) with ⟨_,e0⟩ | ⟨g3,cap3,cur3,hv3,_,hgl3,hle3,_,hc3⟩
  ·rw [e0] at hi; simp at hi
  have p1:=(hc3 i 1 hi (by decide)).1
  simp only [cellsT,Je,Jf] at p1
  rw [hjn] at p1
  have c3:=hpW.c3
  rw [hv3] at c3
  have hrbW:=hpW.lt
  have hiI:(i:Int)<(R.t3.length:Int):=by omega
  have eJob:leafJob R i fr=⟨fr,nodeR R 2 jn,1,cR R i R.t1.length⟩:=by
   unfold leafJob
   rw [Zac hi,hjn,Jn]
  obtain ⟨nj,hnj⟩:∃ x,nodeR R 2 jn=x:=⟨_,rfl⟩
  obtain ⟨cn,hcn⟩:∃ x,cR R i R.t1.length=x:=⟨_,rfl⟩
  rw [hnj] at A4 eJob
  rw [hcn] at A5 eJob
  have HJ:=hid (Jc eJob (Jc hArow hbW))
  have hbWs:=hbW.size
  clear hc3 hjid hjn ecN hnj hcn eJob hArow hbW ej hpW
  go_upto_region 10 with (first
   | (go_at_call 96; refine A4.out.mono ?_; rintro e Y4 ⟨rfl,rfl⟩)
   | (go_at_call 68; refine A5.out.mono ?_; rintro e Y5 ⟨rfl,b5⟩; have hArA:=(HJ.out.2.1.below b5).below ((Jd _ _).alloc (Jb _) (.cells #[.int .i64 fr,.int .i64 nj,.int .i64 1,.int .i64 cn] 93)); have b5s:=b5.size)
   | (at_builtin; refine ZaX _ _ ⟨fr,nj,1,cn⟩ (.slice none 0 0) L0 rfl _ _ rfl rfl hArA Y5.heap.size rfl (heap_alloc_new Y5 _) (by simp; omega) (by omega) ?_; intro v6 Y6 hrow6 hg6 hloc6)
   | fail)
  have hb6:Below Y4.heap.size Y4 Y6:=(Zai (Zai HJ.out.2.2 b5) ((Jd _ _).alloc (Jb _) _)).grown hg6 (by simp; omega) (fun b e=>HJ.out.2.1.base b e)
  have H6:=hid (Jc hrow6 hb6)
  obtain ⟨L1,hL1⟩:∃ L1,L0 ++ [(⟨fr,nj,1,cn⟩:Ar)]=L1:=⟨_,rfl⟩
  have hL1n:L1.length≤2:=by rw [← hL1]; simp; omega
  have HL1:=hid hL1
  clear hrow6 hb6 hg6 hloc6 hL1 A4 A5 hArA b5 b5s p1 c3 hv3 hgl3 hrbW hbWs
  go_wp2_with fail
  go_loopg [5,10] 2 (fun gk vl kv wr=>∃ m:Nat,m≤2∧2 - m≤gk∧kv=.int .i64 (1 - (m:Int))∧Hid (ARow Y4.heap.size wr vl (L1 ++ leafUp R fr id (0:Int) m)∧(leafUp R fr id (0:Int) m).length≤100*m∧Below Y4.heap.size Y4 wr))
  case atStart=>exact ⟨0,Jq _,Jb _,by simp,by rw [← HL1.out]; simpa [leafUp] using H6.out.1,by simp [leafUp],H6.out.2⟩
  case' round=>skip
  clear H6
  obtain ⟨m,hm,hgk,rfl,H7⟩:=hrel
  rename World=>Z0
  by_cases hlt:m<2
  ·obtain ⟨kd,hkd,hkd1,hkd2⟩:∃ kd:Nat,(1 - (m:Int))=(kd:Int)∧kd≤1∧1 - m=kd:=⟨1 - m,by omega,by omega,rfl⟩
   have hkI:(0:Int)≤(kd:Int):=by omega
   have A7:=hid (Zbv (h.below H7.out.2.2) hf.len (show kd≤3 by omega))
   simp only [hkd]
   have hil:=Zaq R kd 100
   have hup:leafUp R fr id (0:Int) (m+1)=leafUp R fr id (0:Int) m ++ leafK R fr id (0:Int) kd (idsR R kd 100):=by
    show leafUp R fr id (0:Int) m ++ leafK R fr id (0:Int) (1 - m) (idsR R (1 - m) 100)=_
    rw [hkd2]
   have hkK:=ZbU (R:=R) (fr:=fr) (t:=id) (mo:=0) (kd:=kd) (idsR R kd 100)
   have Hup:=hid (Jc hup hkd)
   clear hup hkd
   go_wp2_with fail
   refine A7.out.mono ?_
   rintro e Z1 ⟨vi,rfl,hNi,b1⟩
   have H8:=hid (Jc (H7.out.1.below b1) (Jc hNi (Zai H7.out.2.2 b1)))
   obtain ⟨pi,ci,hvi⟩:=Zah hNi.row
   subst hvi
   clear hNi b1 A7
   go_wp2_with fail
   go_loopg [5,12] ((idsR R kd 100).length) (fun gk vl nv wr=>∃ n:Nat,n≤(idsR R kd 100).length∧(idsR R kd 100).length - n≤gk∧nv=.int .i64 n∧Hid (ARow Y4.heap.size wr vl (L1 ++ leafUp R fr id (0:Int) m ++ leafK R fr id (0:Int) kd ((idsR R kd 100).take n))∧NRow Z0.heap.size wr (.slice pi (idsR R kd 100).length ci) (idsR R kd 100)∧Below Y4.heap.size Y4 wr))
   case atStart=>exact ⟨0,Jq _,Jb _,rfl,by simpa [leafK] using H8.out.1,H8.out.2.1,H8.out.2.2⟩
   case' round=>skip
   clear H8
   obtain ⟨n,hn,hgk2,rfl,H9⟩:=hrel
   rename World=>Z2
   by_cases hlt2:n<(idsR R kd 100).length
   ·have hnI:(n:Int)<((idsR R kd 100).length:Int):=by omega
    rcases H9.out.2.1.row.shape (fun _=>rfl) with ⟨_,e0⟩ | ⟨gi,capi,curi,hvi,_,hgli,_,_,hci⟩
    ·rw [e0] at hlt2; simp at hlt2
    have p0:=(hci n 0 hlt2 (by decide)).1
    simp only [cellsI,Je,Nat.add_zero,Nat.mul_one] at p0
    cases hvi
    obtain ⟨jd,hjd,ejd⟩:=Zew hlt2
    rw [ejd] at p0
    have hsn:=Zd9 (R:=R) (fr:=fr) (t:=id) (mo:=0) (kd:=kd) hlt2
    rw [ejd] at hsn
    have hkl:=ZbU (R:=R) (fr:=fr) (t:=id) (mo:=0) (kd:=kd) ((idsR R kd 100).take n)
    have htl:((idsR R kd 100).take n).length=n:=by rw [List.length_take]; omega
    have hpZ:=h.below H9.out.2.2
    have A8:=hid (ZdQ hpZ hf.run.lw id kd jd)
    cases hwq:wishR R id kd jd with
    | some c =>
     have hcb:=ZdW hf hwq
     have hcb0:=hcb.1
     have hcb1:=hcb.2
     rw [hwq] at A8
     have hWl:leafW R fr id (0:Int) kd jd=[⟨fr,nodeR R kd jd,1,c⟩]:=by unfold leafW; rw [hwq,Jn]; simp only [Int.add_zero]
     rw [hWl] at hsn
     obtain ⟨nk,hnk⟩:∃ x,nodeR R kd jd=x:=⟨_,rfl⟩
     rw [hnk] at hsn
     have A9:=hid (fun (W':World) (b':Below Z2.heap.size Z2 W')=>Za1 (hpZ.below b') hf.len (show kd≤3 by omega) (show jd≤100 by omega))
     rw [hnk] at A9
     have Hsn:=hid hsn
     clear hci hWl hsn hnk ejd hpZ hwq
     go_wp2_with fail
     refine A8.out.mono ?_
     rintro e Z3 ⟨rfl,b3⟩
     have p3:=(b3.cell (p:=⟨gi,n,none⟩) hgli).trans p0
     have hgl3:gi<Z3.heap.size:=Jm hgli b3.size
     have A10:=hid (A9.out Z3 b3)
     have b3s:=b3.size
     have hArA:=(H9.out.1.below b3).below ((Jd _ _).alloc (Jb _) (.cells #[.int .i64 fr,.int .i64 nk,.int .i64 1,.int .i64 c] 93))
     have hb9:=H9.out.2.2.size
     have hll:(L1 ++ leafUp R fr id (0:Int) m ++ leafK R fr id (0:Int) kd ((idsR R kd 100).take n)).length≤1000000:=by rw [Jo,Jo]; have:=H7.out.2.1; omega
     clear A9
     go_upto_region 16 with (first
      | (go_at_call 96; refine A10.out.mono ?_; rintro e Z4 ⟨rfl,rfl⟩)
      | (at_builtin; refine ZaX _ _ ⟨fr,nk,1,c⟩ _ _ rfl _ _ rfl rfl hArA Z4.heap.size rfl (heap_alloc_new Z4 _) (by simp; omega) hll ?_; intro v7 Z5 hrow7 hg7 hloc7)
      | fail)
     have hNA:=(H9.out.2.1.below b3).below ((Jd _ _).alloc (Jb _) (.cells #[.int .i64 fr,.int .i64 nk,.int .i64 1,.int .i64 c] 93))
     have hN5:=hNA.kept hg7 (Zgu hArA hNA)
     have hb7:Below Y4.heap.size Y4 Z5:=(Zai (Zai H9.out.2.2 b3) ((Jd _ _).alloc (Jb _) _)).grown hg7 (by simp; omega) (fun b e=>H9.out.1.base b e)
     rw [List.append_assoc,← Hsn.out] at hrow7
     clear hNA hArA hg7 hloc7
     go_wp2_with fail
     go_roundg ((idsR R kd 100).length - (n+1))
     case measure=>omega
     case rel=>exact ⟨n+1,by omega,Jb _,by go_num,hrow7,hN5,hb7⟩
    | none =>
     rw [hwq] at A8
     have hWl:leafW R fr id (0:Int) kd jd=[]:=by unfold leafW; rw [hwq]
     rw [hWl,List.append_nil] at hsn
     have Hsn:=hid hsn
     clear hci hWl hsn ejd hpZ hwq
     go_wp2_with fail
     refine A8.out.mono ?_
     rintro e Z3 ⟨rfl,b3⟩
     go_wp2_with fail
     go_roundg ((idsR R kd 100).length - (n+1))
     case measure=>omega
     case rel=>exact ⟨n+1,by omega,Jb _,by go_num,by rw [Hsn.out]; exact H9.out.1.below b3,H9.out.2.1.below b3,Zai H9.out.2.2 b3⟩
   ·obtain rfl:n=(idsR R kd 100).length:=by omega
    have hfull:=H9.out.1
    rw [List.take_length,List.append_assoc,← Hup.out.1] at hfull
    have hful2:(leafUp R fr id (0:Int) (m+1)).length≤100*(m+1):=by rw [Hup.out.1,Jo]; have:=H7.out.2.1; omega
    have Hf:=hid (Jc hfull (Jc hful2 H9.out.2.2))
    clear hfull hful2
    go_wp2_with fail
    go_roundg (2 - (m+1))
    case measure=>omega
    case rel=>exact ⟨m+1,by omega,Jb _,by have q:=Hup.out.2; go_num,Hf.out.1,Hf.out.2.1,Hf.out.2.2⟩
  ·obtain rfl:m=2:=by omega
   have hpZ:=h.below H7.out.2.2
   rcases hpZ.r3.shape (fun _=>rfl) with ⟨_,e0⟩ | ⟨g3,cap3,cur3,hv3,_,hgl3,hle3,_,hc3⟩
   ·rw [e0] at hi; simp at hi
   have p2:=(hc3 i 2 hi (by decide)).1
   simp only [cellsT,Je,Jf] at p2
   have hz3:=hf.run.n3 _ (Jl hi)
   obtain ⟨z3,hz⟩:∃ z,R.t3[i].2.2=z:=⟨_,rfl⟩
   rw [hz] at p2 hz3
   have hz30:=hz3.1
   have hz31:=hz3.2
   have c3:=hpZ.c3
   rw [hv3] at c3
   have hrbZ:=hpZ.lt
   have hArA:=H7.out.1.below ((Jd _ _).alloc (Jb _) (.cells #[.int .i64 fr,.int .i64 0,.int .i64 1,.int .i64 z3] 93))
   have hll:(L1 ++ leafUp R fr id (0:Int) 2).length≤1000000:=by rw [Jo]; have:=H7.out.2.1; omega
   have hb7s:=H7.out.2.2.size
   have Hz:=hid hz
   clear hc3 hz hpZ
   go_wp2_with (first
    | (at_builtin; refine ZaX _ _ ⟨fr,0,1,z3⟩ _ _ rfl _ _ rfl rfl hArA Z0.heap.size rfl (heap_alloc_new Z0 _) (by simp; omega) hll ?_; intro v8 Z5 hrow8 hg8 hloc8)
    | fail)
   have hb8:Below Y4.heap.size Y4 Z5:=(Zai H7.out.2.2 ((Jd _ _).alloc (Jb _) _)).grown hg8 (by simp; omega) (fun b e=>H7.out.1.base b e)
   go_ret
   refine ⟨_,rfl,?_,hb8⟩
   have eAll:leafR R i id=L1 ++ leafUp R fr id (0:Int) 2 ++ [⟨fr,0,1,z3⟩]:=by
    unfold leafR leafAny
    rw [Hfr.out.1,Hfr.out.2,HRun.out,HMore.out,HJ.out.1,HL1.out,Zac hi,Hz.out,Int.add_zero]
   rw [eAll]
   exact hrow8
end
end
section
open Go.RowKit
structure NetB (B W:World)(N:Int)(vs va:Value)(sup:List Int)(al:List Ar):Prop where
 cells:W.heap[B.heap.size+1]?=some (.cells #[.int .i64 N,vs,va] 35)
 res:W.heap[B.heap.size]?=some (.cells #[.int .i64 0,.slice none 0 0,.slice none 0 0] 35)
 sup:NRow B.heap.size W vs sup
 arcs:ARow B.heap.size W va al
 below:Below B.heap.size B W
section
variable {B W W':World}{N:Int}{vs va vs' va':Value}{sup:List Int}{al:List Ar}
theorem NetB.lt (h:NetB B W N vs va sup al):B.heap.size+1<W.heap.size:=(Ja.1 h.cells).1
theorem NetB.keep (h:NetB B W N vs va sup al)(hb:Below W.heap.size W W'):NetB B W' N vs va sup al :=
 ⟨(hb.block _ h.lt).trans h.cells,(hb.block _ (by have:=h.lt; omega)).trans h.res,h.sup.below hb,h.arcs.below hb,Zai h.below hb⟩
theorem NetB.c0 (h:NetB B W N vs va sup al):W.cell? ⟨B.heap.size+1,0,none⟩=some (.int .i64 N):=by simp [World.cell?,h.cells]
theorem NetB.c1 (h:NetB B W N vs va sup al):W.cell? ⟨B.heap.size+1,1,none⟩=some vs:=by simp [World.cell?,h.cells]
theorem NetB.c2 (h:NetB B W N vs va sup al):W.cell? ⟨B.heap.size+1,2,none⟩=some va:=by simp [World.cell?,h.cells]
theorem NetB.ne1 (h:NetB B W N vs va sup al):vs.ownBlock≠some (B.heap.size+1)∧vs.ownBlock≠some B.heap.size:=⟨fun e=>by
 obtain ⟨cur,h1⟩:=h.sup.row.elem e
 rw [h.cells] at h1; simp at h1,fun e=>by
 obtain ⟨cur,h1⟩:=h.sup.row.elem e
 rw [h.res] at h1; simp at h1⟩
theorem NetB.ne2 (h:NetB B W N vs va sup al):va.ownBlock≠some (B.heap.size+1)∧va.ownBlock≠some B.heap.size:=⟨fun e=>by
 obtain ⟨cur,h1⟩:=h.arcs.elem e
 rw [h.cells] at h1; simp at h1,fun e=>by
 obtain ⟨cur,h1⟩:=h.arcs.elem e
 rw [h.res] at h1; simp at h1⟩
theorem Ziv {b0 b1:Nat}{w:World}{v v':Value}{xs:List Ar}{ys:List Int}(hA:ARow b0 w v xs)(hN:NRow b1 w v' ys):v.ownBlock=none∨v.ownBlock≠v'.ownBlock:=by
 cases hq:v.ownBlock with
 | none=>exact Jr rfl
 | some b =>
  right
  intro e
  obtain ⟨cur,h1⟩:=hA.elem hq
  obtain ⟨cur',h2⟩:=hN.row.elem e.symm
  rw [h1] at h2
  simp at h2
theorem NetB.pushS {x:Int}{w3:World}(h:NetB B W N vs va sup al)(hg:W.grownBy w3 vs.ownBlock)(hr:NRow B.heap.size w3 vs' (sup ++ [x])):w3.heap[B.heap.size+1]?=some (.cells #[.int .i64 N,vs,va] 35)∧NetB B (w3.setCell ⟨B.heap.size+1,1,none⟩ vs') N vs' va (sup ++ [x]) al:=by
 have hl:=h.lt
 have c3:=(hg.block _ hl (fun e=>h.ne1.1 e.symm)).trans h.cells
 have r3:=(hg.block _ (show B.heap.size<W.heap.size by omega) (fun e=>h.ne1.2 e.symm)).trans h.res
 have gs:=Zaa w3 ⟨B.heap.size+1,1,none⟩ vs'
 have a3:ARow B.heap.size w3 va al:=h.arcs.kept hg (Ziv h.arcs h.sup)
 have hne:vs'.ownBlock≠some (B.heap.size+1):=fun e=>by
  obtain ⟨cur,h1⟩:=hr.row.elem e
  rw [c3] at h1; simp at h1
 have hne2:va.ownBlock≠some (B.heap.size+1):=h.ne2.1
 refine ⟨c3,⟨heap_setCell c3 1 vs',?_,hr.kept gs (Js hne),a3.kept gs (Js hne2),(h.below.grown hg (by have:=h.below.size; omega) (fun b e=>h.sup.base b e)).setCell (p:=⟨B.heap.size+1,1,none⟩) (by simp) _⟩⟩
 exact (gs.block _ (by have:=(Ja.1 r3).1; exact this) (by simp)).trans r3
theorem NetB.pushA {al':List Ar}{w3:World}(h:NetB B W N vs va sup al)(hg:W.grownBy w3 va.ownBlock)(hr:ARow B.heap.size w3 va' al'):w3.heap[B.heap.size+1]?=some (.cells #[.int .i64 N,vs,va] 35)∧NetB B (w3.setCell ⟨B.heap.size+1,2,none⟩ va') N vs va' sup al':=by
 have hl:=h.lt
 have c3:=(hg.block _ hl (fun e=>h.ne2.1 e.symm)).trans h.cells
 have r3:=(hg.block _ (show B.heap.size<W.heap.size by omega) (fun e=>h.ne2.2 e.symm)).trans h.res
 have gs:=Zaa w3 ⟨B.heap.size+1,2,none⟩ va'
 have a3:NRow B.heap.size w3 vs sup:=h.sup.kept hg (Zgu h.arcs h.sup)
 have hne:va'.ownBlock≠some (B.heap.size+1):=fun e=>by
  obtain ⟨cur,h1⟩:=hr.elem e
  rw [c3] at h1; simp at h1
 have hne2:vs.ownBlock≠some (B.heap.size+1):=h.ne1.1
 refine ⟨c3,⟨heap_setCell c3 2 va',?_,a3.kept gs (Js hne2),hr.kept gs (Js hne),(h.below.grown hg (by have:=h.below.size; omega) (fun b e=>h.arcs.base b e)).setCell (p:=⟨B.heap.size+1,2,none⟩) (by simp) _⟩⟩
 exact (gs.block _ (by have:=(Ja.1 r3).1; exact this) (by simp)).trans r3
end
end
end Go.Proofs.YtjdindfjfpdikaaGreat
