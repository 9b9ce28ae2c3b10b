import Derived.Test.YtjdindfjfpdikaaGreatB10
import Derived.Test.YtjdindfjfpdikaaGreatPre
set_option maxRecDepth 100000
set_option maxHeartbeats 8000000
namespace Go.Proofs.YtjdindfjfpdikaaGreat
section
open Go.RowKit
theorem Zao (x m:Int)(w:World)(h0:0≤m)(h1:m≤10000000):Calls Tryz.prog 55 #[.int .i64 x,.int .i64 m] w fun e w'=>e=.returned (.bool (inB (-m) m x))∧w'=w:=by
 by_cases ha:-m≤x
 ·by_cases hb:x≤m
  ·have e:inB (-m) m x=true:=Zaz.2 ⟨ha,hb⟩
   go_enter Tryz.func55,Tryz.ntmps55
   go_wp2
   go_ret
   exact ⟨by first | rfl | (rw [e]; rfl),rfl⟩
  ·have e:inB (-m) m x=false:=by rw [Bool.eq_false_iff]; exact fun q=>hb (Zaz.1 q).2
   go_enter Tryz.func55,Tryz.ntmps55
   go_wp2
   go_ret
   exact ⟨by first | rfl | (rw [e]; rfl),rfl⟩
 ·have e:inB (-m) m x=false:=by rw [Bool.eq_false_iff]; exact fun q=>ha (Zaz.1 q).1
  go_enter Tryz.func55,Tryz.ntmps55
  go_wp2
  go_ret
  exact ⟨by first | rfl | (rw [e]; rfl),rfl⟩
theorem Zhg {N:Int}{a:Ar}:ArcOk N a↔¬ (a.f<0∨N≤a.f∨a.t<0∨N≤a.t∨a.c<0∨1000<a.c)∧(-10000≤a.k∧a.k≤10000):=by
 unfold ArcOk
 constructor
 ·intro h; omega
 ·intro h; omega
theorem Zjn (w:World)(N:Int)(p q:Option Addr)(ls cs la ca:Nat)(S:Nat→Int)(A:Nat→Ar)(hS:Ints w p ls S)(hA:Arcs w q la A) :
  Calls Tryz.prog 53 #[.agg #[.int .i64 N,.slice p ls cs,.slice q la ca]] w fun e w'=>Ans e (NetOk N ls S la A)∧Below w.heap.size w w':=by
 have hbw:Below w.heap.size w (w.alloc (.cells #[.int .i64 N,.slice p ls cs,.slice q la ca] 35)):=(Jd _ _).alloc (Jb _) _
 by_cases hN0:N<0
 ·go_enter Tryz.func53,Tryz.ntmps53
  go_wp2_with fail
  go_ret
  exact ⟨⟨_,rfl,⟨(fun h=>by cases h),fun h=>by have:=h.1.1; omega⟩⟩,hbw⟩
 by_cases hN1:60<N
 ·go_enter Tryz.func53,Tryz.ntmps53
  go_wp2_with fail
  go_ret
  exact ⟨⟨_,rfl,⟨(fun h=>by cases h),fun h=>by have:=h.1.2; omega⟩⟩,hbw⟩
 by_cases hl:(ls:Int)=N
 case neg =>
  have dl:((ls:Int) == N)=false:=by simpa using hl
  have H:=Zan hl
  clear hl
  go_enter Tryz.func53,Tryz.ntmps53
  go_wp2_with fail
  go_ret
  exact ⟨⟨_,rfl,⟨(fun h=>by cases h),fun h=>absurd h.2.1 H.out⟩⟩,hbw⟩
 subst hl
 by_cases ha:la≤600
 case neg =>
  have H:=Zan ha
  have hai:(600:Int)<(la:Int):=by omega
  clear ha
  go_enter Tryz.func53,Tryz.ntmps53
  go_wp2_with fail
  go_ret
  exact ⟨⟨_,rfl,⟨(fun h=>by cases h),fun h=>absurd h.2.2.1 H.out⟩⟩,hbw⟩
 have hai:¬ (600:Int)<(la:Int):=by omega
 have h60:ls≤60:=by omega
 have hS1:=hS.below hbw
 have hA1:=hA.below hbw
 have Hw:=Zan hbw
 clear hS hA hbw
 go_enter Tryz.func53,Tryz.ntmps53
 go_wp2_with fail
 go_loop [3] (fun i=>∃ j:Nat,j≤ls∧i=.int .i64 j∧Hid (∀ m,m<j→-1000≤S m∧S m≤1000)) (fun i=>ls - (intOf i).toNat)
 case atStart=>exact ⟨0,Jq _,rfl,fun m hm=>by omega⟩
 case' round=>skip
 obtain ⟨j,hj,rfl,hno⟩:=hrel
 by_cases hlt:j<ls
 ·obtain ⟨sb,off,rfl,hsb,hc⟩:=hS1.at hlt
  have hjI:(j:Int)<(ls:Int):=by omega
  by_cases hs:-1000≤S j∧S j≤1000
  ·have ds:inB (-1000) 1000 (S j)=true:=Zaz.2 hs
   have hno':Hid (∀ m,m<j+1→-1000≤S m∧S m≤1000):=fun m hm=>by
    by_cases h1:m<j
    ·exact hno.out m h1
    ·obtain rfl:m=j:=by omega
     exact hs
   clear hs hS1
   go_wp2_with fail
   refine (Zao _ _ _ (by decide) (by decide)).mono ?_
   rintro e w' ⟨rfl,rfl⟩
   rw [ds]
   go_wp2_with fail
   go_round
   case rel=>exact ⟨j+1,by omega,by go_num,hno'⟩
   case measure=>simp [intOf]; omega
  ·have ds:inB (-1000) 1000 (S j)=false:=by rw [Bool.eq_false_iff]; exact fun q=>hs (Zaz.1 q)
   have H:=Zan hs
   clear hs hS1
   go_wp2_with fail
   refine (Zao _ _ _ (by decide) (by decide)).mono ?_
   rintro e w' ⟨rfl,rfl⟩
   rw [ds]
   go_wp2_with fail
   go_ret
   exact ⟨⟨_,rfl,⟨(fun h=>by cases h),fun h=>absurd (h.2.2.2.1 j hlt) H.out⟩⟩,Hw.out⟩
 obtain rfl:j=ls:=by omega
 clear hlt hj
 go_wp2_with fail
 obtain ⟨W,hW⟩:∃ W,w.alloc (.cells #[.int .i64 j,.slice p j cs,.slice q la ca] 35)=W:=⟨_,rfl⟩
 have hWb:W.heap[w.heap.size]?=some (.cells #[.int .i64 j,.slice p j cs,.slice q la ca] 35):=by rw [← hW]; exact heap_alloc_new w _
 rw [hW] at Hw hS1 hA1
 rw [hW]
 clear hW
 go_loopg [5] la (fun gk iv wr=>∃ i:Nat,i≤la∧la - i≤gk∧iv=.int .i64 i∧Below W.heap.size W wr∧Hid (∀ m,m<i→ArcOk j (A m)))
 case atStart=>exact ⟨0,Jq _,Jb _,rfl,Jd _ _,fun m hm=>by omega⟩
 case' round=>skip
 obtain ⟨i,hi,hgk,rfl,hb,hok⟩:=hrel
 have hwl:w.heap.size<W.heap.size:=(Ja.1 hWb).1
 have hwr:w.heap.size<wr.heap.size:=Jm hwl hb.size
 have c0:=Zaf ((hb.block _ hwl).trans hWb) 0
 have c2:=Zaf ((hb.block _ hwl).trans hWb) 2
 simp only [Jg,Jf,Je] at c0 c2
 by_cases hlt:i<la
 ·obtain ⟨sb,off,rfl,hsb,g0,g1,g2,g3⟩:=(hA1.below hb).at hlt
  have hiI:(i:Int)<(la:Int):=by omega
  have hwr1:w.heap.size<wr.heap.size+1:=by omega
  have hbo:Below wr.heap.size wr (wr.alloc (.cells #[.int .i64 (A i).f,.int .i64 (A i).t,.int .i64 (A i).c,.int .i64 (A i).k] 93)):=(Jd _ _).alloc (Jb _) _
  have Hb:=Zan (Jc hb (Zal hb hbo))
  clear hb hbo
  have hiff:=Zhg (N:=(j:Int)) (a:=A i)
  have Hf:=Zan hiff
  clear hiff
  have bad:∀ (e:Ending) (w2:World),e=.returned (.bool false)→Below W.heap.size W w2→¬ ArcOk j (A i)→Ans e (NetOk j j S la A)∧Below w.heap.size w w2:=fun _ _ he h1 h2=>⟨⟨false,he,⟨(fun h=>by cases h),fun h=>absurd (h.2.2.2.2 i hlt) h2⟩⟩,Zal Hw.out h1⟩
  have Bad:=Zan bad
  clear bad
  by_cases hk:-10000≤(A i).k∧(A i).k≤10000
  ·have dk:inB (-10000) 10000 (A i).k=true:=Zaz.2 hk
   by_cases b0:(A i).f<0
   ·go_wp2_with fail
    refine (Zao _ _ _ (by decide) (by decide)).mono ?_
    rintro e w' ⟨rfl,rfl⟩
    rw [dk]
    go_wp2_with fail
    go_ret
    exact Bad.out _ _ rfl Hb.out.2 (fun h=>(Hf.out.1 h).1 (Jr b0))
   by_cases b1:(j:Int)≤(A i).f
   ·go_wp2_with fail
    refine (Zao _ _ _ (by decide) (by decide)).mono ?_
    rintro e w' ⟨rfl,rfl⟩
    rw [dk]
    go_wp2_with fail
    go_ret
    exact Bad.out _ _ rfl Hb.out.2 (fun h=>(Hf.out.1 h).1 (Js (Jr b1)))
   by_cases b2:(A i).t<0
   ·go_wp2_with fail
    refine (Zao _ _ _ (by decide) (by decide)).mono ?_
    rintro e w' ⟨rfl,rfl⟩
    rw [dk]
    go_wp2_with fail
    go_ret
    exact Bad.out _ _ rfl Hb.out.2 (fun h=>(Hf.out.1 h).1 (Js (Js (Jr b2))))
   by_cases b3:(j:Int)≤(A i).t
   ·go_wp2_with fail
    refine (Zao _ _ _ (by decide) (by decide)).mono ?_
    rintro e w' ⟨rfl,rfl⟩
    rw [dk]
    go_wp2_with fail
    go_ret
    exact Bad.out _ _ rfl Hb.out.2 (fun h=>(Hf.out.1 h).1 (Js (Js (Js (Jr b3)))))
   by_cases b4:(A i).c<0
   ·go_wp2_with fail
    refine (Zao _ _ _ (by decide) (by decide)).mono ?_
    rintro e w' ⟨rfl,rfl⟩
    rw [dk]
    go_wp2_with fail
    go_ret
    exact Bad.out _ _ rfl Hb.out.2 (fun h=>(Hf.out.1 h).1 (Js (Js (Js (Js (Jr b4))))))
   by_cases b5:1000<(A i).c
   ·go_wp2_with fail
    refine (Zao _ _ _ (by decide) (by decide)).mono ?_
    rintro e w' ⟨rfl,rfl⟩
    rw [dk]
    go_wp2_with fail
    go_ret
    exact Bad.out _ _ rfl Hb.out.2 (fun h=>(Hf.out.1 h).1 (Js (Js (Js (Js (Js b5))))))
   have good:ArcOk j (A i):=Hf.out.2 ⟨by omega,hk⟩
   have Good:=Zan good
   clear good hk
   go_wp2_with fail
   refine (Zao _ _ _ (by decide) (by decide)).mono ?_
   rintro e w' ⟨rfl,rfl⟩
   rw [dk]
   go_wp2_with fail
   go_roundg (la - (i+1))
   case measure=>omega
   case rel =>
    refine ⟨i+1,by omega,Jb _,by go_num,Hb.out.2,fun m hm=>?_⟩
    by_cases h1:m<i
    ·exact hok.out m h1
    ·obtain rfl:m=i:=by omega
     exact Good.out
  ·have dk:inB (-10000) 10000 (A i).k=false:=by rw [Bool.eq_false_iff]; exact fun q=>hk (Zaz.1 q)
   have hnot:¬ ArcOk j (A i):=fun h=>hk (Hf.out.1 h).2
   have Hn:=Zan hnot
   clear hnot hk
   by_cases b0:(A i).f<0
   ·go_wp2_with fail
    refine (Zao _ _ _ (by decide) (by decide)).mono ?_
    rintro e w' ⟨rfl,rfl⟩
    rw [dk]
    go_wp2_with fail
    go_ret
    exact Bad.out _ _ rfl Hb.out.2 Hn.out
   by_cases b1:(j:Int)≤(A i).f
   ·go_wp2_with fail
    refine (Zao _ _ _ (by decide) (by decide)).mono ?_
    rintro e w' ⟨rfl,rfl⟩
    rw [dk]
    go_wp2_with fail
    go_ret
    exact Bad.out _ _ rfl Hb.out.2 Hn.out
   by_cases b2:(A i).t<0
   ·go_wp2_with fail
    refine (Zao _ _ _ (by decide) (by decide)).mono ?_
    rintro e w' ⟨rfl,rfl⟩
    rw [dk]
    go_wp2_with fail
    go_ret
    exact Bad.out _ _ rfl Hb.out.2 Hn.out
   by_cases b3:(j:Int)≤(A i).t
   ·go_wp2_with fail
    refine (Zao _ _ _ (by decide) (by decide)).mono ?_
    rintro e w' ⟨rfl,rfl⟩
    rw [dk]
    go_wp2_with fail
    go_ret
    exact Bad.out _ _ rfl Hb.out.2 Hn.out
   by_cases b4:(A i).c<0
   ·go_wp2_with fail
    refine (Zao _ _ _ (by decide) (by decide)).mono ?_
    rintro e w' ⟨rfl,rfl⟩
    rw [dk]
    go_wp2_with fail
    go_ret
    exact Bad.out _ _ rfl Hb.out.2 Hn.out
   by_cases b5:1000<(A i).c
   ·go_wp2_with fail
    refine (Zao _ _ _ (by decide) (by decide)).mono ?_
    rintro e w' ⟨rfl,rfl⟩
    rw [dk]
    go_wp2_with fail
    go_ret
    exact Bad.out _ _ rfl Hb.out.2 Hn.out
   go_wp2_with fail
   refine (Zao _ _ _ (by decide) (by decide)).mono ?_
   rintro e w' ⟨rfl,rfl⟩
   rw [dk]
   go_wp2_with fail
   go_ret
   exact Bad.out _ _ rfl Hb.out.2 Hn.out
 ·obtain rfl:i=la:=by omega
  clear hlt hi
  go_wp2_with fail
  go_ret
  exact ⟨⟨_,rfl,⟨fun _=>⟨⟨by omega,by omega⟩,rfl,ha,hno.out,hok.out⟩,fun _=>rfl⟩⟩,Zal Hw.out hb⟩
end
section
open Go.RowKit
theorem ZaB {B n:Nat}{w W:World}(h:Below B w W):Below B w (W.drewN n):=⟨h.os,h.tape,h.output,h.size,h.block⟩
theorem Zib (w:World)(p q r:Option Addr)(ls cs la ca lf cf:Nat)(S:Nat→Int)(A:Nat→Ar)(F:Nat→Int)(hn:NetOk ls ls S la A)(hS:Ints w p ls S)(hA:Arcs w q la A)(hF:Ints w r lf F) :
  Calls Tryz.prog 54 #[.agg #[.int .i64 ls,.slice p ls cs,.slice q la ca],.slice r lf cf] w fun e w'=>Ans e (FlowOk ls S la A lf F)∧Below w.heap.size w w':=by
 obtain ⟨W,hW⟩:∃ W,w.alloc (.cells #[.int .i64 ls,.slice p ls cs,.slice q la ca] 35)=W:=⟨_,rfl⟩
 have hbw:Below w.heap.size w W:=by rw [← hW]; exact (Jd _ _).alloc (Jb _) _
 have hWb:W.heap[w.heap.size]?=some (.cells #[.int .i64 ls,.slice p ls cs,.slice q la ca] 35):=by rw [← hW]; exact heap_alloc_new w _
 have HW:=Zan (Jc hW (Jc hWb hbw))
 clear hW hWb hbw
 by_cases hl:lf=la
 case neg =>
  have dl:((lf:Int) == (la:Int))=false:=by simp; omega
  have H:=Zan hl
  clear hl
  go_enter Tryz.func54,Tryz.ntmps54
  go_wp2_with fail
  go_ret
  exact ⟨⟨_,rfl,⟨(fun h=>by cases h),fun h=>absurd h.1 H.out⟩⟩,(Jd _ _).alloc (Jb _) _⟩
 subst hl
 have h60:ls≤60:=by have:=hn.1.2; omega
 have h600:lf≤600:=hn.2.2.1
 have Hn:=Zan hn
 have Hm:=Zan (Jc hS (Jc hA hF))
 clear hn hS hA hF
 go_enter Tryz.func54,Tryz.ntmps54
 go_wp2_with fail
 rw [HW.out.1]
 go_loopg [5] lf (fun gk iv wr=>∃ i:Nat,i≤lf∧lf - i≤gk∧iv=.int .i64 i∧Below W.heap.size W wr∧Hid (∀ m,m<i→0≤F m∧F m≤(A m).c))
 case atStart=>exact ⟨0,Jq _,Jb _,rfl,Jd _ _,fun m hm=>by omega⟩
 case' round=>skip
 obtain ⟨i,hi,hgk,rfl,hb,hok⟩:=hrel
 have hnb:=(hb.block w.heap.size (Ja.1 HW.out.2.1).1).trans HW.out.2.1
 have hbw:=Zal HW.out.2.2 hb
 have n0:=Zaf hnb 0
 have n2:=Zaf hnb 2
 simp only [Jg,Jf,Je] at n0 n2
 have nl:w.heap.size<wr.heap.size:=(Ja.1 hnb).1
 by_cases hlt:i<lf
 ·obtain ⟨sb,off,rfl,hsb,g0,g1,g2,g3⟩:=(Hm.out.2.1.below hbw).at hlt
  obtain ⟨sf,of',rfl,hsf,gf⟩:=(Hm.out.2.2.below hbw).at hlt
  have hiI:(i:Int)<(lf:Int):=by omega
  have Hb:=Zan (Jc hb hbw)
  clear hb hbw hnb g0 g1 g3
  by_cases h0:F i<0
  ·have d0:decide (F i<0)=true:=decide_eq_true h0
   have Hc:=Zan h0
   clear h0
   go_wp2_with fail
   go_quiet (fail)
   go_wp2_with fail
   go_ret
   exact ⟨⟨_,rfl,⟨(fun h=>by cases h),fun h=>by have:=(h.2.1 i hlt).1; have:=Hc.out; omega⟩⟩,ZaB Hb.out.2⟩
  have d0:decide (F i<0)=false:=decide_eq_false h0
  by_cases h1:(A i).c<F i
  ·have d1:decide ((A i).c<F i)=true:=decide_eq_true h1
   have Hc:=Zan h1
   clear h0 h1
   go_wp2_with fail
   go_quiet (fail)
   go_wp2_with fail
   go_ret
   exact ⟨⟨_,rfl,⟨(fun h=>by cases h),fun h=>by have:=(h.2.1 i hlt).2; have:=Hc.out; omega⟩⟩,ZaB Hb.out.2⟩
  have d1:decide ((A i).c<F i)=false:=decide_eq_false h1
  have Hc:=Zan (Jc h0 h1)
  clear h0 h1
  go_wp2_with fail
  go_quiet (fail)
  go_wp2_with fail
  go_roundg (lf - (i+1))
  case measure=>omega
  case rel =>
   refine ⟨i+1,by omega,Jb _,by go_num,ZaB Hb.out.1,fun m hm=>?_⟩
   by_cases h2:m<i
   ·exact hok.out m h2
   ·obtain rfl:m=i:=by omega
    have:=Hc.out
    omega
 obtain rfl:i=lf:=by omega
 obtain ⟨Wq,hWq⟩:∃ Wq,Wq=wr:=⟨_,rfl⟩
 subst hWq
 clear hlt hi hgk
 have Hq:=Zan (Jc hbw hnb)
 have hF3:∀ m,m<i→0≤F m∧F m≤1000:=fun m hm=>⟨(hok.out m hm).1,Int.le_trans (hok.out m hm).2 (Hn.out.2.2.2.2 m hm).2.2.1.2⟩
 have HF3:=Zan hF3
 clear hF3 hb hbw hnb n0 n2
 have n0:=Zaf Hq.out.2 0
 have n1:=Zaf Hq.out.2 1
 have n2:=Zaf Hq.out.2 2
 simp only [Jg,Jf,Je] at n0 n1 n2
 go_wp2_with fail
 go_loop [6] (fun iv=>∃ v:Nat,v≤ls∧iv=.int .i64 v∧Hid (∀ m,m<v→S m+inn A F m i=out A F m i)) (fun iv=>ls - (intOf iv).toNat)
 case atStart=>exact ⟨0,Jq _,rfl,fun m hm=>by omega⟩
 case' round=>skip
 obtain ⟨v,hv,rfl,hz⟩:=hrel
 by_cases hlt:v<ls
 ·obtain ⟨sp,op,rfl,hsp,gs⟩:=(Hm.out.1.below Hq.out.1).at hlt
  have hvI:(v:Int)<(ls:Int):=by omega
  have hsv:=Hn.out.2.2.2.1 v hlt
  go_wp2_with fail
  go_loop [9,7,8] (fun iv x y=>∃ j:Nat,j≤i∧iv=.int .i64 j∧x=.int .i64 (S v+inn A F v j)∧y=.int .i64 (out A F v j)) (fun iv _ _=>i - (intOf iv).toNat)
  case atStart=>exact ⟨0,Jq _,rfl,by simp [inn],by simp [out]⟩
  case' round=>skip
  obtain ⟨j,hj,rfl,rfl,rfl⟩:=hrel
  by_cases hjl:j<i
  ·obtain ⟨sb,off,rfl,hsb,g0,g1,g2,g3⟩:=(Hm.out.2.1.below Hq.out.1).at hjl
   obtain ⟨sf,of',rfl,hsf,gf⟩:=(Hm.out.2.2.below Hq.out.1).at hjl
   have hjI:(j:Int)<(i:Int):=by omega
   have hFj:=HF3.out j hjl
   have hbi:=Ze1 (A:=A) (F:=F) (v:=v) (la:=j) (fun m hm=>HF3.out m (by omega))
   have hbo:=Ze9 (A:=A) (F:=F) (v:=v) (la:=j) (fun m hm=>HF3.out m (by omega))
   have ei:inn A F v (j+1)=inn A F v j+(if (A j).t=(v:Int) then F j else 0):=rfl
   have eo:out A F v (j+1)=out A F v j+(if (A j).f=(v:Int) then F j else 0):=rfl
   have He:=Zan (Jc ei eo)
   clear g2 g3 ei eo
   by_cases ht:(A j).t=(v:Int)
   ·by_cases hf:(A j).f=(v:Int)
    ·have Ht:=Zan (Jc ht hf)
     rw [ht] at g1
     rw [hf] at g0
     clear ht hf
     go_wp2_with fail
     go_round
     case rel=>exact ⟨j+1,by omega,by go_num,by rw [He.out.1,if_pos Ht.out.1]; first | rfl | go_num | (congr 1; omega),by rw [He.out.2,if_pos Ht.out.2]⟩
     case measure=>simp [intOf]; omega
    ·have Ht:=Zan (Jc ht hf)
     have df:((A j).f == (v:Int))=false:=by simpa using hf
     rw [ht] at g1
     clear ht hf
     go_wp2_with fail
     go_round
     case rel=>exact ⟨j+1,by omega,by go_num,by rw [He.out.1,if_pos Ht.out.1]; first | rfl | go_num | (congr 1; omega),by rw [He.out.2,if_neg Ht.out.2]; simp⟩
     case measure=>simp [intOf]; omega
   ·have dt:((A j).t == (v:Int))=false:=by simpa using ht
    by_cases hf:(A j).f=(v:Int)
    ·have Ht:=Zan (Jc ht hf)
     rw [hf] at g0
     clear ht hf
     go_wp2_with fail
     go_round
     case rel=>exact ⟨j+1,by omega,by go_num,by rw [He.out.1,if_neg Ht.out.1]; simp,by rw [He.out.2,if_pos Ht.out.2]⟩
     case measure=>simp [intOf]; omega
    ·have Ht:=Zan (Jc ht hf)
     have df:((A j).f == (v:Int))=false:=by simpa using hf
     clear ht hf
     go_wp2_with fail
     go_round
     case rel=>exact ⟨j+1,by omega,by go_num,by rw [He.out.1,if_neg Ht.out.1]; simp,by rw [He.out.2,if_neg Ht.out.2]; simp⟩
     case measure=>simp [intOf]; omega
  ·obtain rfl:j=i:=by omega
   clear hjl hj
   by_cases heq:S v+inn A F v j=out A F v j
   ·have Hh:=Zan heq
    rw [heq]
    clear heq
    go_wp2_with fail
    go_round
    case rel =>
     refine ⟨v+1,by omega,by go_num,fun m hm=>?_⟩
     by_cases h2:m<v
     ·exact hz.out m h2
     ·obtain rfl:m=v:=by omega
      exact Hh.out
    case measure=>simp [intOf]; omega
   ·have dq:((S v+inn A F v j) == out A F v j)=false:=by simpa using heq
    have Hh:=Zan heq
    clear heq
    go_wp2_with fail
    go_ret
    exact ⟨⟨_,rfl,⟨(fun h=>by cases h),fun h=>absurd (h.2.2 v hlt) Hh.out⟩⟩,Hq.out.1⟩
 ·obtain rfl:v=ls:=by omega
  clear hlt hv
  go_wp2_with fail
  go_ret
  exact ⟨⟨_,rfl,⟨fun _=>⟨rfl,hok.out,hz.out⟩,fun _=>rfl⟩⟩,Hq.out.1⟩
end
section
open Go.RowKit
theorem Zei (w:World)(N:Int)(p q r s:Option Addr)(ls cs la ca lf cf lp cp:Nat)(S:Nat→Int)(A:Nat→Ar)(F P:Nat→Int)(hS:Ints w p ls S)(hA:Arcs w q la A)(hF:Ints w r lf F)(hP:Ints w s lp P) :
  Calls Tryz.prog 25 #[.agg #[.int .i64 N,.slice p ls cs,.slice q la ca],.slice r lf cf,.slice s lp cp] w fun e w'=>∃ c,e=.returned (.int .i64 c)∧IsChk c N ls S la A lf F lp P∧Below w.heap.size w w':=by
 have hb0:Below w.heap.size w (w.alloc (.cells #[.int .i64 N,.slice p ls cs,.slice q la ca] 35)):=(Jd _ _).alloc (Jb _) _
 have A1:=Zan (Zjn _ N p q ls cs la ca S A (hS.below hb0) (hA.below hb0))
 have H0:=Zan hb0
 clear hb0
 go_enter Tryz.func25,Tryz.ntmps25
 go_wp2_with fail
 refine A1.out.mono ?_
 rintro e w1 ⟨⟨b,rfl,hbn⟩,hb1⟩
 have k:=Zj2 hb1
 have k0:=Zaf k 0
 have k1:=Zaf k 1
 have k2:=Zaf k 2
 simp only [Jg,Jf,Je] at k0 k1 k2
 have z1:w.heap.size<w1.heap.size:=(Ja.1 k).1
 have H1:=Zan (Jc hbn (Jc (Zal H0.out hb1) k))
 clear hbn hb1 k A1
 cases b with
 | false =>
  go_wp2_with fail
  go_ret
  have hnot:¬ NetOk N ls S la A:=fun h=>absurd (H1.out.1.2 h) (by simp)
  exact ⟨8,rfl,⟨fun _=>rfl,fun h=>absurd h hnot,fun h=>absurd h hnot,fun h=>absurd h hnot⟩,H1.out.2.1⟩
 | true =>
  have hnet:NetOk N ls S la A:=H1.out.1.1 rfl
  have hN:=hnet.2.1
  subst hN
  have A2:=Zan (Zib w1 p q r ls cs la ca lf cf S A F hnet (hS.below H1.out.2.1) (hA.below H1.out.2.1) (hF.below H1.out.2.1))
  have Hn:=Zan hnet
  have Hb1:=Zan H1.out.2
  clear hnet H1
  go_wp2_with fail
  refine A2.out.mono ?_
  rintro e w2 ⟨⟨b,rfl,hbf⟩,hb2⟩
  have k:=(hb2.block _ z1).trans Hb1.out.2
  replace k0:=Zaf k 0
  replace k1:=Zaf k 1
  replace k2:=Zaf k 2
  simp only [Jg,Jf,Je] at k0 k1 k2
  have z2:w.heap.size<w2.heap.size:=(Ja.1 k).1
  have H2:=Zan (Jc hbf (Jc (Zal Hb1.out.1 hb2) k))
  clear hbf hb2 k A2 Hb1
  cases b with
  | false =>
   go_wp2_with fail
   go_ret
   have hnot:¬ FlowOk ls S la A lf F:=fun h=>absurd (H2.out.1.2 h) (by simp)
   exact ⟨9,rfl,⟨fun h=>absurd Hn.out h,fun _ _=>rfl,fun _ h=>absurd h hnot,fun _ h=>absurd h hnot⟩,H2.out.2.1⟩
  | true =>
   have hfl:FlowOk ls S la A lf F:=H2.out.1.1 rfl
   have hlf:=hfl.1
   subst hlf
   have Hf:=Zan hfl
   have HB:=Zan H2.out.2
   have no:¬ PriceOk ls lf A F lp P→∀ W',Below w.heap.size w W'→∃ c,Ending.returned (.int .i64 10)=.returned (.int .i64 c)∧IsChk c ls ls S lf A lf F lp P∧Below w.heap.size w W':=fun hnot W' hb=>⟨10,rfl,⟨fun h=>absurd Hn.out h,fun _ h=>absurd Hf.out h,fun _ _ _=>rfl,fun _ _ h=>absurd h hnot⟩,hb⟩
   have No:=Zan no
   clear no hfl H2
   have h60:ls≤60:=by have:=Hn.out.1.2; omega
   have h600:lf≤600:=Hn.out.2.2.1
   by_cases hl:lp=ls
   case neg =>
    have dl:((lp:Int) == (ls:Int))=false:=by simp; omega
    have H:=Zan hl
    clear hl
    go_wp2_with fail
    go_ret
    exact No.out (fun h=>absurd (by have:=h.1; omega) H.out) _ HB.out.1
   subst hl
   have hP2:=hP.below HB.out.1
   go_wp2_with fail
   go_loop [9] (fun i=>∃ j:Nat,j≤lp∧i=.int .i64 j∧Hid (∀ m,m<j→-1000000≤P m∧P m≤1000000)) (fun i=>lp - (intOf i).toNat)
   case atStart=>exact ⟨0,Jq _,rfl,fun m hm=>by omega⟩
   case' round=>skip
   obtain ⟨j,hj,rfl,hno⟩:=hrel
   by_cases hlt:j<lp
   ·obtain ⟨sb,off,rfl,hsb,hc⟩:=hP2.at hlt
    have hjI:(j:Int)<(lp:Int):=by omega
    by_cases hs:-1000000≤P j∧P j≤1000000
    ·have ds:inB (-1000000) 1000000 (P j)=true:=Zaz.2 hs
     have hno':Hid (∀ m,m<j+1→-1000000≤P m∧P m≤1000000):=fun m hm=>by
      by_cases h1:m<j
      ·exact hno.out m h1
      ·obtain rfl:m=j:=by omega
       exact hs
     clear hs hP2
     go_wp2_with fail
     refine (Zao _ _ _ (by decide) (by decide)).mono ?_
     rintro e w' ⟨rfl,rfl⟩
     rw [ds]
     go_wp2_with fail
     go_round
     case rel=>exact ⟨j+1,by omega,by go_num,hno'⟩
     case measure=>simp [intOf]; omega
    ·have ds:inB (-1000000) 1000000 (P j)=false:=by rw [Bool.eq_false_iff]; exact fun q=>hs (Zaz.1 q)
     have H:=Zan hs
     clear hs hP2
     go_wp2_with fail
     refine (Zao _ _ _ (by decide) (by decide)).mono ?_
     rintro e w' ⟨rfl,rfl⟩
     rw [ds]
     go_wp2_with fail
     go_ret
     exact No.out (fun h=>absurd (h.2.1 j hlt) H.out) _ HB.out.1
   obtain rfl:j=lp:=by omega
   clear hlt hj
   go_wp2_with fail
   go_loopg [11] lf (fun gk iv wr=>∃ i:Nat,i≤lf∧lf - i≤gk∧iv=.int .i64 i∧Below w2.heap.size w2 wr∧Hid (∀ m,m<i→PairOk P (A m) (F m)))
   case atStart=>exact ⟨0,Jq _,Jb _,rfl,Jd _ _,fun m hm=>by omega⟩
   case' round=>skip
   obtain ⟨i,hi,hgk,rfl,hb,hok⟩:=hrel
   have hnb:=(hb.block w.heap.size z2).trans HB.out.2
   have hbw:=Zal HB.out.1 hb
   clear k0 k1 k2
   have k2:=Zaf hnb 2
   simp only [Jg,Jf,Je] at k2
   have nl:w.heap.size<wr.heap.size:=(Ja.1 hnb).1
   by_cases hlt:i<lf
   ·obtain ⟨sb,off,rfl,hsb,g0,g1,g2,g3⟩:=(hA.below hbw).at hlt
    obtain ⟨sf,of',rfl,hsf,gf⟩:=(hF.below hbw).at hlt
    have hiI:(i:Int)<(lf:Int):=by omega
    have hac:=Hn.out.2.2.2.2 i hlt
    obtain ⟨f,hf⟩:∃ f:Nat,(A i).f=(f:Int):=⟨(A i).f.toNat,by have:=hac.1.1; omega⟩
    obtain ⟨t,ht⟩:∃ t:Nat,(A i).t=(t:Int):=⟨(A i).t.toNat,by have:=hac.2.1.1; omega⟩
    have hfl:f<j:=by have:=hac.1.2; omega
    have htl:t<j:=by have:=hac.2.1.2; omega
    rw [hf] at g0
    rw [ht] at g1
    have hfI:(f:Int)<(j:Int):=by omega
    have htI:(t:Int)<(j:Int):=by omega
    obtain ⟨sp,op,rfl,hsp,gp⟩:=(hP.below hbw).at hfl
    obtain ⟨sp',op',e',hsp',gq⟩:=(hP.below hbw).at htl
    cases e'
    have hPf:=hno.out f hfl
    have hPt:=hno.out t htl
    have hk0:=hac.2.2.2.1
    have hk1:=hac.2.2.2.2
    have hdd:dd P (A i)=(A i).k+P f - P t:=by unfold dd; rw [hf,ht,Jn,Jn]
    obtain ⟨u,hu⟩:∃ u,wr.alloc (.cells #[.int .i64 f,.int .i64 t,.int .i64 (A i).c,.int .i64 (A i).k] 93)=u:=⟨_,rfl⟩
    have hbu:Below wr.heap.size wr u:=by rw [← hu]; exact (Jd _ _).alloc (Jb _) _
    have hub:u.heap[wr.heap.size]?=some (.cells #[.int .i64 f,.int .i64 t,.int .i64 (A i).c,.int .i64 (A i).k] 93):=by rw [← hu]; exact heap_alloc_new wr _
    have Hu:=Zan (Jc hu (Jc hbu (Jc hb (Jc hbw hdd))))
    have a0:=Zaf hub 0
    have a1:=Zaf hub 1
    have a2:=Zaf hub 2
    have a3:=Zaf hub 3
    simp only [Jg,Jf,Je] at a0 a1 a2 a3
    have gpu:=(hbu.cell (p:=⟨sp,op+f,none⟩) hsp).trans gp
    have gqu:=(hbu.cell (p:=⟨sp,op+t,none⟩) hsp).trans gq
    have gfu:=(hbu.cell (p:=⟨sf,of'+i,none⟩) hsf).trans gf
    have y0:wr.heap.size<u.heap.size:=(Ja.1 hub).1
    have y1:sp<u.heap.size:=by omega
    have y2:sf<u.heap.size:=by omega
    clear hu hbu hub hb hbw hnb hac hf ht hdd
    go_upto_region 19 with fail
    rw [Hu.out.1]
    go_quiet (fail)
    go_upto_region 20 with fail
    obtain ⟨v,hv⟩:∃ v,u.drewN nq=v:=⟨_,rfl⟩
    have b2:v.cell? ⟨wr.heap.size,2,none⟩=some (.int .i64 (A i).c):=by rw [← hv]; exact a2
    have b4:v.cell? ⟨sf,of'+i,none⟩=some (.int .i64 (F i)):=by rw [← hv]; exact gfu
    have b5:wr.heap.size<v.heap.size:=by rw [← hv]; exact y0
    have b6:sf<v.heap.size:=by rw [← hv]; exact y2
    have b7:Below wr.heap.size wr v:=by rw [← hv]; exact ZaB Hu.out.2.1
    obtain ⟨d,hd⟩:∃ d,(A i).k+P f - P t=d:=⟨_,rfl⟩
    have Hv:=Zan (Jc (Zal Hu.out.2.2.1 b7) (Jc (Zal Hu.out.2.2.2.1 b7) (Hu.out.2.2.2.2.trans hd)))
    have nx:PairOk P (A i) (F i)→Hid (∀ m,m<i+1→PairOk P (A m) (F m)):=fun h m hm=>by
     by_cases h1:m<i
     ·exact hok.out m h1
     ·obtain rfl:m=i:=by omega
      exact h
    have Nx:=Zan nx
    rw [hv,hd]
    clear hv hd b7 a0 a1 a2 a3 gpu gqu gfu y0 y1 y2 Hu nx hPf hPt hk0 hk1
    by_cases c1:d<0
    ·have e1:decide (d<0)=true:=decide_eq_true c1
     have e3:decide (0<d)=false:=decide_eq_false (by omega)
     by_cases c2:F i<(A i).c
     ·have e2:decide (F i<(A i).c)=true:=decide_eq_true c2
      have Hc:=Zan (Jc c1 c2)
      clear c1 c2
      go_quiet (fail)
      go_wp2_with fail
      go_ret
      exact No.out (fun h=>by have:=h.2.2 i hlt; unfold PairOk at this; rw [Hv.out.2.2] at this; have:=Hc.out; omega) _ (ZaB Hv.out.2.1)
     ·have e2:decide (F i<(A i).c)=false:=decide_eq_false c2
      have Hc:=Zan (Jc c1 c2)
      clear c1 c2
      go_quiet (fail)
      go_wp2_with fail
      go_roundg (lf - (i+1))
      case measure=>omega
      case rel=>exact ⟨i+1,by omega,Jb _,by go_num,ZaB Hv.out.1,Nx.out (by unfold PairOk; rw [Hv.out.2.2]; have:=Hc.out; omega)⟩
    ·have e1:decide (d<0)=false:=decide_eq_false c1
     by_cases c3:0<d
     ·have e3:decide (0<d)=true:=decide_eq_true c3
      by_cases c4:0<F i
      ·have e4:decide (0<F i)=true:=decide_eq_true c4
       have Hc:=Zan (Jc c3 c4)
       clear c1 c3 c4
       go_quiet (fail)
       go_wp2_with fail
       go_ret
       exact No.out (fun h=>by have:=h.2.2 i hlt; unfold PairOk at this; rw [Hv.out.2.2] at this; have:=Hc.out; omega) _ (ZaB Hv.out.2.1)
      ·have e4:decide (0<F i)=false:=decide_eq_false c4
       have Hc:=Zan (Jc c3 c4)
       clear c1 c3 c4
       go_quiet (fail)
       go_wp2_with fail
       go_roundg (lf - (i+1))
       case measure=>omega
       case rel=>exact ⟨i+1,by omega,Jb _,by go_num,ZaB Hv.out.1,Nx.out (by unfold PairOk; rw [Hv.out.2.2]; have:=Hc.out; omega)⟩
     ·have e3:decide (0<d)=false:=decide_eq_false c3
      have Hc:=Zan (Jc c1 c3)
      clear c1 c3
      go_quiet (fail)
      go_wp2_with fail
      go_roundg (lf - (i+1))
      case measure=>omega
      case rel=>exact ⟨i+1,by omega,Jb _,by go_num,ZaB Hv.out.1,Nx.out (by unfold PairOk; rw [Hv.out.2.2]; have:=Hc.out; omega)⟩
   ·obtain rfl:i=lf:=by omega
    clear hlt hi
    go_wp2_with fail
    go_ret
    exact ⟨0,rfl,⟨fun h=>absurd Hn.out h,fun _ h=>absurd Hf.out h,fun _ _ h=>absurd ⟨rfl,hno.out,hok.out⟩ h,fun _ _ _=>rfl⟩,hbw⟩
end
end Go.Proofs.YtjdindfjfpdikaaGreat
