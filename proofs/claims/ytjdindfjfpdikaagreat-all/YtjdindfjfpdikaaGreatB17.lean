import Derived.Deep.RegionHeld
import Derived.Deep.LoopGhost
import Derived.Test.YtjdindfjfpdikaaGreatB03
import Derived.Test.YtjdindfjfpdikaaGreatB05
import Derived.Test.YtjdindfjfpdikaaGreatB16
import Derived.Test.YtjdindfjfpdikaaGreatPre
set_option maxRecDepth 100000
set_option maxHeartbeats 8000000
namespace Go.Proofs.YtjdindfjfpdikaaGreat
section
open Go.RowKit
structure RunFit (R:RSt):Prop where
 len1:R.t1.length≤8
 len2:R.t2.length≤4
 len3:R.t3.length≤16
 id1:∀ x∈R.t1,0≤x.1∧x.1≤99
 at1:∀ k,(hk:k<R.t1.length)→atOf R.t1[k].1 R.t1=k
 sl:∀ x∈R.t1,1≤x.2.2∧x.2.2≤4
 job:∀ i,(hi:i<R.t3.length)→∃ j:Nat,j<R.t2.length∧atOf R.t3[i].2.1 R.t2=j
 n2:∀ x∈R.t2,0≤x.2.2∧x.2.2≤1000
 n3:∀ x∈R.t3,0≤x.2.2∧x.2.2≤1000
 ws:∀ x∈R.ws,0≤x.2.2.2
 lw:R.ws.length≤1000000
 lo:R.on.length=R.t3.length
 wl:R.wt.length=R.t3.length
 wt:∀ n∈R.wt,0≤n∧n≤100
def cR (R:RSt)(i k:Nat):Int :=
 if k<R.t1.length then minW (R.t3.getD i (0,0,0)).1 (R.t1.getD k (0,0,0)).1 (R.t1.getD k (0,0,0)).2.1 (R.t3.getD i (0,0,0)).2.2 R.ws+mvR (R.on.getD i (-1)) (R.t1.getD k (0,0,0)).1
 else (R.t2.getD (atOf (R.t3.getD i (0,0,0)).2.1 R.t2).toNat (0,0,0)).2.2+R.wt.getD i 0+mvR (R.on.getD i (-1)) (-1)
theorem Zac {α:Type}{l:List α}{i:Nat}(h:i<l.length)(d:α):l.getD i d=l[i]:=by simp [List.getD,List.getElem?_eq_getElem h]
theorem ZaS {R:RSt}(hf:RunFit R){i k:Nat}(hi:i<R.t3.length):0≤cR R i k∧cR R i k≤1150:=by
 unfold cR
 split
 ·have h1:=Ze7 (R.on.getD i (-1)) (R.t1.getD k (0,0,0)).1
  have h2:=Zc4 (t:=(R.t3.getD i (0,0,0)).1) (m:=(R.t1.getD k (0,0,0)).1) (r:=(R.t1.getD k (0,0,0)).2.1) (ws:=R.ws) (c:=(R.t3.getD i (0,0,0)).2.2) (by rw [Zac hi]; exact hf.n3 _ (Jl hi)) hf.ws
  omega
 ·obtain ⟨j,hj,ej⟩:=hf.job i hi
  have h1:=Ze7 (R.on.getD i (-1)) (-1)
  rw [Zac hi,ej,Jn,Zac hj,Zac (show i<R.wt.length by rw [hf.wl]; exact hi)]
  have h2:=hf.n2 _ (Jl hj)
  have h3:=hf.wt _ (Jl (show i<R.wt.length by rw [hf.wl]; exact hi))
  omega
section
variable {w:World}{rb:Nat}{V:RVs}{x7 x8 x9 x10 x11:Value}{R:RSt}
theorem ZdM (h:RefAt w rb V x7 x8 x9 x10 x11 R)(hf:RunFit R)(i k:Nat)(hi:i<R.t3.length)(hk:k≤R.t1.length) :
  Calls Tryz.prog 109 #[.pointer (some ⟨rb,0,none⟩),.int .i64 i,.int .i64 k] w fun e w'=>e=.returned (.int .i64 (cR R i k))∧Below w.heap.size w w':=by
 obtain ⟨p1,c1',hv1⟩:=Zah h.r1
 have c1:=h.c1
 rw [hv1] at c1
 have hrb:=h.lt
 have hio:i<R.on.length:=by rw [hf.lo]; exact hi
 have hit:i<R.wt.length:=by rw [hf.wl]; exact hi
 by_cases e:k=R.t1.length
 ·subst e
  obtain ⟨j,hj,ej⟩:=hf.job i hi
  have ec:cR R i R.t1.length=R.t2[j].2.2+R.wt[i]+mvR R.on[i] (-1):=by
   unfold cR
   rw [if_neg (by omega),Zac hi,ej,Jn,Zac hj,Zac hit,Zac hio]
  have A1:=hid (ZbA h i j hi hio hit (by have:=hf.len2; omega) hj ej (hf.n2 _ (Jl hj)).1 (hf.n2 _ (Jl hj)).2 (hf.wt _ (Jl hit)).1 (hf.wt _ (Jl hit)).2)
  rw [← ec] at A1
  clear ec
  go_enter Tryz.func109,Tryz.ntmps109
  go_wp2_with fail
  refine A1.out.mono ?_
  rintro e w2 ⟨rfl,hb⟩
  go_wp2_with fail
  go_ret
  exact ⟨rfl,hb⟩
 ·have hk':k<R.t1.length:=by omega
  have hid1:=hf.id1 _ (Jl hk')
  have ec:cR R i k=minW R.t3[i].1 R.t1[k].1 R.t1[k].2.1 R.t3[i].2.2 R.ws+mvR R.on[i] R.t1[k].1:=by
   unfold cR
   rw [if_pos hk',Zac hi,Zac hk',Zac hio]
  have A1:=hid (Zcn h i k R.t1[k].1 hid1.1 hi hio (by have:=hf.len1; omega) hk' (hf.at1 k hk') (by have:=hf.lw; omega) (hf.n3 _ (Jl hi)) hf.ws)
  rw [← ec] at A1
  rcases h.r1.shape (fun _=>rfl) with ⟨_,e0⟩ | ⟨g1,cap1,cur1,hv1',_,hgl1,hle1,_,hc1⟩
  ·rw [e0] at hk'; simp at hk'
  have q0:=(hc1 k 0 hk' (by decide)).1
  simp only [cellsT,Je,Nat.add_zero] at q0
  rw [hv1] at hv1'
  cases hv1'
  have hkI:(k:Int)<(R.t1.length:Int):=by omega
  have hkb:((k:Int) == (R.t1.length:Int))=false:=by simp; omega
  generalize R.t1[k].1=m at q0 A1
  clear hc1 ec
  go_enter Tryz.func109,Tryz.ntmps109
  go_wp2_with fail
  refine A1.out.mono ?_
  rintro e w2 ⟨rfl,hb⟩
  go_wp2_with fail
  go_ret
  exact ⟨rfl,hb⟩
end
def NRow (b0:Nat)(w:World)(v:Value)(xs:List Int):Prop:=w.ownsRow b0 3 1 v xs.length (xs.flatMap cellsI)
theorem NRow.row {b0:Nat}{w:World}{v:Value}{xs:List Int}(h:NRow b0 w v xs):RowAt w 3 1 cellsI v xs:=by
 refine ⟨h.1,?_⟩
 rcases h.2 with h2 | ⟨g,cap,cur,hv,_,hr⟩
 ·exact Jr h2
 ·exact Js ⟨g,cap,cur,hv,Jq _,hr⟩
theorem NRow.base {b0:Nat}{w:World}{v:Value}{xs:List Int}(h:NRow b0 w v xs):∀ b,v.ownBlock=some b→b0≤b:=fun b e=>(World.ownsRow.lt h b e).1
theorem NRow.of {b0:Nat}{w:World}{v:Value}{xs:List Int}(h:RowAt w 3 1 cellsI v xs)(hb:∀ b,v.ownBlock=some b→b0≤b):NRow b0 w v xs:=by
 refine ⟨h.1,?_⟩
 rcases h.2 with h2 | ⟨g,cap,cur,hv,_,hr⟩
 ·exact Jr h2
 ·exact Js ⟨g,cap,cur,hv,hb g (by rw [hv]; rfl),hr⟩
theorem NRow.nil (b0:Nat)(w:World):NRow b0 w (.slice none 0 0) []:=World.ownsRow_nil _ _ _ _
theorem NRow.below {b0:Nat}{w w':World}{v:Value}{xs:List Int}(h:NRow b0 w v xs)(hb:Below w.heap.size w w'):NRow b0 w' v xs:=NRow.of (h.row.below hb) h.base
theorem NRow.kept {b0:Nat}{w w':World}{v:Value}{xs:List Int}{row:Option Nat}(h:NRow b0 w v xs)(hg:w.grownBy w' row)(hne:v.ownBlock=none∨v.ownBlock≠row):NRow b0 w' v xs:=World.ownsRow.kept h hg hne
theorem Zj9:(Tryz.prog.info? 3).map (fun i=>(i.zero,i.size,i.bytes))=some (some (.int .i64 0),1,8):=by kernel_rfl
theorem ZaJ {ops:Array Oper}{rest:List Oper}{o:Oper}{a:Act}{Q:Exit→Act→World→Prop}(W:World)(b0:Nat)(x:Int)(v:Value)(xs:List Int)(hgd:o.guard=none)(sO xO:Operand)
  (hop:o.op=Op.call { callee:=Callee.builtin Builtin.append,args:=#[sO,xO],argTypes:=#[32,32] }) (hs:a.eval sO=v) (hr:NRow b0 W v xs) (ad:Nat) (had:a.eval xO=.slice (some ⟨ad,0,none⟩) 1 1)
  (hc:W.cell? ⟨ad,0,none⟩=some (.int .i64 x)) (hb:b0≤W.heap.size) (hl:xs.length≤1000000)
  (hK:∀ (v':Value) (w':World),NRow b0 w' v' (xs ++ [x])→W.grownBy w' v.ownBlock→(v'.ownBlock=v.ownBlock∨v'.ownBlock=some W.heap.size)→wpList Tryz.prog ops Q rest (a.put o.dst v') w') :
  wpList Tryz.prog ops Q (o :: rest) a W:=by
 obtain ⟨i3,hi3,hy0,hy1,hy2⟩:=info_parts Zj9
 refine wpList_append_own_at W hgd sO xO 32 hop b0 3 i3 (.int .i64 0) 1 8 Tryz.underlying32 hi3 hy0 hy1 hy2 rfl (by decide) v xs.length (xs.flatMap cellsI) hs hr ⟨ad,0,none⟩ 1 1 [.int .i64 x] had rfl ?_ ?_ (by unfold maxLen; omega) (by omega) hb ?_
 ·intro j u hj
  have:j=0:=by
   have:=(List.getElem?_eq_some_iff.1 hj).1
   simp at this; exact this
  subst this
  simp at hj
  subst hj
  exact hc
 ·intro u hu
  simp at hu
  subst hu
  rfl
 ·intro u w' hrow hg _ hloc
  refine hK u w' ?_ hg hloc
  unfold NRow
  simpa [cellsI] using hrow
section
variable {w:World}{rb:Nat}{V:RVs}{x7 x8 x9 x10 x11:Value}{R:RSt}
theorem Zej (h:RefAt w rb V x7 x8 x9 x10 x11 R)(hf:RunFit R) :
  Calls Tryz.prog 74 #[.pointer (some ⟨rb,0,none⟩)] w fun e w'=>∃ v,e=.returned v∧NRow w.heap.size w' v (R.t1.map (fun x=>x.2.2))∧Below w.heap.size w w':=by
 have hl8:=hf.len1
 obtain ⟨p1,c1',hv1⟩:=Zah h.r1
 go_enter Tryz.func74,Tryz.ntmps74
 go_wp2_with fail
 go_loopg [3,4] R.t1.length (fun gk v iv wr=>∃ k:Nat,k≤R.t1.length∧R.t1.length - k≤gk∧iv=.int .i64 k∧NRow w.heap.size wr v ((R.t1.take k).map (fun x=>x.2.2))∧Below w.heap.size w wr)
 case atStart=>exact ⟨0,Jq _,Jb _,rfl,NRow.nil _ _,Jd _ _⟩
 case' round=>skip
 obtain ⟨k,hk,hgk,rfl,hr,hb⟩:=hrel
 have hp:=h.below hb
 have c1:=hp.c1
 rw [hv1] at c1
 have hrb:=hp.lt
 by_cases hlt:k<R.t1.length
 ·rcases hp.r1.shape (fun _=>rfl) with ⟨_,e0⟩ | ⟨g1,cap1,cur1,hv1',_,hgl1,hle1,_,hc1⟩
  ·rw [e0] at hlt; simp at hlt
  have q0:=(hc1 k 2 hlt (by decide)).1
  simp only [cellsT,Je,Jf] at q0
  rw [hv1] at hv1'
  cases hv1'
  have hkI:(k:Int)<(R.t1.length:Int):=by omega
  have etake:(R.t1.take k).map (fun x=>x.2.2) ++ [R.t1[k].2.2]=(R.t1.take (k+1)).map (fun x=>x.2.2):=by rw [List.take_succ_eq_append_getElem hlt,List.map_append]; rfl
  obtain ⟨n,hn⟩:∃ n,R.t1[k].2.2=n:=⟨_,rfl⟩
  rw [hn] at q0 etake
  have hrA:NRow w.heap.size (wr.alloc (.cells #[.int .i64 n] 3)) u3 ((R.t1.take k).map (fun x=>x.2.2)):=hr.below ((Jd _ _).alloc (Jb _) _)
  have hlen:((R.t1.take k).map (fun x=>x.2.2)).length≤1000000:=by simp; omega
  have Hb:=hid (Jc hb (Jc hr etake))
  have hbs:=hb.size
  clear hc1 hb hr etake
  go_upto_region 4 with (first
   | (at_builtin; refine ZaJ _ w.heap.size n u3 _ rfl _ _ rfl rfl hrA wr.heap.size rfl (by simp) (by simp; omega) hlen ?_; intro u w5 hrow5 hg5 hloc5)
   | fail)
  have hb5:Below w.heap.size w w5:=(Zai Hb.out.1 ((Jd _ _).alloc (Jb _) _)).grown hg5 (by simp; omega) (fun b e=>Hb.out.2.1.base b e)
  rw [Hb.out.2.2] at hrow5
  go_wp2_with fail
  go_roundg (R.t1.length - (k+1))
  case measure=>omega
  case rel=>exact ⟨k+1,by omega,Jb _,by go_num,hrow5,hb5⟩
 ·obtain rfl:k=R.t1.length:=by omega
  rw [List.take_length] at hr
  go_wp2_with fail
  go_ret
  exact ⟨_,rfl,hr,hb⟩
end
end
section
open Go.RowKit
def intL (n:Nat)(f:Nat→Int):List Int:=(List.range n).map f
def natI (f:Nat→Nat):Nat→Int:=fun j=>(f j:Int)
theorem Zad (n:Nat)(f:Nat→Int):(intL n f).length=n:=by simp [intL]
theorem ZaM {n i:Nat}{f:Nat→Int}(h:i<(intL n f).length):(intL n f)[i]=f i:=by simp [intL]
theorem ZbF (n:Nat)(f:Nat→Int):intL n f ++ [f n]=intL (n+1) f:=by simp [intL,List.range_succ]
theorem Zez {n k:Nat}{f:Nat→Int}{x:Int}:(intL n f).set k x=intL n (updI f k x):=by
 apply List.ext_getElem
 ·simp [intL]
 ·intro i h1 h2
  rw [List.getElem_set,ZaM (f:=updI f k x)]
  by_cases e:k=i
  ·rw [if_pos e]; simp [updI,e]
  ·have e':¬ i=k:=fun q=>e q.symm
   rw [if_neg e,ZaM]; simp [updI,e']
theorem ZcJ {f:Nat→Nat}{k x:Nat}:updI (natI f) k (x:Int)=natI (updN f k x):=by
 funext i
 simp only [updI,natI,updN]
 split <;> rfl
theorem Za2 {n:Nat}{f g:Nat→Int}(h:∀ i,i<n→f i=g i):intL n f=intL n g:=by
 unfold intL
 exact List.map_congr_left (fun i hi=>h i (List.mem_range.1 hi))
theorem Zcr {f:Nat→Int}{k:Nat}{x:Int}:∀ {n:Nat},k<n→sumN (updI f k x) n=sumN f n - f k+x
 | 0,h=>by omega
 | n+1,h=>by
  simp only [sumN]
  by_cases e:n=k
  ·subst e
   rw [Zav (g:=updI f n x) (h:=f) (fun i hi=>by simp [updI,show i≠n by omega])]
   simp only [updI,if_true]
   omega
  ·rw [Zcr (n:=n) (by omega)]
   simp only [updI,if_neg e]
   omega
theorem ZdS {f:Nat→Int}:∀ {n:Nat},(∀ i,i<n→0≤f i)→0≤sumN f n
 | 0,_=>Int.le_refl _
 | n+1,h=>by
  have h1:=ZdS (n:=n) (fun i hi=>h i (by omega))
  have h2:=h n (by omega)
  simp only [sumN]
  omega
theorem Zcs {y:Int}(h0:-1000000≤y)(h1:y≤1000000):IntKind.i64.wrap y=y:=by
 show (if (true && decide (y % 18446744073709551616 ≥ 9223372036854775808))=true then y % 18446744073709551616 - 18446744073709551616 else y % 18446744073709551616)=y
 by_cases h:y % 18446744073709551616 ≥ 9223372036854775808
 ·rw [if_pos (by simpa using h)]; omega
 ·rw [if_neg (by simpa using h)]; omega
def meas (M:Nat)(p far:Nat→Int):Nat:=(sumN (fun k=>far k+p k) (M+1)).toNat
theorem ZkQ {M:Nat}{p far:Nat→Int}{k:Nat}{x:Int}(hk:k≤M)(hx:x<far k)(h0:∀ i,i≤M→0≤updI far k x i+p i):meas M p (updI far k x)<meas M p far:=by
 have e:(fun i=>updI far k x i+p i)=updI (fun i=>far i+p i) k (x+p k):=by
  funext i
  simp only [updI]
  split
  ·rename_i q; rw [q]
  ·rfl
 have h1:0≤sumN (fun i=>updI far k x i+p i) (M+1):=ZdS (fun i hi=>h0 i (by omega))
 unfold meas
 rw [e] at h1 ⊢
 rw [Zcr (by omega)] at h1 ⊢
 omega
theorem FInv.lows {M i:Nat}{s:Nat→Nat}{c:Nat→Nat→Int}{on by':Nat→Nat}{far p:Nat→Int}(h:FInv M i c on by' far)(hp:Cert M s c on i p)(hc:∀ k,k≤M→0≤c i k):∀ k,k≤M→0≤far k+p k:=fun k hk=>by
 obtain ⟨n,hn⟩:=h.fin k hk
 exact h.low hp hc hn hk
theorem NRow.at {b0:Nat}{w:World}{v:Value}{n:Nat}{f:Nat→Int}(h:NRow b0 w v (intL n f))(hn:0<n):∃ g cap,v=.slice (some ⟨g,0,none⟩) n cap∧b0≤g∧g<w.heap.size∧∀ k,k<n→w.cell? ⟨g,k,none⟩=some (.int .i64 (f k))∧w.frozen? ⟨g,k,none⟩=false:=by
 rcases h.row.shape (fun _=>rfl) with ⟨_,e⟩ | ⟨g,cap,cur,hv,_,hl,_,_,hc⟩
 ·have:=congrArg List.length e
  rw [Zad] at this
  simp at this
  omega
 ·rw [Zad] at hv
  refine ⟨g,cap,hv,h.base g (by rw [hv]; rfl),hl,fun k hk=>?_⟩
  have h1:=hc k 0 (by rw [Zad]; exact hk) (by decide)
  rw [Nat.mul_one,Nat.add_zero,ZaM] at h1
  exact h1
theorem NRow.put {b0:Nat}{w:World}{g cap n k:Nat}{f:Nat→Int}(h:NRow b0 w (.slice (some ⟨g,0,none⟩) n cap) (intL n f))(x:Int):NRow b0 (w.setCell ⟨g,k,none⟩ (.int .i64 x)) (.slice (some ⟨g,0,none⟩) n cap) (intL n (updI f k x)):=by
 refine NRow.of ?_ h.base
 have h1:RowAt w 3 1 cellsI (.slice (some ⟨g,0,none⟩) (intL n f).length cap) (intL n f):=by rw [Zad]; exact h.row
 have h2:=h1.setAt k x
 rw [Zez,Zad] at h2
 exact h2
section
variable {w:World}{rb:Nat}{V:RVs}{x7 x8 x9 x10 x11:Value}{R:RSt}
structure FarBy (b0:Nat)(w0 w:World)(M gf cf gb cb:Nat)(far:Nat→Int)(by':Nat→Nat):Prop where
 far:NRow b0 w (.slice (some ⟨gf,0,none⟩) (M+1) cf) (intL (M+1) far)
 by':NRow b0 w (.slice (some ⟨gb,0,none⟩) (M+1) cb) (intL (M+1) (natI by'))
 below:Below w0.heap.size w0 w
theorem FarBy.keep {b0 M gf cf gb cb:Nat}{w0 w1 w2:World}{far:Nat→Int}{by':Nat→Nat}(h:FarBy b0 w0 w1 M gf cf gb cb far by')(hb:Below w1.heap.size w1 w2):FarBy b0 w0 w2 M gf cf gb cb far by':=⟨h.far.below hb,h.by'.below hb,Zai h.below hb⟩
theorem FarBy.put {M gf cf gb cb j k:Nat}{w0 w1:World}{far:Nat→Int}{by':Nat→Nat}(h:FarBy w0.heap.size w0 w1 M gf cf gb cb far by')(hne:gf≠gb)(x:Int):FarBy w0.heap.size w0 ((w1.setCell ⟨gf,k,none⟩ (.int .i64 x)).setCell ⟨gb,k,none⟩ (.int .i64 j)) M gf cf gb cb (updI far k x) (updN by' k j):=by
 refine ⟨(h.far.put x).kept (Zaa _ _ _) (Js (fun e=>hne (by simpa [Value.ownBlock] using e))),?_,(h.below.setCell (p:=⟨gf,k,none⟩) (h.far.base gf rfl) _).setCell (p:=⟨gb,k,none⟩) (h.by'.base gb rfl) _⟩
 have h1:=(h.by'.kept (Zaa w1 ⟨gf,k,none⟩ (.int .i64 x)) (Js (fun e=>hne (by simpa [Value.ownBlock] using e.symm)))).put (k:=k) (j:Int)
 rw [ZcJ] at h1
 exact h1
def SWy (go gf j:Nat)(on:Nat→Nat)(far:Nat→Int)(W':World):Prop:=W'.cell? ⟨go,j,none⟩=some (.int .i64 (on j))∧W'.cell? ⟨gf,on j,none⟩=some (.int .i64 (far (on j)))
theorem Zij (h:RefAt w rb V x7 x8 x9 x10 x11 R)(hf:RunFit R)(i:Nat)(hi:i<R.t3.length)(go co:Nat)(on:Nat→Nat)(hon:RowAt w 3 1 cellsI (.slice (some ⟨go,0,none⟩) (i+1) co) (intL (i+1) (natI on)))(hole:∀ j,j<i→on j≤R.t1.length)(p:Nat→Int)(s:Nat→Nat)(hp:Cert R.t1.length s (cR R) on i p)(hpb:∀ k,k≤R.t1.length→p k≤100000) :
  Calls Tryz.prog 95 #[.pointer (some ⟨rb,0,none⟩),.int .i64 i,.slice (some ⟨go,0,none⟩) (i+1) co] w fun e w'=>∃ gf cf gb cb far by',e=.returned (.tuple #[.slice (some ⟨gf,0,none⟩) (R.t1.length+1) cf,.slice (some ⟨gb,0,none⟩) (R.t1.length+1) cb])∧gf≠gb∧FarBy w.heap.size w w' R.t1.length gf cf gb cb far by'∧Ways R.t1.length i (cR R) on by' far:=by
 have hl8:=hf.len1
 have hl16:=hf.len3
 obtain ⟨p1,c1',hv1⟩:=Zah h.r1
 have c1:=h.c1
 rw [hv1] at c1
 have hrb:=h.lt
 go_enter Tryz.func95,Tryz.ntmps95
 go_wp2_with fail
 go_loopg [9,10,11] (R.t1.length+1) (fun gk vf vb iv wr=>∃ k:Nat,k≤R.t1.length+1∧R.t1.length+1 - k≤gk∧iv=.int .i64 k∧NRow w.heap.size wr vf (intL k (cR R i))∧NRow w.heap.size wr vb (intL k (natI (fun _=>i)))∧(∀ b,vf.ownBlock=some b→vb.ownBlock≠some b)∧Below w.heap.size w wr)
 case atStart=>exact ⟨0,Jq _,Jb _,rfl,NRow.nil _ _,NRow.nil _ _,(fun b e=>by cases e),Jd _ _⟩
 case' round=>skip
 obtain ⟨k,hk,hgk,rfl,hr1,hr2,hne,hb⟩:=hrel
 by_cases hlt:k<R.t1.length+1
 ·have hkI:(k:Int)≤(R.t1.length:Int):=by omega
  have hp1:=h.below hb
  have A1:=hid (ZdM hp1 hf i k hi (by omega))
  have H1:=hid (Jc hr1 (Jc hr2 (Jc hne hb)))
  have hbs:=hb.size
  clear hr1 hr2 hne hb hp1
  go_wp2_with fail
  refine A1.out.mono ?_
  rintro e w2 ⟨rfl,hb2⟩
  have cB:=ZaS hf (k:=k) hi
  obtain ⟨x,hx⟩:∃ x,cR R i k=x:=⟨_,rfl⟩
  have hpush:=ZbF k (cR R i)
  rw [hx] at hpush cB ⊢
  have ba:Below w2.heap.size w2 (w2.alloc (.cells #[.int .i64 x] 3)):=(Jd _ _).alloc (Jb _) _
  have hrA:=(H1.out.1.below hb2).below ba
  have hbs2:=hb2.size
  have Hx:=hid (Jc hx hpush)
  clear hx hpush
  go_upto_region 8 with (first
   | (at_builtin; refine ZaJ _ w.heap.size x u9 _ rfl _ _ rfl rfl hrA w2.heap.size rfl (by simp) (by simp; omega) (by rw [Zad]; omega) ?_; intro vf' w3 hrow3 hg3 hloc3)
   | fail)
  have hr3:NRow w.heap.size w3 u10 (intL k (natI (fun _=>i))):=((H1.out.2.1.below hb2).below ba).kept hg3 (by
   cases hq:u10.ownBlock with
   | none=>exact Jr rfl
   | some b=>exact Js (fun q=>H1.out.2.2.1 b q.symm hq))
  have hb3:Below w.heap.size w w3:=(Zai (Zai H1.out.2.2.2 hb2) ba).grown hg3 (by simp; omega) (fun b e=>H1.out.1.base b e)
  have hne3:∀ b,vf'.ownBlock=some b→u10.ownBlock≠some b:=fun b e q=>by
   rcases hloc3 with e' | e'
   ·exact H1.out.2.2.1 b (e'.symm.trans e) q
   ·rw [e'] at e
    cases e
    have h5:=(H1.out.2.1.below hb2).row.lt q
    have h6:∀ o,(w2.alloc o).heap.size=w2.heap.size+1:=fun o=>by simp
    rw [h6] at h5
    omega
  rw [Hx.out.2] at hrow3
  have ba3:Below w3.heap.size w3 (w3.alloc (.cells #[.int .i64 i] 3)):=(Jd _ _).alloc (Jb _) _
  have hrB:=hr3.below ba3
  have hbs3:=hb3.size
  have hpush2:=ZbF k (natI (fun _=>i))
  have H3:=hid (Jc hrow3 (Jc hr3 (Jc hb3 (Jc hne3 hpush2))))
  clear hrow3 hr3 hb3 hne3 hpush2 hrA hloc3 hg3
  go_upto_region 5 with (first
   | (at_builtin; refine ZaJ _ w.heap.size (i:Int) u10 _ rfl _ _ rfl rfl hrB w3.heap.size rfl (by simp) (by simp; omega) (by rw [Zad]; omega) ?_; intro vb' w4 hrow4 hg4 hloc4)
   | fail)
  have hr4:NRow w.heap.size w4 vf' (intL (k+1) (cR R i)):=(H3.out.1.below ba3).kept hg4 (by
   cases hq:vf'.ownBlock with
   | none=>exact Jr rfl
   | some b=>exact Js (fun q=>H3.out.2.2.2.1 b hq q.symm))
  have hb4:Below w.heap.size w w4:=(Zai H3.out.2.2.1 ba3).grown hg4 (by simp; omega) (fun b e=>H3.out.2.1.base b e)
  have hne4:∀ b,vf'.ownBlock=some b→vb'.ownBlock≠some b:=fun b e q=>by
   rcases hloc4 with e' | e'
   ·exact H3.out.2.2.2.1 b e (e'.symm.trans q)
   ·rw [e'] at q
    cases q
    have h5:=H3.out.1.row.lt e
    have h6:∀ o,(w3.alloc o).heap.size=w3.heap.size+1:=fun o=>by simp
    rw [h6] at h5
    omega
  have hrow5:NRow w.heap.size w4 vb' (intL (k+1) (natI (fun _=>i))):=by rw [← H3.out.2.2.2.2]; exact hrow4
  clear hrow4 hg4 hloc4
  go_wp2_with fail
  go_roundg (R.t1.length+1 - (k+1))
  case measure=>omega
  case rel=>exact ⟨k+1,by omega,Jb _,by go_num,hr4,hrow5,hne4,hb4⟩
 ·obtain rfl:k=R.t1.length+1:=by omega
  obtain ⟨gf,cf,rfl,hgf,hgl,_⟩:=hr1.at (by omega)
  obtain ⟨gb,cb,rfl,hgb,hgbl,_⟩:=hr2.at (by omega)
  have hgne:gf≠gb:=fun e=>hne gf rfl (by rw [e]; rfl)
  have hc0:∀ k,k≤R.t1.length→0≤cR R i k:=fun k _=>(ZaS hf hi).1
  have F0:FInv R.t1.length i (cR R) on (fun _=>i) (cR R i):=FInv.zero _ _ _ _ _ _ (fun k _=>⟨rfl,rfl⟩)
  have H0:=hid (Jc F0 (FarBy.mk hr1 hr2 hb))
  clear F0 hr1 hr2 hb hne hgk hlt hk
  go_wp2_with fail
  go_loopg [13] (2*meas R.t1.length p (cR R i)+1) (fun gk av wr=>∃ (a:Bool) (far:Nat→Int) (by':Nat→Nat),av=.bool a∧FInv R.t1.length i (cR R) on by' far∧FarBy w.heap.size w wr R.t1.length gf cf gb cb far by'∧2*meas R.t1.length p far+(if a=true then 1 else 0)≤gk∧(a=false→∀ j,j<i→on j<R.t1.length→∀ k,k≤R.t1.length→far k≤far (on j) - cR R j (on j)+cR R j k))
  case atStart=>exact ⟨true,_,_,rfl,H0.out.1,H0.out.2,by simp,(fun e=>by cases e)⟩
  case' round=>skip
  clear H0
  obtain ⟨a,far0,by0,rfl,hF0,hW0,hgk,hfix⟩:=hrel
  rename World=>W0
  cases a with
  | false =>
   have H4:=hid (Jc hW0 (Ways.mk hF0 (hfix rfl)))
   clear hW0 hF0 hfix
   go_wp2_with fail
   go_ret2
   exact ⟨gf,cf,gb,cb,far0,by0,rfl,hgne,H4.out.1,H4.out.2⟩
  | true =>
   have Hgk:=hid hgk
   have H4:=hid (Jc hF0 hW0)
   clear hF0 hW0 hfix hgk
   go_wp2_with fail
   go_loopg [13,14] i (fun gk av jv wr=>∃ (a:Bool) (j:Nat) (far:Nat→Int) (by':Nat→Nat),av=.bool a∧jv=.int .i64 j∧j≤i∧i - j≤gk∧Hid (FInv R.t1.length i (cR R) on by' far∧FarBy w.heap.size w wr R.t1.length gf cf gb cb far by'∧(a=true→meas R.t1.length p far<meas R.t1.length p far0)∧(a=false→far=far0∧∀ j',j'<j→on j'<R.t1.length→∀ k,k≤R.t1.length→far k≤far (on j') - cR R j' (on j')+cR R j' k)))
   case atStart=>exact ⟨false,0,far0,by0,rfl,rfl,Jq _,Jb _,H4.out.1,H4.out.2,(fun e=>by cases e),fun _=>⟨rfl,fun j' hj=>by omega⟩⟩
   case' round=>skip
   clear H4
   obtain ⟨a,j,far1,by1,rfl,rfl,hj,hgk3,H5⟩:=hrel
   rename World=>W1
   by_cases hlt3:j<i
   ·have hjI:(j:Int)<(i:Int):=by omega
    go_wp2_with fail
    go_loopg [13,15] (R.t1.length+1) (fun gk av kv wr=>∃ (a:Bool) (k:Nat) (far:Nat→Int) (by':Nat→Nat),av=.bool a∧kv=.int .i64 k∧k≤R.t1.length+1∧R.t1.length+1 - k≤gk∧Hid (FInv R.t1.length i (cR R) on by' far∧FarBy w.heap.size w wr R.t1.length gf cf gb cb far by'∧(a=true→meas R.t1.length p far<meas R.t1.length p far0)∧(a=false→far=far0∧(∀ j',j'<j→on j'<R.t1.length→∀ k,k≤R.t1.length→far k≤far (on j') - cR R j' (on j')+cR R j' k)∧∀ k',k'<k→far k'≤far (on j) - cR R j (on j)+cR R j k')))
    case atStart=>exact ⟨a,0,far1,by1,rfl,rfl,Jq _,Jb _,H5.out.1,H5.out.2.1,H5.out.2.2.1,fun e=>⟨(H5.out.2.2.2 e).1,(H5.out.2.2.2 e).2,fun k' hk'=>by omega⟩⟩
    case' round=>skip
    clear H5 a
    obtain ⟨a,k,far,by',rfl,rfl,hk,hgk4,H6⟩:=hrel
    rename World=>W2
    have hol:=hole j hlt3
    have hLo:RowAt W2 3 1 cellsI (.slice (some ⟨go,0,none⟩) (i+1) co) (intL (i+1) (natI on)):=hon.below H6.out.2.1.below
    have hoc:W2.cell? ⟨go,j,none⟩=some (.int .i64 (on j)):=by
     rcases hLo.shape (fun _=>rfl) with ⟨e,_⟩ | ⟨g,cap,cur,hv,_,hl,_,_,hc⟩
     ·cases e
     ·rw [Zad] at hv
      cases hv
      have h1:=(hc j 0 (by rw [Zad]; omega) (by decide)).1
      rw [Nat.mul_one,Nat.add_zero,ZaM] at h1
      exact h1
    have hgo:go<W2.heap.size:=by
     rcases hLo.shape (fun _=>rfl) with ⟨e,_⟩ | ⟨g,cap,cur,hv,_,hl,_,_,hc⟩
     ·cases e
     ·rw [Zad] at hv
      cases hv
      exact hl
    have hjI1:(j:Int)<(i:Int)+1:=by omega
    by_cases hkM:k≤R.t1.length
    ·have hkI:(k:Int)≤(R.t1.length:Int):=by omega
     by_cases hoM:on j<R.t1.length
     ·have hoI:(on j:Int)<(R.t1.length:Int):=by omega
      have hoI1:(on j:Int)<(R.t1.length:Int)+1:=by omega
      have hkI1:(k:Int)<(R.t1.length:Int)+1:=by omega
      obtain ⟨_,_,ef,_,hgfl,hfc⟩:=H6.out.2.1.far.at (by omega)
      cases ef
      have hfo:=(hfc (on j) (by omega)).1
      have hfk:=hfc k (by omega)
      obtain ⟨_,_,eb,_,hgbl2,hbc⟩:=H6.out.2.1.by'.at (by omega)
      cases eb
      have hbk:=hbc k (by omega)
      have lo:=H6.out.1.lows hp hc0
      have lo1:=lo (on j) (by omega)
      have lo2:=hpb (on j) (by omega)
      have lo3:=H6.out.1.top (on j) (by omega)
      have lo4:=(ZaS hf (k:=on j) hi).2
      have bj:j<R.t3.length:=by omega
      have cb1:=ZaS hf (k:=on j) bj
      have cb2:=ZaS hf (k:=k) bj
      have Bfo:-100000≤far (on j)∧far (on j)≤1150:=by constructor <;> omega
      have cbA:=cb1.1
      have cbB:=cb1.2
      have cbC:=cb2.1
      have cbD:=cb2.2
      have BfA:=Bfo.1
      have BfB:=Bfo.2
      have hSa:SWy go gf j on far W2.drew:=⟨hoc,hfo⟩
      have A1:=hid (ZdM ((h.below H6.out.2.1.below).below (Jd _ _).drew) hf j (on j) bj (by omega))
      go_upto_region 18 with fail
      refine wp_region_held_drew (S:=SWy go gf j on far) (by kernel_rfl) hSa (fun _=>?_)
      refine tkH (v:=?_) 0 59 hSa ?_ ?_; rotate_left 1
      ·(rintro w ⟨e1,e2⟩; go_simp; try with_reducible rfl)
      simp only [Act.put,Jh,Ji,Jj]
      refine tkH (v:=?_) 1 60 hSa ?_ ?_; rotate_left 1
      ·(rintro w ⟨e1,e2⟩; go_simp; try with_reducible rfl)
      simp only [Act.put,Jh,Ji,Jj]
      refine tkH (v:=?_) 2 61 hSa ?_ ?_; rotate_left 1
      ·(rintro w ⟨e1,e2⟩; go_simp; try with_reducible rfl)
      simp only [Act.put,Jh,Ji,Jj]
      refine tkH (v:=?_) 3 62 hSa ?_ ?_; rotate_left 1
      ·(rintro w ⟨e1,e2⟩; go_simp; try with_reducible rfl)
      simp only [Act.put,Jh,Ji,Jj]
      refine tkH (v:=?_) 4 63 hSa ?_ ?_; rotate_left 1
      ·(rintro w ⟨e1,e2⟩; go_simp; try with_reducible rfl)
      simp only [Act.put,Jh,Ji,Jj]
      refine tkH (v:=?_) 5 64 hSa ?_ ?_; rotate_left 1
      ·(rintro w ⟨e1,e2⟩; go_simp; try with_reducible rfl)
      simp only [Act.put,Jh,Ji,Jj]
      refine tkH (v:=?_) 6 65 hSa ?_ ?_; rotate_left 1
      ·(rintro w ⟨e1,e2⟩; go_simp; try with_reducible rfl)
      simp only [Act.put,Jh,Ji,Jj]
      refine tkH (v:=?_) 7 66 hSa ?_ ?_; rotate_left 1
      ·(rintro w ⟨e1,e2⟩; go_simp; try with_reducible rfl)
      simp only [Act.put,Jh,Ji,Jj]
      refine tkH (v:=?_) 8 67 hSa ?_ ?_; rotate_left 1
      ·(rintro w ⟨e1,e2⟩; go_simp; try with_reducible rfl)
      simp only [Act.put,Jh,Ji,Jj]
      refine tkH (v:=?_) 9 68 hSa ?_ ?_; rotate_left 1
      ·(rintro w ⟨e1,e2⟩; go_simp; try with_reducible rfl)
      simp only [Act.put,Jh,Ji,Jj]
      refine tkH (v:=?_) 10 69 hSa ?_ ?_; rotate_left 1
      ·(rintro w ⟨e1,e2⟩; go_simp; try with_reducible rfl)
      simp only [Act.put,Jh,Ji,Jj]
      refine tkH (v:=?_) 11 70 hSa ?_ ?_; rotate_left 1
      ·(rintro w ⟨e1,e2⟩; go_simp; try with_reducible rfl)
      simp only [Act.put,Jh,Ji,Jj]
      refine tkH (v:=?_) 12 71 hSa ?_ ?_; rotate_left 1
      ·(rintro w ⟨e1,e2⟩; go_simp; try with_reducible rfl)
      simp only [Act.put,Jh,Ji,Jj]
      refine tkH (v:=?_) 15 74 hSa ?_ ?_; rotate_left 1
      ·(rintro w ⟨e1,e2⟩; go_simp; try with_reducible rfl)
      simp only [Act.put,Jh,Ji,Jj]
      refine tkH (v:=?_) 16 75 hSa ?_ ?_; rotate_left 1
      ·(rintro w ⟨e1,e2⟩; go_simp; try with_reducible rfl)
      simp only [Act.put,Jh,Ji,Jj]
      refine tkH (v:=?_) 17 76 hSa ?_ ?_; rotate_left 1
      ·(rintro w ⟨e1,e2⟩; go_simp; try with_reducible rfl)
      simp only [Act.put,Jh,Ji,Jj]
      refine wpAnyH_ready (rs:=[13]) (by kernel_rfl) (by simp) ?_
      refine AllReadyH.cons rfl (fun K hK=>?_) AllReadyH.nil
      go_simp
      refine A1.out.mono ?_
      rintro e W3 ⟨rfl,b3⟩
      have hSb:SWy go gf j on far W3:=⟨(b3.cell (p:=⟨go,j,none⟩) hgo).trans hoc,(b3.cell (p:=⟨gf,on j,none⟩) hgfl).trans hfo⟩
      refine hK.out _ _ hSb (fun _=>?_)
      clear hK K
      refine tkH (v:=?_) 14 73 hSb ?_ ?_; rotate_left 1
      ·(rintro w ⟨e1,e2⟩; go_simp; try with_reducible rfl)
      simp only [Act.put,Jh,Ji,Jj]
      refine wpAnyH_ready (rs:=[18]) (by kernel_rfl) (by simp) ?_
      refine AllReadyH.cons rfl (fun K hK=>?_) AllReadyH.nil
      go_simp
      refine (ZdM (((h.below H6.out.2.1.below).below (Jd _ _).drew).below b3) hf j k bj hkM).mono ?_
      rintro e W4 ⟨rfl,b4⟩
      have hgo3:go<W3.heap.size:=Jm hgo b3.size
      have hgf3:gf<W3.heap.size:=Jm hgfl b3.size
      have hSc:SWy go gf j on far W4:=⟨(b4.cell (p:=⟨go,j,none⟩) hgo3).trans hSb.1,(b4.cell (p:=⟨gf,on j,none⟩) hgf3).trans hSb.2⟩
      refine hK.out _ _ hSc (fun _=>?_)
      clear hK K
      refine tkH (v:=?_) 19 78 hSc ?_ ?_; rotate_left 1
      ·(rintro w ⟨e1,e2⟩; go_simp; try with_reducible rfl)
      simp only [Act.put,Jh,Ji,Jj]
      refine tkH (v:=?_) 20 16 hSc ?_ ?_; rotate_left 1
      ·(rintro w ⟨e1,e2⟩; go_simp; try with_reducible rfl)
      simp only [Act.put,Jh,Ji,Jj]
      refine wpAnyH_done (by kernel_rfl) ?_ _
      have W5:=H6.out.2.1.keep (Zai (Zai (Jd _ _).drew b3) b4)
      have ew:IntKind.i64.wrap (IntKind.i64.wrap (far (on j) - cR R j (on j))+cR R j k)=far (on j) - cR R j (on j)+cR R j k:=by
       rw [Zcs (y:=far (on j) - cR R j (on j)) (by omega) (by omega),Zcs (by omega) (by omega)]
      rw [ew]
      obtain ⟨x,hx⟩:∃ x,far (on j) - cR R j (on j)+cR R j k=x:=⟨_,rfl⟩
      rw [hx]
      obtain ⟨_,_,ef,_,hgf4,hfc4⟩:=W5.far.at (by omega)
      cases ef
      obtain ⟨f0,f1⟩:=hfc4 k (by omega)
      obtain ⟨_,_,eb,_,hgb4,hbc4⟩:=W5.by'.at (by omega)
      cases eb
      obtain ⟨b0,b1⟩:=hbc4 k (by omega)
      obtain ⟨fk,hfk'⟩:∃ y,far k=y:=⟨_,rfl⟩
      obtain ⟨bk,hbk'⟩:∃ y,natI by' k=y:=⟨_,rfl⟩
      rw [hfk'] at f0
      rw [hbk'] at b0
      have H7:=hid (Jc W5 (Jc hx (Jc hfk' (Jc hSa (Jc hSb hSc)))))
      clear W5 hfc4 hbc4 hx hfk' hbk' hSa hSb hSc A1 hfc hbc hfo hfk hbk ew lo lo1 lo2 lo3 lo4 hoc hLo b3 b4 hgo3 hgf3
      by_cases hcl:x<fk
      ·have hne':¬ gb=gf:=fun e=>hgne e.symm
       go_wp2_with fail
       go_roundg (R.t1.length+1 - (k+1))
       case measure=>omega
       case rel =>
        have hN:=H6.out.1.next hp hlt3 hoM hkM (by rw [H7.out.2.1,H7.out.2.2.1]; exact hcl)
        rw [H7.out.2.1] at hN
        have hm:meas R.t1.length p (updI far k x)<meas R.t1.length p far:=ZkQ hkM (by rw [H7.out.2.2.1]; exact hcl) (hN.lows hp hc0)
        refine ⟨true,k+1,updI far k x,updN by' k j,rfl,by go_num,by omega,Jb _,hN,H7.out.1.put hgne x,fun _=>?_,(fun e=>by cases e)⟩
        cases a with
        | true=>exact Nat.lt_trans hm (H6.out.2.2.1 rfl)
        | false=>rw [(H6.out.2.2.2 rfl).1] at hm ⊢; exact hm
      ·have hclb:decide (x<fk)=false:=by simpa using hcl
       go_wp2_with fail
       go_roundg (R.t1.length+1 - (k+1))
       case measure=>omega
       case rel =>
        refine ⟨a,k+1,far,by',rfl,by go_num,by omega,Jb _,H6.out.1,H7.out.1,H6.out.2.2.1,fun e=>⟨(H6.out.2.2.2 e).1,(H6.out.2.2.2 e).2.1,fun k' hk'=>?_⟩⟩
        by_cases q:k'<k
        ·exact (H6.out.2.2.2 e).2.2 k' q
        ·obtain rfl:k'=k:=by omega
         rw [H7.out.2.1,H7.out.2.2.1]
         omega
     ·have hob:decide ((on j:Int)<(R.t1.length:Int))=false:=by simp; omega
      have hjI2:(j:Int)+1≤(i:Int):=by omega
      go_wp2_with fail
      go_roundg (i - (j+1))
      case measure=>omega
      case rel =>
       refine ⟨a,j+1,far,by',rfl,by go_num,by omega,Jb _,H6.out.1,H6.out.2.1,H6.out.2.2.1,fun e=>⟨(H6.out.2.2.2 e).1,fun j' hj' ho'=>?_⟩⟩
       by_cases q:j'<j
       ·exact (H6.out.2.2.2 e).2.1 j' q ho'
       ·obtain rfl:j'=j:=by omega
        exact absurd ho' hoM
    ·have hkb:decide ((k:Int)≤(R.t1.length:Int))=false:=by simp; omega
     go_wp2_with fail
     go_roundg (i - (j+1))
     case measure=>omega
     case rel =>
      refine ⟨a,j+1,far,by',rfl,by go_num,by omega,Jb _,H6.out.1,H6.out.2.1,H6.out.2.2.1,fun e=>⟨(H6.out.2.2.2 e).1,fun j' hj' ho' k' hk'=>?_⟩⟩
      by_cases q:j'<j
      ·exact (H6.out.2.2.2 e).2.1 j' q ho' k' hk'
      ·obtain rfl:j'=j:=by omega
       exact (H6.out.2.2.2 e).2.2 k' (by omega)
   ·obtain rfl:j=i:=by omega
    go_wp2_with fail
    go_roundg (2*meas R.t1.length p far1+(if a=true then 1 else 0))
    case measure =>
     have hq:=Hgk.out
     cases a with
     | true=>have:=H5.out.2.2.1 rfl; simp at hq ⊢; omega
     | false=>rw [(H5.out.2.2.2 rfl).1]; simp at hq ⊢; omega
    case rel=>exact ⟨a,far1,by1,rfl,H5.out.1,H5.out.2.1,Jb _,fun e=>(H5.out.2.2.2 e).2⟩
end
end
section
open Go.RowKit
def tkR (R:RSt):Nat→List Th
 | 0=>R.t0
 | 1=>R.t1
 | 2=>R.t2
 | _=>R.t3
def vkR (V:RVs):Nat→Value
 | 0=>V.v0
 | 1=>V.v1
 | 2=>V.v2
 | _=>V.v3
def hasT (R:RSt)(k:Nat)(id:Nat):Bool:=decide (0≤atOf (id:Int) (tkR R k))
def idsR (R:RSt)(k n:Nat):List Int:=((List.range n).filter (hasT R k)).map (fun (j:Nat)=>(j:Int))
theorem Za7 {R:RSt}{k n:Nat}(h:0≤atOf (n:Int) (tkR R k)):idsR R k (n+1)=idsR R k n ++ [(n:Int)]:=by
 have:hasT R k n=true:=by unfold hasT; simpa using h
 simp [idsR,List.range_succ,List.filter_append,this]
theorem ZbE {R:RSt}{k n:Nat}(h:¬ 0≤atOf (n:Int) (tkR R k)):idsR R k (n+1)=idsR R k n:=by
 have:hasT R k n=false:=by unfold hasT; simpa using h
 simp [idsR,List.range_succ,List.filter_append,this]
theorem Zaq (R:RSt)(k n:Nat):(idsR R k n).length≤n:=by
 have:=List.length_filter_le (hasT R k) (List.range n)
 simp [idsR] at this ⊢
 exact this
def lensR (R:RSt):Nat→Nat
 | 0=>0
 | k+1=>lensR R k+(tkR R k).length
def nodeR (R:RSt)(k n:Nat):Int:=2+(lensR R k:Int)+((idsR R k n).length:Int)
structure Lens (R:RSt):Prop where
 t0:R.t0.length≤1000
 t1:R.t1.length≤1000
 t2:R.t2.length≤1000
 t3:R.t3.length≤1000
theorem Lens.tkR {R:RSt}(h:Lens R)(k:Nat):(tkR R k).length≤1000:=by
 match k with
 | 0=>exact h.t0
 | 1=>exact h.t1
 | 2=>exact h.t2
 | n+3=>exact h.t3
theorem Lens.lensR {R:RSt}(h:Lens R):∀ k,lensR R k≤1000*k
 | 0=>by simp [Go.Proofs.YtjdindfjfpdikaaGreat.lensR]
 | k+1=>by
  have h1:=h.lensR k
  have h2:=h.tkR k
  simp only [Go.Proofs.YtjdindfjfpdikaaGreat.lensR]
  omega
section
variable {w:World}{rb:Nat}{V:RVs}{x7 x8 x9 x10 x11:Value}{R:RSt}
theorem RefAt.kind (h:RefAt w rb V x7 x8 x9 x10 x11 R){k:Nat}(hk:k≤3):w.cell? ⟨rb,k,none⟩=some (vkR V k)∧RowAt w 76 3 cellsT (vkR V k) (tkR R k):=by
 match k,hk with
 | 0,_=>exact ⟨h.c0,h.r0⟩
 | 1,_=>exact ⟨h.c1,h.r1⟩
 | 2,_=>exact ⟨h.c2,h.r2⟩
 | 3,_=>exact ⟨h.c3,h.r3⟩
theorem Zdi (h:RefAt w rb V x7 x8 x9 x10 x11 R)(hl:Lens R){k:Nat}(hk:k≤3)(id:Int) :
  Calls Tryz.prog 62 #[.pointer (some ⟨rb,0,none⟩),.int .i64 k,.int .i64 id] w fun e w'=>e=.returned (.int .i64 (atOf id (tkR R k)))∧w'=w :=
 Zap w rb k (vkR V k) (tkR R k) id (by omega) (by rw [Jn]; exact (h.kind hk).1) (h.kind hk).2 (hl.tkR k)
theorem Zbv (h:RefAt w rb V x7 x8 x9 x10 x11 R)(hl:Lens R){k:Nat}(hk:k≤3) :
  Calls Tryz.prog 97 #[.pointer (some ⟨rb,0,none⟩),.int .i64 k] w fun e w'=>∃ v,e=.returned v∧NRow w.heap.size w' v (idsR R k 100)∧Below w.heap.size w w':=by
 go_enter Tryz.func97,Tryz.ntmps97
 go_wp2_with fail
 go_loopg [5,6] 100 (fun gk v iv wr=>∃ n:Nat,n≤100∧100 - n≤gk∧iv=.int .i64 n∧NRow w.heap.size wr v (idsR R k n)∧Below w.heap.size w wr)
 case atStart=>exact ⟨0,Jq _,Jb _,rfl,NRow.nil _ _,Jd _ _⟩
 case' round=>skip
 obtain ⟨n,hn,hgk,rfl,hr,hb⟩:=hrel
 by_cases hlt:n<100
 ·have hnI:(n:Int)<100:=by omega
  have A1:=hid (Zdi (h.below hb) hl hk n)
  have hbs:=hb.size
  have H1:=hid (Jc hr hb)
  have hla:=Zaq R k n
  clear hr hb
  by_cases hat:0≤atOf (n:Int) (tkR R k)
  ·have e1:=hid (Za7 hat)
   have hab:decide (0≤atOf (n:Int) (tkR R k))=true:=by simpa using hat
   generalize atOf (n:Int) (tkR R k)=a at A1 hab hat
   have hrA:=H1.out.1.below ((Jd _ _).alloc (Jb _) (.cells #[.int .i64 (n:Int)] 3))
   go_upto_region 4 with (first
    | (go_at_call 62; refine A1.out.mono ?_; rintro e w2 ⟨rfl,rfl⟩)
    | (at_builtin; refine ZaJ _ w.heap.size (n:Int) u5 _ rfl _ _ rfl rfl hrA w2.heap.size rfl (by simp) (by simp; omega) (by omega) ?_; intro v' w3 hrow3 hg3 hloc3)
    | fail)
   have hb3:Below w.heap.size w w3:=(Zai H1.out.2 ((Jd _ _).alloc (Jb _) _)).grown hg3 (by simp; omega) (fun b e=>H1.out.1.base b e)
   rw [← e1.out] at hrow3
   go_wp2_with fail
   go_roundg (100 - (n+1))
   case measure=>omega
   case rel=>exact ⟨n+1,by omega,Jb _,by go_num,hrow3,hb3⟩
  ·have e1:=hid (ZbE hat)
   have hab:decide (0≤atOf (n:Int) (tkR R k))=false:=by simpa using hat
   generalize atOf (n:Int) (tkR R k)=a at A1 hab hat
   go_wp2_with (go_at_call 62; refine A1.out.mono ?_; rintro e w2 ⟨rfl,rfl⟩)
   go_roundg (100 - (n+1))
   case measure=>omega
   case rel=>exact ⟨n+1,by omega,Jb _,by go_num,by rw [e1.out]; exact H1.out.1,H1.out.2⟩
 ·obtain rfl:n=100:=by omega
  go_wp2_with fail
  go_ret
  exact ⟨_,rfl,hr,hb⟩
theorem Za1 (h:RefAt w rb V x7 x8 x9 x10 x11 R)(hl:Lens R){k n:Nat}(hk:k≤3)(hn:n≤100) :
  Calls Tryz.prog 96 #[.pointer (some ⟨rb,0,none⟩),.int .i64 k,.int .i64 n] w fun e w'=>e=.returned (.int .i64 (nodeR R k n))∧w'=w:=by
 have hrb:=h.lt
 have hll:=hl.lensR k
 go_enter Tryz.func96,Tryz.ntmps96
 go_wp2_with fail
 go_loopg [7,8] k (fun gk nv kv wr=>∃ m:Nat,m≤k∧k - m≤gk∧kv=.int .i64 m∧nv=.int .i64 (2+(lensR R m:Int))∧wr=w)
 case atStart=>exact ⟨0,Jq _,Jb _,rfl,by simp [lensR],rfl⟩
 case' round=>skip
 obtain ⟨m,hm,hgk,rfl,rfl,rfl⟩:=hrel
 by_cases hlt:m<k
 ·have hmI:(m:Int)<(k:Int):=by omega
  obtain ⟨cm,rm⟩:=h.kind (show m≤3 by omega)
  obtain ⟨pm,cpm,hvm⟩:=Zah rm
  rw [hvm] at cm
  have hm4:(m:Int)<4:=by omega
  have hlm:=hl.lensR m
  have htm:=hl.tkR m
  have elen:(2:Int)+(lensR R (m+1):Int)=2+(lensR R m:Int)+((tkR R m).length:Int):=by simp only [lensR]; omega
  have Hl:=hid elen
  clear elen
  go_wp2_with fail
  go_roundg (k - (m+1))
  case measure=>omega
  case rel=>exact ⟨m+1,by omega,Jb _,by go_num,by rw [Hl.out],rfl⟩
 ·obtain rfl:m=k:=by omega
  go_wp2_with fail
  go_loopg [7,9] n (fun gk nv ov wr'=>∃ o:Nat,o≤n∧n - o≤gk∧ov=.int .i64 o∧nv=.int .i64 (nodeR R m o)∧wr'=wr)
  case atStart=>exact ⟨0,Jq _,Jb _,rfl,by simp [nodeR,idsR],rfl⟩
  case' round=>skip
  obtain ⟨o,ho,hgk2,rfl,rfl,rfl⟩:=hrel
  have hio:=Zaq R m o
  by_cases hlt2:o<n
  ·have hoI:(o:Int)<(n:Int):=by omega
   have A1:=hid (Zdi h hl hk o)
   have hnb:0≤nodeR R m o∧nodeR R m o≤1000000:=by unfold nodeR; omega
   have hnb0:=hnb.1
   have hnb1:=hnb.2
   by_cases hat:0≤atOf (o:Int) (tkR R m)
   ·have e1:nodeR R m (o+1)=nodeR R m o+1:=by
     unfold nodeR
     rw [Za7 hat,Jo]
     simp only [List.length_singleton]
     omega
    have hab:decide (0≤atOf (o:Int) (tkR R m))=true:=by simpa using hat
    have E1:=hid e1
    clear e1
    generalize nodeR R m o=x at *
    generalize atOf (o:Int) (tkR R m)=a at A1 hab hat
    go_wp2_with (go_at_call 62; refine A1.out.mono ?_; rintro e w2 ⟨rfl,rfl⟩)
    go_roundg (n - (o+1))
    case measure=>omega
    case rel=>exact ⟨o+1,by omega,Jb _,by go_num,by rw [E1.out],rfl⟩
   ·have e1:nodeR R m (o+1)=nodeR R m o:=by
     unfold nodeR
     rw [ZbE hat]
    have hab:decide (0≤atOf (o:Int) (tkR R m))=false:=by simpa using hat
    have E1:=hid e1
    clear e1
    generalize nodeR R m o=x at *
    generalize atOf (o:Int) (tkR R m)=a at A1 hab hat
    go_wp2_with (go_at_call 62; refine A1.out.mono ?_; rintro e w2 ⟨rfl,rfl⟩)
    go_roundg (n - (o+1))
    case measure=>omega
    case rel=>exact ⟨o+1,by omega,Jb _,by go_num,by rw [E1.out],rfl⟩
  ·obtain rfl:o=n:=by omega
   go_wp2_with fail
   go_ret
   exact ⟨rfl,rfl⟩
end
end
section
open Go.RowKit
def isWi (t k id:Int)(x:Wi):Bool:=decide (x.1=t) && (decide (x.2.1=k) && decide (x.2.2.1=id))
def wishR (R:RSt)(t k id:Int):Option Int:=(R.ws.find? (isWi t k id)).map (fun x=>x.2.2.2)
theorem Zd8 {α:Type}{p:α→Bool}:∀ {l:List α}{n:Nat}(hn:n<l.length),(∀ m,(hm:m<l.length)→m<n→p l[m]=false)→p l[n]=true→l.find? p=some l[n]
 | a :: l,0,_,_,h=>by
  have h':p a=true:=h
  rw [List.find?_cons_of_pos h']
  rfl
 | a :: l,n+1,hn,hno,h=>by
  have h0:p a=false:=hno 0 (by simp) (by omega)
  rw [List.find?_cons_of_neg (by simp [h0])]
  have:=Zd8 (l:=l) (n:=n) (by simpa using hn) (fun m hm hmn=>hno (m+1) (by simp; omega) (by omega)) h
  rw [this]
  rfl
theorem Zhw {α:Type}{p:α→Bool}{l:List α}(h:∀ m,(hm:m<l.length)→p l[m]=false):l.find? p=none:=by
 rw [List.find?_eq_none]
 intro x hx
 obtain ⟨m,hm,rfl⟩:=List.mem_iff_getElem.1 hx
 simp [h m hm]
section
variable {w:World}{rb:Nat}{V:RVs}{x7 x8 x9 x10 x11:Value}{R:RSt}
theorem ZdQ (h:RefAt w rb V x7 x8 x9 x10 x11 R)(hlw:R.ws.length≤1000000)(t k id:Int) :
  Calls Tryz.prog 110 #[.pointer (some ⟨rb,0,none⟩),.int .i64 t,.int .i64 k,.int .i64 id] w fun e w'=>e=.returned (.tuple #[.int .i64 ((wishR R t k id).getD 0),.bool (wishR R t k id).isSome])∧Below w.heap.size w w':=by
 obtain ⟨pw,cw,hvw⟩:=Zah h.rw
 go_enter Tryz.func110,Tryz.ntmps110
 go_wp2_with fail
 go_loopg [10] R.ws.length (fun gk iv wr=>∃ n:Nat,n≤R.ws.length∧R.ws.length - n≤gk∧iv=.int .i64 n∧Hid (∀ m,(hm:m<R.ws.length)→m<n→isWi t k id R.ws[m]=false)∧Below w.heap.size w wr)
 case atStart=>exact ⟨0,Jq _,Jb _,rfl,fun m _ hm=>by omega,Jd _ _⟩
 case' round=>skip
 obtain ⟨n,hn,hgk,rfl,hno,hb⟩:=hrel
 have hp:=h.below hb
 have c4:=hp.c4
 rw [hvw] at c4
 have hrb:=hp.lt
 by_cases hlt:n<R.ws.length
 ·rcases hp.rw.shape (fun _=>rfl) with ⟨_,e0⟩ | ⟨g,cap,cur,hv,_,hgl,_,_,hc⟩
  ·rw [e0] at hlt; simp at hlt
  have p0:=(hc n 0 hlt (by decide)).1
  have p1:=(hc n 1 hlt (by decide)).1
  have p2:=(hc n 2 hlt (by decide)).1
  have p3:=(hc n 3 hlt (by decide)).1
  simp only [cellsW,Je,Jf,Nat.add_zero] at p0 p1 p2 p3
  rw [hvw] at hv
  cases hv
  have hnI:(n:Int)<(R.ws.length:Int):=by omega
  obtain ⟨y1,y2,y3,y4,hy⟩:∃ y1 y2 y3 y4,R.ws[n]=(y1,y2,y3,y4):=⟨_,_,_,_,rfl⟩
  rw [hy] at p0 p1 p2 p3
  have hno':isWi t k id R.ws[n]=false→Hid (∀ m,(hm:m<R.ws.length)→m<n+1→isWi t k id R.ws[m]=false):=fun q m hm hmn=>by
   by_cases e:m<n
   ·exact hno.out m hm e
   ·obtain rfl:m=n:=by omega
    exact q
  rw [hy] at hno'
  have Hno:=hid hno'
  have Hyes:=hid (fun (q:isWi t k id (y1,y2,y3,y4)=true)=>show wishR R t k id=some y4 from by unfold wishR; rw [Zd8 hlt hno.out (by rw [hy]; exact q),hy]; rfl)
  clear hc hy hno'
  by_cases a1:y1=t
  ·by_cases a2:y2=k
   ·by_cases a3:y3=id
    ·have F:=hid (Hyes.out (by simp [isWi,a1,a2,a3]))
     clear Hyes Hno
     subst a1 a2 a3
     go_wp2
     go_ret2
     exact ⟨by rw [F.out]; rfl,hb.alloc hb.size _⟩
    ·have F:=hid (Hno.out (by simp [isWi,a3]))
     have a3b:(y3 == id)=false:=by simpa using a3
     clear Hyes Hno
     subst a1 a2
     clear a3
     go_wp2
     go_roundg (R.ws.length - (n+1))
     case measure=>omega
     case rel=>exact ⟨n+1,by omega,Jb _,by go_num,F.out,hb.alloc hb.size _⟩
   ·have F:=hid (Hno.out (by simp [isWi,a2]))
    have a2b:(y2 == k)=false:=by simpa using a2
    clear Hyes Hno
    subst a1
    clear a2
    go_wp2
    go_roundg (R.ws.length - (n+1))
    case measure=>omega
    case rel=>exact ⟨n+1,by omega,Jb _,by go_num,F.out,hb.alloc hb.size _⟩
  ·have F:=hid (Hno.out (by simp [isWi,a1]))
   have a1b:(y1 == t)=false:=by simpa using a1
   clear Hyes Hno a1
   go_wp2
   go_roundg (R.ws.length - (n+1))
   case measure=>omega
   case rel=>exact ⟨n+1,by omega,Jb _,by go_num,F.out,hb.alloc hb.size _⟩
 ·obtain rfl:n=R.ws.length:=by omega
  have F:=hid (show wishR R t k id=none from by unfold wishR; rw [Zhw (fun m hm=>hno.out m hm hm)]; rfl)
  go_wp2
  go_ret2
  exact ⟨by rw [F.out]; rfl,hb⟩
end
def cellsAr (a:Ar):List Value:=[.int .i64 a.f,.int .i64 a.t,.int .i64 a.c,.int .i64 a.k]
def ARow (b0:Nat)(w:World)(v:Value)(xs:List Ar):Prop:=w.ownsRow b0 93 4 v xs.length (xs.flatMap cellsAr)
theorem ARow.nil (b0:Nat)(w:World):ARow b0 w (.slice none 0 0) []:=World.ownsRow_nil _ _ _ _
theorem ARow.kept {b0:Nat}{w w':World}{v:Value}{xs:List Ar}{row:Option Nat}(h:ARow b0 w v xs)(hg:w.grownBy w' row)(hne:v.ownBlock=none∨v.ownBlock≠row):ARow b0 w' v xs:=World.ownsRow.kept h hg hne
theorem ARow.below {b0:Nat}{w w':World}{v:Value}{xs:List Ar}(h:ARow b0 w v xs)(hb:Below w.heap.size w w'):ARow b0 w' v xs:=h.kept (Zaj hb none) (by cases v.ownBlock <;> simp)
theorem ARow.base {b0:Nat}{w:World}{v:Value}{xs:List Ar}(h:ARow b0 w v xs):∀ b,v.ownBlock=some b→b0≤b:=fun b e=>(World.ownsRow.lt h b e).1
theorem Zdz:(Tryz.prog.info? 93).map (fun i=>(i.zero,i.size,i.bytes))=some (some (.agg #[.int .i64 0,.int .i64 0,.int .i64 0,.int .i64 0]),4,32):=by kernel_rfl
theorem ZaX {ops:Array Oper}{rest:List Oper}{o:Oper}{a:Act}{Q:Exit→Act→World→Prop}(W:World)(b0:Nat)(x:Ar)(v:Value)(xs:List Ar)(hgd:o.guard=none)(sO xO:Operand)
  (hop:o.op=Op.call { callee:=Callee.builtin Builtin.append,args:=#[sO,xO],argTypes:=#[33,33] }) (hs:a.eval sO=v) (hr:ARow b0 W v xs) (ad:Nat) (had:a.eval xO=.slice (some ⟨ad,0,none⟩) 1 1)
  (hc:W.heap[ad]?=some (.cells #[.int .i64 x.f,.int .i64 x.t,.int .i64 x.c,.int .i64 x.k] 93)) (hb:b0≤W.heap.size) (hl:xs.length≤1000000)
  (hK:∀ (v':Value) (w':World),ARow b0 w' v' (xs ++ [x])→W.grownBy w' v.ownBlock→(v'.ownBlock=v.ownBlock∨v'.ownBlock=some W.heap.size)→wpList Tryz.prog ops Q rest (a.put o.dst v') w') :
  wpList Tryz.prog ops Q (o :: rest) a W:=by
 obtain ⟨i3,hi3,hy0,hy1,hy2⟩:=info_parts Zdz
 refine wpList_append_own_at W hgd sO xO 33 hop b0 93 i3 (.agg #[.int .i64 0,.int .i64 0,.int .i64 0,.int .i64 0]) 4 32 Tryz.underlying33 hi3 hy0 hy1 hy2 rfl (by decide) v xs.length (xs.flatMap cellsAr) hs hr ⟨ad,0,none⟩ 1 1 [.int .i64 x.f,.int .i64 x.t,.int .i64 x.c,.int .i64 x.k] had rfl ?_ ?_ (by unfold maxLen; omega) (by omega) hb ?_
 ·intro j u hj
  rw [Addr.add_lit,Nat.zero_add]
  have e:W.cell? ⟨ad,j,none⟩=(#[Value.int .i64 x.f,.int .i64 x.t,.int .i64 x.c,.int .i64 x.k]:Array Value)[j]?:=by simp [World.cell?,hc]
  rw [e]
  simpa using hj
 ·intro u hu
  simp at hu
  rcases hu with rfl | rfl | rfl | rfl <;> rfl
 ·intro u w' hrow hg _ hloc
  refine hK u w' ?_ hg hloc
  unfold ARow
  simpa [cellsAr] using hrow
theorem Zcq {P:Program}{ops:Array Oper}{o:Oper}{a:Act}{w:World}{K:Act→World→Prop}{Q:Exit→Act→World→Prop}{E:Prop}(hgd:o.guard=none)(s x:Operand)(t:TypeId)
  (hop:o.op=.call { callee:=.builtin .append,args:=#[s,x],argTypes:=#[t,t] })
  (base:Nat) (e:TypeId) (i:TypeInfo) (z:Value) (size bytes:Nat) (ht:P.underlying t=some (.slice e)) (hi:P.info? e=some i) (hz:i.zero=some z)
  (hsize:i.size=size) (hby:i.bytes=bytes) (hzs:z.cells.size=size) (hsz:0<size)
  (v:Value) (n:Nat) (xs:List Value) (hs:a.eval s=v) (hown:w.ownsRow base e size v n xs)
  (ad:Addr) (m c:Nat) (news:List Value) (hx:a.eval x=.slice (some ad) m c) (hl:news.length=m*size) (hnews:∀ j u,news[j]?=some u→w.cell? (ad.add j)=some u) (h1:∀ u∈news,u.oneCell'=true)
  (h63:n+m≤maxLen) (hbytes:(n+m)*bytes≤140737488355328) (hbase:base≤w.heap.size)
  (h:∀ v' w',w'.ownsRow base e size v' (n+m) (xs ++ news)→w.grownBy w' v.ownBlock→(v'.ownBlock=v.ownBlock∨v'.ownBlock=some w.heap.size)→K (a.put o.dst v') w') :
  if Region.wanted o (yielded ops a.tmps)=true then Oper.wp P o a w K Q else E:=by
 have hw:Region.wanted o (yielded ops a.tmps)=true:=by simp [Region.wanted,hgd]
 rw [if_pos hw]
 obtain ⟨v',w',hr,h2,h3,_,h5⟩:=run_append_own_at (P:=P) w base t o.type e i z size bytes ht hi hz hsize hby hzs hsz v n xs hown ad m c news hl hnews h1 h63 hbytes hbase
 unfold Oper.wp execOp
 simp only [hop,resolve,invoke,builtin,Sem.run_bind,Sem.run_pure,Result.andThen_ok,List.map_toArray,List.map_cons,List.map_nil,hs,hx,hr]
 exact h v' w' h2 h3 h5
theorem ARow.elem {b0:Nat}{w:World}{v:Value}{xs:List Ar}(h:ARow b0 w v xs){b:Nat}(e:v.ownBlock=some b):∃ cur,w.heap[b]?=some (.cells cur 93):=by
 rcases h.2 with ⟨rfl,_⟩ | ⟨g,cap,cur,rfl,_,hg,_⟩
 ·cases e
 ·cases e; exact ⟨cur,hg⟩
theorem ZhT (w:World)(x y z u:Value)(t:TypeId):∀ (j:Nat)(q:Value),[x,y,z,u][j]?=some q→(w.alloc (.cells #[x,y,z,u] t)).cell? ((⟨w.heap.size,0,none⟩:Addr).add j)=some q:=by
 intro j q hj
 rw [Addr.add_lit,Nat.zero_add]
 simp only [World.cell?,heap_alloc_new]
 simpa using hj
theorem ARow.snoc {b0:Nat}{w:World}{v:Value}{xs:List Ar}{a:Ar}(h:w.ownsRow b0 93 4 v (xs.length+1) (xs.flatMap cellsAr ++ [.int .i64 a.f,.int .i64 a.t,.int .i64 a.c,.int .i64 a.k])):ARow b0 w v (xs ++ [a]):=by
 unfold ARow
 simpa [cellsAr,List.flatMap_append] using h
end
end Go.Proofs.YtjdindfjfpdikaaGreat
