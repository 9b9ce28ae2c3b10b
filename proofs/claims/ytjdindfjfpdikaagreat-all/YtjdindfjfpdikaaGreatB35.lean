import Derived.BigRegion
import Derived.Deep.LoopGhost
import Derived.Deep.Slices
import Derived.KernelRfl
import Derived.SizedLaws
import Derived.Test.YtjdindfjfpdikaaGreatB10
import Derived.Test.YtjdindfjfpdikaaGreatB28
import Derived.Test.YtjdindfjfpdikaaGreatPre
set_option maxRecDepth 100000
set_option maxHeartbeats 8000000
namespace Go.Proofs.YtjdindfjfpdikaaGreat
section
open Go.RowKit
theorem Zhe (m:Int)(n:Nat)(hn:0<n):∃ i:Nat,i<n∧(m.tmod n+n).tmod n=i∧-(n:Int)<m.tmod n∧m.tmod n<n:=by
 have h1:-(n:Int)<m.tmod n∧m.tmod n<n:=by
  rcases Int.le_total 0 m with hm | hm
  ·rw [Int.tmod_eq_emod_of_nonneg hm]
   have:=Int.emod_nonneg m (b:=(n:Int)) (by omega)
   have:=Int.emod_lt_of_pos m (b:=(n:Int)) (by omega)
   omega
  ·have e:m=-(-m):=by omega
   rw [e,Int.neg_tmod,Int.tmod_eq_emod_of_nonneg (by omega)]
   have:=Int.emod_nonneg (-m) (b:=(n:Int)) (by omega)
   have:=Int.emod_lt_of_pos (-m) (b:=(n:Int)) (by omega)
   omega
 have h2:=Int.tmod_eq_emod_of_nonneg (a:=m.tmod n+n) (b:=n) (by omega)
 have h3:=Int.emod_nonneg (m.tmod n+n) (b:=(n:Int)) (by omega)
 have h4:=Int.emod_lt_of_pos (m.tmod n+n) (b:=(n:Int)) (by omega)
 exact ⟨((m.tmod n+n) % n).toNat,by omega,by rw [h2]; omega,h1.1,h1.2⟩
theorem Zfs {w:World}{b:Nat}{z0 z1 z2 z3 z4 z5 z6 z7 z8 z9 z10:Value}{t:TypeId}(h:w.heap[b]?=some (.cells #[z0,z1,z2,z3,z4,z5,z6,z7,z8,z9,z10] t)) :
  w.cell? ⟨b,0,none⟩=some z0∧w.cell? ⟨b,1,none⟩=some z1∧w.cell? ⟨b,2,none⟩=some z2∧w.cell? ⟨b,3,none⟩=some z3∧w.cell? ⟨b,4,none⟩=some z4∧w.cell? ⟨b,5,none⟩=some z5∧w.cell? ⟨b,6,none⟩=some z6∧w.cell? ⟨b,7,none⟩=some z7∧w.cell? ⟨b,8,none⟩=some z8∧w.cell? ⟨b,9,none⟩=some z9∧w.cell? ⟨b,10,none⟩=some z10:=by
 simp [World.cell?,h]
theorem Za5 {w:World}{b:Nat}{z0 z1 z2:Value}{t:TypeId}(h:w.heap[b]?=some (.cells #[z0,z1,z2] t)) :
  w.cell? ⟨b,0,none⟩=some z0∧w.cell? ⟨b,1,none⟩=some z1∧w.cell? ⟨b,2,none⟩=some z2:=by
 simp [World.cell?,h]
section
variable {w:World}{base wb:Nat}{v vh:Value}{xs:List Pr}
theorem Ziq (h:WAt w base wb v vh xs)(hn:0<xs.length)(hlen:xs.length<1000000000000)(k m a b c d:Int)(y6 y7 y8 y9 y10:Value)(hk:k≤0) :
  Calls Tryz.prog 11 #[.pointer (some ⟨wb,0,none⟩),.agg #[.int .i64 k,.int .i64 m,.int .i64 a,.int .i64 b,.int .i64 c,.int .i64 d,y6,y7,y8,y9,y10]] w fun e w'=>e=.returned (.bool true)∧Below w.heap.size w w':=by
 obtain ⟨i,hi,hI,hm0,hm1⟩:=Zhe m xs.length hn
 have hl:wb<w.heap.size:=(Ja.1 h.cells).1
 have hl1:wb<w.heap.size+1:=by omega
 have hl2:w.heap.size<w.heap.size+1:=by omega
 have c0:=Zbo h.cells 0
 simp only [Jg,Je] at c0
 rcases h.row.shape (fun _=>rfl) with ⟨_,e0⟩ | ⟨g,cap,cur,hv,_,hgl,hle,_,hc⟩
 ·simp at e0; subst e0; simp at hn
 rw [Jv] at hv hle
 rw [hv] at c0
 have q0:=(hc i 0 (by simpa using hi) (by decide)).1
 have q1:=(hc i 1 (by simpa using hi) (by decide)).1
 have q2:=(hc i 2 (by simpa using hi) (by decide)).1
 simp only [cellsP,Pr.a,Je,Jf,Nat.add_zero,List.getElem_map] at q0 q1 q2
 have hgl1:g<w.heap.size+1:=by omega
 have hiI:(i:Int)<(xs.length:Int):=by omega
 have hnz:¬ (xs.length:Int)=0:=by omega
 have k1:(k == 1)=false:=by simp; omega
 have k11:(k == 11)=false:=by simp; omega
 have k2:decide (2≤k)=false:=by simp; omega
 have k9:(k == 9)=false:=by simp; omega
 have k10:(k == 10)=false:=by simp; omega
 have k12:(k == 12)=false:=by simp; omega
 have k13:(k == 13)=false:=by simp; omega
 clear hk
 clear hc
 go_enter Tryz.func11,Tryz.ntmps11
 go_wp2_with fail
 go_region
 go_wp2_with fail
 go_ret
 exact ⟨rfl,(((Jd _ _).alloc (Jb _) _).alloc (by simp) _).drew⟩
theorem ZjR (h:WAt w base wb v vh xs)(hlen:xs.length<1000000000000)(m a b c d:Int)(y6 y7 y8 y9 y10:Value) :
  Calls Tryz.prog 11 #[.pointer (some ⟨wb,0,none⟩),.agg #[.int .i64 1,.int .i64 m,.int .i64 a,.int .i64 b,.int .i64 c,.int .i64 d,y6,y7,y8,y9,y10]] w fun e w'=>e=.returned (.bool true)∧∃ v' y,WAt w' base wb v' vh (xs ++ [y])∧Only (FW wb v xs) w w'∧∀ b∈FW wb v' (xs ++ [y]),b∈FW wb v xs∨w.heap.size≤b:=by
 have hb1:Below w.heap.size w (w.alloc (.cells #[.int .i64 1,.int .i64 m,.int .i64 a,.int .i64 b,.int .i64 c,.int .i64 d,y6,y7,y8,y9,y10] 37)):=(Jd _ _).alloc (Jb _) _
 have h1:=h.below hb1
 have A1:=hid (ZeS _ wb v _ _ h1.cells h1.row (by simpa using hlen))
 have hlw:wb<w.heap.size:=(Ja.1 h.cells).1
 go_enter Tryz.func11,Tryz.ntmps11
 go_wp2_with fail
 refine A1.out.mono ?_
 rintro e w2 ⟨rfl,v',p,b0,b1,b2,b3,q,c0,c1,c2,c3,r,mm,hB⟩
 go_wp2_with fail
 go_ret
 obtain ⟨y,hy,hby,hfy⟩:=h1.begun hB
 exact ⟨rfl,v',y,hy,(Only.of_below hb1).trans hby,fun b hm=>(hfy b hm).imp_right (fun q=>Nat.le_trans hb1.size q)⟩
theorem Zip (h:WAt w base wb v vh xs)(hn:0<xs.length)(hlen:xs.length<1000000000000)(m a b c d:Int)(y6 y7 y8 y9 y10:Value) :
  Calls Tryz.prog 11 #[.pointer (some ⟨wb,0,none⟩),.agg #[.int .i64 9,.int .i64 m,.int .i64 a,.int .i64 b,.int .i64 c,.int .i64 d,y6,y7,y8,y9,y10]] w fun e w'=>e=.returned (.bool true)∧Below w.heap.size w w':=by
 obtain ⟨i,hi,hI,hm0,hm1⟩:=Zhe m xs.length hn
 have hl:wb<w.heap.size:=(Ja.1 h.cells).1
 have hl1:wb<w.heap.size+1:=by omega
 have hl2:w.heap.size<w.heap.size+1:=by omega
 have c0:=Zbo h.cells 0
 simp only [Jg,Je] at c0
 rcases h.row.shape (fun _=>rfl) with ⟨_,e0⟩ | ⟨g,cap,cur,hv,_,hgl,hle,_,hc⟩
 ·simp at e0; subst e0; simp at hn
 rw [Jv] at hv hle
 rw [hv] at c0
 have q0:=(hc i 0 (by simpa using hi) (by decide)).1
 have q1:=(hc i 1 (by simpa using hi) (by decide)).1
 have q2:=(hc i 2 (by simpa using hi) (by decide)).1
 simp only [cellsP,Pr.a,Je,Jf,Nat.add_zero,List.getElem_map] at q0 q1 q2
 have hgl1:g<w.heap.size+1:=by omega
 have hiI:(i:Int)<(xs.length:Int):=by omega
 have hnz:¬ (xs.length:Int)=0:=by omega
 clear hc
 go_enter Tryz.func11,Tryz.ntmps11
 go_wp2_with fail
 go_region
 go_wp2_with fail
 have hbW:Below w.heap.size w ((w.alloc (.cells #[.int .i64 9,.int .i64 m,.int .i64 a,.int .i64 b,.int .i64 c,.int .i64 d,y6,y7,y8,y9,y10] 37)).alloc (.cells #[.pointer (some ⟨xs[i].pb,0,none⟩),.pointer (some ⟨xs[i].qb,0,none⟩),.pointer (some ⟨xs[i].rb,0,none⟩)] 47)).drew:=(((Jd _ _).alloc (Jb _) _).alloc (by simp) _).drew
 have hx:=((h.below hbW).ok _ (Jl hi))
 refine (asks9 (qb:=xs[i].qb) hx.p hx.r hx.sp m a b c d y6 y7 y8 y9 y10).mono ?_
 rintro e w3 ⟨rfl,hb3⟩
 go_wp2_with fail
 go_ret
 exact ⟨rfl,Zai hbW hb3⟩
theorem Zg7 (h:WAt w base wb v vh xs)(hn:0<xs.length)(hlen:xs.length<1000000000000)(m a b c d:Int)(y6 y7 y8 y9 y10:Value) :
  Calls Tryz.prog 11 #[.pointer (some ⟨wb,0,none⟩),.agg #[.int .i64 10,.int .i64 m,.int .i64 a,.int .i64 b,.int .i64 c,.int .i64 d,y6,y7,y8,y9,y10]] w fun e w'=>e=.returned (.bool true)∧Below w.heap.size w w':=by
 obtain ⟨i,hi,hI,hm0,hm1⟩:=Zhe m xs.length hn
 have hl:wb<w.heap.size:=(Ja.1 h.cells).1
 have hl1:wb<w.heap.size+1:=by omega
 have hl2:w.heap.size<w.heap.size+1:=by omega
 have c0:=Zbo h.cells 0
 simp only [Jg,Je] at c0
 rcases h.row.shape (fun _=>rfl) with ⟨_,e0⟩ | ⟨g,cap,cur,hv,_,hgl,hle,_,hc⟩
 ·simp at e0; subst e0; simp at hn
 rw [Jv] at hv hle
 rw [hv] at c0
 have q0:=(hc i 0 (by simpa using hi) (by decide)).1
 have q1:=(hc i 1 (by simpa using hi) (by decide)).1
 have q2:=(hc i 2 (by simpa using hi) (by decide)).1
 simp only [cellsP,Pr.a,Je,Jf,Nat.add_zero,List.getElem_map] at q0 q1 q2
 have hgl1:g<w.heap.size+1:=by omega
 have hiI:(i:Int)<(xs.length:Int):=by omega
 have hnz:¬ (xs.length:Int)=0:=by omega
 clear hc
 go_enter Tryz.func11,Tryz.ntmps11
 go_wp2_with fail
 go_region
 go_wp2_with fail
 have hbW:Below w.heap.size w ((w.alloc (.cells #[.int .i64 10,.int .i64 m,.int .i64 a,.int .i64 b,.int .i64 c,.int .i64 d,y6,y7,y8,y9,y10] 37)).alloc (.cells #[.pointer (some ⟨xs[i].pb,0,none⟩),.pointer (some ⟨xs[i].qb,0,none⟩),.pointer (some ⟨xs[i].rb,0,none⟩)] 47)).drew:=(((Jd _ _).alloc (Jb _) _).alloc (by simp) _).drew
 have hx:=((h.below hbW).ok _ (Jl hi))
 refine (Zlb (qb:=xs[i].qb) hx.p hx.r hx.sp m a b c d y6 y7 y8 y9 y10).mono ?_
 rintro e w3 ⟨rfl,hb3⟩
 go_wp2_with fail
 go_ret
 exact ⟨rfl,Zai hbW hb3⟩
theorem Zgz {W w1 w2 w3:World}{x:Pr}(hx:x.ok W){a:Value}{R:RSt}{e1 e2 e3:Ending}(h1:PPost W x.pb x.b0 x.b1 x.b2 x.b3 R a e1 w1)(h2:PPost w1 x.qb x.c0 x.c1 x.c2 x.c3 R a e2 w2)(h3:RPost w2 x.rb x.V x.x7 x.x8 x.x9 x.x10 x.x11 R a e3 w3) :
  ∃ y:Pr,y.ok w3∧Only x.F W w3∧(∀ b∈y.F,b∈x.F∨W.heap.size≤b)∧y.a=x.a:=by
 obtain ⟨_,l0,l1,l2,l3,hp,hs,ho1⟩:=h1
 obtain ⟨_,m0,m1,m2,m3,hq,hsq,ho2⟩:=h2
 obtain ⟨_,V,hr,ho3,hv⟩:=h3
 have hpl:=hx.p.lts
 have hql:=hx.q.lts
 have s1:=ho1.size
 have s2:=ho2.size
 have subP:∀ b∈[x.b0,x.b1,x.b2,x.b3],b∈x.P:=fun b hb=>Jk _ hb
 have subQ:∀ b∈[x.c0,x.c1,x.c2,x.c3],b∈x.Q:=fun b hb=>Jk _ hb
 have hfo:∀ b∈foot x.rb V,b∈foot x.rb x.V∨w2.heap.size≤b:=fun b hb=>by
  rcases List.mem_cons.1 hb with rfl | hb
  ·exact Jr Jp
  ·exact (hv b hb).imp_left (Jk _)
 let y:Pr:={ x with V:=V,R:=R,l0:=l0,l1:=l1,l2:=l2,l3:=l3,m0:=m0,m1:=m1,m2:=m2,m3:=m3 }
 have hpn:=hx.p.pne
 have hsl:=hx.sh.lt
 refine ⟨y,⟨?_,?_,hr,hs,hsq,hx.d1,fun b h1 h2=>?_,fun b h1 h2=>?_,hx.sh.move ?_ (fun b hb=>?_),fun b hb=>⟨(hx.d4 b hb).1,(hx.d4 b hb).2.1,fun h2=>?_⟩⟩,?_,fun b hb=>?_,rfl⟩
 ·refine (hp.move (fun b hb=>?_)).move (fun b hb=>?_) (w:=w2)
  ·exact ho2.block b (by have:=hpl b hb; omega) (fun hm=>hx.d1 b hb (subQ b hm))
  ·exact ho3.block b (by have:=hpl b hb; omega) (hx.d2 b hb)
 ·exact hq.move (fun b hb=>ho3.block b (by have:=hql b hb; omega) (hx.d3 b hb))
 ·rcases hfo b h2 with h3 | h3
  ·exact hx.d2 b h1 h3
  ·have:=hpl b h1; omega
 ·rcases hfo b h2 with h3 | h3
  ·exact hx.d3 b h1 h3
  ·have:=hql b h1; omega
 ·have hpm:x.pb∈x.P:=Jp
  have hl:=hpl x.pb hpm
  rw [ho3.block _ (by omega) (hx.d2 _ hpm),ho2.block _ (by omega) (fun hm=>hx.d1 _ hpm (subQ _ hm)),ho1.block _ hl (fun hm=>by simp [hpn] at hm)]
 ·have hl:=hsl b hb
  have h4:=hx.d4 b hb
  rw [ho3.block _ (by omega) h4.2.2,ho2.block _ (by omega) (fun hm=>h4.2.1 (subQ _ hm)),ho1.block _ hl (fun hm=>h4.1 (subP _ hm))]
 ·rcases hfo b h2 with h3 | h3
  ·exact (hx.d4 b hb).2.2 h3
  ·have:=hsl b hb; omega
 ·exact ((ho1.mono (fun b hb=>Pr.inP (subP b hb))).trans (ho2.mono (fun b hb=>Pr.inQ (subQ b hb)))).trans (ho3.mono (fun b hb=>Pr.inR hb))
 ·rcases Pr.mem hb with hb | hb | hb | hb
  ·exact Jr (Pr.inP (x:=x) hb)
  ·exact Jr (Pr.inQ (x:=x) hb)
  ·rcases hfo b hb with h3 | h3
   ·exact Jr (Pr.inR h3)
   ·exact Js (by omega)
  ·exact Jr (Pr.inS (x:=x) hb)
theorem Zc8 (h:WAt w base wb v vh xs)(hn:0<xs.length)(hlen:xs.length<1000000000000)(k m a b c d:Int)(y6 y7 y8 y9 y10:Value)(hk:2≤k∧k≤8) :
  Calls Tryz.prog 11 #[.pointer (some ⟨wb,0,none⟩),.agg #[.int .i64 k,.int .i64 m,.int .i64 a,.int .i64 b,.int .i64 c,.int .i64 d,y6,y7,y8,y9,y10]] w fun e w'=>e=.returned (.bool true)∧∃ xs',WAt w' base wb v vh xs'∧xs'.length=xs.length∧Only (FW wb v xs) w w'∧∀ b∈FW wb v xs',b∈FW wb v xs∨w.heap.size≤b:=by
 obtain ⟨i,hi,hI,hm0,hm1⟩:=Zhe m xs.length hn
 have hl:wb<w.heap.size:=(Ja.1 h.cells).1
 have hl1:wb<w.heap.size+1:=by omega
 have hl2:w.heap.size<w.heap.size+1:=by omega
 have c0:=Zbo h.cells 0
 simp only [Jg,Je] at c0
 rcases h.row.shape (fun _=>rfl) with ⟨_,e0⟩ | ⟨g,cap,cur,hv,_,hgl,hle,_,hc⟩
 ·simp at e0; subst e0; simp at hn
 rw [Jv] at hv hle
 rw [hv] at c0
 have q0:=(hc i 0 (by simpa using hi) (by decide)).1
 have q1:=(hc i 1 (by simpa using hi) (by decide)).1
 have q2:=(hc i 2 (by simpa using hi) (by decide)).1
 simp only [cellsP,Pr.a,Je,Jf,Nat.add_zero,List.getElem_map] at q0 q1 q2
 have hgl1:g<w.heap.size+1:=by omega
 have hiI:(i:Int)<(xs.length:Int):=by omega
 have hnz:¬ (xs.length:Int)=0:=by omega
 have k1:(k == 1)=false:=by simp; omega
 have k11:(k == 11)=false:=by simp; omega
 have k2:decide (2≤k)=true:=by simp; omega
 have k8:decide (k≤8)=true:=by simp; omega
 have Hk:=hid hk
 clear hc hk
 go_enter Tryz.func11,Tryz.ntmps11
 go_wp2_with fail
 go_region
 go_wp2_with fail
 have hbW:Below w.heap.size w ((w.alloc (.cells #[.int .i64 k,.int .i64 m,.int .i64 a,.int .i64 b,.int .i64 c,.int .i64 d,y6,y7,y8,y9,y10] 37)).alloc (.cells #[.pointer (some ⟨xs[i].pb,0,none⟩),.pointer (some ⟨xs[i].qb,0,none⟩),.pointer (some ⟨xs[i].rb,0,none⟩)] 47)).drew:=(((Jd _ _).alloc (Jb _) _).alloc (by simp) _).drew
 have hW:=h.below hbW
 have hx:=(hW.ok _ (Jl hi))
 have hxw:=(h.ok _ (Jl hi)).lt
 have hbx:=ZbY (w:=w) (o1:=.cells #[.int .i64 k,.int .i64 m,.int .i64 a,.int .i64 b,.int .i64 c,.int .i64 d,y6,y7,y8,y9,y10] 37) (o2:=.cells #[.pointer (some ⟨xs[i].pb,0,none⟩),.pointer (some ⟨xs[i].qb,0,none⟩),.pointer (some ⟨xs[i].rb,0,none⟩)] 47) (w2:=((w.alloc (.cells #[.int .i64 k,.int .i64 m,.int .i64 a,.int .i64 b,.int .i64 c,.int .i64 d,y6,y7,y8,y9,y10] 37)).alloc (.cells #[.pointer (some ⟨xs[i].pb,0,none⟩),.pointer (some ⟨xs[i].qb,0,none⟩),.pointer (some ⟨xs[i].rb,0,none⟩)] 47)).drew) ((Jd _ _).drew)
 have A1:=hid (Zd4 hx.p hx.sp k m a b c d y6 y7 y8 y9 y10 Hk.out)
 unfold opV at A1
 have Hx:=hid (Jc hW (Jc hx (Jc hxw hbW)))
 have Hbx:=hid hbx
 clear hbx hx hxw hW hbW
 refine A1.out.mono ?_
 intro e w1 hP1
 have hP1':=hP1
 obtain ⟨rfl,l0,l1,l2,l3,hp1,hs1,ho1⟩:=hP1'
 have ns1:∀ n,w.heap.size≤n→n∉[xs[i].b0,xs[i].b1,xs[i].b2,xs[i].b3]:=fun n hn hm=>by
  have:=Hx.out.2.2.1 n (Ju _ (Jk _ hm))
  omega
 have o1:=(ho1.block _ Hbx.out.2.2.1 (ns1 _ (Jb _))).trans Hbx.out.1
 have o2:=(ho1.block _ Hbx.out.2.2.2 (ns1 _ (by omega))).trans Hbx.out.2.1
 obtain ⟨f0,f1,f2,f3,f4,f5,f6,f7,f8,f9,f10⟩:=Zfs o1
 obtain ⟨g0,g1,g2⟩:=Za5 o2
 have z1:w.heap.size<w1.heap.size:=Jm Hbx.out.2.2.1 ho1.size
 have z2:w.heap.size+1<w1.heap.size:=Jm Hbx.out.2.2.2 ho1.size
 have hq1:PlanAt w1 xs[i].qb xs[i].c0 xs[i].c1 xs[i].c2 xs[i].c3 xs[i].m0 xs[i].m1 xs[i].m2 xs[i].m3:=Hx.out.2.1.q.move (fun n hn=>ho1.block n (Hx.out.2.1.q.lts n hn) (fun hm=>Hx.out.2.1.d1 n (Jk _ hm) hn))
 have hr1:RefAt w1 xs[i].rb xs[i].V xs[i].x7 xs[i].x8 xs[i].x9 xs[i].x10 xs[i].x11 xs[i].R:=Hx.out.2.1.r.move (fun n hn=>ho1.block n (Hx.out.2.1.r.lts n hn) (fun hm=>Hx.out.2.1.d2 n (Jk _ hm) hn))
 have A2:=hid (Zd4 hq1 Hx.out.2.1.sq k m a b c d y6 y7 y8 y9 y10 Hk.out)
 unfold opV at A2
 have HP1:=hid (Jc hP1 (Jc o1 (Jc o2 hr1)))
 clear hP1 hp1 hs1 o1 o2 hr1 hq1 A1
 have Ho1:=hid ho1
 clear ho1
 go_wp2_with fail
 refine A2.out.mono ?_
 intro e w2 hP2
 have hP2':=hP2
 obtain ⟨rfl,m0,m1,m2,m3,hp2,hs2,ho2⟩:=hP2'
 clear f0 f1 f2 f3 f4 f5 f6 f7 f8 f9 f10 g0 g1 g2 A2
 have ns2:∀ n,w.heap.size≤n→n∉[xs[i].c0,xs[i].c1,xs[i].c2,xs[i].c3]:=fun n hn hm=>by
  have:=Hx.out.2.2.1 n (Jt _ (Ju _ (Jk _ hm)))
  omega
 have o1:=(ho2.block _ z1 (ns2 _ (Jb _))).trans HP1.out.2.1
 have o2:=(ho2.block _ z2 (ns2 _ (by omega))).trans HP1.out.2.2.1
 obtain ⟨f0,f1,f2,f3,f4,f5,f6,f7,f8,f9,f10⟩:=Zfs o1
 obtain ⟨g0,g1,g2⟩:=Za5 o2
 have z3:w.heap.size<w2.heap.size:=Jm z1 ho2.size
 have z4:w.heap.size+1<w2.heap.size:=Jm z2 ho2.size
 have hr2:RefAt w2 xs[i].rb xs[i].V xs[i].x7 xs[i].x8 xs[i].x9 xs[i].x10 xs[i].x11 xs[i].R:=HP1.out.2.2.2.move (fun n hn=>ho2.block n (HP1.out.2.2.2.lts n hn) (fun hm=>Hx.out.2.1.d3 n (Jk _ hm) hn))
 have A3:=hid (Zhk hr2 Hx.out.2.1.sp.fit k m a b c d y6 y7 y8 y9 y10 Hk.out)
 unfold opV at A3
 have HP2:=hid hP2
 clear hP2 hp2 hs2 o1 o2 hr2 ho2
 go_wp2_with fail
 refine A3.out.mono ?_
 intro e w3 hP3
 obtain ⟨rfl,_⟩:=id hP3
 have HP3:=hid hP3
 clear hP3
 go_wp2_with fail
 go_ret
 obtain ⟨y,hy,hoy,hFy,hay⟩:=Zgz Hx.out.2.1 HP1.out.1 HP2.out HP3.out
 exact ⟨rfl,xs.set i y,Hx.out.1.upd hi hy hoy hFy hay,by simp,(Only.of_below Hx.out.2.2.2).trans (hoy.mono (fun n hn=>Jk _ (Jt _ (List.mem_flatMap.2 ⟨_,Jl hi,hn⟩)))),Zj1 hi (fun b hb=>(hFy b hb).imp_right (fun q=>Nat.le_trans Hx.out.2.2.2.size q))⟩
theorem ZjS (h:WAt w base wb v vh xs)(hn:0<xs.length)(hlen:xs.length<1000000000000)(k m a b c d:Int)(y6 y7 y8 y9 y10:Value)(hk:k≤10) :
  Calls Tryz.prog 11 #[.pointer (some ⟨wb,0,none⟩),.agg #[.int .i64 k,.int .i64 m,.int .i64 a,.int .i64 b,.int .i64 c,.int .i64 d,y6,y7,y8,y9,y10]] w fun e w'=>e=.returned (.bool true)∧∃ v' xs',WAt w' base wb v' vh xs'∧xs.length≤xs'.length∧xs'.length≤xs.length+1∧Only (FW wb v xs) w w'∧∀ b∈FW wb v' xs',b∈FW wb v xs∨w.heap.size≤b:=by
 by_cases k0:k≤0
 ·exact (Ziq h hn hlen k m a b c d y6 y7 y8 y9 y10 k0).mono fun e w' hh=>⟨hh.1,v,xs,h.below hh.2,Jb _,Nat.le_succ _,Only.of_below hh.2,fun _ q=>Jr q⟩
 by_cases k1:k=1
 ·subst k1
  refine (ZjR h hlen m a b c d y6 y7 y8 y9 y10).mono fun e w' hh=>?_
  obtain ⟨he,v',y,hy,ho,hf⟩:=hh
  exact ⟨he,v',_,hy,by simp,by simp,ho,hf⟩
 by_cases k8:k≤8
 ·refine (Zc8 h hn hlen k m a b c d y6 y7 y8 y9 y10 ⟨by omega,k8⟩).mono fun e w' hh=>?_
  obtain ⟨he,xs',hy,hl,ho,hf⟩:=hh
  exact ⟨he,v,xs',hy,by omega,by omega,ho,hf⟩
 by_cases k9:k=9
 ·subst k9
  exact (Zip h hn hlen m a b c d y6 y7 y8 y9 y10).mono fun e w' hh=>⟨hh.1,v,xs,h.below hh.2,Jb _,Nat.le_succ _,Only.of_below hh.2,fun _ q=>Jr q⟩
 obtain rfl:k=10:=by omega
 exact (Zg7 h hn hlen m a b c d y6 y7 y8 y9 y10).mono fun e w' hh=>⟨hh.1,v,xs,h.below hh.2,Jb _,Nat.le_succ _,Only.of_below hh.2,fun _ q=>Jr q⟩
end
end
section
open Go.RowKit
theorem wat0 (w:World):WAt (w.alloc (.cells #[.slice none 0 0,.slice none 0 0] 29)) w.heap.size w.heap.size (.slice none 0 0) (.slice none 0 0) [] :=
 ⟨(MapKept.heap_alloc w _).1,World.ownsRow_nil _ _ _ _,(fun x hx=>by cases hx),List.Pairwise.nil,(fun x hx=>by cases hx),(fun x hx=>by cases hx),Jb _,(fun b e=>by cases e),(fun x hx=>by cases hx)⟩
end
section
open Go.RowKit Go.ChangeShapes Go.WideShapes
theorem Zky:Tryz.prog.cellsOf 37=11:=by kernel_rfl
theorem Zkx:Tryz.prog.cellsOf 35=3:=by kernel_rfl
theorem ZbB:Tryz.prog.cellsOf 3=1:=by kernel_rfl
theorem Zft:Tryz.prog.cellsOf 32=1:=by kernel_rfl
theorem Zkw:Tryz.prog.cellsOf 33=1:=by kernel_rfl
theorem Zkr:Tryz.prog.bytesOf 37=152:=by kernel_rfl
theorem Zfr {w:World}{a:Addr}{v:Value}(h:w.cell? a=some v):a.block<w.heap.size:=by
 rcases Nat.lt_or_ge a.block w.heap.size with hl | hl
 ·exact hl
 ·have:w.heap[a.block]?=none:=by simp [hl]
  simp [World.cell?,this] at h
section
variable {H:Type}{enc:TypeId×Value→H}{w:World}{base:Nat}{spare:Nat→Bool}{held:Bool}
theorem Zbh {fuel:Nat}{v:Value}{x:DataW H×List MemPlace}(h:DataW.trod enc Tryz.prog w base spare held fuel 3 [v]=some x):∃ n,v=.int .i64 n:=by
 obtain ⟨n,hcs,_⟩:=DataW.trod_int Tryz.underlying3 h
 exact ⟨n,by simpa using hcs⟩
theorem Zbd {α:Type}{xs:List α}{n i:Nat}(h:xs.length=n)(hi:i<n):∃ x,xs[i]?=some x:=⟨xs[i],List.getElem?_eq_getElem (by omega)⟩
end
end
section
open Go.RowKit Go.ChangeShapes Go.WideShapes
theorem Zkz:Tryz.prog.cellsOf 93=4:=by kernel_rfl
theorem Zlk:Tryz.prog.bytesOf 3=8:=by kernel_rfl
theorem Zks:Tryz.prog.bytesOf 93=32:=by kernel_rfl
section
variable {H:Type}{enc:TypeId×Value→H}{w:World}{base:Nat}{spare:Nat→Bool}{held:Bool}
def Light (d:DataW H)(t:TypeId):Prop:=∀ n∈d.weights Tryz.prog t,n≤reachBytes
theorem ZfE {fuel:Nat}{v:Value}{x:DataW H×List MemPlace}(h:DataW.trod enc Tryz.prog w base spare held fuel 32 [v]=some x):∃ p l z F,v=.slice p l z∧Ints w p l F∧(Light x.1 32→l*8≤reachBytes):=by
 rcases Deep.open_slice1 Tryz.underlying32 ZbB h with ⟨hcs,hx⟩ | ⟨a,len,cap,m,n,V,D,Pl,hcs,_,hl,_,hm,hx,hc⟩
 ·exact ⟨none,0,0,fun _=>0,by simpa using hcs,Jr rfl,fun _=>Jq _⟩
 ·obtain rfl:v=.slice (some a) len cap:=by simpa using hcs
  have hlm:len≤m:=by rw [hm]; split <;> omega
  have hi:∀ i,i<len→∃ k,w.cell? (a.add i)=some (.int .i64 k):=fun i hi=>by
   obtain ⟨h1,h2⟩:=hc i (by omega)
   obtain ⟨k,e⟩:=Zbh h2
   rw [e] at h1
   exact ⟨k,h1⟩
  refine ⟨some a,len,cap,fun i=>if h:i<len then (hi i h).choose else 0,rfl,?_,fun hw=>?_⟩
  ·by_cases h0:len=0
   ·exact Jr h0
   right
   obtain ⟨sb,off,Zhe⟩:=a
   obtain ⟨k,hq⟩:=hi 0 (by omega)
   have hs:=World.cell?_spot hq
   have hlt:=Zfr hq
   have hspot:Zhe=none:=by simpa [Addr.add] using hs
   subst hspot
   refine ⟨sb,off,rfl,by simpa [Addr.add] using hlt,fun i h=>?_⟩
   have:=(hi i h).choose_spec
   simp only [dif_pos h]
   simpa only [Addr.add_lit] using this
  ·have:=hw ((len+(m - len))*Tryz.prog.bytesOf 3) (by rw [hx]; simp [DataW.weights,Tryz.underlying32])
   rw [Zlk] at this
   omega
theorem Zhh {fuel:Nat}{v0 v1 v2 v3:Value}{x:DataW H×List MemPlace}(h:DataW.trod enc Tryz.prog w base spare held fuel 93 [v0,v1,v2,v3]=some x):∃ a:Ar,v0=.int .i64 a.f∧v1=.int .i64 a.t∧v2=.int .i64 a.c∧v3=.int .i64 a.k:=by
 obtain ⟨xs,n,_,_,_,hxl,hf⟩:=DataW.trod_struct Tryz.underlying93 h
 have hxl':xs.length=4:=hxl
 have g0:DataW.trod enc Tryz.prog w base spare held n 3 [v0]=xs[0]?:=by have:=hf 0 _ rfl; simpa [ZbB] using this
 have g1:DataW.trod enc Tryz.prog w base spare held n 3 [v1]=xs[1]?:=by have:=hf 1 _ rfl; simpa [ZbB] using this
 have g2:DataW.trod enc Tryz.prog w base spare held n 3 [v2]=xs[2]?:=by have:=hf 2 _ rfl; simpa [ZbB] using this
 have g3:DataW.trod enc Tryz.prog w base spare held n 3 [v3]=xs[3]?:=by have:=hf 3 _ rfl; simpa [ZbB] using this
 obtain ⟨x0,e0⟩:=Zbd hxl' (show 0<4 by decide)
 obtain ⟨x1,e1⟩:=Zbd hxl' (show 1<4 by decide)
 obtain ⟨x2,e2⟩:=Zbd hxl' (show 2<4 by decide)
 obtain ⟨x3,e3⟩:=Zbd hxl' (show 3<4 by decide)
 rw [e0] at g0
 rw [e1] at g1
 rw [e2] at g2
 rw [e3] at g3
 obtain ⟨a,ha⟩:=Zbh (v:=v0) g0
 obtain ⟨b,hb⟩:=Zbh (v:=v1) g1
 obtain ⟨c,hc⟩:=Zbh (v:=v2) g2
 obtain ⟨d,hd⟩:=Zbh (v:=v3) g3
 exact ⟨⟨a,b,c,d⟩,ha,hb,hc,hd⟩
theorem Zkh {fuel:Nat}{v:Value}{x:DataW H×List MemPlace}(h:DataW.trod enc Tryz.prog w base spare held fuel 33 [v]=some x):∃ p l z A,v=.slice p l z∧Arcs w p l A∧(Light x.1 33→l*32≤reachBytes):=by
 rcases Deep.open_slice Tryz.underlying33 h with ⟨hcs,hx⟩ | ⟨a,len,cap,m,n,D,Pl,hcs,_,hl,_,hm,hx,hc⟩
 ·exact ⟨none,0,0,fun _=>⟨0,0,0,0⟩,by simpa using hcs,Jr rfl,fun _=>Jq _⟩
 ·obtain rfl:v=.slice (some a) len cap:=by simpa using hcs
  have hlm:len≤m:=by rw [hm]; split <;> omega
  rw [Zkz] at hc
  have hi:∀ i,i<len→∃ k:Ar,w.cell? ((a.add (i*4)).add 0)=some (.int .i64 k.f)∧w.cell? ((a.add (i*4)).add 1)=some (.int .i64 k.t)∧w.cell? ((a.add (i*4)).add 2)=some (.int .i64 k.c)∧w.cell? ((a.add (i*4)).add 3)=some (.int .i64 k.k):=fun i hi=>by
   obtain ⟨cs',h1,h2⟩:=hc i (by omega)
   obtain ⟨_,hlen,hcell⟩:=World.cells?_some h1
   match cs',hlen with
   | [v0,v1,v2,v3],_ =>
    obtain ⟨k,rfl,rfl,rfl,rfl⟩:=Zhh h2
    exact ⟨k,hcell 0 (by decide),hcell 1 (by decide),hcell 2 (by decide),hcell 3 (by decide)⟩
  refine ⟨some a,len,cap,fun i=>if h:i<len then (hi i h).choose else ⟨0,0,0,0⟩,rfl,?_,fun hw=>?_⟩
  ·by_cases h0:len=0
   ·exact Jr h0
   right
   obtain ⟨sb,off,Zhe⟩:=a
   obtain ⟨k,hq,_⟩:=hi 0 (by omega)
   have hs:=World.cell?_spot hq
   have hlt:=Zfr hq
   have hspot:Zhe=none:=by simpa [Addr.add] using hs
   subst hspot
   refine ⟨sb,off,rfl,by simpa [Addr.add] using hlt,fun i h=>?_⟩
   have:=(hi i h).choose_spec
   simp only [dif_pos h]
   simpa only [Addr.add_lit,Nat.add_zero] using this
  ·have:=hw ((len+(m - len))*Tryz.prog.bytesOf 93) (by rw [hx]; simp [DataW.weights,Tryz.underlying33])
   rw [Zks] at this
   omega
def OpAt (w:World)(sb o:Nat):Prop:=∃ (k m a b c d n6:Int)(p7 p8 p9 p10:Option Addr)(l7 l8 l9 l10 z7 z8 z9 z10:Nat)(S:Nat→Int)(A:Nat→Ar)(F P:Nat→Int),
  (w.cell? ⟨sb,o,none⟩=some (.int .i64 k)∧w.cell? ⟨sb,o+1,none⟩=some (.int .i64 m)∧w.cell? ⟨sb,o+2,none⟩=some (.int .i64 a)∧w.cell? ⟨sb,o+3,none⟩=some (.int .i64 b)∧w.cell? ⟨sb,o+4,none⟩=some (.int .i64 c)∧w.cell? ⟨sb,o+5,none⟩=some (.int .i64 d) ∧
  w.cell? ⟨sb,o+6,none⟩=some (.int .i64 n6)∧w.cell? ⟨sb,o+7,none⟩=some (.slice p7 l7 z7)∧w.cell? ⟨sb,o+8,none⟩=some (.slice p8 l8 z8)∧w.cell? ⟨sb,o+9,none⟩=some (.slice p9 l9 z9)∧w.cell? ⟨sb,o+10,none⟩=some (.slice p10 l10 z10)) ∧
  (Ints w p7 l7 S∧Arcs w p8 l8 A∧Ints w p9 l9 F∧Ints w p10 l10 P)∧(l7*8≤140737488351232∧l8*32≤140737488351232∧l9*8≤140737488351232∧l10*8≤140737488351232)
def IsOpsC (w:World)(p:Option Addr)(len:Nat):Prop:=len=0∨∃ sb off,p=some ⟨sb,off,none⟩∧sb<w.heap.size∧∀ i,i<len→OpAt w sb (off+i*11)
theorem Zjd {fuel:Nat}{v0 v1 v2 v3 v4 v5 v6 v7 v8 v9 v10:Value}{x:DataW H×List MemPlace}(h:DataW.trod enc Tryz.prog w base spare held fuel 37 [v0,v1,v2,v3,v4,v5,v6,v7,v8,v9,v10]=some x)(hw:Light x.1 37) :
  ∃ (k m a b c d n6:Int) (p7 p8 p9 p10:Option Addr) (l7 l8 l9 l10 z7 z8 z9 z10:Nat) (S:Nat→Int) (A:Nat→Ar) (F P:Nat→Int),(v0=.int .i64 k∧v1=.int .i64 m∧v2=.int .i64 a∧v3=.int .i64 b∧v4=.int .i64 c∧v5=.int .i64 d∧v6=.int .i64 n6∧v7=.slice p7 l7 z7∧v8=.slice p8 l8 z8∧v9=.slice p9 l9 z9∧v10=.slice p10 l10 z10) ∧
   (Ints w p7 l7 S∧Arcs w p8 l8 A∧Ints w p9 l9 F∧Ints w p10 l10 P)∧(l7*8≤140737488351232∧l8*32≤140737488351232∧l9*8≤140737488351232∧l10*8≤140737488351232):=by
 obtain ⟨xs,n,_,hx,_,hxl,hf⟩:=DataW.trod_struct Tryz.underlying37 h
 have hxl':xs.length=9:=hxl
 have g0:DataW.trod enc Tryz.prog w base spare held n 3 [v0]=xs[0]?:=by have:=hf 0 _ rfl; simpa [ZbB] using this
 have g1:DataW.trod enc Tryz.prog w base spare held n 3 [v1]=xs[1]?:=by have:=hf 1 _ rfl; simpa [ZbB] using this
 have g2:DataW.trod enc Tryz.prog w base spare held n 3 [v2]=xs[2]?:=by have:=hf 2 _ rfl; simpa [ZbB] using this
 have g3:DataW.trod enc Tryz.prog w base spare held n 3 [v3]=xs[3]?:=by have:=hf 3 _ rfl; simpa [ZbB] using this
 have g4:DataW.trod enc Tryz.prog w base spare held n 3 [v4]=xs[4]?:=by have:=hf 4 _ rfl; simpa [ZbB] using this
 have g5:DataW.trod enc Tryz.prog w base spare held n 3 [v5]=xs[5]?:=by have:=hf 5 _ rfl; simpa [ZbB] using this
 have g6:DataW.trod enc Tryz.prog w base spare held n 35 [v6,v7,v8]=xs[6]?:=by have:=hf 6 _ rfl; simpa [Zkx] using this
 have g7:DataW.trod enc Tryz.prog w base spare held n 32 [v9]=xs[7]?:=by have:=hf 7 _ rfl; simpa [Zft] using this
 have g8:DataW.trod enc Tryz.prog w base spare held n 32 [v10]=xs[8]?:=by have:=hf 8 _ rfl; simpa [Zft] using this
 obtain ⟨x0,e0⟩:=Zbd hxl' (show 0<9 by decide)
 obtain ⟨x1,e1⟩:=Zbd hxl' (show 1<9 by decide)
 obtain ⟨x2,e2⟩:=Zbd hxl' (show 2<9 by decide)
 obtain ⟨x3,e3⟩:=Zbd hxl' (show 3<9 by decide)
 obtain ⟨x4,e4⟩:=Zbd hxl' (show 4<9 by decide)
 obtain ⟨x5,e5⟩:=Zbd hxl' (show 5<9 by decide)
 obtain ⟨x6,e6⟩:=Zbd hxl' (show 6<9 by decide)
 obtain ⟨x7,e7⟩:=Zbd hxl' (show 7<9 by decide)
 obtain ⟨x8,e8⟩:=Zbd hxl' (show 8<9 by decide)
 rw [e0] at g0
 rw [e1] at g1
 rw [e2] at g2
 rw [e3] at g3
 rw [e4] at g4
 rw [e5] at g5
 rw [e6] at g6
 rw [e7] at g7
 rw [e8] at g8
 have hwj:∀ (j:Nat) (t:TypeId) (y:DataW H×List MemPlace),([3,3,3,3,3,3,35,32,32]:List TypeId)[j]?=some t→xs[j]?=some y→Light y.1 t:=fun j t y ht hy nn hnn=>by
  refine hw nn ?_
  rw [hx]
  simp only [DataW.weights,Tryz.underlying37]
  refine DataW.weights_mem_each (j:=j) (t:=t) (d:=y.1) ?_ ?_ nn hnn
  ·exact ht
  ·simp [hy]
 have w6:=hwj 6 35 x6 rfl e6
 obtain ⟨k,hk⟩:=Zbh (v:=v0) g0
 obtain ⟨m,hm⟩:=Zbh (v:=v1) g1
 obtain ⟨a,ha⟩:=Zbh (v:=v2) g2
 obtain ⟨b,hb⟩:=Zbh (v:=v3) g3
 obtain ⟨c,hc⟩:=Zbh (v:=v4) g4
 obtain ⟨d,hd⟩:=Zbh (v:=v5) g5
 obtain ⟨p9,l9,z9,F,h9,i9,b9⟩:=ZfE (v:=v9) g7
 obtain ⟨p10,l10,z10,P,h10,i10,b10⟩:=ZfE (v:=v10) g8
 obtain ⟨ys,n',_,hy',_,hyl,hy⟩:=DataW.trod_struct (cs:=[v6,v7,v8]) Tryz.underlying35 g6
 have hyl':ys.length=3:=hyl
 have i0:DataW.trod enc Tryz.prog w base spare held n' 3 [v6]=ys[0]?:=by have:=hy 0 _ rfl; simpa [ZbB] using this
 have i1:DataW.trod enc Tryz.prog w base spare held n' 32 [v7]=ys[1]?:=by have:=hy 1 _ rfl; simpa [Zft] using this
 have i2:DataW.trod enc Tryz.prog w base spare held n' 33 [v8]=ys[2]?:=by have:=hy 2 _ rfl; simpa [Zkw] using this
 obtain ⟨y0,f0⟩:=Zbd hyl' (show 0<3 by decide)
 obtain ⟨y1,f1⟩:=Zbd hyl' (show 1<3 by decide)
 obtain ⟨y2,f2⟩:=Zbd hyl' (show 2<3 by decide)
 rw [f0] at i0
 rw [f1] at i1
 rw [f2] at i2
 have hwy:∀ (j:Nat) (t:TypeId) (y:DataW H×List MemPlace),([3,32,33]:List TypeId)[j]?=some t→ys[j]?=some y→Light y.1 t:=fun j t y ht hyy nn hnn=>by
  refine w6 nn ?_
  rw [hy']
  simp only [DataW.weights,Tryz.underlying35]
  refine DataW.weights_mem_each (j:=j) (t:=t) (d:=y.1) ?_ ?_ nn hnn
  ·exact ht
  ·simp [hyy]
 obtain ⟨n6,h6⟩:=Zbh (v:=v6) i0
 obtain ⟨p7,l7,z7,S,h7,i7,b7⟩:=ZfE (v:=v7) i1
 obtain ⟨p8,l8,z8,A,h8,i8,b8⟩:=Zkh (v:=v8) i2
 have q7:=b7 (hwy 1 32 y1 rfl f1)
 have q8:=b8 (hwy 2 33 y2 rfl f2)
 have q9:=b9 (hwj 7 32 x7 rfl e7)
 have q10:=b10 (hwj 8 32 x8 rfl e8)
 simp only [reachBytes] at q7 q8 q9 q10
 exact ⟨k,m,a,b,c,d,n6,p7,p8,p9,p10,l7,l8,l9,l10,z7,z8,z9,z10,S,A,F,P,⟨hk,hm,ha,hb,hc,hd,h6,h7,h8,h9,h10⟩,⟨i7,i8,i9,i10⟩,q7,q8,q9,q10⟩
theorem Zcv {e:TypeId}{d:DataW H}{n:Nat}:∀ {l:List (DataW H)},d∈l→n∈d.weights Tryz.prog e→n∈DataW.weightsAll Tryz.prog e l
 | a :: l,hd,hn=>by
  simp only [DataW.weightsAll,List.mem_append]
  rcases List.mem_cons.1 hd with rfl | hd
  ·exact Jr hn
  ·exact Js (Zcv hd hn)
theorem isOpsC_of {fuel:Nat}{p:Option Addr}{len cap:Nat}{x:DataW H×List MemPlace}(h:DataW.trod enc Tryz.prog w base spare held fuel 22 [.slice p len cap]=some x)(hw:Light x.1 22) :
  IsOpsC w p len∧len<999999999999:=by
 rcases Deep.open_slice Tryz.underlying22 h with ⟨hcs,hx⟩ | ⟨a,len',cap',m,n,D,Pl,hcs,_,hl,_,hm,hx,hc⟩
 ·simp at hcs
  obtain ⟨rfl,rfl,rfl⟩:=hcs
  exact ⟨Jr rfl,by omega⟩
 ·simp at hcs
  obtain ⟨rfl,rfl,rfl⟩:=hcs
  have hlm:len≤m:=by rw [hm]; split <;> omega
  have hlen:len<999999999999:=by
   have:=hw ((len+(m - len))*Tryz.prog.bytesOf 37) (by rw [hx]; simp [DataW.weights,Tryz.underlying22])
   rw [Zkr] at this
   simp only [reachBytes] at this
   omega
  refine ⟨?_,hlen⟩
  have hwD:∀ i,i<len→Light (D i) 37:=fun i hi nn hnn=>by
   refine hw nn ?_
   rw [hx]
   simp only [DataW.weights,Tryz.underlying22]
   refine Jk _ (Ju _ (Zcv (d:=D i) ?_ hnn))
   exact List.mem_map.2 ⟨i,List.mem_range.2 hi,rfl⟩
  by_cases h0:len=0
  ·exact Jr h0
  right
  rw [Zky] at hc
  have hcell:∀ i,i<len→∃ (k m a' b c d n6:Int) (p7 p8 p9 p10:Option Addr) (l7 l8 l9 l10 z7 z8 z9 z10:Nat) (S:Nat→Int) (A:Nat→Ar) (F P:Nat→Int),(w.cell? ((a.add (i*11)).add 0)=some (.int .i64 k)∧w.cell? ((a.add (i*11)).add 1)=some (.int .i64 m)∧w.cell? ((a.add (i*11)).add 2)=some (.int .i64 a')∧w.cell? ((a.add (i*11)).add 3)=some (.int .i64 b)∧w.cell? ((a.add (i*11)).add 4)=some (.int .i64 c)∧w.cell? ((a.add (i*11)).add 5)=some (.int .i64 d)∧w.cell? ((a.add (i*11)).add 6)=some (.int .i64 n6)∧w.cell? ((a.add (i*11)).add 7)=some (.slice p7 l7 z7)∧w.cell? ((a.add (i*11)).add 8)=some (.slice p8 l8 z8)∧w.cell? ((a.add (i*11)).add 9)=some (.slice p9 l9 z9)∧w.cell? ((a.add (i*11)).add 10)=some (.slice p10 l10 z10)) ∧
    (Ints w p7 l7 S∧Arcs w p8 l8 A∧Ints w p9 l9 F∧Ints w p10 l10 P)∧(l7*8≤140737488351232∧l8*32≤140737488351232∧l9*8≤140737488351232∧l10*8≤140737488351232):=by
   intro i hi
   obtain ⟨cs',h1,h2⟩:=hc i (by omega)
   obtain ⟨_,hlen,hcell⟩:=World.cells?_some h1
   match cs',hlen with
   | [v0,v1,v2,v3,v4,v5,v6,v7,v8,v9,v10],_ =>
    obtain ⟨k,m,a',b,c,d,n6,p7,p8,p9,p10,l7,l8,l9,l10,z7,z8,z9,z10,S,A,F,P,⟨rfl,rfl,rfl,rfl,rfl,rfl,rfl,rfl,rfl,rfl,rfl⟩,hls⟩:=Zjd h2 (hwD i hi)
    exact ⟨k,m,a',b,c,d,n6,p7,p8,p9,p10,l7,l8,l9,l10,z7,z8,z9,z10,S,A,F,P,⟨hcell 0 (by decide),hcell 1 (by decide),hcell 2 (by decide),hcell 3 (by decide),hcell 4 (by decide),hcell 5 (by decide),hcell 6 (by decide),hcell 7 (by decide),hcell 8 (by decide),hcell 9 (by decide),hcell 10 (by decide)⟩,hls⟩
  obtain ⟨sb,off,Zhe⟩:=a
  obtain ⟨k,_,_,_,_,_,_,_,_,_,_,_,_,_,_,_,_,_,_,_,_,_,_,⟨hq,_⟩,_⟩:=hcell 0 (by omega)
  have hs:=World.cell?_spot hq
  have hlt:=Zfr hq
  have hspot:Zhe=none:=by simpa [Addr.add] using hs
  subst hspot
  refine ⟨sb,off,rfl,by simpa [Addr.add] using hlt,fun i hi=>?_⟩
  obtain ⟨k,m,a',b,c,d,n6,p7,p8,p9,p10,l7,l8,l9,l10,z7,z8,z9,z10,S,A,F,P,hh,hls⟩:=hcell i hi
  refine ⟨k,m,a',b,c,d,n6,p7,p8,p9,p10,l7,l8,l9,l10,z7,z8,z9,z10,S,A,F,P,?_,hls⟩
  simpa only [Addr.add_lit,Nat.add_zero] using hh
end
end
end Go.Proofs.YtjdindfjfpdikaaGreat
