import Derived.Lib.BufferMore
import Derived.Deep.RegionHeld
import Derived.Test.YtjdindfjfpdikabB17
import Derived.Test.YtjdindfjfpdikabB18
import Derived.Test.YtjdindfjfpdikabB25
import Derived.Test.YtjdindfjfpdikabB27
import Derived.Test.YtjdindfjfpdikabPre
set_option maxRecDepth 100000
set_option maxHeartbeats 8000000
namespace Go.Proofs.Ytjdindfjfpdikab
section
open Go.RowKit
theorem clone_any (w:World)(b9:Nat)(v:Value)(xs:List Int)(h:NRow b9 w v xs)(hl:xs.length≤100000) :
  Calls Try.prog 25 #[v] w fun e w'=>∃ v',e=.returned v'∧NRow w.heap.size w' v' xs∧Below w.heap.size w w':=by
 rcases h.2 with ⟨rfl,e2⟩ | ⟨g,cap,cur,rfl,_,hg,hc1,hc2,hc3,ht⟩
 ·obtain rfl:xs=[]:=List.eq_nil_of_length_eq_zero e2
  have hnil:∀ W,(binOp .eql 22 (.slice none 0 0) (.slice none 0 0)).run Try.prog W=.ok (.bool true) W:=fun W=>Lib.run_eql_slice_nil_nil W _ _ Try.underlying22
  go_enter Try.func25,Try.ntmps25
  go_wp2
  go_ret
  exact ⟨_,rfl,NRow.nil _ _,Jd _ _⟩
 ·have hnil:∀ W,(binOp .eql 22 (.slice (some ⟨g,0,none⟩) xs.length cap) (.slice none 0 0)).run Try.prog W=.ok (.bool false) W:=fun W=>Lib.run_eql_slice_some_nil W _ _ _ Try.underlying22
  obtain ⟨i3,hi3,hy0,hy1,hy2⟩:=info_parts infoN3
  have bA:Below w.heap.size w (w.alloc (.cells #[] 3)):=(Jd _ _).alloc (Jb _) _
  have hgl:g<w.heap.size:=(Ja.1 hg).1
  have hr0:(w.alloc (.cells #[] 3)).ownsRow w.heap.size 3 1 (.slice (some ⟨w.heap.size,0,none⟩) 0 0) 0 []:=⟨rfl,Js ⟨_,0,#[],rfl,Jb _,heap_alloc_new w _,Jb _,by unfold maxLen; omega,rfl,rfl⟩⟩
  have hlen:(xs.flatMap cellsI).length=xs.length*1:=h.1
  have hsrc:∀ (j:Nat) (u:Value),(xs.flatMap cellsI)[j]?=some u→(w.alloc (.cells #[] 3)).cell? ((⟨g,0,none⟩:Addr).add j)=some u:=fun j u hj=>by
   have hz:(w.alloc (.cells #[] 3)).heap[g]?=some (.cells cur 3):=(bA.block g hgl).trans hg
   rw [Addr.add_lit,Nat.zero_add,at_cells hz]
   rw [← ht] at hj
   have hj':j<xs.length*1:=by
    have:=(List.getElem?_eq_some_iff.1 hj).1
    rw [List.length_take] at this
    omega
   rw [List.getElem?_take_of_lt hj',Array.getElem?_toList] at hj
   exact hj
  have hone:∀ u∈xs.flatMap cellsI,u.oneCell'=true:=fun u hu=>by
   obtain ⟨x,_,hx⟩:=List.mem_flatMap.1 hu
   simp [cellsI] at hx
   subst hx
   rfl
  have HA:=hid (Jc hr0 (Jc hlen (Jc hsrc (Jc hone bA))))
  clear hr0 hlen hsrc hone bA h ht
  go_enter Try.func25,Try.ntmps25
  go_wp2_with (first
   | (at_builtin; refine wpList_append_own_at (w.alloc (.cells #[] 3)) rfl _ _ 22 rfl w.heap.size 3 i3 (.int .i64 0) 1 8 Try.underlying22 hi3 hy0 hy1 hy2 rfl (by decide) _ 0 [] rfl HA.out.1 ⟨g,0,none⟩ xs.length cap (xs.flatMap cellsI) rfl HA.out.2.1 HA.out.2.2.1 HA.out.2.2.2.1 (by unfold maxLen; omega) (by omega) (by simp) ?_; intro u w' hrow hg2 _ hloc; have HR:=hid (Jc hrow hg2); clear hrow hg2 hloc)
   | fail)
  go_ret
  refine ⟨_,rfl,?_,?_⟩
  ·have:=HR.out.1
   unfold NRow
   simpa using this
  ·refine HA.out.2.2.2.2.trans ⟨HR.out.2.os,HR.out.2.tape,HR.out.2.output,HR.out.2.size,fun b hb=>HR.out.2.block b (by simp; omega) (fun e=>by have e':some b=some w.heap.size:=e; injection e' with e''; omega)⟩
end
section
open Go.RowKit
theorem ORow.at {b0:Nat}{w:World}{p:Option Addr}{n cp:Nat}{xs:List Opn}(h:ORow b0 w (.slice p n cp) xs){k:Nat}(hk:k<xs.length):∃ g,p=some ⟨g,0,none⟩∧b0≤g∧g<w.heap.size∧w.cell? ⟨g,k*5,none⟩=some (.int .i64 xs[k].f)∧w.cell? ⟨g,k*5+1,none⟩=some (.int .i64 xs[k].t)∧w.cell? ⟨g,k*5+2,none⟩=some (.int .i64 xs[k].k)∧w.cell? ⟨g,k*5+3,none⟩=some (.int .i64 xs[k].a)∧w.cell? ⟨g,k*5+4,none⟩=some (.int .i64 xs[k].b):=by
 rcases h.2 with ⟨_,e⟩ | ⟨g,cap,cur,e,e0,hg,_,_,_,ht⟩
 ·omega
 ·cases e
  have key:∀ c,c<5→w.cell? ⟨g,k*5+c,none⟩=(cellsO xs[k])[c]?:=fun c hc=>by
   rw [cellC hg]
   have h1:=flatMap_at (enc:=cellsO) (size:=5) (fun _=>rfl) xs k c hk hc
   rw [← ht,List.getElem?_take_of_lt (by omega)] at h1
   simpa using h1
  exact ⟨g,rfl,e0,(Ja.1 hg).1,key 0 (by omega),key 1 (by omega),key 2 (by omega),key 3 (by omega),key 4 (by omega)⟩
theorem NRow.ints {b0:Nat}{w:World}{p:Option Addr}{n cp:Nat}{xs:List Int}(h:NRow b0 w (.slice p n cp) xs)(hn:n=xs.length):Ints w p n (fun i=>xs.getD i 0):=by
 by_cases h0:n=0
 ·exact Jr h0
 ·obtain ⟨g,rfl,hg,_⟩:=h.at' (k:=0) (by omega)
  refine Js ⟨g,0,rfl,hg,fun i hi=>?_⟩
  obtain ⟨g',e,_,hc,_⟩:=h.at' (k:=i) (by omega)
  cases e
  rw [Nat.zero_add]
  show _=some (Value.int .i64 (xs.getD i 0))
  rw [getD_at (by omega)]
  exact hc
theorem NRow.set {b0:Nat}{w:World}{g cp:Nat}{xs:List Int}(h:NRow b0 w (.slice (some ⟨g,0,none⟩) xs.length cp) xs)(k:Nat)(x:Int):NRow b0 (w.setCell ⟨g,k,none⟩ (.int .i64 x)) (.slice (some ⟨g,0,none⟩) xs.length cp) (xs.set k x):=by
 have h2:=h.row.setAt k x
 have h3:RowAt (w.setCell ⟨g,k,none⟩ (.int .i64 x)) 3 1 cellsI (.slice (some ⟨g,0,none⟩) xs.length cp) (xs.set k x):=by simpa using h2
 exact NRow.of h3 h.base
theorem cost_low {la:Nat}{A:Nat→Ar}{F:Nat→Int}{N:Int}(hA:∀ i,i<la→ArcOk N (A i))(hC:Caps la A F)(h6:la≤600):0≤cost A F la+6000000000:=by
 have h1:∀ n,n≤la→-10000000*(n:Int)≤sumN (fun i=>F i*(A i).k) n:=fun n=>by
  induction n with
  | zero=>intro _; simp [sumN]
  | succ n ih =>
   intro hn
   have:=ih (by omega)
   obtain ⟨_,_,⟨c0,c1⟩,k0,k1⟩:=hA n (by omega)
   obtain ⟨f0,f1⟩:=hC n (by omega)
   have h2:-10000000≤F n*(A n).k:=by
    have h3:F n*-10000≤F n*(A n).k:=Int.mul_le_mul_of_nonneg_left k0 f0
    omega
   show _≤sumN _ n+F n*(A n).k
   have:((n+1:Nat):Int)=n+1:=by simp
   omega
 have:=h1 la (Jb _)
 unfold cost
 omega
theorem turned_take (F:Nat→Int)(l:List Opn){j:Nat}(hj:j<l.length):turned F (l.take (j+1))=bump (turned F (l.take j)) l[j].a l[j].b:=by
 rw [List.take_succ_eq_append_getElem hj]
 unfold turned
 rw [List.foldl_append]
 rfl
theorem times_len (i:Nat)(b:Int):∀ l:List Opn,times i b l≤l.length
 | []=>by simp [times]
 | o :: l=>by
  have:=times_len i b l
  simp only [times,List.length_cons]
  split <;> omega
theorem turned_bound {la:Nat}{A:Nat→Ar}{F:Nat→Int}{l:List Opn}(ha:∀ o∈l,IsArc la A o)(i:Nat):F i - (l.length:Int)≤turned F l i∧turned F l i≤F i+(l.length:Int):=by
 rw [turned_at i ha]
 have:=times_len i 1 l
 have:=times_len i (-1) l
 omega
theorem circle_two (w:World)(p q r:Option Addr)(ls cs la ca cf:Nat)(S:Nat→Int)(A:Nat→Ar)(F:Nat→Int)(hl:1≤ls)(hn:NetOk ls ls S la A)(hA:Arcs w q la A)(hF:Ints w r la F)(hq:∀ a,q=some a→a.block<w.heap.size)(hr:∀ a,r=some a→a.block<w.heap.size) :
  Calls Try.prog 42 #[.agg #[.int .i64 ls,.slice p ls cs,.slice q la ca],.slice r la cf] w fun e w'=>∃ v1 v2,e=.returned (.tuple #[v1,v2])∧Below w.heap.size w w' ∧
   ((∃ l x,v2=.slice none 0 0∧ORow w.heap.size w' v1 l∧l≠[]∧(∀ o∈l,IsOpn la A F o)∧WalkB x l x∧(l.map Opn.t).Nodup∧ksum l<0∧CircR (opsR A F la) (some l)) ∨
    (v1=.slice none 0 0∧∃ g C,v2=.slice (some ⟨g,0,none⟩) ls ls∧w.heap.size≤g∧Nums w' g ls C∧(∀ v,v<ls→-600000≤C v∧C v≤0)∧(∀ o,IsOpn la A F o→C o.t≤C o.f+o.k)∧CircR (opsR A F la) none)):=by
 refine (circle_any w p q r ls cs la ca cf S A F hl hn hA hF hq hr).mono ?_
 rintro e w' ⟨hb,⟨v,l,x,rfl,h⟩ | ⟨g,C,rfl,h⟩⟩
 ·exact ⟨_,_,rfl,hb,Jr ⟨l,x,rfl,h⟩⟩
 ·exact ⟨_,_,rfl,hb,Js ⟨rfl,g,C,rfl,h⟩⟩
end
section
open Go.RowKit
structure LPost (w:World)(N la:Nat)(S:Nat→Int)(A:Nat→Ar)(F0:Nat→Int)(w':World)(v1:Value)(g:Nat)(fl:List Int)(C:Nat→Int):Prop where
 flow:NRow w.heap.size w' v1 fl
 len:fl.length=la
 caps:Caps la A (fun i=>fl.getD i 0)
 bal:Bal N S la A (fun i=>fl.getD i 0)
 base:w.heap.size≤g
 nums:Nums w' g N C
 bnd:∀ v,v<N→-600000≤C v∧C v≤0
 pair:∀ i,i<la→PairOk C (A i) (fl.getD i 0)
 apart:v1.ownBlock≠some g
 det:LeastR A la F0 (fun i=>fl.getD i 0)
 below:Below w.heap.size w w'
structure LRnd (W1:World)(N la:Nat)(S:Nat→Int)(A:Nat→Ar)(F0:Nat→Int)(wr:World)(v:Value)(fl:List Int):Prop where
 len:fl.length=la
 row:NRow W1.heap.size wr v fl
 caps:Caps la A (fun i=>fl.getD i 0)
 bal:Bal N S la A (fun i=>fl.getD i 0)
 below:Below W1.heap.size W1 wr
 det:TurnR A la F0 (fun i=>fl.getD i 0)
structure LIn (W1 W3:World)(la:Nat)(F:Nat→Int)(wr:World)(v u:Value)(l:List Opn)(j b0:Nat)(fl:List Int):Prop where
 len:fl.length=la
 row:NRow W1.heap.size wr v fl
 eq:(fun i=>fl.getD i 0)=turned F (l.take j)
 circ:ORow b0 wr u l
 below:Below W1.heap.size W1 wr
def S8 (ob:Nat)(a:Nat)(b:Int)(W:World):Prop:=W.cell? ⟨ob,3,none⟩=some (.int .i64 a)∧W.cell? ⟨ob,4,none⟩=some (.int .i64 b)∧ob<W.heap.size
theorem NRow.old {b0:Nat}{w:World}{p:Option Addr}{n c:Nat}{xs:List Int}(h:NRow b0 w (.slice p n c) xs):∀ a,p=some a→a.block<w.heap.size:=fun a e=>by
 rcases h.2 with ⟨e1,_⟩ | ⟨g,cap,cur,e1,_,hg,_⟩
 ·cases e1; cases e
 ·cases e1; cases e
  exact (Ja.1 hg).1
theorem set_bump' (l:List Int){j:Nat}(hj:j<l.length)(b:Int):(fun i=>(l.set j (l.getD j 0+b)).getD i 0)=bump (fun i=>l.getD i 0) j b:=by
 funext i
 unfold bump
 rw [List.getD_eq_getElem?_getD,List.getElem?_set]
 by_cases e:i=j
 ·subst e
  rw [if_pos rfl,if_pos hj,if_pos rfl]
  rfl
 ·rw [if_neg (fun q=>e q.symm),if_neg e]
  show _=l.getD i 0
  rw [List.getD_eq_getElem?_getD]
theorem least_any (w:World)(p q:Option Addr)(vf:Value)(N cs la ca b9:Nat)(S:Nat→Int)(A:Nat→Ar)(fl:List Int)(hl:1≤N)(hn:NetOk N N S la A)(hA:Arcs w q la A)(hq:∀ a,q=some a→a.block<w.heap.size)(hf:NRow b9 w vf fl)(hfl:fl.length=la)(hc:Caps la A (fun i=>fl.getD i 0))(hb:Bal N S la A (fun i=>fl.getD i 0)) :
  Calls Try.prog 24 #[.agg #[.int .i64 N,.slice p N cs,.slice q la ca],vf] w fun e w'=>∃ v1 g fl' C,e=.returned (.tuple #[v1,.slice (some ⟨g,0,none⟩) N N])∧LPost w N la S A (fun i=>fl.getD i 0) w' v1 g fl' C:=by
 have h6:la≤600:=hn.2.2.1
 obtain ⟨W1,hW1⟩:∃ W1,w.alloc (.cells #[.int .i64 N,.slice p N cs,.slice q la ca] 39)=W1:=⟨_,rfl⟩
 have b1:Below w.heap.size w W1:=by rw [← hW1]; exact (Jd _ _).alloc (Jb _) _
 have X1:W1.heap[w.heap.size]?=some (.cells #[.int .i64 N,.slice p N cs,.slice q la ca] 39):=by rw [← hW1]; exact heap_alloc_new w _
 have z1:w.heap.size<W1.heap.size:=(Ja.1 X1).1
 have A1:=hid (clone_any W1 b9 vf fl (hf.below b1) (by omega))
 have H0:=hid (Jc hW1 (Jc b1 (Jc X1 (Jc hn (Jc hA (Jc hq (Jc hfl (Jc hc hb))))))))
 clear hW1 b1 X1 hn hA hq hf hfl hc hb
 go_enter Try.func24,Try.ntmps24
 go_upto_region 1 with fail
 rw [H0.out.1]
 go_wp2_with (first
  | (go_at_call 25; refine A1.out.mono ?_; rintro e W2 ⟨v',rfl,hr2,bb2⟩; obtain ⟨p2,c2,rfl⟩:=hr2.sl; have H2:=hid (Jc hr2 bb2); clear hr2 bb2)
  | fail)
 rw [H0.out.2.2.2.2.2.2.1]
 go_loopg [4] (cost A (fun i=>fl.getD i 0) la+6000000000).toNat (fun gk v4 wr=>v4=.slice p2 la c2∧∃ fl1:List Int,(cost A (fun i=>fl1.getD i 0) la+6000000000).toNat≤gk∧Hid (LRnd W1 N la S A (fun i=>fl.getD i 0) wr (.slice p2 la c2) fl1))
 case atStart=>exact ⟨rfl,fl,Jb _,(show LRnd W1 N la S A (fun i=>fl.getD i 0) _ _ fl from ⟨H0.out.2.2.2.2.2.2.1,by have:=H2.out.1; rw [H0.out.2.2.2.2.2.2.1] at this; exact this,H0.out.2.2.2.2.2.2.2.1,H0.out.2.2.2.2.2.2.2.2,H2.out.2,TurnR.refl⟩)⟩
 case' round=>skip
 clear H2 A1
 obtain ⟨rfl,fl1,hgk,H1⟩:=hrel
 rename World=>Z0
 have X2:Z0.heap[w.heap.size]?=some (.cells #[.int .i64 N,.slice p N cs,.slice q la ca] 39):=(H1.out.below.block _ z1).trans H0.out.2.2.1
 have k0:=cellC X2 0
 have k1:=cellC X2 1
 have k2:=cellC X2 2
 simp only [Jg,Jf,Je] at k0 k1 k2
 have kz:w.heap.size<Z0.heap.size:=(Ja.1 X2).1
 have A2:=hid (circle_two Z0 p q p2 N cs la ca c2 S A (fun i=>fl1.getD i 0) hl H0.out.2.2.2.1 ((H0.out.2.2.2.2.1.below H0.out.2.1).below H1.out.below) (H1.out.row.ints H1.out.len.symm) (fun a e=>Jm (H0.out.2.2.2.2.2.1 a e) (by omega)) H1.out.row.old)
 clear X2
 go_upto_region 3 with (first
  | (go_at_call 42; refine A2.out.mono ?_; rintro e W3 ⟨v1,v2,rfl,bb3,hcase⟩)
  | fail)
 rcases hcase with ⟨l,x,rfl,hor,hne,hop,hwk,hnd,hks,hcr⟩ | ⟨rfl,g,C,rfl,hg,hnum,hbd,hpr,hcr⟩
 ·obtain ⟨p3,c3,rfl⟩:=hor.sl
  have hl0:0<l.length:=List.length_pos_iff.2 hne
  have hlI:¬ ((l.length:Int)=0):=by omega
  have hlm:l.length≤60:=by
   have h1:=few_of_nodup N (l.map Opn.t) hnd (fun x hx=>by
    obtain ⟨o,ho,rfl⟩:=List.mem_map.1 hx
    have h2:=hop o ho
    obtain ⟨⟨f0,f1⟩,⟨t0,t1⟩,_⟩:=H0.out.2.2.2.1.2.2.2.2 o.a h2.1
    rcases h2.2 with ⟨_,_,_,h3,_⟩ | ⟨_,_,_,h3,_⟩ <;> omega)
   have h2:=H0.out.2.2.2.1.1.2
   rw [Jv] at h1
   omega
  have hlb:((l.length:Int) == 0)=false:=by simpa using hlI
  have H3:=hid (Jc hor (Jc bb3 (Jc hop (Jc hwk (Jc hnd hks)))))
  have HCR:=hid hcr
  have hz3:Z0.heap.size≤W3.heap.size:=bb3.size
  clear hor bb3 hop hwk hnd hks hne hcr A2 k0 k1 k2
  go_wp2_with fail
  go_loopg [25] l.length (fun gk2 iv wr=>∃ (j:Nat) (fl2:List Int),j≤l.length∧l.length - j≤gk2∧iv=.int .i64 j∧Hid (LIn W1 W3 la (fun i=>fl1.getD i 0) wr (.slice p2 la c2) (.slice p3 l.length c3) l j Z0.heap.size fl2))
  case atStart=>exact ⟨0,fl1,Jq _,Jb _,rfl,(show LIn W1 W3 la _ _ _ _ l 0 _ fl1 from ⟨H1.out.len,H1.out.row.below H3.out.2.1,rfl,H3.out.1,H1.out.below.trans (H3.out.2.1.mono H1.out.below.size)⟩)⟩
  case' round=>skip
  obtain ⟨j,fl2,hj,hgk2,rfl,H4⟩:=hrel
  rename World=>Z
  by_cases hlt:j<l.length
  ·obtain ⟨g3,rfl,hg3,hg3z,m0,m1,m2,m3,m4⟩:=H4.out.circ.at hlt
   have hjI:(j:Int)<(l.length:Int):=by omega
   have hoj:=H3.out.2.2.1 _ (Jl hlt)
   have ha:l[j].a<la:=hoj.1
   have haI:((l[j].a:Nat):Int)<(la:Int):=by omega
   obtain ⟨gf,rfl,hgf,f0,ff⟩:=H4.out.row.at' (k:=l[j].a) (by rw [H4.out.len]; exact ha)
   have hgf0:gf<Z0.heap.size:=H1.out.row.old _ rfl
   have hbnd:=turned_bound (la:=la) (A:=A) (F:=fun i=>fl1.getD i 0) (l:=l.take j) (fun o ho=>(H3.out.2.2.1 o (List.mem_of_mem_take ho)).arc) l[j].a
   have hval:turned (fun i=>fl1.getD i 0) (l.take j) l[j].a=fl2[l[j].a]'(by rw [H4.out.len]; exact ha):=by
    have:=congrFun H4.out.eq l[j].a
    rw [← this]
    exact getD_at (by rw [H4.out.len]; exact ha) 0
   have hF1:0≤fl1.getD l[j].a 0∧fl1.getD l[j].a 0≤1000:=by
    have h1:=H1.out.caps l[j].a ha
    have h2:=(H0.out.2.2.2.1.2.2.2.2 l[j].a ha).2.2.1
    have h3:fl1.getD l[j].a 0≤(A l[j].a).c:=h1.2
    exact ⟨h1.1,by omega⟩
   rw [hval,List.length_take] at hbnd
   have hb1:l[j].b=1∨l[j].b=-1:=hoj.2.imp (fun q=>q.2.1) (fun q=>q.2.1)
   obtain ⟨ov,hov⟩:∃ ov,fl2[l[j].a]'(by rw [H4.out.len]; exact ha)=ov:=⟨_,rfl⟩
   rw [hov] at f0 hbnd
   have hovb:-100000≤ov∧ov≤100000:=by omega
   have hbb:-1≤l[j].b∧l[j].b≤1:=by omega
   have hwr:IntKind.i64.wrap (ov+l[j].b)=ov+l[j].b:=wrap_mid (by omega) (by omega)
   obtain ⟨Z1,hZ1⟩:∃ Z1,Z.alloc (.cells #[.int .i64 l[j].f,.int .i64 l[j].t,.int .i64 l[j].k,.int .i64 l[j].a,.int .i64 l[j].b] 99)=Z1:=⟨_,rfl⟩
   have bz:Below Z.heap.size Z Z1:=by rw [← hZ1]; exact (Jd _ _).alloc (Jb _) _
   have Y1:Z1.heap[Z.heap.size]?=some (.cells #[.int .i64 l[j].f,.int .i64 l[j].t,.int .i64 l[j].k,.int .i64 l[j].a,.int .i64 l[j].b] 99):=by rw [← hZ1]; exact heap_alloc_new Z _
   have y0:Z.heap.size<Z1.heap.size:=(Ja.1 Y1).1
   have hS0:S8 Z.heap.size l[j].a l[j].b Z1.drew:=⟨by have:=cellC Y1 3; simpa using this,by have:=cellC Y1 4; simpa using this,y0⟩
   have f0':Z1.cell? ⟨gf,l[j].a,none⟩=some (.int .i64 ov):=(bz.cell (p:=⟨gf,l[j].a,none⟩) hgf).trans f0
   have ff':Z1.frozen? ⟨gf,l[j].a,none⟩=false:=by
    have:=bz.block gf hgf
    unfold World.frozen? at ff ⊢
    rw [this]
    exact ff
   have hgf1:gf<Z1.heap.size:=by omega
   have hS1:S8 Z.heap.size l[j].a l[j].b (Z1.setCell ⟨gf,l[j].a,none⟩ (.int .i64 (ov+l[j].b))).drew:=by
    have hg:=grown_setCell Z1 ⟨gf,l[j].a,none⟩ (.int .i64 (ov+l[j].b))
    have h1:Z1.cell? ⟨Z.heap.size,3,none⟩=some (.int .i64 l[j].a):=hS0.1
    have h2:Z1.cell? ⟨Z.heap.size,4,none⟩=some (.int .i64 l[j].b):=hS0.2.1
    have h3:(Z1.setCell ⟨gf,l[j].a,none⟩ (.int .i64 (ov+l[j].b))).cell? ⟨Z.heap.size,3,none⟩=some (.int .i64 l[j].a):=hg.cell h1 (fun e=>by simp at e; omega)
    have h4:(Z1.setCell ⟨gf,l[j].a,none⟩ (.int .i64 (ov+l[j].b))).cell? ⟨Z.heap.size,4,none⟩=some (.int .i64 l[j].b):=hg.cell h2 (fun e=>by simp at e; omega)
    exact ⟨h3,h4,Jm y0 hg.size⟩
   have fin:LIn W1 W3 la (fun i=>fl1.getD i 0) (Z1.setCell ⟨gf,l[j].a,none⟩ (.int .i64 (ov+l[j].b))).drew (.slice (some ⟨gf,0,none⟩) la c2) (.slice (some ⟨g3,0,none⟩) l.length c3) l (j+1) Z0.heap.size (fl2.set l[j].a (ov+l[j].b)):=by
    have hg:=grown_setCell Z1 ⟨gf,l[j].a,none⟩ (.int .i64 (ov+l[j].b))
    have hr:=H4.out.row.below bz
    have hlen:=H4.out.len
    have bd:Below (Z1.setCell ⟨gf,l[j].a,none⟩ (.int .i64 (ov+l[j].b))).heap.size (Z1.setCell ⟨gf,l[j].a,none⟩ (.int .i64 (ov+l[j].b))) (Z1.setCell ⟨gf,l[j].a,none⟩ (.int .i64 (ov+l[j].b))).drew:=(Jd _ _).drew
    refine ⟨by rw [List.length_set]; exact hlen,?_,?_,(((H4.out.circ.below bz).kept hg (Js (fun e=>by have e':some g3=some gf:=e; injection e' with e''; omega))).below bd),?_⟩
    ·have h3:NRow W1.heap.size Z1 (.slice (some ⟨gf,0,none⟩) fl2.length c2) fl2:=by rw [hlen]; exact hr
     have h4:=h3.set l[j].a (ov+l[j].b)
     rw [hlen] at h4
     exact h4.below bd
    ·rw [turned_take _ l hlt,← H4.out.eq]
     have h5:=set_bump' fl2 (j:=l[j].a) (by rw [hlen]; exact ha) l[j].b
     rw [getD_at (by rw [hlen]; exact ha),hov] at h5
     exact h5
    ·have hb2:Below W1.heap.size W1 Z1:=H4.out.below.trans (bz.mono H4.out.below.size)
     have hgW:W1.heap.size≤gf:=H1.out.row.base gf rfl
     have hb3:Below W1.heap.size W1 (Z1.setCell ⟨gf,l[j].a,none⟩ (.int .i64 (ov+l[j].b))):=hb2.setCell (p:=⟨gf,l[j].a,none⟩) hgW _
     exact hb3.drew
   have HZ:=hid (Jc hZ1 fin)
   clear hZ1 fin Y1 bz hov hval hbnd hoj hb1 f0 ff hF1
   go_upto_region 8 with fail
   rw [HZ.out.1]
   refine wp_region_held_drew (S:=S8 Z.heap.size l[j].a l[j].b) (by kernel_rfl) hS0 (fun _=>?_)
   refine tkH (v:=?_) 0 29 hS0 ?_ ?_; rotate_left 1
   ·(rintro w' ⟨e1,e2,e3⟩; go_simp; try with_reducible rfl)
   simp only [Act.put,Jh,Ji,Jj]
   refine tkH (v:=?_) 1 30 hS0 ?_ ?_; rotate_left 1
   ·(rintro w' ⟨e1,e2,e3⟩; go_simp; try with_reducible rfl)
   simp only [Act.put,Jh,Ji,Jj]
   refine tkH (v:=?_) 2 31 hS0 ?_ ?_; rotate_left 1
   ·(rintro w' ⟨e1,e2,e3⟩; go_simp; try with_reducible rfl)
   simp only [Act.put,Jh,Ji,Jj]
   refine tkH (v:=?_) 3 32 hS0 ?_ ?_; rotate_left 1
   ·(rintro w' ⟨e1,e2,e3⟩; go_simp; try with_reducible rfl)
   simp only [Act.put,Jh,Ji,Jj]
   refine tkH (v:=?_) 5 34 hS0 ?_ ?_; rotate_left 1
   ·(rintro w' ⟨e1,e2,e3⟩; go_simp; try with_reducible rfl)
   simp only [Act.put,Jh,Ji,Jj]
   refine tkH (v:=?_) 6 35 hS0 ?_ ?_; rotate_left 1
   ·(rintro w' ⟨e1,e2,e3⟩; go_simp; try with_reducible rfl)
   simp only [Act.put,Jh,Ji,Jj]
   refine wpAnyH_ready (rs:=[4]) (by kernel_rfl) (by simp) ?_
   refine AllReadyH.cons rfl (fun K hK=>?_) AllReadyH.nil
   go_simp
   refine hK.out _ _ hS0 (fun _=>?_)
   clear hK K
   refine tkH (v:=?_) 7 36 hS0 ?_ ?_; rotate_left 1
   ·(rintro w' ⟨e1,e2,e3⟩; go_simp; try with_reducible rfl)
   simp only [Act.put,Jh,Ji,Jj]
   refine tkH (v:=?_) 8 37 hS0 ?_ ?_; rotate_left 1
   ·(rintro w' ⟨e1,e2,e3⟩; go_simp; try with_reducible rfl)
   simp only [Act.put,Jh,Ji,Jj]
   refine wpAnyH_ready (rs:=[9]) (by kernel_rfl) (by simp) ?_
   refine AllReadyH.cons rfl (fun K hK=>?_) AllReadyH.nil
   go_simp
   refine hK.out _ _ hS1 (fun _=>?_)
   clear hK K
   refine wpAnyH_done (by kernel_rfl) ?_ _
   go_wp2_with fail
   go_roundg (l.length - (j+1))
   case measure=>omega
   case rel=>exact ⟨j+1,_,by omega,Jb _,by go_num,HZ.out.2⟩
  ·obtain rfl:j=l.length:=by omega
   have hflow:=flow_turned H1.out.caps H1.out.bal H3.out.2.2.1 H3.out.2.2.2.1 H3.out.2.2.2.2.1
   have heq:=H4.out.eq
   rw [List.take_length] at heq
   rw [← heq] at hflow
   have hlow:=cost_low (N:=N) H0.out.2.2.2.1.2.2.2.2 hflow.1 h6
   have hks:=H3.out.2.2.2.2.2
   have hco:=hflow.2.2
   have H5:=hid (show LRnd W1 N la S A (fun i=>fl.getD i 0) Z (.slice p2 la c2) fl2 from ⟨H4.out.len,H4.out.row,hflow.1,hflow.2.1,H4.out.below,by rw [heq]; exact H1.out.det.snoc HCR.out⟩)
   have hme:(cost A (fun i=>fl2.getD i 0) la+6000000000).toNat<(cost A (fun i=>fl1.getD i 0) la+6000000000).toNat:=by omega
   clear hflow heq hlow hks hco
   go_wp2_with fail
   go_roundg (cost A (fun i=>fl2.getD i 0) la+6000000000).toNat
   case measure=>omega
   case rel=>exact ⟨rfl,fl2,Jb _,H5.out⟩
 ·have hpair:=pair_of (N:=N) (la:=la) (A:=A) (F:=fun i=>fl1.getD i 0) (C:=C) H0.out.2.2.2.1.2.2.2.2 hpr
  have H5:=hid (show LPost w N la S A (fun i=>fl.getD i 0) W3 (.slice p2 la c2) g fl1 C from ⟨NRow.of (H1.out.row.below bb3).row (fun b e=>Nat.le_trans H0.out.2.1.size (H1.out.row.base b e)),H1.out.len,H1.out.caps,H1.out.bal,by omega,hnum,hbd,hpair,fun e=>by
   have:=H1.out.row.lt g e
   omega,H1.out.det.least (LeastR.done hcr),(H0.out.2.1.trans (H1.out.below.mono H0.out.2.1.size)).trans (bb3.mono (by omega))⟩)
  clear hpair hnum hbd hpr hcr bb3 A2 k0 k1 k2 hg
  go_wp2_with fail
  go_ret2
  exact ⟨_,g,fl1,C,rfl,H5.out⟩
end
section
open Go.RowKit
structure SPost (w:World)(pb b0 b1 b2 b3:Nat)(l0:Things)(l3:Prefs)(R:RSt)(w':World)(P:Nat→Nat)(q:Nat→Int)(m1:Runs)(m2:Waits)(vs va vf:Value)(g:Nat)(fl:List Int)(C:Nat→Int):Prop where
 found:Found R (fun i=>fl.getD i 0) P q (pcost (cR R) P R.t3.length)
 plan:PlanAt w' pb b0 b1 b2 b3 l0 m1 m2 l3
 sim:Sim l0 m1 m2 l3 (Rn R P R.t3.length)
 cells:PCellsL w' pb b0 b1 b2 b3 (.int .i64 (nodesR R)) vs va vf (.slice (some ⟨g,0,none⟩) (nodesR R) (nodesR R))
 last:LastAt w.heap.size w' R vs va vf g fl C
 apart:vs.ownBlock≠some g∧vf.ownBlock≠some g∧(vs.ownBlock=none∨vs.ownBlock≠vf.ownBlock)
 only:Only [pb,b0,b1,b2,b3] w w'
 det:SolR R P
def S2 (cb:Nat)(N:Nat)(vs va vf:Value)(W:World):Prop:=W.cell? ⟨cb,0,none⟩=some (.int .i64 N)∧W.cell? ⟨cb,1,none⟩=some vs∧W.cell? ⟨cb,2,none⟩=some va∧W.cell? ⟨cb,3,none⟩=some vf∧cb<W.heap.size
theorem S2.of {B:Nat}{W:World}{cb mb:Nat}{c:Ch}{N:Nat}(h:Chart B W cb mb c)(hN:c.N=(N:Int)):S2 cb N c.vs c.va c.vf W:=⟨by rw [h.c0,hN],h.c1,h.c2,h.c3,h.lt⟩
def S9 (bx:Nat)(a b:Int)(W:World):Prop:=W.cell? ⟨bx,0,none⟩=some (.int .i64 a)∧W.cell? ⟨bx,1,none⟩=some (.int .i64 b)∧bx<W.heap.size
theorem five {w:World}{pb b0 b1 b2 b3:Nat}{l0:Things}{l1:Runs}{l2:Waits}{l3:Prefs}(h:PlanAt w pb b0 b1 b2 b3 l0 l1 l2 l3)(s0 s1 s2 s3 s4:Value)(W:World)(hW:((((w.setCell ⟨pb,4,none⟩ s0).setCell ⟨pb,5,none⟩ s1).setCell ⟨pb,6,none⟩ s2).setCell ⟨pb,7,none⟩ s3).setCell ⟨pb,8,none⟩ s4=W) :
  PlanAt W pb b0 b1 b2 b3 l0 l1 l2 l3∧PCellsL W pb b0 b1 b2 b3 s0 s1 s2 s3 s4∧Only [pb] w W∧W.heap.size=w.heap.size:=by
 obtain ⟨t0,t1,t2,t3,t4,hc⟩:=h.cells
 have c1:=heap_setCell hc 4 s0
 have c2:=heap_setCell c1 5 s1
 have c3:=heap_setCell c2 6 s2
 have c4:=heap_setCell c3 7 s3
 have c5:=heap_setCell c4 8 s4
 rw [hW] at c5
 have e5:PCellsL W pb b0 b1 b2 b3 s0 s1 s2 s3 s4:=c5
 have o1:∀ (v:World) (i:Nat) (x:Value),Only [pb] v (v.setCell ⟨pb,i,none⟩ x):=fun v i x=>Only.of_grown' (grown_setCell v _ _) (fun b e=>by cases e; simp)
 have ho:Only [pb] w W:=by rw [← hW]; exact ((((o1 _ _ _).trans (o1 _ _ _)).trans (o1 _ _ _)).trans (o1 _ _ _)).trans (o1 _ _ _)
 obtain ⟨p1,p2,p3,p4⟩:=h.pne
 have mv:∀ b,b<w.heap.size→pb≠b→W.heap[b]?=w.heap[b]?:=fun b hb hne=>ho.block b hb (fun q=>hne (List.mem_singleton.1 q).symm)
 exact ⟨⟨⟨_,_,_,_,_,e5⟩,h.m0.of_block (mv _ h.m0.lt p1),h.m1.of_block (mv _ h.m1.lt p2),h.m2.of_block (mv _ h.m2.lt p3),h.m3.of_block (mv _ h.m3.lt p4),h.ne⟩,e5,ho,by rw [← hW]; simp⟩
section
variable {w:World}{pb b0 b1 b2 b3:Nat}{l0:Things}{l1:Runs}{l2:Waits}{l3:Prefs}{R:RSt}
theorem solve_any (hs:Sim l0 l1 l2 l3 R)(hp:PlanAt w pb b0 b1 b2 b3 l0 l1 l2 l3) :
  Calls Try.prog 7 #[.pointer (some ⟨pb,0,none⟩)] w fun e w'=>∃ P q m1 m2 vs va vf g fl C,e=.returned (.int .i64 (pcost (cR R) P R.t3.length))∧SPost w pb b0 b1 b2 b3 l0 l3 R w' P q m1 m2 vs va vf g fl C:=by
 have hlow:=hp.lts
 have A1:=hid (chart_any hs hp hlow)
 have hpb:pb<w.heap.size:=hp.lt
 have hl3:=th_le R 3
 have H0:=hid (Jc hs (Jc hp hlow))
 clear hs hp hlow
 go_enter Try.func7,Try.ntmps7
 go_upto_region 2 with (first
  | (go_at_call 23; refine A1.out.mono ?_; rintro e W1 ⟨cb,mb,c,rfl,hC,hD,bb1⟩)
  | fail)
 clear A1
 have hU:=hD.used
 have HBG:=hid hD.bg
 have hNF:NetFlow R (nodesR R) (fun i=>c.fl.getD i 0):=hD.beg.flow H0.out.1.fit H0.out.1.fits (fun y hy=>oK_end H0.out.1.fit hy) (netN_nodes R)
 have eN:c.N=(nodesR R:Int):=by rw [nodesR_len H0.out.1.fit]; exact hD.N
 have eS:c.sup=intL (nodesR R) (supN R):=hD.supE H0.out.1.fit
 obtain ⟨ps,cs,evs⟩:∃ p q,c.vs=.slice p (nodesR R) q:=by
  obtain ⟨p,q,e⟩:=hC.sup.sl
  rw [eS,intL_length] at e
  exact ⟨p,q,e⟩
 obtain ⟨pa,ca,eva⟩:∃ p q,c.va=.slice p (netR R).length q:=by
  obtain ⟨p,q,e⟩:=hC.arcs.sl
  rw [hU.al] at e
  exact ⟨p,q,e⟩
 obtain ⟨pf,cf,evf⟩:∃ p q,c.vf=.slice p (netR R).length q:=by
  obtain ⟨p,q,e⟩:=hC.flow.sl
  rw [hU.fl] at e
  exact ⟨p,q,e⟩
 have C1:=hC.keep ((Jd _ _).drew:Below W1.heap.size W1 W1.drew)
 have hS0:S2 cb (nodesR R) (.slice ps (nodesR R) cs) (.slice pa (netR R).length ca) (.slice pf (netR R).length cf) W1.drew:=by
  have:=S2.of C1 eN
  rw [evs,eva,evf] at this
  exact this
 have rA:ARow w.heap.size W1.drew (.slice pa (netR R).length ca) (netR R):=by have:=C1.arcs; rw [eva,hU.al] at this; exact this
 have rF:NRow w.heap.size W1.drew (.slice pf (netR R).length cf) c.fl:=by have:=C1.flow; rw [evf] at this; exact this
 have A2:=hid (least_any W1.drew ps pa (.slice pf (netR R).length cf) (nodesR R) cs (netR R).length ca w.heap.size (supN R) (arcN R) c.fl (by have:=(nodesR_eq R).2; omega) (net_ok H0.out.1.fits H0.out.1.fit.len0) (rA.arcs rfl) rA.old rF hU.fl hNF.caps hNF.bal)
 have H1:=hid (Jc hC (Jc hU (Jc hNF (Jc eS (Jc evs (Jc eva (Jc evf (Jc eN bb1))))))))
 obtain ⟨nn,hnn⟩:∃ nn,nodesR R=nn:=⟨_,rfl⟩
 obtain ⟨la,hla⟩:∃ la,(netR R).length=la:=⟨_,rfl⟩
 rw [hnn,hla] at A2 hS0
 have HN:=hid (Jc hnn hla)
 have hpw:pb<W1.heap.size:=Jm hpb bb1.size
 clear hC hU hNF eN eS evs eva evf C1 rA rF bb1 hD hnn hla
 refine wp_region_held_drew (S:=S2 cb nn (.slice ps nn cs) (.slice pa la ca) (.slice pf la cf)) (by kernel_rfl) hS0 (fun _=>?_)
 refine tkH (v:=?_) 0 12 hS0 ?_ ?_; rotate_left 1
 ·(rintro w' ⟨e1,e2,e3,e4,e5⟩; go_simp; try with_reducible rfl)
 simp only [Act.put,Jh,Ji,Jj]
 refine tkH (v:=?_) 1 13 hS0 ?_ ?_; rotate_left 1
 ·(rintro w' ⟨e1,e2,e3,e4,e5⟩; go_simp; try with_reducible rfl)
 simp only [Act.put,Jh,Ji,Jj]
 refine tkH (v:=?_) 2 14 hS0 ?_ ?_; rotate_left 1
 ·(rintro w' ⟨e1,e2,e3,e4,e5⟩; go_simp; try with_reducible rfl)
 simp only [Act.put,Jh,Ji,Jj]
 refine tkH (v:=?_) 3 15 hS0 ?_ ?_; rotate_left 1
 ·(rintro w' ⟨e1,e2,e3,e4,e5⟩; go_simp; try with_reducible rfl)
 simp only [Act.put,Jh,Ji,Jj]
 refine tkH (v:=?_) 4 16 hS0 ?_ ?_; rotate_left 1
 ·(rintro w' ⟨e1,e2,e3,e4,e5⟩; go_simp; try with_reducible rfl)
 simp only [Act.put,Jh,Ji,Jj]
 refine tkH (v:=?_) 5 17 hS0 ?_ ?_; rotate_left 1
 ·(rintro w' ⟨e1,e2,e3,e4,e5⟩; go_simp; try with_reducible rfl)
 simp only [Act.put,Jh,Ji,Jj]
 refine tkH (v:=?_) 6 18 hS0 ?_ ?_; rotate_left 1
 ·(rintro w' ⟨e1,e2,e3,e4,e5⟩; go_simp; try with_reducible rfl)
 simp only [Act.put,Jh,Ji,Jj]
 refine tkH (v:=?_) 7 19 hS0 ?_ ?_; rotate_left 1
 ·(rintro w' ⟨e1,e2,e3,e4,e5⟩; go_simp; try with_reducible rfl)
 simp only [Act.put,Jh,Ji,Jj]
 refine wpAnyH_ready (rs:=[8]) (by kernel_rfl) (by simp) ?_
 refine AllReadyH.cons rfl (fun K hK=>?_) AllReadyH.nil
 go_simp
 refine A2.out.mono ?_
 rintro e W2 ⟨v1,g,fl,C,rfl,hL⟩
 obtain ⟨p1,c1,rfl⟩:∃ p c,v1=.slice p la c:=by obtain ⟨p,c,e⟩:=hL.flow.sl; rw [hL.len] at e; exact ⟨p,c,e⟩
 have hS2:S2 cb nn (.slice ps nn cs) (.slice pa la ca) (.slice pf la cf) W2:=⟨(hL.below.cell (p:=⟨cb,0,none⟩) hS0.2.2.2.2).trans hS0.1,(hL.below.cell (p:=⟨cb,1,none⟩) hS0.2.2.2.2).trans hS0.2.1,(hL.below.cell (p:=⟨cb,2,none⟩) hS0.2.2.2.2).trans hS0.2.2.1,(hL.below.cell (p:=⟨cb,3,none⟩) hS0.2.2.2.2).trans hS0.2.2.2.1,Jm hS0.2.2.2.2 hL.below.size⟩
 refine hK.out _ _ hS2 (fun _=>?_)
 clear hK K
 refine tkH (v:=?_) 9 11 hS2 ?_ ?_; rotate_left 1
 ·(rintro w' ⟨e1,e2,e3,e4,e5⟩; go_simp; try with_reducible rfl)
 simp only [Act.put,Jh,Ji,Jj]
 refine tkH (v:=?_) 10 21 hS2 ?_ ?_; rotate_left 1
 ·(rintro w' ⟨e1,e2,e3,e4,e5⟩; go_simp; try with_reducible rfl)
 simp only [Act.put,Jh,Ji,Jj]
 refine tkH (v:=?_) 11 22 hS2 ?_ ?_; rotate_left 1
 ·(rintro w' ⟨e1,e2,e3,e4,e5⟩; go_simp; try with_reducible rfl)
 simp only [Act.put,Jh,Ji,Jj]
 refine tkH (v:=?_) 12 4 hS2 ?_ ?_; rotate_left 1
 ·(rintro w' ⟨e1,e2,e3,e4,e5⟩; go_simp; try with_reducible rfl)
 simp only [Act.put,Jh,Ji,Jj]
 refine tkH (v:=?_) 13 5 hS2 ?_ ?_; rotate_left 1
 ·(rintro w' ⟨e1,e2,e3,e4,e5⟩; go_simp; try with_reducible rfl)
 simp only [Act.put,Jh,Ji,Jj]
 refine wpAnyH_done (by kernel_rfl) ?_ _
 have HL:=hid hL
 have hS3:=hS2
 clear hL hS0 hS2 A2
 obtain ⟨x0,x1,x2,x3,xz⟩:=hS3
 have P2:=((H0.out.2.1.below H1.out.2.2.2.2.2.2.2.2).drew).below HL.out.below
 obtain ⟨t0,t1,t2,t3,t4,hcl⟩:=P2.cells
 have y4:=cellC hcl 4
 have y5:=cellC hcl 5
 have y6:=cellC hcl 6
 have y7:=cellC hcl 7
 have y8:=cellC hcl 8
 simp only [Jg,Jf,Je] at y4 y5 y6 y7 y8
 have f4:=frozenC hcl 4
 have f5:=frozenC hcl 5
 have f6:=frozenC hcl 6
 have f7:=frozenC hcl 7
 have f8:=frozenC hcl 8
 have hpw2:pb<W2.heap.size:=P2.lt
 obtain ⟨W3,hW3⟩:∃ W3,((((W2.setCell ⟨pb,4,none⟩ (.int .i64 nn)).setCell ⟨pb,5,none⟩ (.slice ps nn cs)).setCell ⟨pb,6,none⟩ (.slice pa la ca)).setCell ⟨pb,7,none⟩ (.slice p1 la c1)).setCell ⟨pb,8,none⟩ (.slice (some ⟨g,0,none⟩) nn nn)=W3:=⟨_,rfl⟩
 obtain ⟨P3,L3,O3,z3⟩:=five P2 _ _ _ _ _ W3 hW3
 have C2:=((H1.out.1.keep ((Jd _ _).drew:Below W1.heap.size W1 W1.drew)).keep HL.out.below)
 have hpoff:pb∉c.foot cb mb:=fun q=>by have:=(H1.out.1.foots pb q).1; omega
 have C3:=C2.move (fun b hm=>O3.block b (C2.foots b hm).2 (fun q=>hpoff (by rw [List.mem_singleton.1 q] at hm; exact hm)))
 have rF3:NRow w.heap.size W3 (.slice p1 la c1) fl:=owns_move (NRow.of HL.out.flow.row (fun b e=>Nat.le_trans (Nat.le_trans H1.out.2.2.2.2.2.2.2.2.size (Jb _)) (HL.out.flow.base b e))) (fun b e=>O3.block b (HL.out.flow.lt b e) (fun q=>by
  have h1:=HL.out.flow.base b e
  have h2:b=pb:=by simpa using q
  have h3:W1.heap.size≤b:=h1
  omega))
 have g3:W3.heap[g]?=W2.heap[g]?:=O3.block g ((Ja.1 HL.out.nums).1) (fun q=>by
  have h2:g=pb:=by simpa using q
  have h3:W1.heap.size≤g:=HL.out.base
  omega)
 have A3:=hid (clone_any W3 w.heap.size (.slice p1 la c1) fl rF3 (by rw [HL.out.len]; have:=(net_len H0.out.1.fits H0.out.1.fit.len0); rw [HN.out.2] at this; omega))
 have H3:=hid (Jc hW3 (Jc P3 (Jc L3 (Jc O3 (Jc C3 (Jc rF3 (Jc g3 z3)))))))
 have hz12:W1.heap.size≤W2.heap.size:=HL.out.below.size
 clear hW3 P3 L3 O3 z3 C2 C3 rF3 g3 P2 hcl
 go_upto_region 4 with fail
 rw [H3.out.1]
 clear x0 x1 x2 x3 xz y4 y5 y6 y7 y8 f4 f5 f6 f7 f8
 go_upto_region 5 with (first
  | (go_at_call 25; refine A3.out.mono ?_; rintro e W4 ⟨v4,rfl,hr4,bb4⟩; obtain ⟨p4,c4,rfl⟩:=hr4.sl; have C4:=H3.out.2.2.2.2.1.keep bb4; have k3:=C4.c3; have kf:=C4.fz 3; have kz:=C4.lt)
  | fail)
 have hr4':=hr4
 rw [HL.out.len] at hr4'
 rw [HL.out.len]
 obtain ⟨W5,hW5⟩:∃ W5,W4.setCell ⟨cb,3,none⟩ (.slice p4 la c4)=W5:=⟨_,rfl⟩
 have gS:=grown_setCell W4 ⟨cb,3,none⟩ (.slice p4 la c4)
 have C5:Chart w.heap.size W5 cb mb { c with vf:=.slice p4 la c4,fl:=fl }:=by
  rw [← hW5]
  refine Chart.wrote (c:=c) (c':={ c with vf:=.slice p4 la c4,fl:=fl }) C4.cells 3 (.slice p4 la c4) rfl C4.sup C4.arcs (NRow.of hr4'.row (fun b e=>?_)) C4.things C4.nodes ?_ C4.lb
  ·have h1:=hr4'.base b e
   have h2:=H1.out.2.2.2.2.2.2.2.2.size
   have h3:=H3.out.2.2.2.2.2.2.2
   omega
  ·cases hq:c.vs.ownBlock with
   | none=>exact Jr rfl
   | some b=>exact Js (fun q=>by
     have h1:=hr4'.base b (by exact q.symm)
     have h2:=H3.out.2.2.2.2.1.sup.lt b hq
     omega)
 have bS:∀ b,b<W4.heap.size→b≠cb→W5.heap[b]?=W4.heap[b]?:=fun b hb hne=>by rw [← hW5]; exact gS.block b hb (fun e=>hne (by simpa using e))
 have hcb:w.heap.size≤cb:=H1.out.1.lb.1
 have z5:W5.heap.size=W4.heap.size:=by rw [← hW5]; simp
 have z4:=bb4.size
 have z3:=H3.out.2.2.2.2.2.2.2
 have hlow:=H0.out.2.2
 have P5:PlanAt W5 pb b0 b1 b2 b3 l0 l1 l2 l3:=(H3.out.2.1.below bb4).move (fun b hm=>bS b (by have:=hlow b hm; have:=H1.out.2.2.2.2.2.2.2.2.size; omega) (fun e=>by have:=hlow b hm; omega))
 have hcW:cb<W1.heap.size:=H1.out.1.lt
 have hgW:W1.heap.size≤g:=HL.out.base
 have hgl:g<W2.heap.size:=(Ja.1 HL.out.nums).1
 have g5:W5.heap[g]?=W2.heap[g]?:=((bS g (by omega) (by omega)).trans (bb4.block g (by omega))).trans H3.out.2.2.2.2.2.2.1
 have L5:PCellsL W5 pb b0 b1 b2 b3 (.int .i64 nn) (.slice ps nn cs) (.slice pa la ca) (.slice p1 la c1) (.slice (some ⟨g,0,none⟩) nn nn):=((bS pb (by have:=H1.out.2.2.2.2.2.2.2.2.size; omega) (by omega)).trans (bb4.block pb (by have:=H1.out.2.2.2.2.2.2.2.2.size; omega))).trans H3.out.2.2.1
 have rF5:NRow w.heap.size W5 (.slice p1 la c1) fl:=owns_move (H3.out.2.2.2.2.2.1.below bb4) (fun b e=>bS b ((H3.out.2.2.2.2.2.1.below bb4).lt b e) (fun q=>by
  have h1:W1.heap.size≤b:=HL.out.flow.base b e
  omega))
 have hO:Only [pb,b0,b1,b2,b3] w W5:=by
  have s1:=H1.out.2.2.2.2.2.2.2.2
  have o1:Only [pb,b0,b1,b2,b3] w W2:=(Only.of_below s1).drew.trans (Only.of_below HL.out.below)
  have o2:=o1.trans (H3.out.2.2.2.1.mono (fun b hb=>by simp at hb; simp [hb]))
  have o3:=o2.trans (Only.of_below bb4)
  exact o3.chain (S':=[cb]) (by rw [← hW5]; exact Only.of_grown' gS (fun b e=>by cases e; simp)) (fun b hb=>Js (by simp at hb; omega))
 have hoff:∀ b∈pb :: g :: (Value.slice p1 la c1).ownBlock.toList,b∉({ c with vf:=.slice p4 la c4,fl:=fl }:Ch).foot cb mb∧b∉[b1,b2]:=by
  have hpn:=H0.out.2.1.pne
  have hbl:b1<w.heap.size∧b2<w.heap.size:=⟨hlow b1 (by simp),hlow b2 (by simp)⟩
  have hsz:=H1.out.2.2.2.2.2.2.2.2.size
  have big:∀ b,W1.heap.size≤b→b<W2.heap.size→b∉({ c with vf:=.slice p4 la c4,fl:=fl }:Ch).foot cb mb∧b∉[b1,b2]:=fun b h1 h2=>by
   refine ⟨fun q=>?_,fun q=>by simp at q; omega⟩
   rcases List.mem_cons.1 q with rfl | q
   ·omega
   rcases List.mem_cons.1 q with rfl | q
   ·have:=H1.out.1.nodes.lt; omega
   rcases mem_chblocks.1 q with e | e | e | e
   ·have:=H1.out.1.sup.lt b e; omega
   ·have:=H1.out.1.arcs.lt b e; omega
   ·have:=hr4'.base b e; omega
   ·have:=H1.out.1.things.lt b e; omega
  intro b hm
  rcases List.mem_cons.1 hm with rfl | hm
  ·exact ⟨fun q=>by have:=(C5.foots b q).1; omega,fun q=>by simp at q; rcases q with q | q; exact hpn.2.1 q; exact hpn.2.2.1 q⟩
  rcases List.mem_cons.1 hm with rfl | hm
  ·exact big b hgW hgl
  ·have e:(Value.slice p1 la c1).ownBlock=some b:=by simpa using hm
   exact big b (HL.out.flow.base b e) (HL.out.flow.lt b e)
 have I5:SI w pb b0 b1 b2 b3 l0 l3 cb mb W5 (pb :: g :: (Value.slice p1 la c1).ownBlock.toList) { c with vf:=.slice p4 la c4,fl:=fl } l1 l2 W5:=by
  refine ⟨C5,P5,fun _ _=>rfl,hoff,fun b hm=>?_,hO,hlow⟩
  rcases List.mem_cons.1 hm with rfl | hm
  ·exact P5.lt
  rcases List.mem_cons.1 hm with rfl | hm
  ·omega
  ·exact rF5.lt b (by simpa using hm)
 have hUs:Used R { c with vf:=.slice p4 la c4,fl:=fl }:=⟨H1.out.2.1.al,by rw [HN.out.2]; exact HL.out.len,H1.out.2.1.nm,H1.out.2.1.ts⟩
 have hNL:NetFlow R (nodesR R) (fun i=>fl.getD i 0):=by
  have h1:=HL.out.caps
  have h2:=HL.out.bal
  rw [← HN.out.1,← HN.out.2] at h2
  rw [← HN.out.2] at h1
  exact ⟨h1,h2,H1.out.2.2.1.nodes⟩
 have hPl:=PlI.start H0.out.1 hUs rfl hNL (netN_nodes R) (o:=oK R 0) (fun y _=>by rw [oK_zero])
 have A4:=hid (all_R' H0.out.1 P5 (show 3≤3 by omega))
 have H5:=hid (Jc I5 (Jc g5 (Jc L5 (Jc rF5 (Jc hPl hNL)))))
 rw [hW5]
 have hz5:pb<W5.heap.size:=P5.lt
 clear I5 g5 L5 rF5 hPl hNL hUs hoff hO P5 C5 C4 hr4 hr4' gS bS bb4 hW5 k3 kf kz hlow A3
 go_upto_region 7 with (first
  | (go_at_call 26; refine A4.out.mono ?_; rintro e W6 ⟨p3,cp3,rfl,hr6,bb6⟩)
  | fail)
 have I6:=H5.out.1.more (T:=pb :: g :: ((Value.slice p1 la c1).ownBlock.toList ++ (Value.slice p3 (thR R 3).length cp3).ownBlock.toList)) bb6 (fun b hm=>by
  rcases List.mem_cons.1 hm with rfl | hm
  ·exact Jr Jp
  rcases List.mem_cons.1 hm with rfl | hm
  ·exact Jr (Jk _ Jp)
  rcases List.mem_append.1 hm with hm | hm
  ·exact Jr (Jk _ (Jk _ hm))
  ·have e:(Value.slice p3 (thR R 3).length cp3).ownBlock=some b:=by simpa using hm
   exact Js ⟨hr6.base b e,hr6.lt b e⟩)
 have e6:∀ b∈pb :: g :: (Value.slice p1 la c1).ownBlock.toList,W6.heap[b]?=W5.heap[b]?:=fun b hm=>bb6.block b (H5.out.1.lt b hm)
 have H6:=hid (Jc I6 (Jc hr6 e6))
 have hz6:pb<W6.heap.size:=Jm hz5 bb6.size
 clear I6 hr6 e6 bb6 A4
 go_loopg [6,41] (thR R 3).length (fun gk sv iv wr=>∃ (k:Nat) (s:Int) (P:Nat→Nat) (used:Nat→Dest) (kk:Nat→Int) (c':Ch) (m1:Runs) (m2:Waits),k≤(thR R 3).length∧(thR R 3).length - k≤gk∧sv=.int .i64 s∧iv=.int .i64 k∧(0≤s∧s≤1150*k)∧Hid (SI w pb b0 b1 b2 b3 l0 l3 cb mb W6 (pb :: g :: ((Value.slice p1 la c1).ownBlock.toList ++ (Value.slice p3 (thR R 3).length cp3).ownBlock.toList)) c' m1 m2 wr∧PlI R (fun i=>fl.getD i 0) l1 l2 (oK R k) P used kk c' m1 m2 s∧(c'.vs=.slice ps nn cs∧c'.va=.slice pa la ca∧c'.sup=c.sup∧PlcR R fl k c'.fl P)))
 case atStart=>exact ⟨0,0,_,_,_,_,_,_,Jq _,by omega,rfl,rfl,by omega,(show _∧_∧_ from ⟨H6.out.1,H5.out.2.2.2.2.1,by have:=H1.out.2.2.2.2.1; rw [HN.out.1] at this; exact this,by have:=H1.out.2.2.2.2.2.1; rw [HN.out.2] at this; exact this,rfl,PlcR.start⟩)⟩
 case' round=>skip
 obtain ⟨k,s,P,used,kk,c',m1,m2,hk,hgk,rfl,rfl,hsb,H7⟩:=hrel
 rename World=>Z0
 by_cases hlt:k<(thR R 3).length
 ·obtain ⟨jd,hj,exk,hpj,hki,eik⟩:=th_at hlt
  have hrow:=H7.out.1.row H6.out.2.1 (fun b e=>Jk _ (Jk _ (Jt _ (by simpa using e))))
  obtain ⟨g9,rfl,hgl9,q0,q1⟩:=hrow.cells hlt
  rw [exk] at q0 q1
  have hkI:(k:Int)<((thR R 3).length:Int):=by omega
  obtain ⟨y,hy,ey1,ey2⟩:=atOf_some (id:=(jd:Int)) (xs:=R.t3) hpj
  have ho0:oK R k y=0:=oK_no hki hy (by rw [eik]; exact ey2)
  have hft:=H0.out.1.fit
  have hfs:=H0.out.1.fits
  have hF1:∀ i,i<(netR R).length→(fun i=>fl.getD i 0) i≤1000:=fun i hi=>Int.le_trans (H5.out.2.2.2.2.2.caps i hi).2 (caps_le hfs i hi)
  obtain ⟨a,c2',mm,d,x,p,hPd⟩:=place_task hfs hft H7.out.2.1.us hF1 H7.out.2.1.left hy (by show 1 - oK R k y=1; rw [ho0]; rfl) (by rw [H7.out.2.1.fresh y hy ho0]; omega)
  have etg:tg R (.task y)=(3,(jd:Int)):=by show ((3:Int),_)=_; rw [getD_at hy,ey2]
  have hpath:=hPd.path
  rw [etg] at hpath
  obtain ⟨Z1,hZ1⟩:∃ Z1,Z0.alloc (.cells #[.int .i64 3,.int .i64 jd] 79)=Z1:=⟨_,rfl⟩
  have bz:Below Z0.heap.size Z0 Z1:=by rw [← hZ1]; exact (Jd _ _).alloc (Jb _) _
  have X1:Z1.heap[Z0.heap.size]?=some (.cells #[.int .i64 3,.int .i64 jd] 79):=by rw [← hZ1]; exact heap_alloc_new Z0 _
  have y0:Z0.heap.size<Z1.heap.size:=(Ja.1 X1).1
  have hS0:S9 Z0.heap.size 3 jd Z1.drew:=⟨by have:=cellC X1 0; simpa using this,by have:=cellC X1 1; simpa using this,y0⟩
  have J1:=(H7.out.1.keep bz).keep ((Jd _ _).drew:Below Z1.heap.size Z1 Z1.drew)
  have A5:=hid (place_path J1.chart (3,(jd:Int)) a mm hpath)
  have hcR:=cR_bound hfs.net.run (i:=y) (k:=p) hy
  obtain ⟨cst,hcst⟩:∃ cst,cR R y p=cst:=⟨_,rfl⟩
  rw [hcst] at hcR
  have hwr:IntKind.i64.wrap (s+cst)=s+cst:=wrap_mid (by omega) (by omega)
  have HT:=hid (show tg R (.task y)=(3,(idsR R 3 100)[k]) by rw [etg,eik])
  have hzoff:Z0.heap.size∉c'.foot cb mb:=fun q=>by have:=(H7.out.1.chart.foots _ q).2; omega
  have hzlow:w.heap.size≤Z0.heap.size:=H7.out.1.only.size
  have H8:=hid (Jc J1 (Jc hPd (Jc hcst (Jc ho0 (Jc hzoff (Jc ey2 (Jc hki eik)))))))
  have hvs2:c2'.vs=c'.vs∧c2'.va=c'.va∧c2'.sup=c'.sup:=Path.keeps hPd.path
  have HV:=hid hvs2
  have HZ1:=hid hZ1
  clear J1 hPd hcst ho0 hzoff hpath etg bz X1 hrow hvs2 hF1 hft hfs hZ1
  go_upto_region 9 with fail
  rw [HZ1.out]
  refine wp_region_held_drew (S:=S9 Z0.heap.size 3 jd) (by kernel_rfl) hS0 (fun _=>?_)
  refine tkH (v:=?_) 0 45 hS0 ?_ ?_; rotate_left 1
  ·(rintro w' ⟨e1,e2,e3⟩; go_simp; try with_reducible rfl)
  simp only [Act.put,Jh,Ji,Jj]
  refine tkH (v:=?_) 1 46 hS0 ?_ ?_; rotate_left 1
  ·(rintro w' ⟨e1,e2,e3⟩; go_simp; try with_reducible rfl)
  simp only [Act.put,Jh,Ji,Jj]
  refine tkH (v:=?_) 2 47 hS0 ?_ ?_; rotate_left 1
  ·(rintro w' ⟨e1,e2,e3⟩; go_simp; try with_reducible rfl)
  simp only [Act.put,Jh,Ji,Jj]
  refine tkH (v:=?_) 3 48 hS0 ?_ ?_; rotate_left 1
  ·(rintro w' ⟨e1,e2,e3⟩; go_simp; try with_reducible rfl)
  simp only [Act.put,Jh,Ji,Jj]
  refine tkH (v:=?_) 4 49 hS0 ?_ ?_; rotate_left 1
  ·(rintro w' ⟨e1,e2,e3⟩; go_simp; try with_reducible rfl)
  simp only [Act.put,Jh,Ji,Jj]
  refine wpAnyH_ready (rs:=[5]) (by kernel_rfl) (by simp) ?_
  refine AllReadyH.cons rfl (fun K hK=>?_) AllReadyH.nil
  go_simp
  refine A5.out.mono ?_
  rintro e Z2 ⟨rfl,hC2⟩
  have J2:=H8.out.1.place hC2
  have hS1:S9 Z0.heap.size 3 jd Z2:=⟨(hC2.2.1.cell (p:=⟨Z0.heap.size,0,none⟩) hS0.2.2 H8.out.2.2.2.2.1).trans hS0.1,(hC2.2.1.cell (p:=⟨Z0.heap.size,1,none⟩) hS0.2.2 H8.out.2.2.2.2.1).trans hS0.2.1,Jm hS0.2.2 hC2.2.1.size⟩
  refine hK.out _ _ hS1 (fun _=>?_)
  clear hK K
  have A6:=hid (settle_any H0.out.1 H7.out.2.1.solv hy H8.out.2.2.2.1 H8.out.2.1.at' J2.plan)
  rw [H8.out.2.2.2.2.2.1,H8.out.2.2.1] at A6
  have HJ:=hid J2
  clear J2 hC2
  refine wpAnyH_ready (rs:=[6]) (by kernel_rfl) (by simp) ?_
  refine AllReadyH.cons rfl (fun K hK=>?_) AllReadyH.nil
  go_simp
  refine A6.out.mono ?_
  rintro e Z3 ⟨rfl,m1',m2',hp3,hS3,hO3⟩
  have hzb:Z0.heap.size∉[b1,b2]:=fun r=>by have:=H0.out.2.2 Z0.heap.size (by simp at r ⊢; rcases r with r | r <;> simp [r]); omega
  have hS2:S9 Z0.heap.size 3 jd Z3:=⟨(hO3.cell (p:=⟨Z0.heap.size,0,none⟩) hS1.2.2 hzb).trans hS1.1,(hO3.cell (p:=⟨Z0.heap.size,1,none⟩) hS1.2.2 hzb).trans hS1.2.1,Jm hS1.2.2 hO3.size⟩
  refine hK.out _ _ hS2 (fun _=>?_)
  clear hK K
  have H9:=hid (show SI w pb b0 b1 b2 b3 l0 l3 cb mb W6 _ c2' m1' m2' Z3∧PlI R (fun i=>fl.getD i 0) l1 l2 (oK R (k+1)) _ _ _ c2' m1' m2' (s+cst)∧(c2'.vs=.slice ps nn cs∧c2'.va=.slice pa la ca∧c2'.sup=c.sup∧PlcR R fl (k+1) c2'.fl _) from ⟨HJ.out.settle hp3 hO3,by rw [oK_succ' H0.out.1.fit H8.out.2.2.2.2.2.2.1 hy (by rw [H8.out.2.2.2.2.2.2.2]; exact H8.out.2.2.2.2.2.1),← H8.out.2.2.1]; exact H7.out.2.1.next hy H8.out.2.2.2.1 H8.out.2.1 hS3,HV.out.1.trans H7.out.2.2.1,HV.out.2.1.trans H7.out.2.2.2.1,HV.out.2.2.trans H7.out.2.2.2.2.1,PlcR.next H7.out.2.2.2.2.2 H8.out.2.2.2.2.2.2.1 H7.out.2.1.us.al rfl H7.out.2.1.us.nm H7.out.2.1.us.ts hy (by rw [H8.out.2.2.2.2.2.2.2]; exact H8.out.2.2.2.2.2.1) (by have hq:=H8.out.2.1.path; rw [HT.out] at hq; exact hq) H8.out.2.1.at'⟩)
  clear hp3 hS3 hO3 A6 A5 HJ
  refine tkH (v:=?_) 7 52 hS2 ?_ ?_; rotate_left 1
  ·(rintro w' ⟨e1,e2,e3⟩; go_simp; try with_reducible rfl)
  simp only [Act.put,Jh,Ji,Jj]
  refine tkH (v:=?_) 8 6 hS2 ?_ ?_; rotate_left 1
  ·(rintro w' ⟨e1,e2,e3⟩; go_simp; try with_reducible rfl)
  simp only [Act.put,Jh,Ji,Jj]
  refine wpAnyH_done (by kernel_rfl) ?_ _
  go_wp2_with fail
  go_roundg ((thR R 3).length - (k+1))
  case measure=>omega
  case rel=>exact ⟨k+1,s+cst,_,_,_,_,_,_,by omega,Jb _,by go_num,by go_num,by omega,H9.out⟩
 ·obtain rfl:k=(thR R 3).length:=by omega
  have hT:(thR R 3).length=(idsR R 3 100).length:=th_len R 3
  have ho1:∀ y,y<R.t3.length→oK R (thR R 3).length y=1:=fun y hy=>by rw [hT]; exact oK_end H0.out.1.fit hy
  have hpair:∀ i,i<(netR R).length→PairOk C (arcN R i) ((fun i=>fl.getD i 0) i):=fun i hi=>HL.out.pair i (by rw [← HN.out.2]; exact hi)
  obtain ⟨q,hFd⟩:=H7.out.2.1.done H0.out.1 H5.out.2.2.2.2.2 (netN_nodes R) hpair ho1
  have hsim:=H7.out.2.1.solv.sim H0.out.1 ho1 hFd.place
  have mv:∀ b∈pb :: g :: (Value.slice p1 la c1).ownBlock.toList,Z0.heap[b]?=W5.heap[b]?:=fun b hm=>(H7.out.1.same b (by
   rcases List.mem_cons.1 hm with rfl | hm
   ·exact Jp
   rcases List.mem_cons.1 hm with rfl | hm
   ·exact Jk _ Jp
   ·exact Jk _ (Jk _ (Ju _ hm)))).trans (H6.out.2.2 b hm)
  have hsE:=hFd.sum
  have hLast:LastAt w.heap.size Z0 R (.slice ps nn cs) (.slice pa la ca) (.slice p1 la c1) g fl C:=by
   obtain ⟨v1,v2,v3,_⟩:=H7.out.2.2
   have r1:=H7.out.1.chart.sup
   have r2:=H7.out.1.chart.arcs
   rw [v1,v3,H1.out.2.2.2.1] at r1
   rw [v2,H7.out.2.1.us.al] at r2
   refine ⟨r1,r2,owns_move H5.out.2.2.2.1 (fun b e=>mv b (Jk _ (Jk _ (by simpa using e)))),?_,?_,by rw [HN.out.2]; exact HL.out.len,H5.out.2.2.2.2.2,hpair,?_⟩
   ·have h1:=HL.out.nums
    rw [HN.out.1]
    exact ((mv g (by simp)).trans H5.out.2.1).trans h1
   ·have h1:W1.heap.size≤g:=HL.out.base
    have h2:=H1.out.2.2.2.2.2.2.2.2.size
    omega
   ·rw [HN.out.1]
    exact HL.out.bnd
  have hap:(Value.slice ps nn cs).ownBlock≠some g∧(Value.slice p1 la c1).ownBlock≠some g∧((Value.slice ps nn cs).ownBlock=none∨(Value.slice ps nn cs).ownBlock≠(Value.slice p1 la c1).ownBlock):=by
   have h1:W1.heap.size≤g:=HL.out.base
   have h2:=H1.out.1.sup
   rw [H1.out.2.2.2.2.1,HN.out.1] at h2
   refine ⟨fun e=>by have:=h2.lt g e; omega,HL.out.apart,?_⟩
   cases hq:(Value.slice ps nn cs).ownBlock with
   | none=>exact Jr rfl
   | some b=>exact Js (fun r=>by
     have h3:=h2.lt b hq
     have h4:W1.heap.size≤b:=HL.out.flow.base b r.symm
     omega)
  have H9:=hid (show SPost w pb b0 b1 b2 b3 l0 l3 R Z0 P q m1 m2 (.slice ps nn cs) (.slice pa la ca) (.slice p1 la c1) g fl C from ⟨by rw [hsE] at hFd; exact hFd,H7.out.1.plan,hsim,by rw [HN.out.1]; exact (mv pb Jp).trans H5.out.2.2.1,hLast,hap,H7.out.1.only,⟨c.fl,fl,c'.fl,HBG.out,by rw [HN.out.2]; exact HL.out.det,by rw [HN.out.2]; exact HL.out.len,by have:=H7.out.2.2.2.2.2; rw [hT] at this; exact this⟩⟩)
  have HS:=hid hsE
  clear hFd hsim hLast mv hpair hsE ho1 hap
  go_wp2_with fail
  go_ret
  exact ⟨P,q,m1,m2,_,_,_,g,fl,C,by show Ending.returned (.int .i64 s)=_; rw [HS.out],H9.out⟩
end
end
end Go.Proofs.Ytjdindfjfpdikab
