import Derived.Test.YtjdindfjfpdikaaGreatB18
import Derived.Test.YtjdindfjfpdikaaGreatPre
set_option maxRecDepth 100000
set_option maxHeartbeats 8000000
namespace Go.Proofs.YtjdindfjfpdikaaGreat
section
open Go.RowKit
def supF (R:RSt):Nat→Int:=fun i=>if nodeR R 3 0≤(i:Int) then 1 else 0
def rackA (R:RSt)(l:List Int):List Ar:=l.map (fun id=>⟨0,nodeR R 0 id.toNat,1000,0⟩)
def machA (R:RSt)(id:Int):List Ar:=[⟨nodeR R 0 (R.t1.getD (atOf id R.t1).toNat (0,0,0)).2.1.toNat,nodeR R 1 id.toNat,(R.t1.getD (atOf id R.t1).toNat (0,0,0)).2.2,0⟩,⟨nodeR R 1 id.toNat,1,(R.t1.getD (atOf id R.t1).toNat (0,0,0)).2.2,0⟩]
def machL (R:RSt)(l:List Int):List Ar:=l.flatMap (machA R)
def jobA (R:RSt)(l:List Int):List Ar:=l.map (fun id=>⟨nodeR R 2 id.toNat,1,16,0⟩)
def taskL (R:RSt)(l:List Int):List Ar:=l.flatMap (fun id=>leafR R (atOf id R.t3).toNat id.toNat)
theorem NetB.setS {B W:World}{N x:Int}{gs cs n:Nat}{va:Value}{f:Nat→Int}{al:List Ar}(h:NetB B W N (.slice (some ⟨gs,0,none⟩) n cs) va (intL n f) al){k:Nat}:NetB B (W.setCell ⟨gs,k,none⟩ (.int .i64 x)) N (.slice (some ⟨gs,0,none⟩) n cs) va (intL n (updI f k x)) al:=by
 have g:=Zaa W ⟨gs,k,none⟩ (.int .i64 x)
 have n1:gs≠B.heap.size+1:=fun e=>h.ne1.1 (by rw [← e]; rfl)
 have n2:gs≠B.heap.size:=fun e=>h.ne1.2 (by rw [← e]; rfl)
 have hl:=h.lt
 exact ⟨(g.block _ hl (fun e=>n1 (by simpa using e.symm))).trans h.cells,(g.block _ (by omega) (fun e=>n2 (by simpa using e.symm))).trans h.res,h.sup.put x,h.arcs.kept g (by
  rcases Ziv h.arcs h.sup with q | q
  ·exact Jr q
  ·exact Js q),h.below.setCell (p:=⟨gs,k,none⟩) (h.sup.base gs rfl) _⟩
theorem NetB.other {B W w3:World}{N:Int}{vs va va' v':Value}{sup ys:List Int}{al:List Ar}{b1:Nat}(h:NetB B W N vs va sup al)(hg:W.grownBy w3 va.ownBlock)(hN:NRow b1 W v' ys):NRow b1 (w3.setCell ⟨B.heap.size+1,2,none⟩ va') v' ys:=by
 refine (hN.kept hg (Zgu h.arcs hN)).kept (Zaa _ _ _) (Js (fun e=>?_))
 obtain ⟨cur,h1⟩:=hN.row.elem e
 rw [h.cells] at h1
 simp at h1
theorem Zf7 {R:RSt}{k n m:Nat}(hm:m<(idsR R k n).length):∃ j:Nat,j<n∧(idsR R k n)[m]=(j:Int)∧0≤atOf (j:Int) (tkR R k):=by
 have h1:(idsR R k n)[m]∈idsR R k n:=Jl hm
 unfold idsR at h1
 obtain ⟨j,hj,e⟩:=List.mem_map.1 h1
 obtain ⟨h2,h3⟩:=List.mem_filter.1 hj
 unfold hasT at h3
 exact ⟨j,List.mem_range.1 h2,e.symm,by simpa using h3⟩
theorem NetB.blk {B W w3:World}{N:Int}{vs va va':Value}{sup:List Int}{al:List Ar}{b:Nat}{cs:Array Value}{T:TypeId}(h:NetB B W N vs va sup al)(hg:W.grownBy w3 va.ownBlock)(hb:W.heap[b]?=some (.cells cs T))(hT:T≠93)(hne:b≠B.heap.size+1):(w3.setCell ⟨B.heap.size+1,2,none⟩ va').heap[b]?=some (.cells cs T):=by
 have h1:=(hg.block b (Ja.1 hb).1 (fun e=>by
  obtain ⟨cur,h2⟩:=h.arcs.elem e.symm
  rw [hb] at h2
  cases h2
  exact hT rfl)).trans hb
 exact ((Zaa w3 ⟨B.heap.size+1,2,none⟩ va').block b (Ja.1 h1).1 (fun e=>hne (by simpa using e))).trans h1
theorem ARow.sl {b0:Nat}{w:World}{v:Value}{xs:List Ar}(h:ARow b0 w v xs):∃ p c,v=.slice p xs.length c:=by
 rcases h.2 with ⟨e1,e2⟩ | ⟨g,cap,cur,e1,_⟩
 ·exact ⟨none,0,by rw [e1,e2]⟩
 ·exact ⟨_,_,e1⟩
theorem ZbG {R:RSt}:∀ (l:List Int),(machL R l).length=2*l.length
 | []=>rfl
 | a :: l=>by
  have h1:=ZbG (R:=R) l
  unfold machL at h1 ⊢
  rw [List.flatMap_cons,Jo,h1,List.length_cons]
  simp [machA]
  omega
theorem ZaA {w:World}{b:Nat}{cs:Array Value}{t:TypeId}(h:w.heap[b]?=some (.cells cs t))(i:Nat):w.cell? ⟨b,i,none⟩=cs[i]?:=by simp [World.cell?,h]
theorem ZaR {w:World}{b:Nat}{cs:Array Value}{t:TypeId}(h:w.heap[b]?=some (.cells cs t))(i:Nat):w.frozen? ⟨b,i,none⟩=false:=by simp [World.frozen?,h]
def netR (R:RSt):List Ar:=rackA R (idsR R 0 100) ++ machL R (idsR R 1 100) ++ jobA R (idsR R 2 100) ++ taskL R (idsR R 3 100)
theorem Zf3 {ops:Array Oper}{rest:List Oper}{o:Oper}{a:Act}{Q:Exit→Act→World→Prop}(W:World)(b0 b1:Nat)(v v2:Value)(xs ys:List Ar)(hgd:o.guard=none)(sO xO:Operand)
  (hop:o.op=Op.call { callee:=Callee.builtin Builtin.append,args:=#[sO,xO],argTypes:=#[33,33] }) (hs:a.eval sO=v) (hr:ARow b0 W v xs) (hx:a.eval xO=v2) (hr2:ARow b1 W v2 ys) (hy:0<ys.length) (hb:b0≤W.heap.size) (hl:xs.length+ys.length≤1000000)
  (hK:∀ (v':Value) (w':World),ARow b0 w' v' (xs ++ ys)→W.grownBy w' v.ownBlock→(v'.ownBlock=v.ownBlock∨v'.ownBlock=some W.heap.size)→wpList Tryz.prog ops Q rest (a.put o.dst v') w') :
  wpList Tryz.prog ops Q (o :: rest) a W:=by
 obtain ⟨i3,hi3,hy0,hy1,hy2⟩:=info_parts Zdz
 rcases hr2.2 with ⟨_,e⟩ | ⟨g,cap,cur,rfl,_,hg,_,_,_,ht⟩
 ·omega
 refine wpList_append_own_at W hgd sO xO 33 hop b0 93 i3 (.agg #[.int .i64 0,.int .i64 0,.int .i64 0,.int .i64 0]) 4 32 Tryz.underlying33 hi3 hy0 hy1 hy2 rfl (by decide) v xs.length (xs.flatMap cellsAr) hs hr ⟨g,0,none⟩ ys.length cap (ys.flatMap cellsAr) hx hr2.1 ?_ ?_ (by unfold maxLen; omega) (by omega) hb ?_
 ·intro j u hj
  rw [Addr.add_lit,Nat.zero_add,ZaA hg]
  rw [← ht] at hj
  have hj':j<ys.length*4:=by
   have:=(List.getElem?_eq_some_iff.1 hj).1
   rw [List.length_take] at this
   omega
  rw [List.getElem?_take_of_lt hj'] at hj
  simpa using hj
 ·intro u hu
  obtain ⟨x,_,hx'⟩:=List.mem_flatMap.1 hu
  simp [cellsAr] at hx'
  rcases hx' with rfl | rfl | rfl | rfl <;> rfl
 ·intro u w' hrow hg' _ hloc
  refine hK u w' ?_ hg' hloc
  unfold ARow
  rw [Jo,List.flatMap_append]
  exact hrow
theorem ZhG (R:RSt)(i id:Nat):0<(leafR R i id).length:=by
 unfold leafR
 rw [Jo]
 simp
theorem Zea (R:RSt)(fr t mo:Int):∀ m,(leafUp R fr t mo m).length≤100*m
 | 0=>by simp [leafUp]
 | m+1=>by
  have h1:=Zea R fr t mo m
  have h2:=ZbU (R:=R) (fr:=fr) (t:=t) (mo:=mo) (kd:=1 - m) (idsR R (1 - m) 100)
  have h3:=Zaq R (1 - m) 100
  show (leafUp R fr t mo m ++ leafK R fr t mo (1 - m) (idsR R (1 - m) 100)).length≤_
  rw [Jo]
  omega
theorem Ze4 (R:RSt)(i id:Nat):(leafR R i id).length≤300:=by
 have h1:=Zea R (nodeR R 3 id) id (moreR (R.on.getD i (-1))) 2
 have h2:(leafRun R i (nodeR R 3 id) (R.on.getD i (-1))).length≤1:=by unfold leafRun; split <;> simp
 unfold leafR
 rw [Jo,Jo,Jo,List.length_singleton,List.length_singleton]
 omega
theorem ZcQ (R:RSt):∀ (l:List Int),(taskL R l).length≤300*l.length
 | []=>by simp [taskL]
 | a :: l=>by
  have h1:=ZcQ R l
  have h2:=Ze4 R (atOf a R.t3).toNat a.toNat
  unfold taskL at h1 ⊢
  rw [List.flatMap_cons,Jo,List.length_cons]
  omega
section
variable {w:World}{rb:Nat}{V:RVs}{x7 x8 x9 x10 x11:Value}{R:RSt}
theorem Zic (h:RefAt w rb V x7 x8 x9 x10 x11 R)(hf:NetFit R)(Nn:Nat)(hNn:nodeR R 3 100=(Nn:Int))(hN2:2≤Nn)(hN60:Nn≤1000)(hrk:∀ x∈R.t1,0≤x.2.1∧x.2.1≤99) :
  Calls Tryz.prog 76 #[.pointer (some ⟨rb,0,none⟩)] w fun e w'=>∃ vs va,e=.returned (.agg #[.int .i64 Nn,vs,va])∧NRow w.heap.size w' vs (intL Nn (updI (supF R) 1 (-(R.t3.length:Int))))∧ARow w.heap.size w' va (netR R)∧Below w.heap.size w w':=by
 obtain ⟨i9,hi9,hy0,hy1,hy2⟩:=info_parts Zdz
 have A1:=hid (fun (W':World) (b':Below w.heap.size w W')=>Za1 (h.below b') hf.len (show 3≤3 by omega) (show 100≤100 by omega))
 rw [hNn] at A1
 have A2:=hid (fun (W':World) (b':Below w.heap.size w W')=>Za1 (h.below b') hf.len (show 3≤3 by omega) (show 0≤100 by omega))
 obtain ⟨n0,hn0⟩:∃ x,nodeR R 3 0=x:=⟨_,rfl⟩
 rw [hn0] at A2
 obtain ⟨p3,c3',hv3⟩:=Zah h.r3
 obtain ⟨W1,hW1⟩:∃ W1,w.alloc (.cells #[.int .i64 0,.slice none 0 0,.slice none 0 0] 35)=W1:=⟨_,rfl⟩
 have b1:Below w.heap.size w W1:=by rw [← hW1]; exact (Jd _ _).alloc (Jb _) _
 have z1:W1.heap.size=w.heap.size+1:=by rw [← hW1]; simp
 have X1:W1.heap[w.heap.size]?=some (.cells #[.int .i64 0,.slice none 0 0,.slice none 0 0] 35):=by rw [← hW1]; exact heap_alloc_new w _
 have H1:=hid hW1
 have A1':=hid (A1.out W1 b1)
 clear hW1
 go_enter Tryz.func76,Tryz.ntmps76
 go_upto_region 1 with fail
 rw [H1.out]
 go_upto_region 2 with (first
  | (go_at_call 96; refine A1'.out.mono ?_; rintro e W2 ⟨rfl,rfl⟩)
  | fail)
 obtain ⟨W3,hW3⟩:∃ W3,W2.alloc (.cells #[.int .i64 (Nn:Int),.slice none 0 0,.slice none 0 0] 35)=W3:=⟨_,rfl⟩
 have b3:Below W2.heap.size W2 W3:=by rw [← hW3]; exact (Jd _ _).alloc (Jb _) _
 have X3:W3.heap[w.heap.size+1]?=some (.cells #[.int .i64 (Nn:Int),.slice none 0 0,.slice none 0 0] 35):=by rw [← hW3,← z1]; exact heap_alloc_new W2 _
 have N0:NetB w W3 Nn (.slice none 0 0) (.slice none 0 0) [] []:=⟨X3,(b3.block _ (by omega)).trans X1,NRow.nil _ _,ARow.nil _ _,Zai b1 b3⟩
 rw [hW3]
 have H3:=hid (Jc N0 hn0)
 clear hW3 b3 X3 N0 X1 b1 A1 A1' hn0
 go_wp2_with fail
 go_loopg [4] Nn (fun gk iv wr=>∃ (n:Nat) (vs:Value),n≤Nn∧Nn - n≤gk∧iv=.int .i64 n∧Hid (NetB w wr Nn vs (.slice none 0 0) (intL n (supF R)) []))
 case atStart=>exact ⟨0,_,Jq _,Jb _,rfl,H3.out.1⟩
 case' round=>skip
 obtain ⟨n,vs,hn,hgk,rfl,H4⟩:=hrel
 rename World=>Z0
 have q0:=H4.out.c0
 have qz:=H4.out.lt
 by_cases hlt:n<Nn
 ·have hnI:(n:Int)<(Nn:Int):=by omega
  have A3:=hid (A2.out Z0 H4.out.below)
  have q1:=H4.out.c1
  obtain ⟨pvs,cvs,hvs⟩:=Zah H4.out.sup.row
  rw [Zad] at hvs
  by_cases hge:n0≤(n:Int)
  ·have hgb:decide (n0≤(n:Int))=true:=by simpa using hge
   have hpush:=ZbF n (supF R)
   have es:supF R n=1:=by unfold supF; rw [H3.out.2,if_pos hge]
   rw [es] at hpush
   have hrA:=H4.out.sup.below ((Jd _ _).alloc (Jb _) (.cells #[.int .i64 1] 3))
   have NA:=H4.out.keep ((Jd _ _).alloc (Jb _) (.cells #[.int .i64 1] 3))
   have hws:=H4.out.below.size
   have Hp:=hid (Jc hpush NA)
   subst hvs
   clear hpush es NA
   go_upto_region 4 with (first
    | (go_at_call 96; refine A3.out.mono ?_; rintro e Z1 ⟨rfl,rfl⟩)
    | (at_builtin; refine ZaJ _ w.heap.size 1 _ _ rfl _ _ rfl rfl hrA Z1.heap.size rfl (by simp) (by simp; omega) (by rw [Zad]; omega) ?_; intro vs' Z2 hrow hg hloc; obtain ⟨pu,cu,hvu⟩:=Zah hrow.row; subst hvu; obtain ⟨c3,HN⟩:=Hp.out.2.pushS hg hrow; have k1:=ZaA c3 1; simp only [Jg,Jf,Je] at k1; have k2:=ZaR c3 1; have k3:=(Ja.1 c3).1)
    | fail)
   rw [Hp.out.1] at HN
   go_wp2_with fail
   go_roundg (Nn - (n+1))
   case measure=>omega
   case rel=>exact ⟨n+1,_,by omega,Jb _,by go_num,(by simp only [Zad] at HN ⊢; exact HN)⟩
  ·have hgb:decide (n0≤(n:Int))=false:=by simpa using hge
   have hpush:=ZbF n (supF R)
   have es:supF R n=0:=by unfold supF; rw [H3.out.2,if_neg hge]
   rw [es] at hpush
   have hrA:=H4.out.sup.below ((Jd _ _).alloc (Jb _) (.cells #[.int .i64 0] 3))
   have NA:=H4.out.keep ((Jd _ _).alloc (Jb _) (.cells #[.int .i64 0] 3))
   have hws:=H4.out.below.size
   have Hp:=hid (Jc hpush NA)
   subst hvs
   clear hpush es NA
   go_upto_region 4 with (first
    | (go_at_call 96; refine A3.out.mono ?_; rintro e Z1 ⟨rfl,rfl⟩)
    | (at_builtin; refine ZaJ _ w.heap.size 0 _ _ rfl _ _ rfl rfl hrA Z1.heap.size rfl (by simp) (by simp; omega) (by rw [Zad]; omega) ?_; intro vs' Z2 hrow hg hloc; obtain ⟨pu,cu,hvu⟩:=Zah hrow.row; subst hvu; obtain ⟨c3,HN⟩:=Hp.out.2.pushS hg hrow; have k1:=ZaA c3 1; simp only [Jg,Jf,Je] at k1; have k2:=ZaR c3 1; have k3:=(Ja.1 c3).1)
    | fail)
   rw [Hp.out.1] at HN
   go_wp2_with fail
   go_roundg (Nn - (n+1))
   case measure=>omega
   case rel=>exact ⟨n+1,_,by omega,Jb _,by go_num,(by simp only [Zad] at HN ⊢; exact HN)⟩
 ·obtain rfl:n=Nn:=by omega
  have hp0:=h.below H4.out.below
  have c3:=hp0.c3
  rw [hv3] at c3
  have hrb0:=hp0.lt
  have q1:=H4.out.c1
  obtain ⟨gs,cs,hvs,hgs,hgsl,hsc⟩:=H4.out.sup.at (by omega)
  subst hvs
  obtain ⟨s0,s1⟩:=hsc 1 (by omega)
  have hT:R.t3.length≤16:=hf.run.len3
  have h1N:(1:Int)<(n:Int):=by omega
  clear hsc hp0 hn hgk hlt
  go_upto_region 9 with fail
  go_region
  obtain ⟨Z1,hZ1⟩:∃ Z1,(Z0.setCell ⟨gs,1,none⟩ (.int .i64 (-(R.t3.length:Int)))).drew=Z1:=⟨_,rfl⟩
  have N1:NetB w Z1 n (.slice (some ⟨gs,0,none⟩) n cs) (.slice none 0 0) (intL n (updI (supF R) 1 (-(R.t3.length:Int)))) []:=by rw [← hZ1]; exact (H4.out.setS (k:=1) (x:=-(R.t3.length:Int))).keep (Jd _ _).drew
  rw [hZ1]
  obtain ⟨sup,hsup⟩:∃ sup,intL n (updI (supF R) 1 (-(R.t3.length:Int)))=sup:=⟨_,rfl⟩
  obtain ⟨vs,hvs⟩:∃ vs:Value,.slice (some ⟨gs,0,none⟩) n cs=vs:=⟨_,rfl⟩
  rw [hsup,hvs] at N1
  have A5:=hid (Zbv (h.below N1.below) hf.len (show 0≤3 by omega))
  have H5:=hid (Jc N1 (Jc hsup hvs))
  clear hZ1 N1 hsup hvs s0 s1 q0 q1 qz c3 hrb0 H4 hgsl
  go_wp2_with fail
  refine A5.out.mono ?_
  rintro e Z2 ⟨vi,rfl,hNi,b2⟩
  have N2:=H5.out.1.keep b2
  obtain ⟨pi,ci,hvi⟩:=Zah hNi.row
  subst hvi
  have hil:=Zaq R 0 100
  have H6:=hid (Jc N2 hNi)
  clear A5 b2 N2 hNi
  go_wp2_with fail
  go_loopg [7] (idsR R 0 100).length (fun gk nv wr=>∃ (k:Nat) (va:Value),k≤(idsR R 0 100).length∧(idsR R 0 100).length - k≤gk∧nv=.int .i64 k∧Hid (NetB w wr n vs va sup (rackA R ((idsR R 0 100).take k))∧NRow Z1.heap.size wr (.slice pi (idsR R 0 100).length ci) (idsR R 0 100)))
  case atStart=>exact ⟨0,_,Jq _,Jb _,rfl,H6.out.1,H6.out.2⟩
  case' round=>skip
  clear H6
  obtain ⟨k,va,hk,hgk,rfl,H7⟩:=hrel
  rename World=>Z3
  by_cases hlt:k<(idsR R 0 100).length
  ·have hkI:(k:Int)<((idsR R 0 100).length:Int):=by omega
   rcases H7.out.2.row.shape (fun _=>rfl) with ⟨_,e0⟩ | ⟨gi,capi,curi,hvi,_,hgli,_,_,hci⟩
   ·rw [e0] at hlt; simp at hlt
   have p0:=(hci k 0 hlt (by decide)).1
   simp only [cellsI,Je,Nat.add_zero,Nat.mul_one] at p0
   cases hvi
   obtain ⟨jd,hjd,ejd⟩:=Zew hlt
   rw [ejd] at p0
   have A6:=hid (Za1 ((h.below H7.out.1.below).below (Jd _ _).drew) hf.len (show 0≤3 by omega) (show jd≤100 by omega))
   obtain ⟨nk,hnk⟩:∃ x,nodeR R 0 jd=x:=⟨_,rfl⟩
   rw [hnk] at A6
   have hsn:rackA R ((idsR R 0 100).take (k+1))=rackA R ((idsR R 0 100).take k) ++ [⟨0,nk,1000,0⟩]:=by
    unfold rackA
    rw [List.take_succ_eq_append_getElem hlt,List.map_append,ejd]
    simp [hnk]
   have gx:=H7.out.1.keep (Jd _ _).drew
   have gN:=H7.out.2.below (Jd _ _).drew
   have bA:Below Z3.drew.heap.size Z3.drew (Z3.drew.alloc (.cells #[.int .i64 0,.int .i64 nk,.int .i64 1000,.int .i64 0] 93)):=(Jd _ _).alloc (Jb _) _
   have gA:=gx.keep bA
   have gNA:=gN.below bA
   have q2:=gx.c2
   have q3:=gx.lt
   have q2A:(Z3.alloc (.cells #[.int .i64 0,.int .i64 nk,.int .i64 1000,.int .i64 0] 93)).cell? ⟨w.heap.size+1,2,none⟩=some va:=gA.c2
   have q3A:w.heap.size+1<Z3.heap.size+1:=by have:w.heap.size+1<Z3.heap.size:=gx.lt; omega
   have hrl:(rackA R ((idsR R 0 100).take k)).length≤100:=by unfold rackA; rw [Jv,List.length_take]; omega
   have hws:=gA.below.size
   have Hs:=hid (Jc hsn (Jc gA gNA))
   obtain ⟨pva,cva,hva⟩:∃ p c,va=.slice p (rackA R ((idsR R 0 100).take k)).length c:=by
    rcases gx.arcs.2 with ⟨e1,e2⟩ | ⟨g,cap,cur,e1,_⟩
    ·exact ⟨none,0,by rw [e1,e2]⟩
    ·exact ⟨_,_,e1⟩
   subst hva
   clear hci hsn hnk ejd gNA gN gx bA
   go_upto_region 14 with fail
   go_region_law (first
    | (refine Zcq rfl _ _ 33 rfl w.heap.size 93 i9 (.agg #[.int .i64 0,.int .i64 0,.int .i64 0,.int .i64 0]) 4 32 Tryz.underlying33 hi9 hy0 hy1 hy2 rfl (by decide) _ _ _ rfl gA.arcs ⟨_,0,none⟩ 1 1 _ rfl rfl (ZhT _ _ _ _ _ _) (by intro u hu; simp at hu; rcases hu with rfl | rfl | rfl | rfl <;> rfl) (by unfold maxLen; omega) (by omega) (by simp at hws ⊢; omega) ?_; intro va' Z5 hrow hg hloc; obtain ⟨pu,cu,hvu⟩:=Zae hrow; subst hvu; obtain ⟨d3,HN⟩:=Hs.out.2.1.pushA hg (ARow.snoc (a:=⟨0,nk,1000,0⟩) hrow); have HO:=Hs.out.2.1.other (va':=.slice pu ((rackA R ((idsR R 0 100).take k)).length+1) cu) hg Hs.out.2.2; have k2:=ZaA d3 2; simp only [Jg,Jf,Je] at k2; have k3:=ZaR d3 2; have k4:=(Ja.1 d3).1; have HX:=hid (Jc HN HO); clear HN HO hrow hg hloc d3)
    | (go_simp; go_at_call 96; refine A6.out.mono ?_; rintro e Z4 ⟨rfl,rfl⟩))
   all_goals
    go_wp2_with fail
    go_roundg ((idsR R 0 100).length - (k+1))
    case measure=>omega
    case rel=>exact ⟨k+1,_,by omega,Jb _,by go_num,by rw [Hs.out.1]; exact HX.out.1,HX.out.2⟩
  ·obtain rfl:k=(idsR R 0 100).length:=by omega
   have N3:=H7.out.1
   rw [List.take_length] at N3
   have A6:=hid (Zbv (h.below N3.below) hf.len (show 1≤3 by omega))
   obtain ⟨L0,hL0⟩:∃ L0,rackA R (idsR R 0 100)=L0:=⟨_,rfl⟩
   rw [hL0] at N3
   have hL0n:L0.length≤100:=by rw [← hL0]; unfold rackA; rw [Jv]; exact hil
   have H8:=hid (Jc N3 hL0)
   clear N3 hL0 hk hgk hlt H7
   go_wp2_with fail
   refine A6.out.mono ?_
   rintro e Z4 ⟨vj,rfl,hNj,b4⟩
   have N4:=H8.out.1.keep b4
   obtain ⟨pj,cj,hvj⟩:=Zah hNj.row
   subst hvj
   have hjl:=Zaq R 1 100
   have H9:=hid (Jc N4 hNj)
   clear A6 b4 N4 hNj
   go_wp2_with fail
   go_loopg [9] (idsR R 1 100).length (fun gk nv wr=>∃ (k:Nat) (va:Value),k≤(idsR R 1 100).length∧(idsR R 1 100).length - k≤gk∧nv=.int .i64 k∧Hid (NetB w wr n vs va sup (L0 ++ machL R ((idsR R 1 100).take k))∧NRow Z3.heap.size wr (.slice pj (idsR R 1 100).length cj) (idsR R 1 100)))
   case atStart=>exact ⟨0,_,Jq _,Jb _,rfl,by simpa [machL] using H9.out.1,H9.out.2⟩
   case' round=>skip
   clear H9
   obtain ⟨k,va,hk,hgk,rfl,H9⟩:=hrel
   rename World=>Z5
   obtain ⟨L2,hL2⟩:∃ L2,L0 ++ machL R ((idsR R 1 100).take k)=L2:=⟨_,rfl⟩
   have H9':=H9.out
   rw [hL2] at H9'
   have hml:L2.length≤1000:=by rw [← hL2,Jo,ZbG,List.length_take]; omega
   have HL2:=hid hL2
   replace H9:=hid H9'
   clear hL2 H9'
   by_cases hlt:k<(idsR R 1 100).length
   ·have hkI:(k:Int)<((idsR R 1 100).length:Int):=by omega
    rcases H9.out.2.row.shape (fun _=>rfl) with ⟨_,e0⟩ | ⟨gi',capi,curi,hvi,_,hgli,_,_,hci⟩
    ·rw [e0] at hlt; simp at hlt
    have p0:=(hci k 0 hlt (by decide)).1
    simp only [cellsI,Je,Nat.add_zero,Nat.mul_one] at p0
    cases hvi
    obtain ⟨jd,hjd,ejd,hpres⟩:=Zf7 hlt
    rw [ejd] at p0
    have hpZ:=h.below H9.out.1.below
    obtain ⟨x,hx,ex1,ex2⟩:=Zag (id:=(jd:Int)) (xs:=R.t1) hpres
    have A7:=hid (fun (W':World) (b':Below Z5.heap.size Z5 W')=>Zdi (hpZ.below b') hf.len (show 1≤3 by omega) (jd:Int))
    have e3:tkR R 1=R.t1:=rfl
    rw [e3,ex1] at A7
    rcases hpZ.r1.shape (fun _=>rfl) with ⟨_,e0⟩ | ⟨g1,cap1,cur1,hv1',_,hgl1,hle1,_,hc1⟩
    ·rw [e0] at hx; simp at hx
    have m0:=(hc1 x 0 hx (by decide)).1
    have m1:=(hc1 x 1 hx (by decide)).1
    have m2:=(hc1 x 2 hx (by decide)).1
    simp only [cellsT,Je,Jf,Nat.add_zero] at m0 m1 m2
    rw [ex2] at m0
    have c1:=hpZ.c1
    rw [hv1'] at c1
    have hrbZ:=hpZ.lt
    have hxI:(x:Int)<(R.t1.length:Int):=by omega
    obtain ⟨y1,hy1'⟩:∃ z,R.t1[x].2.1=z:=⟨_,rfl⟩
    obtain ⟨y2,hy2'⟩:∃ z,R.t1[x].2.2=z:=⟨_,rfl⟩
    rw [hy1'] at m1
    rw [hy2'] at m2
    have Hm:=hid (Jc hy1' (Jc hy2' (Jc ex1 ex2)))
    clear hc1 hci hy1' hy2' ex1 ex2 e3
    go_upto_region 19 with fail
    go_cut [10] from 68 to 112 (fun v wx=>v=.pointer (some ⟨Z5.heap.size,0,none⟩)∧wx=(Z5.alloc (.cells #[.int .i64 jd,.int .i64 y1,.int .i64 y2] 76)).drew)
    case first =>
     go_region_with (go_simp; go_at_call 62; (first | (refine (A7.out _ (Jd _ _).drew).mono ?_) | (refine (A7.out _ ((Jd _ _).alloc (Jb _) _).drew).mono ?_)); rintro e Y1 ⟨rfl,rfl⟩)
     all_goals (go_wp2_with fail; go_meet; exact ⟨rfl,rfl⟩)
    case rest =>
     obtain ⟨rfl,hwx⟩:=hcut
     have bW:Below Z5.heap.size Z5 (Z5.alloc (.cells #[.int .i64 jd,.int .i64 y1,.int .i64 y2] 76)).drew:=((Jd _ _).alloc (Jb _) _).drew
     have XM:(Z5.alloc (.cells #[.int .i64 jd,.int .i64 y1,.int .i64 y2] 76)).drew.heap[Z5.heap.size]?=some (.cells #[.int .i64 jd,.int .i64 y1,.int .i64 y2] 76):=heap_alloc_new Z5 _
     rw [← hwx] at bW XM
     have N6:=H9.out.1.keep bW
     have NN6:=H9.out.2.below bW
     have zM:Z5.heap.size<wc.heap.size:=(Ja.1 XM).1
     have t0:=ZaA XM 0
     have t1:=ZaA XM 1
     have t2:=ZaA XM 2
     simp only [Jg,Jf,Je] at t0 t1 t2
     have hpY:=h.below N6.below
     have A8:=hid (Za1 hpY hf.len (show 1≤3 by omega) (show jd≤100 by omega))
     obtain ⟨n1,hn1⟩:∃ z,nodeR R 1 jd=z:=⟨_,rfl⟩
     rw [hn1] at A8
     have hy1b:=hrk _ (Jl hx)
     rw [Hm.out.1] at hy1b
     obtain ⟨yn,hyn⟩:∃ yn:Nat,y1=(yn:Int):=⟨y1.toNat,by omega⟩
     have A9:=hid (Za1 (hpY.below (Jd _ _).drew) hf.len (show 0≤3 by omega) (show yn≤100 by omega))
     obtain ⟨n2,hn2⟩:∃ z,nodeR R 0 yn=z:=⟨_,rfl⟩
     rw [hn2] at A9
     have hsn:machL R ((idsR R 1 100).take (k+1))=machL R ((idsR R 1 100).take k) ++ [⟨n2,n1,y2,0⟩] ++ [⟨n1,1,y2,0⟩]:=by
      unfold machL
      rw [List.take_succ_eq_append_getElem hlt,List.flatMap_append,ejd]
      have e9:machA R (jd:Int)=[⟨n2,n1,y2,0⟩] ++ [⟨n1,1,y2,0⟩]:=by
       unfold machA
       rw [Hm.out.2.2.1,Jn,Zac hx,Hm.out.1,Hm.out.2.1,Jn,hn1,hyn,Jn,hn2]
       rfl
      simp only [List.flatMap_cons,List.flatMap_nil,List.append_nil,e9,List.append_assoc]
     have Hs:=hid (Jc hsn (Jc N6 NN6))
     have q2:=N6.c2
     have q3:=N6.lt
     subst hyn
     have HXM:=hid XM
     clear hwx bW XM hpY hn1 hn2 hsn m0 m1 m2 c1 hv1' hgl1 hrbZ p0 hgli N6 NN6 A7
     go_upto_region 21 with (first
      | (go_at_call 96; refine A8.out.mono ?_; rintro e Y2 ⟨rfl,rfl⟩)
      | fail)
     go_cut [91] from 68 to 112 (fun _ wx=>∃ va':Value,Hid (NetB w wx n vs va' sup (L2 ++ [⟨n2,n1,y2,0⟩])∧NRow Z3.heap.size wx (.slice (some ⟨gi',0,none⟩) (idsR R 1 100).length cj) (idsR R 1 100)∧wx.heap[Z5.heap.size]?=some (.cells #[.int .i64 jd,.int .i64 yn,.int .i64 y2] 76)))
     case first =>
      have gx:=Hs.out.2.1.keep (Jd _ _).drew
      have gN:=Hs.out.2.2.below (Jd _ _).drew
      have bA:Below Y2.drew.heap.size Y2.drew (Y2.drew.alloc (.cells #[.int .i64 n2,.int .i64 n1,.int .i64 y2,.int .i64 0] 93)):=(Jd _ _).alloc (Jb _) _
      have gA:=gx.keep bA
      have gNA:=gN.below bA
      have XA:(Y2.drew.alloc (.cells #[.int .i64 n2,.int .i64 n1,.int .i64 y2,.int .i64 0] 93)).heap[Z5.heap.size]?=some (.cells #[.int .i64 jd,.int .i64 yn,.int .i64 y2] 76):=(bA.block _ zM).trans HXM.out
      have q2A:(Y2.alloc (.cells #[.int .i64 n2,.int .i64 n1,.int .i64 y2,.int .i64 0] 93)).cell? ⟨w.heap.size+1,2,none⟩=some va:=gA.c2
      have q3A:w.heap.size+1<Y2.heap.size+1:=by omega
      have hws:=gA.below.size
      have hmz:Z5.heap.size≠w.heap.size+1:=fun e=>by have:=HXM.out; rw [e,Hs.out.2.1.cells] at this; simp at this
      have Hq:=hid (Jc gA (Jc gNA (Jc XA hmz)))
      obtain ⟨pva,cva,hva⟩:=gx.arcs.sl
      subst hva
      clear gN gx bA gNA XA hmz
      go_region_law (first
       | (refine Zcq rfl _ _ 33 rfl w.heap.size 93 i9 (.agg #[.int .i64 0,.int .i64 0,.int .i64 0,.int .i64 0]) 4 32 Tryz.underlying33 hi9 hy0 hy1 hy2 rfl (by decide) _ _ _ rfl gA.arcs ⟨_,0,none⟩ 1 1 _ rfl rfl (ZhT _ _ _ _ _ _) (by intro u hu; simp at hu; rcases hu with rfl | rfl | rfl | rfl <;> rfl) (by unfold maxLen; omega) (by omega) (by simp at hws ⊢; omega) ?_; intro va' Z7 hrow hg hloc; obtain ⟨pu,cu,hvu⟩:=Zae hrow; subst hvu; obtain ⟨d3,HN⟩:=Hq.out.1.pushA hg (ARow.snoc (a:=⟨n2,n1,y2,0⟩) hrow); have HO:=Hq.out.1.other (va':=.slice pu (L2.length+1) cu) hg Hq.out.2.1; have HB:=Hq.out.1.blk (va':=.slice pu (L2.length+1) cu) hg Hq.out.2.2.1 (by decide) Hq.out.2.2.2; have k2:=ZaA d3 2; simp only [Jg,Jf,Je] at k2; have k3:=ZaR d3 2; have k4:=(Ja.1 d3).1; have HX:=hid (Jc HN (Jc HO HB)); clear HN HO HB hrow hg hloc d3)
       | (go_simp; go_at_call 96; refine A9.out.mono ?_; rintro e Y3 ⟨rfl,rfl⟩))
      all_goals (go_wp2_with fail; go_meet; exact ⟨_,HX.out⟩)
     case rest =>
      obtain ⟨va',H10⟩:=hcut
      have q2':=H10.out.1.c2
      have q3':=H10.out.1.lt
      have t2':=ZaA H10.out.2.2 2
      simp only [Jg,Jf,Je] at t2'
      have zM':=(Ja.1 H10.out.2.2).1
      have bB:Below wc.heap.size wc (wc.alloc (.cells #[.int .i64 n1,.int .i64 1,.int .i64 y2,.int .i64 0] 93)):=(Jd _ _).alloc (Jb _) _
      have NB:=H10.out.1.keep bB
      have NNB:=H10.out.2.1.below bB
      have hws:=H10.out.1.below.size
      obtain ⟨L3,hL3⟩:∃ L3,L2 ++ [(⟨n2,n1,y2,0⟩:Ar)]=L3:=⟨_,rfl⟩
      have hml2:L3.length≤1000000:=by rw [← hL3,Jo]; simp only [List.length_singleton]; omega
      rw [hL3] at NB
      have HL3:=hid hL3
      have Hb:=hid (Jc NB NNB)
      have hAr:=NB.arcs
      obtain ⟨pva,cva,hva⟩:=hAr.sl
      subst hva
      clear NB NNB q2 q3 t0 t1 t2 zM hL3
      go_upto_region 18 with (first
       | (at_builtin; refine ZaX _ w.heap.size ⟨n1,1,y2,0⟩ _ _ rfl _ _ rfl rfl hAr wc.heap.size rfl (heap_alloc_new wc _) (by simp; omega) hml2 ?_; intro va2 Z8 hrow hg hloc; obtain ⟨pu,cu,hvu⟩:=Zae hrow; subst hvu; obtain ⟨d3,HN⟩:=Hb.out.1.pushA hg hrow; have HO:=Hb.out.1.other (va':=.slice pu (L3 ++ [(⟨n1,1,y2,0⟩:Ar)]).length cu) hg Hb.out.2; have k2:=ZaA d3 2; simp only [Jg,Jf,Je] at k2; have k3:=ZaR d3 2; have k4:=(Ja.1 d3).1; have HX:=hid (Jc HN HO); clear HN HO hrow hg hloc d3)
       | fail)
      go_wp2_with fail
      go_roundg ((idsR R 1 100).length - (k+1))
      case measure=>omega
      case rel =>
       have hq:=HX.out
       simp only [Jo,List.length_singleton] at hq
       exact ⟨k+1,_,by omega,Jb _,by go_num,by rw [Hs.out.1,← List.append_assoc,← List.append_assoc,HL2.out,HL3.out]; exact hq.1,hq.2⟩
   ·obtain rfl:k=(idsR R 1 100).length:=by omega
    have N5:=H9.out.1
    have hL2:=HL2.out
    rw [List.take_length] at hL2
    have A7:=hid (Zbv (h.below N5.below) hf.len (show 2≤3 by omega))
    have H10:=hid (Jc N5 hL2)
    clear N5 hL2 HL2 hk hgk hlt H9
    go_wp2_with fail
    refine A7.out.mono ?_
    rintro e Z6 ⟨vq,rfl,hNq,b6⟩
    have N6:=H10.out.1.keep b6
    obtain ⟨pq,cq,hvq⟩:=Zah hNq.row
    subst hvq
    have hql:=Zaq R 2 100
    have H11:=hid (Jc N6 hNq)
    clear A7 b6 N6 hNq
    go_wp2_with fail
    go_loopg [13] (idsR R 2 100).length (fun gk nv wr=>∃ (k:Nat) (va:Value),k≤(idsR R 2 100).length∧(idsR R 2 100).length - k≤gk∧nv=.int .i64 k∧Hid (NetB w wr n vs va sup (L2 ++ jobA R ((idsR R 2 100).take k))∧NRow Z5.heap.size wr (.slice pq (idsR R 2 100).length cq) (idsR R 2 100)))
    case atStart=>exact ⟨0,_,Jq _,Jb _,rfl,by simpa [jobA] using H11.out.1,H11.out.2⟩
    case' round=>skip
    clear H11
    obtain ⟨k,va,hk,hgk,rfl,H11⟩:=hrel
    rename World=>Z7
    obtain ⟨L5,hL5⟩:∃ L5,L2 ++ jobA R ((idsR R 2 100).take k)=L5:=⟨_,rfl⟩
    have H11':=H11.out
    rw [hL5] at H11'
    have hrl:L5.length≤2000:=by rw [← hL5,Jo]; unfold jobA; rw [Jv,List.length_take]; omega
    have HL5:=hid hL5
    replace H11:=hid H11'
    clear hL5 H11'
    by_cases hlt:k<(idsR R 2 100).length
    ·have hkI:(k:Int)<((idsR R 2 100).length:Int):=by omega
     rcases H11.out.2.row.shape (fun _=>rfl) with ⟨_,e0⟩ | ⟨gq,capi,curi,hvi,_,hgli,_,_,hci⟩
     ·rw [e0] at hlt; simp at hlt
     have p0:=(hci k 0 hlt (by decide)).1
     simp only [cellsI,Je,Nat.add_zero,Nat.mul_one] at p0
     cases hvi
     obtain ⟨jd,hjd,ejd⟩:=Zew hlt
     rw [ejd] at p0
     have A8:=hid (Za1 ((h.below H11.out.1.below).below (Jd _ _).drew) hf.len (show 2≤3 by omega) (show jd≤100 by omega))
     obtain ⟨nk,hnk⟩:∃ x,nodeR R 2 jd=x:=⟨_,rfl⟩
     rw [hnk] at A8
     have hsn:L2 ++ jobA R ((idsR R 2 100).take (k+1))=L5 ++ [⟨nk,1,16,0⟩]:=by
      rw [← HL5.out]
      unfold jobA
      rw [List.take_succ_eq_append_getElem hlt,List.map_append,ejd]
      simp [hnk]
     have gx:=H11.out.1.keep (Jd _ _).drew
     have gN:=H11.out.2.below (Jd _ _).drew
     have bA:Below Z7.drew.heap.size Z7.drew (Z7.drew.alloc (.cells #[.int .i64 nk,.int .i64 1,.int .i64 16,.int .i64 0] 93)):=(Jd _ _).alloc (Jb _) _
     have gA:=gx.keep bA
     have gNA:=gN.below bA
     have q2:=gx.c2
     have q3:=gx.lt
     have q2A:(Z7.alloc (.cells #[.int .i64 nk,.int .i64 1,.int .i64 16,.int .i64 0] 93)).cell? ⟨w.heap.size+1,2,none⟩=some va:=gA.c2
     have q3A:w.heap.size+1<Z7.heap.size+1:=by have:w.heap.size+1<Z7.heap.size:=gx.lt; omega
     have hws:=gA.below.size
     have Hs:=hid (Jc hsn (Jc gA gNA))
     obtain ⟨pva,cva,hva⟩:=gx.arcs.sl
     subst hva
     clear hci hsn hnk ejd gNA gN gx bA
     go_upto_region 27 with fail
     go_region_law (first
      | (refine Zcq rfl _ _ 33 rfl w.heap.size 93 i9 (.agg #[.int .i64 0,.int .i64 0,.int .i64 0,.int .i64 0]) 4 32 Tryz.underlying33 hi9 hy0 hy1 hy2 rfl (by decide) _ _ _ rfl gA.arcs ⟨_,0,none⟩ 1 1 _ rfl rfl (ZhT _ _ _ _ _ _) (by intro u hu; simp at hu; rcases hu with rfl | rfl | rfl | rfl <;> rfl) (by unfold maxLen; omega) (by omega) (by simp at hws ⊢; omega) ?_; intro va' Z9 hrow hg hloc; obtain ⟨pu,cu,hvu⟩:=Zae hrow; subst hvu; obtain ⟨d3,HN⟩:=Hs.out.2.1.pushA hg (ARow.snoc (a:=⟨nk,1,16,0⟩) hrow); have HO:=Hs.out.2.1.other (va':=.slice pu (L5.length+1) cu) hg Hs.out.2.2; have k2:=ZaA d3 2; simp only [Jg,Jf,Je] at k2; have k3:=ZaR d3 2; have k4:=(Ja.1 d3).1; have HX:=hid (Jc HN HO); clear HN HO hrow hg hloc d3)
      | (go_simp; go_at_call 96; refine A8.out.mono ?_; rintro e Z8 ⟨rfl,rfl⟩))
     all_goals
      go_wp2_with fail
      go_roundg ((idsR R 2 100).length - (k+1))
      case measure=>omega
      case rel=>exact ⟨k+1,_,by omega,Jb _,by go_num,by rw [Hs.out.1]; exact HX.out.1,HX.out.2⟩
    ·obtain rfl:k=(idsR R 2 100).length:=by omega
     have N7:=H11.out.1
     have hL5:=HL5.out
     rw [List.take_length] at hL5
     have A8:=hid (Zbv (h.below N7.below) hf.len (show 3≤3 by omega))
     have H12:=hid (Jc N7 hL5)
     clear N7 hL5 HL5 hk hgk hlt H11
     go_wp2_with fail
     refine A8.out.mono ?_
     rintro e Z8 ⟨vt,rfl,hNt,b8⟩
     have N8:=H12.out.1.keep b8
     obtain ⟨pt,ct,hvt⟩:=Zah hNt.row
     subst hvt
     have htl:=Zaq R 3 100
     have H13:=hid (Jc N8 hNt)
     clear A8 b8 N8 hNt
     go_wp2_with fail
     go_loopg [15] (idsR R 3 100).length (fun gk nv wr=>∃ (k:Nat) (va:Value),k≤(idsR R 3 100).length∧(idsR R 3 100).length - k≤gk∧nv=.int .i64 k∧Hid (NetB w wr n vs va sup (L5 ++ taskL R ((idsR R 3 100).take k))∧NRow Z7.heap.size wr (.slice pt (idsR R 3 100).length ct) (idsR R 3 100)))
     case atStart=>exact ⟨0,_,Jq _,Jb _,rfl,by simpa [taskL] using H13.out.1,H13.out.2⟩
     case' round=>skip
     clear H13
     obtain ⟨k,va,hk,hgk,rfl,H13⟩:=hrel
     rename World=>Z9
     obtain ⟨L7,hL7⟩:∃ L7,L5 ++ taskL R ((idsR R 3 100).take k)=L7:=⟨_,rfl⟩
     have H13':=H13.out
     rw [hL7] at H13'
     have hrl7:L7.length≤100000:=by rw [← hL7,Jo]; have:=ZcQ R ((idsR R 3 100).take k); rw [List.length_take] at this; omega
     have HL7:=hid hL7
     replace H13:=hid H13'
     clear hL7 H13'
     by_cases hlt:k<(idsR R 3 100).length
     ·have hkI:(k:Int)<((idsR R 3 100).length:Int):=by omega
      rcases H13.out.2.row.shape (fun _=>rfl) with ⟨_,e0⟩ | ⟨gt,capi,curi,hvi,_,hgli,_,_,hci⟩
      ·rw [e0] at hlt; simp at hlt
      have p0:=(hci k 0 hlt (by decide)).1
      simp only [cellsI,Je,Nat.add_zero,Nat.mul_one] at p0
      cases hvi
      obtain ⟨jd,hjd,ejd,hpres⟩:=Zf7 hlt
      rw [ejd] at p0
      obtain ⟨x,hx,ex1,ex2⟩:=Zag (id:=(jd:Int)) (xs:=R.t3) hpres
      have A9:=hid (ZfT (h.below H13.out.1.below) hf x jd hx (by omega) ex1)
      obtain ⟨LL9,hLL9⟩:∃ LL9,leafR R x jd=LL9:=⟨_,rfl⟩
      have hlp:=ZhG R x jd
      have hll:=Ze4 R x jd
      rw [hLL9] at A9 hlp hll
      have hsn:L5 ++ taskL R ((idsR R 3 100).take (k+1))=L7 ++ LL9:=by
       rw [← HL7.out]
       unfold taskL
       rw [List.take_succ_eq_append_getElem hlt,List.flatMap_append,ejd]
       simp [ex1,hLL9]
      have Hsn:=hid hsn
      clear hci hsn hLL9 ejd ex1 ex2
      go_wp2_with fail
      refine A9.out.mono ?_
      rintro e Y1 ⟨vl,rfl,hvl,b9⟩
      have N9:=H13.out.1.keep b9
      have NN9:=H13.out.2.below b9
      have q2:=N9.c2
      have q3:=N9.lt
      have hws:=N9.below.size
      have Hs:=hid (Jc N9 NN9)
      have hAr:=N9.arcs
      obtain ⟨pva,cva,hva⟩:=hAr.sl
      subst hva
      obtain ⟨pvl,cvl,hvl2⟩:=hvl.sl
      subst hvl2
      clear N9 NN9 A9 p0
      go_upto_region 31 with (first
       | (at_builtin; refine Zf3 _ w.heap.size _ _ _ _ _ rfl _ _ rfl rfl hAr rfl hvl hlp hws (by omega) ?_; intro va2 Y2 hrow hg hloc; obtain ⟨pu,cu,hvu⟩:=Zae hrow; subst hvu; obtain ⟨d3,HN⟩:=Hs.out.1.pushA hg hrow; have HO:=Hs.out.1.other (va':=.slice pu (L7 ++ LL9).length cu) hg Hs.out.2; have k2:=ZaA d3 2; simp only [Jg,Jf,Je] at k2; have k3:=ZaR d3 2; have k4:=(Ja.1 d3).1; have HX:=hid (Jc HN HO); clear HN HO hrow hg hloc d3)
       | fail)
      go_wp2_with fail
      go_roundg ((idsR R 3 100).length - (k+1))
      case measure=>omega
      case rel =>
       have hq:=HX.out
       simp only [Jo] at hq
       exact ⟨k+1,_,by omega,Jb _,by go_num,by rw [Hsn.out]; exact hq.1,hq.2⟩
     ·obtain rfl:k=(idsR R 3 100).length:=by omega
      have hL7:=HL7.out
      rw [List.take_length] at hL7
      have eNet:netR R=L7:=by
       unfold netR
       rw [H8.out.2,H10.out.2,H12.out.2,hL7]
      have q0:=H13.out.1.c0
      have q1:=H13.out.1.c1
      have q2:=H13.out.1.c2
      have q3:=H13.out.1.lt
      have r0:=ZaA H13.out.1.res 0
      have r1:=ZaA H13.out.1.res 1
      have r2:=ZaA H13.out.1.res 2
      simp only [Jg,Jf,Je] at r0 r1 r2
      have f0:=ZaR H13.out.1.res 0
      have f1:=ZaR H13.out.1.res 1
      have f2:=ZaR H13.out.1.res 2
      have q4:w.heap.size<Z9.heap.size:=by omega
      have He:=hid eNet
      clear eNet hL7
      have hvs:=H5.out.2.2
      have hNs:=H13.out.1.sup
      have hAr:=H13.out.1.arcs
      have hBl:=H13.out.1.below
      obtain ⟨pva,cva,hva⟩:=hAr.sl
      subst hva
      rw [← hvs] at q1 hNs
      have hs0:gs≠w.heap.size:=fun e=>H13.out.1.ne1.2 (by rw [← hvs,← e]; rfl)
      have ha0:=H13.out.1.ne2.2
      have H14:=hid (Jc hNs (Jc hAr (Jc hBl (Jc hs0 ha0))))
      clear hNs hAr hBl hs0 ha0 hvs
      go_wp2_with fail
      obtain ⟨Zf,hZf⟩:∃ Zf,(((Z9.setCell ⟨w.heap.size,0,none⟩ (.int .i64 (n:Int))).setCell ⟨w.heap.size,1,none⟩ (.slice (some ⟨gs,0,none⟩) n cs)).setCell ⟨w.heap.size,2,none⟩ (.slice pva L7.length cva))=Zf:=⟨_,rfl⟩
      have hzc:Zf.heap[w.heap.size]?=some (.cells #[.int .i64 (n:Int),.slice (some ⟨gs,0,none⟩) n cs,.slice pva L7.length cva] 35):=by
       rw [← hZf]
       exact heap_setCell (heap_setCell (heap_setCell H13.out.1.res 0 _) 1 _) 2 _
      have z0:=ZaA hzc 0
      have z1':=ZaA hzc 1
      have z2:=ZaA hzc 2
      simp only [Jg,Jf,Je] at z0 z1' z2
      have hNf:NRow w.heap.size Zf (.slice (some ⟨gs,0,none⟩) n cs) sup:=by
       have hne:(Value.slice (some ⟨gs,0,none⟩) n cs).ownBlock≠some w.heap.size:=fun e=>H14.out.2.2.2.1 (by simpa [Value.ownBlock] using e)
       rw [← hZf]
       exact ((H14.out.1.kept (Zaa _ _ _) (Js hne)).kept (Zaa _ _ _) (Js hne)).kept (Zaa _ _ _) (Js hne)
      have hAf:ARow w.heap.size Zf (.slice pva L7.length cva) L7:=by
       have hne:=H14.out.2.2.2.2
       rw [← hZf]
       exact ((H14.out.2.1.kept (Zaa _ _ _) (Js hne)).kept (Zaa _ _ _) (Js hne)).kept (Zaa _ _ _) (Js hne)
      have hBf:Below w.heap.size w Zf:=by
       rw [← hZf]
       exact ((H14.out.2.2.1.setCell (p:=⟨w.heap.size,0,none⟩) (Jb _) _).setCell (p:=⟨w.heap.size,1,none⟩) (Jb _) _).setCell (p:=⟨w.heap.size,2,none⟩) (Jb _) _
      rw [hZf]
      rw [← H5.out.2.1] at hNf
      exact bodyPost_ret (v:=.agg #[.int .i64 (n:Int),.slice (some ⟨gs,0,none⟩) n cs,.slice pva L7.length cva]) (by simp [results,Tryz.f76,go_sem,z0,z1',z2]) rfl ⟨_,_,rfl,hNf,by rw [He.out]; exact hAf,hBf⟩
end
end
end Go.Proofs.YtjdindfjfpdikaaGreat
