import Derived.Deep.RegionWith
import Derived.Test.YtjdindfjfpdikabB28
import Derived.Test.YtjdindfjfpdikabB29
import Derived.Test.YtjdindfjfpdikabB31
import Derived.Test.YtjdindfjfpdikabPre
set_option maxRecDepth 100000
set_option maxHeartbeats 8000000
namespace Go.Proofs.Ytjdindfjfpdikab
section
open Go.RowKit
theorem two_boxes {w w2:World}{o1 o2:Obj}(hb:Below ((w.alloc o1).alloc o2).heap.size ((w.alloc o1).alloc o2) w2) :
  w2.heap[w.heap.size]?=some o1∧w2.heap[w.heap.size+1]?=some o2∧w.heap.size<w2.heap.size∧w.heap.size+1<w2.heap.size:=by
 have hz:((w.alloc o1).alloc o2).heap.size=w.heap.size+1+1:=by simp
 have hs:=hb.size
 rw [hz] at hs
 refine ⟨?_,?_,by omega,by omega⟩
 ·rw [hb.block _ (by omega),Below.heap_alloc _ _ _ (by simp)]
  exact (MapKept.heap_alloc w o1).1
 ·rw [hb.block _ (by omega)]
  have:=(MapKept.heap_alloc (w.alloc o1) o2).1
  rwa [show (w.alloc o1).heap.size=w.heap.size+1 by simp] at this
theorem cells3 {w:World}{b:Nat}{z0 z1 z2:Value}{t:TypeId}(h:w.heap[b]?=some (.cells #[z0,z1,z2] t)) :
  w.cell? ⟨b,0,none⟩=some z0∧w.cell? ⟨b,1,none⟩=some z1∧w.cell? ⟨b,2,none⟩=some z2:=by
 simp [World.cell?,h]
theorem frozen_of' {w:World}{b:Nat}{cs:Array Value}{t:TypeId}(h:w.heap[b]?=some (.cells cs t))(i:Nat):w.frozen? ⟨b,i,none⟩=false:=by simp [World.frozen?,h]
theorem grown_set (W:World)(b i:Nat)(v:Value):W.grownBy (W.setCell ⟨b,i,none⟩ v) (some b) :=
 ⟨rfl,rfl,rfl,by simp [World.setCell],fun k _ hn=>by
  have:¬ b=k:=fun e=>hn (by simp [e])
  simp [World.setCell,Array.getElem?_modify,this]⟩
theorem cloneA_any (w:World)(b9:Nat)(v:Value)(xs:List Ar)(h:ARow b9 w v xs)(hl:xs.length≤100000) :
  Calls Try.prog 29 #[v] w fun e w'=>∃ v',e=.returned v'∧ARow w.heap.size w' v' xs∧Below w.heap.size w w':=by
 rcases h.2 with ⟨rfl,e2⟩ | ⟨g,cap,cur,rfl,_,hg,hc1,hc2,hc3,ht⟩
 ·obtain rfl:xs=[]:=List.eq_nil_of_length_eq_zero e2
  have hnil:∀ W,(binOp .eql 37 (.slice none 0 0) (.slice none 0 0)).run Try.prog W=.ok (.bool true) W:=fun W=>Lib.run_eql_slice_nil_nil W _ _ Try.underlying37
  go_enter Try.func29,Try.ntmps29
  go_wp2
  go_ret
  exact ⟨_,rfl,ARow.nil _ _,Jd _ _⟩
 ·have hnil:∀ W,(binOp .eql 37 (.slice (some ⟨g,0,none⟩) xs.length cap) (.slice none 0 0)).run Try.prog W=.ok (.bool false) W:=fun W=>Lib.run_eql_slice_some_nil W _ _ _ Try.underlying37
  obtain ⟨i3,hi3,hy0,hy1,hy2⟩:=info_parts infoR91
  have bA:Below w.heap.size w (w.alloc (.cells #[] 50)):=(Jd _ _).alloc (Jb _) _
  have hgl:g<w.heap.size:=(Ja.1 hg).1
  have hr0:(w.alloc (.cells #[] 50)).ownsRow w.heap.size 50 4 (.slice (some ⟨w.heap.size,0,none⟩) 0 0) 0 []:=⟨rfl,Js ⟨_,0,#[],rfl,Jb _,heap_alloc_new w _,Jb _,by unfold maxLen; omega,rfl,rfl⟩⟩
  have hlen:(xs.flatMap cellsAr).length=xs.length*4:=h.1
  have hsrc:∀ (j:Nat) (u:Value),(xs.flatMap cellsAr)[j]?=some u→(w.alloc (.cells #[] 50)).cell? ((⟨g,0,none⟩:Addr).add j)=some u:=fun j u hj=>by
   have hz:(w.alloc (.cells #[] 50)).heap[g]?=some (.cells cur 50):=(bA.block g hgl).trans hg
   rw [Addr.add_lit,Nat.zero_add,at_cells hz]
   rw [← ht] at hj
   have hj':j<xs.length*4:=by
    have:=(List.getElem?_eq_some_iff.1 hj).1
    rw [List.length_take] at this
    omega
   rw [List.getElem?_take_of_lt hj',Array.getElem?_toList] at hj
   exact hj
  have hone:∀ u∈xs.flatMap cellsAr,u.oneCell'=true:=fun u hu=>by
   obtain ⟨x,_,hx⟩:=List.mem_flatMap.1 hu
   simp [cellsAr] at hx
   rcases hx with rfl | rfl | rfl | rfl <;> rfl
  have HA:=hid (Jc hr0 (Jc hlen (Jc hsrc (Jc hone bA))))
  clear hr0 hlen hsrc hone bA h ht
  go_enter Try.func29,Try.ntmps29
  go_wp2_with (first
   | (at_builtin; refine wpList_append_own_at (w.alloc (.cells #[] 50)) rfl _ _ 37 rfl w.heap.size 50 i3 (.agg #[.int .i64 0,.int .i64 0,.int .i64 0,.int .i64 0]) 4 32 Try.underlying37 hi3 hy0 hy1 hy2 rfl (by decide) _ 0 [] rfl HA.out.1 ⟨g,0,none⟩ xs.length cap (xs.flatMap cellsAr) rfl HA.out.2.1 HA.out.2.2.1 HA.out.2.2.2.1 (by unfold maxLen; omega) (by omega) (by simp) ?_; intro u w' hrow hg2 _ hloc; have HR:=hid (Jc hrow hg2); clear hrow hg2 hloc)
   | fail)
  go_ret
  refine ⟨_,rfl,?_,?_⟩
  ·have:=HR.out.1
   unfold ARow
   simpa using this
  ·refine HA.out.2.2.2.2.trans ⟨HR.out.2.os,HR.out.2.tape,HR.out.2.output,HR.out.2.size,fun b hb=>HR.out.2.block b (by simp; omega) (fun e=>by have e':some b=some w.heap.size:=e; injection e' with e''; omega)⟩
theorem sum_bound {A:Nat→Ar}{F:Nat→Int}{N:Int}{la n:Nat}(hA:∀ i,i<la→ArcOk N (A i))(hC:Caps la A F)(hn:n≤la):-(10000000*(n:Int))≤cost A F n∧cost A F n≤10000000*(n:Int):=by
 induction n with
 | zero=>simp [cost,sumN]
 | succ n ih =>
  have h1:=ih (by omega)
  have h2:=(hA n (by omega)).2.2
  have h3:=hC n (by omega)
  have e:cost A F (n+1)=cost A F n+F n*(A n).k:=rfl
  have u1:=Int.mul_le_mul_of_nonneg_left h2.2.2 h3.1
  have u2:=Int.mul_le_mul_of_nonneg_left h2.2.1 h3.1
  rw [e]
  generalize F n*(A n).k=z at *
  omega
end
section
open Go.RowKit
structure Showed (w w':World)(v1 v2 v3 v4:Value)(n1 n2 n3:Nat)(sup:List Int)(arcs:List Ar)(fl pr:List Int):Prop where
 r1:NRow w.heap.size w' v1 sup
 r2:ARow n1 w' v2 arcs
 r3:NRow n2 w' v3 fl
 r4:NRow n3 w' v4 pr
 t1:∀ b,v1.ownBlock=some b→b<n1
 t2:∀ b,v2.ownBlock=some b→b<n2
 t3:∀ b,v3.ownBlock=some b→b<n3
 le:w.heap.size≤n1∧n1≤n2∧n2≤n3∧n3≤w'.heap.size
 below:Below w.heap.size w w'
theorem cells5 {w:World}{b:Nat}{z0 z1 z2 z3 z4:Value}{t:TypeId}(h:w.heap[b]?=some (.cells #[z0,z1,z2,z3,z4] t)) :
  w.cell? ⟨b,0,none⟩=some z0∧w.cell? ⟨b,1,none⟩=some z1∧w.cell? ⟨b,2,none⟩=some z2∧w.cell? ⟨b,3,none⟩=some z3∧w.cell? ⟨b,4,none⟩=some z4:=by
 refine ⟨?_,?_,?_,?_,?_⟩ <;> simp [World.cell?,h]
def S5 (bx:Nat)(z0 z1 z2 z3 z4:Value)(W:World):Prop:=W.cell? ⟨bx,0,none⟩=some z0∧W.cell? ⟨bx,1,none⟩=some z1∧W.cell? ⟨bx,2,none⟩=some z2∧W.cell? ⟨bx,3,none⟩=some z3∧W.cell? ⟨bx,4,none⟩=some z4∧bx<W.heap.size
theorem S5.below {bx:Nat}{z0 z1 z2 z3 z4:Value}{W W':World}(h:S5 bx z0 z1 z2 z3 z4 W)(hb:Below W.heap.size W W'):S5 bx z0 z1 z2 z3 z4 W':=by
 obtain ⟨h0,h1,h2,h3,h4,h5⟩:=h
 exact ⟨(hb.cell (p:=⟨bx,0,none⟩) h5).trans h0,(hb.cell (p:=⟨bx,1,none⟩) h5).trans h1,(hb.cell (p:=⟨bx,2,none⟩) h5).trans h2,(hb.cell (p:=⟨bx,3,none⟩) h5).trans h3,(hb.cell (p:=⟨bx,4,none⟩) h5).trans h4,Jm h5 hb.size⟩
theorem S5.grown {bx a:Nat}{z0 z1 z2 z3 z4:Value}{W W':World}(h:S5 bx z0 z1 z2 z3 z4 W)(hg:W.grownBy W' (some a))(hne:bx≠a):S5 bx z0 z1 z2 z3 z4 W':=by
 obtain ⟨h0,h1,h2,h3,h4,h5⟩:=h
 have o:Only [a] W W':=Only.of_grown hg (by simp)
 have hn:bx∉[a]:=by simpa using hne
 exact ⟨(o.cell (p:=⟨bx,0,none⟩) h5 hn).trans h0,(o.cell (p:=⟨bx,1,none⟩) h5 hn).trans h1,(o.cell (p:=⟨bx,2,none⟩) h5 hn).trans h2,(o.cell (p:=⟨bx,3,none⟩) h5 hn).trans h3,(o.cell (p:=⟨bx,4,none⟩) h5 hn).trans h4,Jm h5 hg.size⟩
theorem results_cell_tmp2 {fn:Func}{p u v:Tmp}{ty:TypeId}(h:fn.results=#[.cell p ty,.tmp u,.tmp v])(tmps:Array Value)(P:Program)(w:World) :
  (results fn tmps).run P w=((asAddr (tmps.getD p undef)).run P w).andThen fun a w₁=>((loadVar ty a).run P w₁).andThen fun x w₂=>.ok (.tuple #[x,tmps.getD u undef,tmps.getD v undef]) w₂:=by
 simp only [results,h]
 simp [Sem.run_bind,Result.andThen]
theorem row_base {w:World}{B B' size n:Nat}{e:TypeId}{v:Value}{xs:List Value}(h:w.ownsRow B e size v n xs)(hb:B'≤B):w.ownsRow B' e size v n xs:=by
 refine ⟨h.1,?_⟩
 rcases h.2 with h2 | ⟨g,cap,cur,hv,h0,hr⟩
 ·exact Jr h2
 ·exact Js ⟨g,cap,cur,hv,Nat.le_trans hb h0,hr⟩
theorem grown_trans {w w1 w2:World}{b:Option Nat}(h:w.grownBy w1 b)(h':w1.grownBy w2 b):w.grownBy w2 b:=⟨h'.os.trans h.os,h'.tape.trans h.tape,h'.output.trans h.output,Nat.le_trans h.size h'.size,fun k hk hn=>(h'.block k (Jm hk h.size) hn).trans (h.block k hk hn)⟩
theorem shown_any {w:World}{S:List Nat}{pb:Nat}{x7 x8 x9 x10 x11 s1 s2 s3 s4:Value}{N c:Int}{sup:List Int}{arcs:List Ar}{fl pr:List Int}(h:Shw w S pb x7 x8 x9 x10 x11 s1 s2 s3 s4 N c sup arcs fl pr) :
  Calls Try.prog 8 #[.pointer (some ⟨pb,0,none⟩)] w fun e w'=>∃ v1 v2 v3 v4 n1 n2 n3,e=.returned (.tuple #[.agg #[.int .i64 N,v1,v2],v3,v4])∧Showed w w' v1 v2 v3 v4 n1 n2 n3 sup arcs fl pr:=by
 obtain ⟨b0,b1,b2,b3,hc⟩:=h.cells
 have hpl:pb<w.heap.size:=(Ja.1 hc).1
 have c4:w.cell? ⟨pb,4,none⟩=some (.int .i64 N):=by simp [World.cell?,hc]
 have c5:w.cell? ⟨pb,5,none⟩=some s1:=by simp [World.cell?,hc]
 have c6:w.cell? ⟨pb,6,none⟩=some s2:=by simp [World.cell?,hc]
 have c7:w.cell? ⟨pb,7,none⟩=some s3:=by simp [World.cell?,hc]
 have c8:w.cell? ⟨pb,8,none⟩=some s4:=by simp [World.cell?,hc]
 obtain ⟨p1,k1,rfl⟩:=h.r1.sl
 obtain ⟨p2,k2,rfl⟩:=h.r2.sl
 obtain ⟨p3,k3,rfl⟩:=h.r3.sl
 obtain ⟨p4,k4,rfl⟩:=h.r4.sl
 have H:=hid h
 clear hc h
 go_enter Try.func8,Try.ntmps8
 go_upto_region 2 with fail
 obtain ⟨W1,hW1⟩:∃ W1,(w.alloc (.cells #[.int .i64 0,.slice none 0 0,.slice none 0 0] 39)).alloc (.cells #[.int .i64 N,.slice p1 sup.length k1,.slice p2 arcs.length k2,.slice p3 fl.length k3,.slice p4 pr.length k4] 69)=W1:=⟨_,rfl⟩
 have hb1:Below w.heap.size w W1:=by rw [← hW1]; exact ((Jd _ _).alloc (Jb _) _).alloc (by simp) _
 obtain ⟨X0,X1,z0,z1⟩:=two_boxes (w2:=W1) (by rw [hW1]; exact Jd _ _)
 rw [hW1]
 clear hW1 c4 c5 c6 c7 c8
 obtain ⟨y0,y1,y2,y3,y4⟩:=cells5 X1
 have A1:=hid (clone_any W1.drew 0 _ sup (H.out.r1.below (hb1.trans (((Jd _ _).drew:Below W1.heap.size W1 W1.drew).mono hb1.size))) (by have:=H.out.len; omega))
 have HX:=hid (Jc hb1 (Jc X0 X1))
 clear hb1 X0 X1
 go_region_with (first
  | (go_at_call 25; refine A1.out.mono ?_; rintro e W2 ⟨v1,rfl,hn1,hb2⟩; obtain ⟨a1,j1,rfl⟩:=hn1.sl; have x0:=(hb2.cell (p:=⟨w.heap.size+1,0,none⟩) z1).trans y0; have x2:=(hb2.cell (p:=⟨w.heap.size+1,2,none⟩) z1).trans y2; have z2:w.heap.size+1<W2.heap.size:=Jm z1 hb2.size; have H2:=hid (Jc hn1 hb2); clear hn1 hb2)
  | (go_at_call 29; refine (cloneA_any W2 0 _ arcs (H.out.r2.below (next2 (HX.out.1.trans (((Jd _ _).drew:Below W1.heap.size W1 W1.drew).mono HX.out.1.size)) H2.out.2)) (by have:=H.out.len; omega)).mono ?_; rintro e W3 ⟨v2,rfl,hn2,hb3⟩; obtain ⟨a2,j2,rfl⟩:=hn2.sl; have X3:=(hb3.block _ z2).trans ((H2.out.2.block _ z1).trans HX.out.2.2); obtain ⟨q0,q1,q2,q3,q4⟩:=cells5 X3; have f1:=frozen_of' X3 1; have f2:=frozen_of' X3 2; have z3:w.heap.size+1<W3.heap.size:=(Ja.1 X3).1; have H3:=hid (Jc hn2 (Jc hb3 X3)); clear hn2 hb3 X3)
  | fail)
 all_goals
  go_upto_region 3 with fail
  obtain ⟨W4,hW4⟩:∃ W4,(W3.setCell ⟨w.heap.size+1,1,none⟩ (.slice a1 sup.length j1)).setCell ⟨w.heap.size+1,2,none⟩ (.slice a2 arcs.length j2)=W4:=⟨_,rfl⟩
  have X4:W4.heap[w.heap.size+1]?=some (.cells #[.int .i64 N,.slice a1 sup.length j1,.slice a2 arcs.length j2,.slice p3 fl.length k3,.slice p4 pr.length k4] 69):=by rw [← hW4]; simp [World.setCell,Array.getElem?_modify,H3.out.2.2]
  have g4:W3.grownBy W4 (some (w.heap.size+1)):=by rw [← hW4]; exact grown_trans (grown_set W3 _ _ _) (grown_set _ _ _ _)
  rw [hW4]
  clear hW4 A1 y0 y1 y2 y3 y4 x0 x2 q0 q1 q2 q3 q4 f1 f2
  have z4:w.heap.size+1<W4.heap.size:=(Ja.1 X4).1
  have hS0:S5 (w.heap.size+1) (.int .i64 N) (.slice a1 sup.length j1) (.slice a2 arcs.length j2) (.slice p3 fl.length k3) (.slice p4 pr.length k4) W4.drew:=by obtain ⟨m0,m1,m2,m3,m4⟩:=cells5 X4; exact ⟨m0,m1,m2,m3,m4,z4⟩
  have o4:∀ b,b<w.heap.size+1→W4.heap[b]?=W1.heap[b]?:=fun b hb=>by
   rw [g4.block b (by have:=H3.out.2.1.size; have:=H2.out.2.size; simp at *; omega) (by simp; omega),H3.out.2.1.block b (by have:=H2.out.2.size; simp at *; omega)]
   exact H2.out.2.block b (by simp; omega)
  have b14:Below w.heap.size w W4.drew:=⟨g4.os.trans (H3.out.2.1.os.trans (H2.out.2.os.trans HX.out.1.os)),g4.tape.trans (H3.out.2.1.tape.trans (H2.out.2.tape.trans HX.out.1.tape)),g4.output.trans (H3.out.2.1.output.trans (H2.out.2.output.trans HX.out.1.output)),by have:=H3.out.2.1.size; have:=H2.out.2.size; have:=g4.size; have:=HX.out.1.size; simp at *; omega,fun b hb=>(o4 b (by omega)).trans (HX.out.1.block b hb)⟩
  have A3:=hid (clone_any W4.drew 0 _ fl (H.out.r3.below b14) (by have:=H.out.len; omega))
  have H4:=hid (Jc X4 (Jc g4 (Jc o4 b14)))
  clear X4 g4 o4 b14
  refine wp_region_held_drew (S:=S5 (w.heap.size+1) (.int .i64 N) (.slice a1 sup.length j1) (.slice a2 arcs.length j2) (.slice p3 fl.length k3) (.slice p4 pr.length k4)) (by kernel_rfl) hS0 (fun _=>?_)
  refine tkH (v:=?_) 0 22 hS0 ?_ ?_; rotate_left 1
  ·(rintro w' ⟨e0,e1,e2,e3,e4,e5⟩; go_simp; try with_reducible rfl)
  simp only [Act.put,Jh,Ji,Jj]
  refine tkH (v:=?_) 1 23 hS0 ?_ ?_; rotate_left 1
  ·(rintro w' ⟨e0,e1,e2,e3,e4,e5⟩; go_simp; try with_reducible rfl)
  simp only [Act.put,Jh,Ji,Jj]
  refine tkH (v:=?_) 2 24 hS0 ?_ ?_; rotate_left 1
  ·(rintro w' ⟨e0,e1,e2,e3,e4,e5⟩; go_simp; try with_reducible rfl)
  simp only [Act.put,Jh,Ji,Jj]
  refine tkH (v:=?_) 3 25 hS0 ?_ ?_; rotate_left 1
  ·(rintro w' ⟨e0,e1,e2,e3,e4,e5⟩; go_simp; try with_reducible rfl)
  simp only [Act.put,Jh,Ji,Jj]
  refine tkH (v:=?_) 5 27 hS0 ?_ ?_; rotate_left 1
  ·(rintro w' ⟨e0,e1,e2,e3,e4,e5⟩; go_simp; try with_reducible rfl)
  simp only [Act.put,Jh,Ji,Jj]
  refine tkH (v:=?_) 6 28 hS0 ?_ ?_; rotate_left 1
  ·(rintro w' ⟨e0,e1,e2,e3,e4,e5⟩; go_simp; try with_reducible rfl)
  simp only [Act.put,Jh,Ji,Jj]
  refine wpAnyH_ready (rs:=[4]) (by kernel_rfl) (by simp) ?_
  refine AllReadyH.cons rfl (fun K hK=>?_) AllReadyH.nil
  go_simp
  refine A3.out.mono ?_
  rintro e W5 ⟨v3,rfl,hn3,hb5⟩
  obtain ⟨a3,j3,rfl⟩:=hn3.sl
  have hS1:=hS0.below hb5
  refine hK.out _ _ hS1 (fun _=>?_)
  clear hK K
  have A4:=hid (clone_any W5 0 _ pr (H.out.r4.below (next2 H4.out.2.2.2 hb5)) (by have:=H.out.len; omega))
  have H5:=hid (Jc hn3 hb5)
  clear hn3 hb5
  refine wpAnyH_ready (rs:=[7]) (by kernel_rfl) (by simp) ?_
  refine AllReadyH.cons rfl (fun K hK=>?_) AllReadyH.nil
  go_simp
  refine A4.out.mono ?_
  rintro e W6 ⟨v4,rfl,hn4,hb6⟩
  obtain ⟨a4,j4,rfl⟩:=hn4.sl
  have hS2:=hS1.below hb6
  refine hK.out _ _ hS2 (fun _=>?_)
  clear hK K
  have X6:W6.heap[w.heap.size]?=some (.cells #[.int .i64 0,.slice none 0 0,.slice none 0 0] 39):=by
   rw [hb6.block _ (Jm (by simp; omega) H5.out.2.size),H5.out.2.block _ (by simp; omega)]
   exact (H4.out.2.2.1 _ (by omega)).trans HX.out.2.1
  obtain ⟨m0,m1,m2⟩:=cells3 X6
  have f0:=frozen_of' X6 0
  have f1:=frozen_of' X6 1
  have f2:=frozen_of' X6 2
  have z6:w.heap.size<W6.heap.size:=(Ja.1 X6).1
  have H6:=hid (Jc hn4 (Jc hb6 X6))
  clear hn4 hb6 X6
  refine wpAnyH_ready (rs:=[8]) (by kernel_rfl) (by simp) ?_
  refine AllReadyH.cons rfl (fun K hK=>?_) AllReadyH.nil
  go_simp
  obtain ⟨W7,hW7⟩:∃ W7,((W6.setCell ⟨w.heap.size,0,none⟩ (.int .i64 N)).setCell ⟨w.heap.size,1,none⟩ (.slice a1 sup.length j1)).setCell ⟨w.heap.size,2,none⟩ (.slice a2 arcs.length j2)=W7:=⟨_,rfl⟩
  have g7:W6.grownBy W7 (some w.heap.size):=by rw [← hW7]; exact grown_trans (grown_trans (grown_set W6 _ _ _) (grown_set _ _ _ _)) (grown_set _ _ _ _)
  have X7:W7.heap[w.heap.size]?=some (.cells #[.int .i64 N,.slice a1 sup.length j1,.slice a2 arcs.length j2] 39):=by rw [← hW7]; simp [World.setCell,Array.getElem?_modify,H6.out.2.2]
  have hS3:=hS2.grown g7 (by omega)
  rw [hW7]
  refine hK.out _ _ hS3 (fun _=>?_)
  clear hK K hW7 m0 m1 m2 f0 f1 f2 A3 A4
  obtain ⟨m0,m1,m2⟩:=cells3 X7
  have z7:w.heap.size<W7.heap.size:=(Ja.1 X7).1
  refine tkH (v:=?_) 9 3 hS3 ?_ ?_; rotate_left 1
  ·(rintro w' ⟨e0,e1,e2,e3,e4,e5⟩; go_simp; try with_reducible rfl)
  simp only [Act.put,Jh,Ji,Jj]
  refine tkH (v:=?_) 10 4 hS3 ?_ ?_; rotate_left 1
  ·(rintro w' ⟨e0,e1,e2,e3,e4,e5⟩; go_simp; try with_reducible rfl)
  simp only [Act.put,Jh,Ji,Jj]
  refine wpAnyH_done (by kernel_rfl) ?_ _
  clear hS0 hS1 hS2 hS3
  go_wp2_with fail
  try simp only [Exit.inBlock,Exit.then]
  refine bodyPost_ret (v:=.tuple #[.agg #[.int .i64 N,.slice a1 sup.length j1,.slice a2 arcs.length j2],.slice a3 fl.length j3,.slice a4 pr.length j4]) ((results_cell_tmp2 rfl _ _ _).trans ?_) rfl ?_
  ·go_simp
  refine ⟨_,_,_,_,W2.heap.size,W4.heap.size,W5.heap.size,rfl,?_⟩
  have e2:W1.heap.size≤W2.heap.size:=H2.out.2.size
  have e3:W2.heap.size≤W3.heap.size:=H3.out.2.1.size
  have e4:W3.heap.size≤W4.heap.size:=H4.out.2.1.size
  have e5:W4.heap.size≤W5.heap.size:=H5.out.2.size
  have e6:W5.heap.size≤W6.heap.size:=H6.out.2.1.size
  have e7:=g7.size
  have l1:∀ b,(Value.slice a1 sup.length j1).ownBlock=some b→W1.heap.size≤b∧b<W2.heap.size:=fun b e=>World.ownsRow.lt H2.out.1 b e
  have l2:∀ b,(Value.slice a2 arcs.length j2).ownBlock=some b→W2.heap.size≤b∧b<W3.heap.size:=fun b e=>World.ownsRow.lt H3.out.1 b e
  have l3:∀ b,(Value.slice a3 fl.length j3).ownBlock=some b→W4.heap.size≤b∧b<W5.heap.size:=fun b e=>World.ownsRow.lt H5.out.1 b e
  have l4:∀ b,(Value.slice a4 pr.length j4).ownBlock=some b→W5.heap.size≤b∧b<W6.heap.size:=fun b e=>World.ownsRow.lt H6.out.1 b e
  have m7:∀ b,b<W6.heap.size→b≠w.heap.size→W7.heap[b]?=W6.heap[b]?:=fun b h1 h2=>g7.block b h1 (by simpa using h2)
  have m6:∀ b,b<W5.heap.size→W6.heap[b]?=W5.heap[b]?:=fun b h1=>H6.out.2.1.block b h1
  have m5:∀ b,b<W4.heap.size→W5.heap[b]?=W4.heap[b]?:=fun b h1=>H5.out.2.block b h1
  have m4:∀ b,b<W3.heap.size→b≠w.heap.size+1→W4.heap[b]?=W3.heap[b]?:=fun b h1 h2=>H4.out.2.1.block b h1 (by simpa using h2)
  have m3:∀ b,b<W2.heap.size→W3.heap[b]?=W2.heap[b]?:=fun b h1=>H3.out.2.1.block b h1
  have hbz:=HX.out.1.size
  refine ⟨?_,?_,?_,?_,fun b e=>(l1 b e).2,fun b e=>by have:=l2 b e; omega,fun b e=>(l3 b e).2,⟨by omega,by omega,e5,by omega⟩,?_⟩
  ·have h1:W7.ownsRow W1.heap.size 3 1 _ _ _:=ownsRow_mv H2.out.1 (fun b e=>by have:=l1 b e; rw [m7 b (by omega) (by omega),m6 b (by omega),m5 b (by omega),m4 b (by omega) (by omega),m3 b (by omega)])
   exact row_base h1 hbz
  ·exact ownsRow_mv H3.out.1 (fun b e=>by have:=l2 b e; rw [m7 b (by omega) (by omega),m6 b (by omega),m5 b (by omega),m4 b (by omega) (by omega)])
  ·exact ownsRow_mv H5.out.1 (fun b e=>by have:=l3 b e; rw [m7 b (by omega) (by omega),m6 b (by omega)])
  ·exact ownsRow_mv H6.out.1 (fun b e=>by have:=l4 b e; rw [m7 b (by omega) (by omega)])
  ·have hb6:Below w.heap.size w W6:=next2 (next2 H4.out.2.2.2 H5.out.2) H6.out.2.1
   exact ⟨g7.os.trans hb6.os,g7.tape.trans hb6.tape,g7.output.trans hb6.output,Nat.le_trans hb6.size g7.size,fun b hb=>(m7 b (by omega) (by omega)).trans (hb6.block b hb)⟩
end
end Go.Proofs.Ytjdindfjfpdikab
