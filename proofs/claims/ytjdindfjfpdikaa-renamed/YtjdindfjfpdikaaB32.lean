import Derived.Deep.RegionHeld
import Derived.Deep.LoopGhost
import Derived.Test.YtjdindfjfpdikaaB22
import Derived.Test.YtjdindfjfpdikaaB25
import Derived.Test.YtjdindfjfpdikaaB29
import Derived.Test.YtjdindfjfpdikaaB30
import Derived.Test.YtjdindfjfpdikaaB31
import Derived.Test.YtjdindfjfpdikaaPre
set_option maxRecDepth 100000
set_option maxHeartbeats 8000000
namespace Go.Proofs.Ytjdindfjfpdikaa
section
open Go.RowKit
section
variable {base:Nat}{w0 w w':World}{mb pb b0 b1 b2 b3 xb:Nat}{more:Int}{vs:Value}{slots:List Int}{tasks:Int}{R R':RSt}{p:Option Addr}{len cap a a' nt:Nat}{c:Nat→Int}
theorem mk_costN (h:MK base w0 w mb pb b0 b1 b2 b3 xb more vs slots tasks R p len cap c a)(hR:RM more R slots nt){t:Nat}(ht:t<nt) :
  Calls Try.prog 17 #[.pointer (some ⟨pb,0,none⟩),.int .i64 (idOf more t),.int .i64 (-1)] w fun e w'=>e=.returned (.tuple #[.int .i64 (tabF more R t 0),.int .i64 0])∧Below w.heap.size w w':=by
 obtain ⟨l0,l1,l2,l3,hp,hs⟩:=h.plan
 obtain ⟨hl,e⟩:=hR.task ht
 obtain ⟨y,hy,ey⟩:=hs.fit.job _ (Jl hl)
 obtain ⟨j,hj,rfl⟩:=List.mem_iff_getElem.1 hy
 have ej:atOf R.t3[t].2.1 R.t2=j:=by rw [← ey]; exact atOf_mem hs.fit.nd2 hj
 have hb:=hs.fit.n2 _ (Jl hj)
 have:=cost_none hp R.t3[t].1 2 R.t3[t].2.1 0 R.t3[t].2.2 4 0 0 R.t2[j].2.2 (hs.yes3 hl) (by rw [← ey]; exact hs.yes2 hj) hb.1 hb.2 hs.wd
 rw [none_R hs hl hj ej,e] at this
 exact this
theorem mk_costM (h:MK base w0 w mb pb b0 b1 b2 b3 xb more vs slots tasks R p len cap c a)(hR:RM more R slots nt){t k:Nat}(ht:t<nt)(hk:k<slots.length) :
  Calls Try.prog 17 #[.pointer (some ⟨pb,0,none⟩),.int .i64 (idOf more t),.int .i64 (idOf more k)] w fun e w'=>e=.returned (.tuple #[.int .i64 (tabF more R t (k+1)),.int .i64 0])∧Below w.heap.size w w':=by
 obtain ⟨l0,l1,l2,l3,hp,hs⟩:=h.plan
 obtain ⟨hl,e⟩:=hR.task ht
 obtain ⟨hm,e1,_⟩:=hR.pos hs.fits.net.run hk
 have hb:=hs.fit.n3 _ (Jl hl)
 have hi:=idOf_bounds more k
 have:=cost_on hp R.t3[t].1 R.t1[posM more R k].1 2 R.t3[t].2.1 0 R.t3[t].2.2 0 R.t1[posM more R k].2.1 R.t1[posM more R k].2.2 0 (by rw [e1]; omega) (hs.yes3 hl) (hs.yes1 hm) hb.1 hb.2 hs.costs
 rw [cost_R hs hl hm,e,e1] at this
 exact this
theorem tabF_bound (hf:RunFit R){t:Nat}(ht:t<R.t3.length)(j:Nat):0≤tabF more R t j∧tabF more R t j≤1150:=by
 unfold tabF
 split
 ·exact cR_bound hf ht
 ·exact cR_bound hf ht
end
def S6 (mb:Nat)(z0 z1:Value)(W:World):Prop:=W.cell? ⟨mb,0,none⟩=some z0∧W.cell? ⟨mb,1,none⟩=some z1∧mb<W.heap.size
section
variable {base:Nat}{w0 w w':World}{mb pb b0 b1 b2 b3 xb:Nat}{more:Int}{vs:Value}{slots:List Int}{tasks:Int}{R R':RSt}{p:Option Addr}{len cap a a' nt:Nat}{c:Nat→Int}
theorem S6.of (h:MK base w0 w mb pb b0 b1 b2 b3 xb more vs slots tasks R p len cap c a):S6 mb (.pointer (some ⟨pb,0,none⟩)) (.int .i64 more) w:=⟨h.cs.1,h.cs.2.1,h.lt⟩
theorem cost_any (hM:MK base w0 w mb pb b0 b1 b2 b3 xb more vs slots tasks R p len cap c a)(hR:RM more R slots nt){t:Nat}(ht:t<nt){on:Int}(h0:-1≤on)(h1:on<slots.length) :
  Calls Try.prog 41 #[.pointer (some ⟨mb,0,none⟩),.int .i64 t,.int .i64 on] w fun e w'=>e=.returned (.tuple #[.int .i64 (tabF more R t (on+1).toNat),.bool true])∧Below w.heap.size w w':=by
 have hf:=hR.few
 obtain ⟨y0,y1,_,_⟩:=hM.cs
 have y4:=hM.lt
 have H0:=hid' hM
 clear hM
 by_cases hk:on<0
 ·obtain rfl:on=-1:=by omega
  have hS0:S6 mb (.pointer (some ⟨pb,0,none⟩)) (.int .i64 more) w.drew:=S6.of H0.out.drew
  have D1:=hid' (id_any w.drew more t (by omega) (by omega) H0.out.more0.1 (by have:=H0.out.more0; omega))
  go_enter Try.func41,Try.ntmps41
  go_upto_region 4 with fail
  refine wp_region_held_drew (S:=S6 mb (.pointer (some ⟨pb,0,none⟩)) (.int .i64 more)) (by kernel_rfl) hS0 (fun _=>?_)
  refine tkH (v:=?_) 0 20 hS0 ?_ ?_; rotate_left 1
  ·(rintro w' ⟨e0,e1,e2⟩; go_simp; try with_reducible rfl)
  simp only [Act.put,Jh,Ji,Jj]
  refine tkH (v:=?_) 1 21 hS0 ?_ ?_; rotate_left 1
  ·(rintro w' ⟨e0,e1,e2⟩; go_simp; try with_reducible rfl)
  simp only [Act.put,Jh,Ji,Jj]
  refine tkH (v:=?_) 2 22 hS0 ?_ ?_; rotate_left 1
  ·(rintro w' ⟨e0,e1,e2⟩; go_simp; try with_reducible rfl)
  simp only [Act.put,Jh,Ji,Jj]
  refine tkH (v:=?_) 3 23 hS0 ?_ ?_; rotate_left 1
  ·(rintro w' ⟨e0,e1,e2⟩; go_simp; try with_reducible rfl)
  simp only [Act.put,Jh,Ji,Jj]
  refine tkH (v:=?_) 4 24 hS0 ?_ ?_; rotate_left 1
  ·(rintro w' ⟨e0,e1,e2⟩; go_simp; try with_reducible rfl)
  simp only [Act.put,Jh,Ji,Jj]
  refine tkH (v:=?_) 5 25 hS0 ?_ ?_; rotate_left 1
  ·(rintro w' ⟨e0,e1,e2⟩; go_simp; try with_reducible rfl)
  simp only [Act.put,Jh,Ji,Jj]
  refine tkH (v:=?_) 6 26 hS0 ?_ ?_; rotate_left 1
  ·(rintro w' ⟨e0,e1,e2⟩; go_simp; try with_reducible rfl)
  simp only [Act.put,Jh,Ji,Jj]
  refine tkH (v:=?_) 7 27 hS0 ?_ ?_; rotate_left 1
  ·(rintro w' ⟨e0,e1,e2⟩; go_simp; try with_reducible rfl)
  simp only [Act.put,Jh,Ji,Jj]
  refine tkH (v:=?_) 8 28 hS0 ?_ ?_; rotate_left 1
  ·(rintro w' ⟨e0,e1,e2⟩; go_simp; try with_reducible rfl)
  simp only [Act.put,Jh,Ji,Jj]
  refine tkH (v:=?_) 10 30 hS0 ?_ ?_; rotate_left 1
  ·(rintro w' ⟨e0,e1,e2⟩; go_simp; try with_reducible rfl)
  simp only [Act.put,Jh,Ji,Jj]
  refine wpAnyH_ready (rs:=[9]) (by kernel_rfl) (by simp) ?_
  refine AllReadyH.cons rfl (fun K hK=>?_) AllReadyH.nil
  go_simp
  refine D1.out.mono ?_
  rintro e T1 ⟨rfl,bb⟩
  have F1:=hid' (Jc (H0.out.drew.of_below bb) bb)
  clear bb
  have hS1:=S6.of F1.out.1
  have D2:=hid' (mk_costN F1.out.1 hR ht)
  refine hK.out _ _ hS1 (fun _=>?_)
  clear hK K D1
  refine wpAnyH_ready (rs:=[11]) (by kernel_rfl) (by simp) ?_
  refine AllReadyH.cons rfl (fun K hK=>?_) AllReadyH.nil
  go_simp
  refine D2.out.mono ?_
  rintro e T2 ⟨rfl,bb⟩
  have F2:=hid' (next2 (next2 ((Jd _ _).drew) F1.out.2) bb)
  have hS2:=S6.of (F1.out.1.of_below bb)
  clear bb
  refine hK.out _ _ hS2 (fun _=>?_)
  clear hK K D2
  refine tkH (v:=?_) 12 19 hS2 ?_ ?_; rotate_left 1
  ·(rintro w' ⟨e0,e1,e2⟩; go_simp; try with_reducible rfl)
  simp only [Act.put,Jh,Ji,Jj]
  refine tkH (v:=?_) 13 32 hS2 ?_ ?_; rotate_left 1
  ·(rintro w' ⟨e0,e1,e2⟩; go_simp; try with_reducible rfl)
  simp only [Act.put,Jh,Ji,Jj]
  refine tkH (v:=?_) 14 33 hS2 ?_ ?_; rotate_left 1
  ·(rintro w' ⟨e0,e1,e2⟩; go_simp; try with_reducible rfl)
  simp only [Act.put,Jh,Ji,Jj]
  refine tkH (v:=?_) 15 9 hS2 ?_ ?_; rotate_left 1
  ·(rintro w' ⟨e0,e1,e2⟩; go_simp; try with_reducible rfl)
  simp only [Act.put,Jh,Ji,Jj]
  refine tkH (v:=?_) 16 10 hS2 ?_ ?_; rotate_left 1
  ·(rintro w' ⟨e0,e1,e2⟩; go_simp; try with_reducible rfl)
  simp only [Act.put,Jh,Ji,Jj]
  refine wpAnyH_done (by kernel_rfl) ?_ _
  clear hS0 hS1 hS2
  go_wp2_with fail
  go_ret2
  exact ⟨rfl,F2.out⟩
 ·obtain ⟨k,rfl⟩:∃ k:Nat,on=k:=⟨on.toNat,by omega⟩
  have hk2:(0:Int)≤(k:Int):=by omega
  have D0:=hid' (id_any w more k (by omega) (by omega) H0.out.more0.1 (by have:=H0.out.more0; omega))
  go_enter Try.func41,Try.ntmps41
  go_upto_region 4 with (first
   | (go_at_call 31; refine D0.out.mono ?_; rintro e W1 ⟨rfl,bb1⟩; have H1:=hid' (Jc (H0.out.of_below bb1) bb1); clear bb1)
   | fail)
  have hS0:S6 mb (.pointer (some ⟨pb,0,none⟩)) (.int .i64 more) W1.drew:=S6.of H1.out.1.drew
  have D1:=hid' (id_any W1.drew more t (by omega) (by omega) H0.out.more0.1 (by have:=H0.out.more0; omega))
  refine wp_region_held_drew (S:=S6 mb (.pointer (some ⟨pb,0,none⟩)) (.int .i64 more)) (by kernel_rfl) hS0 (fun _=>?_)
  refine tkH (v:=?_) 0 20 hS0 ?_ ?_; rotate_left 1
  ·(rintro w' ⟨e0,e1,e2⟩; go_simp; try with_reducible rfl)
  simp only [Act.put,Jh,Ji,Jj]
  refine tkH (v:=?_) 1 21 hS0 ?_ ?_; rotate_left 1
  ·(rintro w' ⟨e0,e1,e2⟩; go_simp; try with_reducible rfl)
  simp only [Act.put,Jh,Ji,Jj]
  refine tkH (v:=?_) 2 22 hS0 ?_ ?_; rotate_left 1
  ·(rintro w' ⟨e0,e1,e2⟩; go_simp; try with_reducible rfl)
  simp only [Act.put,Jh,Ji,Jj]
  refine tkH (v:=?_) 3 23 hS0 ?_ ?_; rotate_left 1
  ·(rintro w' ⟨e0,e1,e2⟩; go_simp; try with_reducible rfl)
  simp only [Act.put,Jh,Ji,Jj]
  refine tkH (v:=?_) 4 24 hS0 ?_ ?_; rotate_left 1
  ·(rintro w' ⟨e0,e1,e2⟩; go_simp; try with_reducible rfl)
  simp only [Act.put,Jh,Ji,Jj]
  refine tkH (v:=?_) 5 25 hS0 ?_ ?_; rotate_left 1
  ·(rintro w' ⟨e0,e1,e2⟩; go_simp; try with_reducible rfl)
  simp only [Act.put,Jh,Ji,Jj]
  refine tkH (v:=?_) 6 26 hS0 ?_ ?_; rotate_left 1
  ·(rintro w' ⟨e0,e1,e2⟩; go_simp; try with_reducible rfl)
  simp only [Act.put,Jh,Ji,Jj]
  refine tkH (v:=?_) 7 27 hS0 ?_ ?_; rotate_left 1
  ·(rintro w' ⟨e0,e1,e2⟩; go_simp; try with_reducible rfl)
  simp only [Act.put,Jh,Ji,Jj]
  refine tkH (v:=?_) 8 28 hS0 ?_ ?_; rotate_left 1
  ·(rintro w' ⟨e0,e1,e2⟩; go_simp; try with_reducible rfl)
  simp only [Act.put,Jh,Ji,Jj]
  refine tkH (v:=?_) 10 30 hS0 ?_ ?_; rotate_left 1
  ·(rintro w' ⟨e0,e1,e2⟩; go_simp; try with_reducible rfl)
  simp only [Act.put,Jh,Ji,Jj]
  refine wpAnyH_ready (rs:=[9]) (by kernel_rfl) (by simp) ?_
  refine AllReadyH.cons rfl (fun K hK=>?_) AllReadyH.nil
  go_simp
  refine D1.out.mono ?_
  rintro e T1 ⟨rfl,bb⟩
  have F1:=hid' (Jc (H1.out.1.drew.of_below bb) bb)
  clear bb
  have hS1:=S6.of F1.out.1
  have D2:=hid' (mk_costM (k:=k) F1.out.1 hR ht (by omega))
  refine hK.out _ _ hS1 (fun _=>?_)
  clear hK K D1
  refine wpAnyH_ready (rs:=[11]) (by kernel_rfl) (by simp) ?_
  refine AllReadyH.cons rfl (fun K hK=>?_) AllReadyH.nil
  go_simp
  refine D2.out.mono ?_
  rintro e T2 ⟨rfl,bb⟩
  have F2:=hid' (next2 H1.out.2 (next2 (next2 ((Jd _ _).drew) F1.out.2) bb))
  have hS2:=S6.of (F1.out.1.of_below bb)
  clear bb
  refine hK.out _ _ hS2 (fun _=>?_)
  clear hK K D2
  refine tkH (v:=?_) 12 19 hS2 ?_ ?_; rotate_left 1
  ·(rintro w' ⟨e0,e1,e2⟩; go_simp; try with_reducible rfl)
  simp only [Act.put,Jh,Ji,Jj]
  refine tkH (v:=?_) 13 32 hS2 ?_ ?_; rotate_left 1
  ·(rintro w' ⟨e0,e1,e2⟩; go_simp; try with_reducible rfl)
  simp only [Act.put,Jh,Ji,Jj]
  refine tkH (v:=?_) 14 33 hS2 ?_ ?_; rotate_left 1
  ·(rintro w' ⟨e0,e1,e2⟩; go_simp; try with_reducible rfl)
  simp only [Act.put,Jh,Ji,Jj]
  refine tkH (v:=?_) 15 9 hS2 ?_ ?_; rotate_left 1
  ·(rintro w' ⟨e0,e1,e2⟩; go_simp; try with_reducible rfl)
  simp only [Act.put,Jh,Ji,Jj]
  refine tkH (v:=?_) 16 10 hS2 ?_ ?_; rotate_left 1
  ·(rintro w' ⟨e0,e1,e2⟩; go_simp; try with_reducible rfl)
  simp only [Act.put,Jh,Ji,Jj]
  refine wpAnyH_done (by kernel_rfl) ?_ _
  clear hS0 hS1 hS2
  go_wp2_with fail
  go_ret2
  exact ⟨rfl,F2.out⟩
end
end
section
open Go.RowKit
structure Tab (b:Nat)(w:World)(v:Value)(vals:List Value)(rows:List (List Int)):Prop where
 out:w.ownsRow b 35 1 v vals.length vals
 len:rows.length=vals.length
 row:∀ i,(hi:i<vals.length)→NRow b w vals[i] (rows.getD i [])
theorem Tab.nil (b:Nat)(w:World):Tab b w (.slice none 0 0) [] []:=⟨World.ownsRow_nil _ _ _ _,rfl,fun i hi=>absurd hi (Nat.not_lt_zero i)⟩
theorem Tab.keep {b:Nat}{w w':World}{v:Value}{vals:List Value}{rows:List (List Int)}(h:Tab b w v vals rows)(hb:∀ k cs t,b≤k→w.heap[k]?=some (.cells cs t)→t=3∨t=35→w'.heap[k]?=w.heap[k]?):Tab b w' v vals rows:=by
 refine ⟨⟨h.out.1,?_⟩,h.len,fun i hi=>(h.row i hi).keep (fun k hk _ ⟨cs,q⟩=>hb k cs 3 hk q (Jr rfl))⟩
 rcases h.out.2 with q | ⟨g,cap,cur,hv,q0,hg,r⟩
 ·exact Jr q
 ·exact Js ⟨g,cap,cur,hv,q0,(hb g cur 35 q0 hg (Js rfl)).trans hg,r⟩
theorem Tab.below {b:Nat}{w w':World}{v:Value}{vals:List Value}{rows:List (List Int)}(h:Tab b w v vals rows)(hb:Below w.heap.size w w'):Tab b w' v vals rows:=h.keep (fun k _ _ _ q _=>hb.block k (Ja.1 q).1)
theorem Tab.sl {b:Nat}{w:World}{v:Value}{vals:List Value}{rows:List (List Int)}(h:Tab b w v vals rows):∃ p c,v=.slice p rows.length c:=by
 rw [h.len]
 rcases h.out.2 with ⟨e1,e2⟩ | ⟨g,cap,cur,e1,_⟩
 ·exact ⟨none,0,by rw [e1,e2]⟩
 ·exact ⟨_,_,e1⟩
theorem infoN35:(Try.prog.info? 35).map (fun i=>(i.zero,i.size,i.bytes))=some (some (.slice none 0 0),1,24):=by kernel_rfl
theorem wpList_pushT {ops:Array Oper}{rest:List Oper}{o:Oper}{a:Act}{Q:Exit→Act→World→Prop}(W:World)(b:Nat)(r:Value)(xs:List Int)(v:Value)(vals:List Value)(rows:List (List Int))(hgd:o.guard=none)(sO xO:Operand)
  (hop:o.op=Op.call { callee:=Callee.builtin Builtin.append,args:=#[sO,xO],argTypes:=#[54,54] }) (hs:a.eval sO=v) (hT:Tab b W v vals rows) (hr:NRow b W r xs) (ad:Nat) (had:a.eval xO=.slice (some ⟨ad,0,none⟩) 1 1)
  (hc:W.cell? ⟨ad,0,none⟩=some r) (hb:b≤W.heap.size) (hl:vals.length≤1000000)
  (hK:∀ (v':Value) (w':World),Tab b w' v' (vals ++ [r]) (rows ++ [xs])→W.grownBy w' v.ownBlock→(v'.ownBlock=v.ownBlock∨v'.ownBlock=some W.heap.size)→wpList Try.prog ops Q rest (a.put o.dst v') w') :
  wpList Try.prog ops Q (o :: rest) a W:=by
 obtain ⟨i3,hi3,hy0,hy1,hy2⟩:=info_parts infoN35
 obtain ⟨pr,cr,er⟩:=hr.sl'
 have hvb:∀ k,v.ownBlock=some k→∃ cs,W.heap[k]?=some (.cells cs 35):=fun k e=>by
  rcases hT.out.2 with ⟨e1,_⟩ | ⟨g,cap,cur,e1,_,hg,_⟩
  ·rw [e1] at e; cases e
  ·rw [e1] at e; cases e; exact ⟨_,hg⟩
 refine wpList_append_own_at W hgd sO xO 54 hop b 35 i3 (.slice none 0 0) 1 24 Try.underlying54 hi3 hy0 hy1 hy2 rfl (by decide) v vals.length vals hs hT.out ⟨ad,0,none⟩ 1 1 [r] had rfl ?_ ?_ (by unfold maxLen; omega) (by omega) hb ?_
 ·intro j u hj
  have:j=0:=by
   have:=(List.getElem?_eq_some_iff.1 hj).1
   simp at this; exact this
  subst this
  simp at hj
  subst hj
  exact hc
 ·intro u hu
  simp at hu
  subst hu
  rw [er]
  rfl
 ·intro u w' hrow hg _ hloc
  have hk:∀ {y:Value} {ys:List Int},NRow b W y ys→NRow b w' y ys:=fun {y} {ys} h=>h.kept hg (by
   rcases h.2 with ⟨e1,_⟩ | ⟨g,cap,cur,e1,_,hgy,_⟩
   ·exact Jr (by rw [e1]; rfl)
   ·refine Js (fun e=>?_)
    have e2:v.ownBlock=some g:=by rw [← e,e1]; rfl
    obtain ⟨cs,q⟩:=hvb g e2
    rw [hgy] at q
    cases q)
  refine hK u w' ⟨by simpa using hrow,by simp [hT.len],fun i hi=>?_⟩ hg hloc
  by_cases e:i<vals.length
  ·have h1:=hk (hT.row i e)
   rw [List.getElem_append_left e]
   have h2:(rows ++ [xs]).getD i []=rows.getD i []:=getD_left (by rw [hT.len]; exact e) _
   rw [h2]
   exact h1
  ·have hi':i=vals.length:=by simp at hi; omega
   subst hi'
   have h2:(rows ++ [xs]).getD vals.length []=xs:=by
    rw [← hT.len]
    simp [List.getD]
   rw [h2]
   simpa using hk hr
theorem below_push {n:Nat}{z W w':World}{o:Option Nat}(hb:Below n z W)(hg:W.grownBy w' o)(hv:∀ b,o=some b→n≤b)(hn:n≤W.heap.size):Below n z w' :=
 hb.trans ⟨hg.os,hg.tape,hg.output,hg.size,fun b q=>hg.block b (by omega) (fun e=>by have:=hv b e.symm; omega)⟩
theorem NRow.base_le {b b':Nat}{w:World}{v:Value}{xs:List Int}(h:NRow b w v xs)(hb:b'≤b):NRow b' w v xs:=by
 refine ⟨h.1,?_⟩
 rcases h.2 with q | ⟨g,cap,cur,hv,q0,r⟩
 ·exact Jr q
 ·exact Js ⟨g,cap,cur,hv,Nat.le_trans hb q0,r⟩
def rowsT (more:Int)(R:RSt)(ns:Nat)(n:Nat):List (List Int):=(List.range n).map (fun t=>intL (ns+1) (tabF more R t))
theorem rowsT_succ (more:Int)(R:RSt)(ns n:Nat):rowsT more R ns n ++ [intL (ns+1) (tabF more R n)]=rowsT more R ns (n+1):=by simp [rowsT,List.range_succ]
theorem rowsT_length (more:Int)(R:RSt)(ns n:Nat):(rowsT more R ns n).length=n:=by simp [rowsT]
section
variable {base:Nat}{w0 w w':World}{mb pb b0 b1 b2 b3 xb:Nat}{more:Int}{vs:Value}{slots:List Int}{tasks:Int}{R R':RSt}{p:Option Addr}{len cap a a' nt:Nat}{c:Nat→Int}
theorem table_any (hM:MK base w0 w mb pb b0 b1 b2 b3 xb more vs slots tasks R p len cap c a)(hR:RM more R slots nt)(htk:tasks=nt) :
  Calls Try.prog 25 #[.pointer (some ⟨mb,0,none⟩)] w fun e w'=>∃ v vals,e=.returned (.tuple #[v,.bool true])∧Tab w.heap.size w' v vals (rowsT more R slots.length nt)∧Below w.heap.size w w':=by
 subst htk
 have hfew:=hR.few
 obtain ⟨pv,cv,rfl⟩:=hM.row.sl'
 have H0:=hid' hM
 have HR:=hid' hR
 clear hM hR
 go_enter Try.func25,Try.ntmps25
 go_upto_region 2 with fail
 go_wp2_with fail
 go_loopg [4,5] nt (fun gk ov tv wr=>∃ (t:Nat) (v:Value) (vals:List Value),t≤nt∧nt - t≤gk∧ov=v∧tv=.int .i64 t∧Hid (Tab w.heap.size wr v vals (rowsT more R slots.length t)∧Below w.heap.size w wr))
 case atStart=>exact ⟨0,_,[],by omega,by omega,rfl,rfl,(show _∧_ from ⟨Tab.nil _ _,Jd _ _⟩)⟩
 case' round=>skip
 obtain ⟨t,v,vals,htn,hgk,rfl,rfl,HL⟩:=hrel
 rename World=>Z0
 have MZ:=hid' (H0.out.of_below HL.out.2)
 obtain ⟨_,_,y2,y3⟩:=MZ.out.cs
 have y4:=MZ.out.lt
 by_cases ht:t<nt
 ·have htI:(t:Int)<(nt:Int):=by omega
  go_upto_region 6 with fail
  go_wp2_with fail
  go_loopg [6,7] (slots.length+1) (fun gk rv kv wr=>∃ (k:Nat) (r:Value),k≤slots.length+1∧slots.length+1 - k≤gk∧rv=r∧kv=.int .i64 ((k:Int) - 1)∧Hid (NRow Z0.heap.size wr r (intL k (tabF more R t))∧Below Z0.heap.size Z0 wr))
  case atStart=>exact ⟨0,_,by omega,by omega,rfl,rfl,(show _∧_ from ⟨NRow.nil _ _,Jd _ _⟩)⟩
  case' round=>skip
  obtain ⟨k,r,hkn,hgk2,rfl,rfl,HI⟩:=hrel
  rename World=>Z1
  have MY:=hid' (MZ.out.of_below HI.out.2)
  clear y2 y3 y4
  obtain ⟨_,_,y2,y3⟩:=MY.out.cs
  have y4:=MY.out.lt
  by_cases hk:k<slots.length+1
  ·have hkI:(k:Int) - 1<(slots.length:Int):=by omega
   have A1:=hid' (cost_any MY.out HR.out ht (on:=(k:Int) - 1) (by omega) hkI)
   have hb:=tabF_bound (more:=more) MY.out.fits.2.1 (t:=t) (by rw [HR.out.len3]; exact ht) k
   have ek:((k:Int) - 1+1).toNat=k:=by omega
   rw [ek] at A1
   clear ek
   obtain ⟨X,hX⟩:∃ X,tabF more R t k=X:=⟨_,rfl⟩
   rw [hX] at A1 hb
   have HX:=hid' hX
   clear hX
   have hb1:¬ X<0:=by omega
   have hb2:¬ 2000<X:=by omega
   go_upto_region 10 with (first
    | (go_at_call 41; refine A1.out.mono ?_; rintro e Z2 ⟨rfl,bb⟩; have H2:=hid' (Jc (HI.out.1.below bb) (next2 HI.out.2 bb)); clear bb A1)
    | fail)
   clear y2 y3 y4
   go_upto_region 12 with fail
   have hrA:NRow Z0.heap.size (Z2.alloc (.cells #[.int .i64 X] 3)) u6 (intL k (tabF more R t)):=H2.out.1.below ((Jd _ _).alloc (Jb _) _)
   have hzz:=H2.out.2.size
   have hln:(intL k (tabF more R t)).length≤1000000:=by rw [intL_length]; omega
   go_wp2_with (first
    | (at_builtin; refine wpList_push _ Z0.heap.size X _ _ rfl _ _ rfl rfl hrA Z2.heap.size rfl (by simp) (by simp; omega) hln ?_; intro v' T5 hrow hg hloc; have HP:=hid' (Jc hrow (below_push (H2.out.2.alloc hzz _) hg hrA.base (by simp; omega))); clear hrow hg hloc)
    | fail)
   go_roundg (slots.length+1 - (k+1))
   case measure=>omega
   case rel =>
    refine ⟨k+1,_,by omega,Jb _,rfl,?_,(show _∧_ from ⟨?_,HP.out.2⟩)⟩
    ·go_num
    ·rw [← intL_push,HX.out]
     exact HP.out.1
  ·have hkI:¬ (k:Int) - 1<(slots.length:Int):=by omega
   obtain rfl:k=slots.length+1:=by omega
   go_upto_region 13 with fail
   obtain ⟨pu,cu,hu⟩:=HI.out.1.sl'
   rw [intL_length] at hu
   subst hu
   have hz1:=HL.out.2.size
   have hz2:=HI.out.2.size
   have hvl:vals.length=t:=by rw [← HL.out.1.len,rowsT_length]
   have hTA:Tab w.heap.size (Z1.alloc (.cells #[(.slice pu (slots.length+1) cu)] 35)) u4 vals (rowsT more R slots.length t):=(HL.out.1.below HI.out.2).below ((Jd _ _).alloc (Jb _) _)
   have hRA:NRow w.heap.size (Z1.alloc (.cells #[(.slice pu (slots.length+1) cu)] 35)) (.slice pu (slots.length+1) cu) (intL (slots.length+1) (tabF more R t)):=(HI.out.1.base_le hz1).below ((Jd _ _).alloc (Jb _) _)
   clear y2 y3 y4
   go_wp2_with (first
    | (at_builtin; refine wpList_pushT _ w.heap.size (.slice pu (slots.length+1) cu) _ _ _ _ rfl _ _ rfl rfl hTA hRA Z1.heap.size rfl (by simp) (by simp; omega) (by omega) ?_; intro v' T6 hrow hg hloc; have HQ:=hid' (Jc hrow (below_push ((next2 HL.out.2 HI.out.2).alloc (by omega) _) hg (fun b e=>(World.ownsRow.lt hTA.out b e).1) (by simp; omega))); clear hrow hg hloc)
    | fail)
   go_roundg (nt - (t+1))
   case measure=>omega
   case rel =>
    exact ⟨t+1,_,vals ++ [(.slice pu (slots.length+1) cu)],by omega,Jb _,rfl,by go_num,(show _∧_ from ⟨by rw [← rowsT_succ]; exact HQ.out.1,HQ.out.2⟩)⟩
 ·have htI:¬ (t:Int)<(nt:Int):=by omega
  obtain rfl:t=nt:=by omega
  go_wp2_with fail
  go_ret2
  exact ⟨_,rfl,⟨_,HL.out.1⟩,HL.out.2⟩
end
end
section
open Go.RowKit
def DC (w:World)(p:Option Addr)(len:Nat)(c:Nat→Int):Prop:=len=0∨∃ sb off,p=some ⟨sb,off,none⟩∧sb<w.heap.size∧∀ i,i<len→w.cell? ⟨sb,off+i,none⟩=some (.int .i64 (c i))∧(Lit.int .i64 (c i)).wf=true
theorem DC.below {w w':World}{p:Option Addr}{len:Nat}{c:Nat→Int}(h:DC w p len c)(hb:Below w.heap.size w w'):DC w' p len c:=by
 rcases h with q | ⟨sb,off,e,hs,hi⟩
 ·exact Jr q
 ·exact Js ⟨sb,off,e,Jm hs hb.size,fun i hl=>⟨(hb.cell (p:=⟨sb,off+i,none⟩) hs).trans (hi i hl).1,(hi i hl).2⟩⟩
theorem DC.arg {w:World}{p:Option Addr}{len:Nat}{c:Nat→Int}(h:DC w p len c):∀ q,len≠0→p=some q→q.block<w.heap.size:=fun q z e=>by
 rcases h with h0 | ⟨sb,off,e',hs,_⟩
 ·exact absurd h0 z
 ·rw [e] at e'
  cases e'
  exact hs
theorem dice_new {w:World}{p:Option Addr}{len cap:Nat}{c:Nat→Int}(h:DC w p len c)(hl:len<1000000000000000):DiceAt (w.alloc (.cells #[.slice p len cap,.int .i64 0] 49)) w.heap.size p len cap c 0:=by
 refine ⟨Jq _,heap_alloc_new w _,?_,hl⟩
 rcases h with q | ⟨sb,off,e,hs,hi⟩
 ·exact Jr q
 ·exact Js ⟨sb,off,e,hs,fun i hl=>⟨(((Jd w.heap.size w).alloc (Jb _) _).cell (p:=⟨sb,off+i,none⟩) hs).trans (hi i hl).1,(hi i hl).2⟩⟩
end
section
open Go.RowKit
theorem Tab.get {b:Nat}{w:World}{p:Option Addr}{n cap:Nat}{vals:List Value}{rows:List (List Int)}(h:Tab b w (.slice p n cap) vals rows){i:Nat}(hi:i<rows.length)(h0:0<(rows.getD i []).length) :
  ∃ g gr cr,p=some ⟨g,0,none⟩∧g<w.heap.size∧w.cell? ⟨g,i,none⟩=some (.slice (some ⟨gr,0,none⟩) (rows.getD i []).length cr)∧gr<w.heap.size∧∀ j,j<(rows.getD i []).length→w.cell? ⟨gr,j,none⟩=some (.int .i64 ((rows.getD i []).getD j 0)):=by
 have hiv:i<vals.length:=by rw [← h.len]; exact hi
 have hr:=h.row i hiv
 obtain ⟨pr,cr,er⟩:=hr.sl'
 have hr':=hr
 rw [er] at hr'
 obtain ⟨gr,rfl,hgl,_⟩:=hr'.at' h0
 rcases h.out.2 with ⟨e1,e2⟩ | ⟨g,cp,cur,e1,q0,hg,r⟩
 ·omega
 ·cases e1
  refine ⟨g,gr,cr,rfl,(Ja.1 hg).1,?_,hgl,fun j hj=>?_⟩
  ·have:=World.ownsRow.cellAt h.out i (by omega)
   rw [this,List.getElem?_eq_getElem hiv,er]
  ·obtain ⟨g',e',_,hc,_⟩:=hr'.at' hj
   cases e'
   rw [hc,getD_at hj]
theorem rowsT_get {more:Int}{R:RSt}{ns n t:Nat}(ht:t<n):(rowsT more R ns n).getD t []=intL (ns+1) (tabF more R t):=by
 rw [getD_at (by rw [rowsT_length]; exact ht)]
 simp [rowsT]
section
variable {c:Nat→Int}{len a a' a'':Nat}{more m:Int}{slots slots':List Int}{tasks tasks':Int}{R R':RSt}
theorem inR0:InR R0:=⟨by simp [R0],by simp [R0],by simp [R0],by simp [R0],by simp [R0],by simp [R0]⟩
theorem MadeIs.ren (h:MadeIs c len 0 a slots tasks R a')(h':MadeIs c len m a slots' tasks' R' a''):slots'=slots∧tasks'=tasks∧R'=sh m R∧InR R:=by
 obtain ⟨s1,s2,nt,e1,e2,e3,e4,e5,e6⟩:=h.how
 obtain ⟨z1,z2,mt,f1,f2,f3,f4,f5,f6⟩:=h'.how
 obtain ⟨g1,g2⟩:=sh_RJ (m:=m) c len 2 (R0,a) inR0
 rw [e1] at g1 g2
 have hz1:z1=(sh m s1.1,s1.2):=f1.symm.trans g1
 obtain ⟨g3,g4⟩:=sh_machN (m:=m) c len 4 (s1.1,s1.2,[]) g2
 rw [e2] at g3 g4
 have hz2:z2=(sh m s2.1,s2.2.1,s2.2.2):=by
  rw [← f2,hz1]
  exact g3
 have hsl:slots'=slots:=by rw [← f3,hz2,← e3]
 subst hsl
 have hnt:mt=nt:=by
  rw [hz2] at f4
  have:(mt:Int)=1+nv c len s2.2.1 6:=f4
  omega
 subst hnt
 obtain ⟨g5,g6⟩:=sh_taskN (m:=m) c len slots'.length mt (s2.1,na len s2.2.1) g4
 rw [e6] at g5 g6
 have:(R',a'')=(sh m R,a'):=by
  rw [← f6,hz2]
  exact g5
 exact ⟨rfl,by omega,congrArg Prod.fst this,g6⟩
theorem MadeIs.rm (h:MadeIs c len more a slots tasks R a'):RM more R slots tasks.toNat:=by
 have hl:R.t1.length=slots.length:=by
  have:=congrArg List.length h.at1
  simpa using this
 have hs:∀ k,(hk:k<R.t1.length)→R.t1[k].2.2=slots[k]'(by omega):=fun k hk=>by
  have:=congrArg (fun l=>l[k]?) h.at1
  simpa [hk,show k<slots.length by omega] using this
 have hf:=h.few
 refine ⟨h.ids.i0,h.ids.i3,by omega,h.each,fun x hx=>?_,fun k hk=>?_⟩
 ·obtain ⟨k,hk,rfl⟩:=List.mem_iff_getElem.1 hx
  obtain ⟨_,e⟩:=ids_at h.ids.i1 (k:=k) (by omega)
  exact ⟨k,by omega,e,hs k hk⟩
 ·obtain ⟨hl',e⟩:=ids_at h.ids.i1 hk
  exact ⟨_,Jl hl',e⟩
theorem posM_made (h:MadeIs c len more a slots tasks R a'){k:Nat}(hk:k<slots.length):posM more R k=k:=by
 have hf:=h.few
 unfold posM
 rw [at_ids h.ids.i1 (by omega) hk]
 simp
theorem rows_ren (h:MadeIs c len 0 a slots tasks R a')(h':MadeIs c len m a slots tasks (sh m R) a'')(hi:InR R)(lo:R.on.length=R.t3.length):rowsT m (sh m R) slots.length tasks.toNat=rowsT 0 R slots.length tasks.toNat:=by
 have h3:R.t3.length=tasks.toNat:=len_of h.ids.i3
 unfold rowsT
 refine List.map_congr_left (fun t ht=>?_)
 have ht':t<R.t3.length:=by rw [h3]; simpa using ht
 unfold intL
 refine List.map_congr_left (fun j hj=>?_)
 have hj':j<slots.length+1:=by simpa using hj
 have e1:(sh m R).t1.length=R.t1.length:=by simp [sh]
 unfold tabF
 rw [e1,cR_sh hi lo ht',cR_sh hi lo ht']
 split
 ·rfl
 ·rw [posM_made h (by omega),posM_made h' (by omega)]
end
section
variable {base:Nat}{w0 w w':World}{mb pb b0 b1 b2 b3 xb:Nat}{more:Int}{vs:Value}{slots:List Int}{tasks:Int}{R R':RSt}{p:Option Addr}{len cap a a' nt:Nat}{c:Nat→Int}
theorem MK.moved {y:Nat}(h:MK base w0 w mb pb b0 b1 b2 b3 xb more vs slots tasks R p len cap c a)(hb:BelowX w.heap.size y w w')(hy:y<base∧y≠xb∧∀ q,len≠0→p=some q→q.block≠y):MK base w' w' mb pb b0 b1 b2 b3 xb more vs slots tasks R p len cap c a :=
 h.kept (L:=[y]) ⟨hb.os,hb.tape,hb.output,hb.size,fun k hk hn=>hb.block k hk (fun e=>hn (by simp [e]))⟩ (fun b hb=>by rw [List.mem_singleton.1 hb]; exact hy)
end
structure Two2 (w W:World)(B2:Nat)(mb pb b0 b1 b2 b3:Nat)(vs:Value)(a:Nat)(nb qb d0 d1 d2 d3:Nat)(us:Value)(a2:Nat)(more:Int)(slots:List Int)(tasks:Int)(R R':RSt)(p:Option Addr)(len cap:Nat)(c:Nat→Int):Prop where
 one:MK (w.heap.size+2) W W mb pb b0 b1 b2 b3 w.heap.size 0 vs slots tasks R p len cap c a
 two:MK B2 W W nb qb d0 d1 d2 d3 (w.heap.size+1) more us slots tasks R' p len cap c a2
 lt:∀ b∈[pb,b0,b1,b2,b3],b<B2
 code:∀ q,len≠0→p=some q→q.block<w.heap.size
 le:w.heap.size≤B2
 below:Below w.heap.size w W
section
variable {w W W':World}{B2:Nat}{mb pb b0 b1 b2 b3:Nat}{vs:Value}{a:Nat}{nb qb d0 d1 d2 d3:Nat}{us:Value}{a2:Nat}{more:Int}{slots:List Int}{tasks:Int}{R R':RSt}{p:Option Addr}{len cap:Nat}{c:Nat→Int}
theorem MK.reset {base:Nat}{w0:World}{xb:Nat}(h:MK base w0 W mb pb b0 b1 b2 b3 xb more vs slots tasks R p len cap c a):MK base W W mb pb b0 b1 b2 b3 xb more vs slots tasks R p len cap c a:=⟨h.cells,h.row,h.plan,h.dice,h.old,BelowX.refl _ _ _,h.more0,h.arg⟩
theorem Two2.of_below (h:Two2 w W B2 mb pb b0 b1 b2 b3 vs a nb qb d0 d1 d2 d3 us a2 more slots tasks R R' p len cap c)(hb:Below W.heap.size W W'):Two2 w W' B2 mb pb b0 b1 b2 b3 vs a nb qb d0 d1 d2 d3 us a2 more slots tasks R R' p len cap c :=
 ⟨(h.one.of_below hb).reset,(h.two.of_below hb).reset,h.lt,h.code,h.le,next2 h.below hb⟩
theorem Two2.solve (h:Two2 w W B2 mb pb b0 b1 b2 b3 vs a nb qb d0 d1 d2 d3 us a2 more slots tasks R R' p len cap c):Calls Try.prog 26 #[.pointer (some ⟨pb,0,none⟩)] W fun e w'=>∃ s,e=.returned (.int .i64 s)∧LeastOf R s∧Below w.heap.size w w'∧MK B2 w' w' nb qb d0 d1 d2 d3 (w.heap.size+1) more us slots tasks R' p len cap c a2:=by
 refine (mk_solve h.one).mono ?_
 rintro e w' ⟨P,s,rfl,_,hL,_,hM,ho⟩
 refine ⟨s,rfl,hL,h.below.trans ((hM.below.mono (by omega)).below (Jb _)),h.two.kept ho (fun b hb=>?_)⟩
 have h1:=h.lt b hb
 have h2:=h.one.old b (Jk _ hb)
 refine ⟨h1,by omega,fun q z e=>?_⟩
 have:=h.code q z e
 omega
end
theorem renamed_walk (w:World)(p:Option Addr)(len cap:Nat)(c:Nat→Int)(hc:DC w p len c)(hlen:len<1000000000000000)(mo:Int)(hw1:(Lit.int .i64 mo).wf=true) :
  Calls Try.prog 8 #[.slice p len cap,.int .i64 mo] w fun e w'=>e=.returned (.bool true)∧Below w.heap.size w w':=by
 obtain ⟨W1,hW1⟩:∃ W1,(w.alloc (.cells #[.slice p len cap,.int .i64 0] 49)).alloc (.cells #[.slice p len cap,.int .i64 0] 49)=W1:=⟨_,rfl⟩
 have z1:W1.heap.size=w.heap.size+2:=by rw [← hW1]; simp
 have dx:DiceAt W1 w.heap.size p len cap c 0:=by
  rw [← hW1]
  exact (dice_new hc hlen).cel (Cel.of_below ((Jd _ _).alloc (Jb _) _))
 have dy:DiceAt W1 (w.heap.size+1) p len cap c 0:=by
  have:=dice_new (w:=w.alloc (.cells #[.slice p len cap,.int .i64 0] 49)) (cap:=cap) (hc.below ((Jd _ _).alloc (Jb _) _)) hlen
  rw [hW1] at this
  simpa using this
 have bw1:Below w.heap.size w W1:=by
  rw [← hW1]
  exact ((Jd _ _).alloc (Jb _) _).alloc (by simp) _
 have A1:=hid' (made_any (base:=W1.heap.size) (w0:=W1) (more:=0) dx (Jb _) (BelowX.refl _ _ _) (by omega) (fun q z e=>by have:=hc.arg q z e; omega))
 have P1:=hid' (fun W=>pick_some mo 100 W hw1 (by omega) (by omega))
 have v1:=pickOf_bounds mo 100 (by omega)
 obtain ⟨m,hm⟩:∃ m,pickOf mo 100=m:=⟨_,rfl⟩
 rw [hm] at P1 v1
 have H0:=hid' (Jc dy (Jc bw1 (Jc hc.arg (Jc z1 hm))))
 clear hc hw1 hlen dx dy bw1 z1 hm
 go_enter Try.func8,Try.ntmps8
 go_upto_region 3 with fail
 clear hW1
 go_upto_region 4 with (first
  | (go_at_call 24; refine A1.out.mono ?_; rintro e W2 ⟨mb,pb,b0,b1,b2,b3,vs,slots,tasks,R,a,rfl,M1,I1,_⟩; have H1:=hid' (Jc M1 I1); clear M1 I1 A1)
  | fail)
 have dy2:DiceAt W2 (w.heap.size+1) p len cap c 0:=H0.out.1.keep (H1.out.1.below.block _ (by have:=H0.out.2.2.2.1; omega) (by omega)) (fun q z e=>by
  have h1:=H0.out.2.2.1 q z e
  have h2:=H0.out.2.2.2.1
  exact H1.out.1.below.block _ (by omega) (by omega))
 have z2:=H1.out.1.below.size
 have B1:=hid' (made_any (base:=W2.heap.size) (w0:=W2) (more:=m) dy2 (Jb _) (BelowX.refl _ _ _) v1 (fun q z e=>by have h1:=H0.out.2.2.1 q z e; have h2:=H0.out.2.2.2.1; omega))
 clear dy2 z2
 go_upto_region 5 with (first
  | (go_at_call 10; refine (P1.out _).mono ?_; rintro e z ⟨rfl,hz⟩; subst z)
  | (go_at_call 24; refine B1.out.mono ?_; rintro e W4 ⟨nb,qb,d0,d1,d2,d3,us,slots2,tasks2,R2,a2,rfl,M2,I2,_⟩; have H2:=hid' (Jc M2 I2); clear M2 I2 B1)
  | fail)
 obtain ⟨rfl,rfl,rfl,hin⟩:=H1.out.2.ren H2.out.2
 have T0:Two2 w W4 W2.heap.size mb pb b0 b1 b2 b3 vs a nb qb d0 d1 d2 d3 us a2 m slots2 tasks2 R (sh m R) p len cap c:=by
  have h1:=H0.out.2.2.2.1
  have h2:=H1.out.1.below.size
  have h3:=H1.out.1.moved (y:=w.heap.size+1) H2.out.1.below ⟨by omega,by omega,fun q z e=>by have:=H0.out.2.2.1 q z e; omega⟩
  rw [h1] at h3
  obtain ⟨l0,l1,l2,l3,hp,_⟩:=H1.out.1.plan
  exact ⟨h3,H2.out.1.reset,hp.lts,H0.out.2.2.1,by omega,(H0.out.2.1.trans ((H1.out.1.below.mono (by omega)).below (Jb _))).trans ((H2.out.1.below.mono (by omega)).below (by omega))⟩
 have er:=rows_ren H1.out.2 H2.out.2 hin H1.out.1.fits.1.lo
 have hfew:=H1.out.2.few
 have T1:=hid' (table_any T0.one H1.out.2.rm (by omega))
 have HT0:=hid' T0
 have HF:=hid' (Jc hin (Jc H1.out.1.fits.1.lo (Jc H2.out.2.rm er)))
 clear hin er T0 H1 H2
 go_upto_region 8 with (first
  | (go_at_call 25; refine T1.out.mono ?_; rintro e W5 ⟨v1',vals1,rfl,Tb1,bb1⟩; have H5:=hid' (Jc Tb1 (HT0.out.of_below bb1)); clear Tb1 bb1 T1)
  | fail)
 have T2:=hid' (table_any H5.out.2.two HF.out.2.2.1 (by omega))
 go_upto_region 9 with (first
  | (go_at_call 25; refine T2.out.mono ?_; rintro e W6 ⟨v2',vals2,rfl,Tb2,bb2⟩; rw [HF.out.2.2.2] at Tb2; have H6:=hid' (Jc (H5.out.1.below bb2) (Jc Tb2 (H5.out.2.of_below bb2))); clear Tb2 bb2 T2)
  | fail)
 obtain ⟨p1,c1,rfl⟩:=H6.out.1.sl
 obtain ⟨p2,c2,rfl⟩:=H6.out.2.1.sl
 obtain ⟨nt,hnt⟩:∃ nt:Nat,tasks2.toNat=nt:=⟨_,rfl⟩
 have H7:=H6.out
 rw [hnt] at H7
 have hl:(rowsT 0 R slots2.length tasks2.toNat).length=nt:=by rw [rowsT_length,hnt]
 rw [hl]
 clear hl
 have H7:=hid' H7
 have hn6:nt≤6:=by omega
 clear H6 hnt
 go_upto_region 11 with fail
 go_wp2_with fail
 go_loopg [13] nt (fun gk tv wr=>∃ t:Nat,t≤nt∧nt - t≤gk∧tv=.int .i64 t∧Hid (Below W6.heap.size W6 wr))
 case atStart=>exact ⟨0,by omega,by omega,rfl,(show Below _ _ _ from Jd _ _)⟩
 case' round=>skip
 obtain ⟨t,htn,hgk,rfl,HL⟩:=hrel
 rename World=>Z0
 by_cases ht:t<nt
 ·have htI:(t:Int)<(nt:Int):=by omega
  go_upto_region 14 with fail
  go_wp2_with fail
  go_loopg [14] (slots2.length+1) (fun gk kv wr=>∃ k:Nat,k≤slots2.length+1∧slots2.length+1 - k≤gk∧kv=.int .i64 k∧Hid (Below W6.heap.size W6 wr))
  case atStart=>exact ⟨0,by omega,by omega,rfl,HL⟩
  case' round=>skip
  obtain ⟨k,hkn,hgk2,rfl,HI⟩:=hrel
  rename World=>Z1
  have tA:=H7.out.1.below HI.out
  have tB:=H7.out.2.1.below HI.out
  obtain ⟨g1,r1,cr1,e1,x1,x2,x3,x4⟩:=tA.get (i:=t) (by rw [rowsT_length]; exact ht) (by rw [rowsT_get ht,intL_length]; omega)
  obtain ⟨g2,r2,cr2,e2,y1,y2,y3,y4⟩:=tB.get (i:=t) (by rw [rowsT_length]; exact ht) (by rw [rowsT_get ht,intL_length]; omega)
  rw [rowsT_get ht,intL_length] at x2 x4 y2 y4
  subst e1 e2
  clear tA tB
  by_cases hk:k<slots2.length+1
  ·have hkI:(k:Int)<(slots2.length:Int)+1:=by omega
   have x5:=x4 k hk
   have y5:=y4 k hk
   obtain ⟨X,hX⟩:∃ X,(intL (slots2.length+1) (tabF 0 R t)).getD k 0=X:=⟨_,rfl⟩
   rw [hX] at x5 y5
   clear x4 y4 hX
   go_upto_region 17 with fail
   go_quiet (fail)
   go_wp2_with fail
   go_roundg (slots2.length+1 - (k+1))
   case measure=>omega
   case rel=>exact ⟨k+1,by omega,Jb _,by go_num,below_drawnR HI.out⟩
  ·have hkI:¬ (k:Int)<(slots2.length:Int)+1:=by omega
   obtain rfl:k=slots2.length+1:=by omega
   clear x4 y4
   go_wp2_with fail
   go_roundg (nt - (t+1))
   case measure=>omega
   case rel=>exact ⟨t+1,by omega,Jb _,by go_num,HI⟩
 ·have htI:¬ (t:Int)<(nt:Int):=by omega
  have T3:=H7.out.2.2.of_below HL.out
  have Q1:=hid' T3.solve
  obtain ⟨y0,_,_,_⟩:=T3.one.cs
  have y4:=T3.one.lt
  clear T3
  go_upto_region 20 with (first
   | (go_at_call 26; refine Q1.out.mono ?_; rintro e V1 ⟨x,rfl,hL1,hb1,MB⟩; have H3:=hid' (Jc hL1 (Jc hb1 MB)); clear hL1 hb1 MB Q1)
   | fail)
  clear y0 y4
  have Q2:=hid' (mk_solve H3.out.2.2)
  obtain ⟨y0,_,_,_⟩:=H3.out.2.2.cs
  have y4:=H3.out.2.2.lt
  have hle:=H7.out.2.2.le
  go_upto_region 21 with (first
   | (go_at_call 26; refine Q2.out.mono ?_; rintro e V2 ⟨P,y,rfl,hy0,hL2,_,MC,_⟩; clear hy0; have H4:=hid' (H3.out.2.1.trans ((MC.below.mono hle).below (by omega))); have hxy:=least_sh HF.out.1 HF.out.2.1 H3.out.1 hL2; clear hL2 MC Q2)
   | fail)
  subst hxy
  go_wp2_with fail
  go_ret
  exact ⟨rfl,H4.out⟩
end
section
open Go.RowKit
def UsedAt (w:World)(ub:Nat)(f:Nat→Int):Prop:=∃ cur:Array Value,w.heap[ub]?=some (.cells cur 102)∧cur.size=4∧∀ k,k<4→cur[k]?=some (.int .i64 (f k))
theorem UsedAt.cell {w:World}{ub:Nat}{f:Nat→Int}(h:UsedAt w ub f){k:Nat}(hk:k<4):w.cell? ⟨ub,k,none⟩=some (.int .i64 (f k))∧w.frozen? ⟨ub,k,none⟩=false∧ub<w.heap.size:=by
 obtain ⟨cur,h1,h2,h3⟩:=h
 refine ⟨?_,by simp [World.frozen?,h1],(Ja.1 h1).1⟩
 simp [World.cell?,h1,h3 k hk]
theorem UsedAt.set {w:World}{ub:Nat}{f g:Nat→Int}(h:UsedAt w ub f){k:Nat}(hk:k<4){x:Int}(e:∀ j,j<4→g j=if j=k then x else f j):UsedAt (w.setCell ⟨ub,k,none⟩ (.int .i64 x)) ub g:=by
 obtain ⟨cur,h1,h2,h3⟩:=h
 refine ⟨cur.setIfInBounds k (.int .i64 x),by simp [World.setCell,Array.getElem?_modify,h1],by simp [h2],fun j hj=>?_⟩
 rw [e j hj,Array.getElem?_setIfInBounds]
 by_cases q:k=j
 ·subst q
  simp [h2,hk]
 ·have q':¬ j=k:=fun z=>q z.symm
  simp [q,q',h3 j hj]
theorem UsedAt.move {w w':World}{ub:Nat}{f:Nat→Int}(h:UsedAt w ub f)(hb:w'.heap[ub]?=w.heap[ub]?):UsedAt w' ub f:=by
 obtain ⟨cur,h1,h2,h3⟩:=h
 exact ⟨cur,hb.trans h1,h2,h3⟩
theorem UsedAt.lt {w:World}{ub:Nat}{f:Nat→Int}(h:UsedAt w ub f):ub<w.heap.size:=by
 obtain ⟨cur,h1,_⟩:=h
 exact (Ja.1 h1).1
theorem UsedAt.congr {w:World}{ub:Nat}{f g:Nat→Int}(h:UsedAt w ub f)(e:∀ j,j<4→g j=f j):UsedAt w ub g:=by
 obtain ⟨cur,h1,h2,h3⟩:=h
 exact ⟨cur,h1,h2,fun k hk=>by rw [e k hk]; exact h3 k hk⟩
theorem below_set {n b k:Nat}{z W:World}{v:Value}(h:Below n z W)(hb:n≤b):Below n z (W.setCell ⟨b,k,none⟩ v) :=
 h.trans ⟨rfl,rfl,rfl,Nat.le_of_eq (by simp),fun j hj=>Below.heap_setCell W ⟨b,k,none⟩ v j (by simp; omega)⟩
theorem row_set {n b k:Nat}{W:World}{v:Value}{u:Value}{xs:List Int}(h:NRow n W u xs)(hb:b<n):NRow n (W.setCell ⟨b,k,none⟩ v) u xs :=
 h.keep (fun j hj _ _=>Below.heap_setCell W ⟨b,k,none⟩ v j (by simp; omega))
def usedK (more:Int)(R:RSt)(ns t k j:Nat):Int:=cntI (nums more R ns) j t+(if j<k∧idOf more j=R.on.getD t (-1) then 1 else 0)
theorem usedK_zero (more:Int)(R:RSt)(ns t j:Nat):usedK more R ns t 0 j=cntI (nums more R ns) j t:=by
 unfold usedK
 rw [if_neg (by omega)]
 simp
theorem usedK_skip {more:Int}{R:RSt}{ns t k:Nat}(h:¬ idOf more k=R.on.getD t (-1))(j:Nat):usedK more R ns t (k+1) j=usedK more R ns t k j:=by
 unfold usedK
 by_cases e:j=k
 ·subst e
  rw [if_neg (fun q=>h q.2),if_neg (fun q=>h q.2)]
 ·by_cases q:j<k∧idOf more j=R.on.getD t (-1)
  ·rw [if_pos q,if_pos ⟨by omega,q.2⟩]
  ·rw [if_neg q,if_neg (fun z=>q ⟨by omega,z.2⟩)]
theorem usedK_take {more:Int}{R:RSt}{ns t k:Nat}(h:idOf more k=R.on.getD t (-1))(j:Nat):usedK more R ns t (k+1) j=if j=k then usedK more R ns t k k+1 else usedK more R ns t k j:=by
 unfold usedK
 by_cases e:j=k
 ·subst e
  rw [if_pos ⟨by omega,h⟩,if_pos rfl,if_neg (by omega)]
  omega
 ·rw [if_neg e]
  by_cases q:j<k∧idOf more j=R.on.getD t (-1)
  ·rw [if_pos q,if_pos ⟨by omega,q.2⟩]
  ·rw [if_neg q,if_neg (fun z=>q ⟨by omega,z.2⟩)]
theorem usedK_all (more:Int)(R:RSt){ns:Nat}(hn:ns≤4)(t j:Nat):usedK more R ns t ns j=cntI (nums more R ns) j (t+1):=by
 have e:nums more R ns t=(j:Int)↔j<ns∧idOf more j=R.on.getD t (-1):=by
  unfold nums
  constructor
  ·intro q
   have h1:=onK_bounds more (R.on.getD t (-1)) ns
   have h2:=onK_id (more:=more) (id:=R.on.getD t (-1)) (k:=ns) (by omega)
   rw [q] at h1 h2
   exact ⟨by omega,h2⟩
  ·rintro ⟨q1,q2⟩
   rw [← q2]
   exact onK_at q1 (by omega)
 unfold usedK
 simp only [cntI]
 by_cases q:j<ns∧idOf more j=R.on.getD t (-1)
 ·rw [if_pos q,if_pos (e.2 q)]
  omega
 ·rw [if_neg q,if_neg (fun z=>q (e.1 z))]
  omega
theorem cntI_le (on:Nat→Int)(x:Int):∀ n:Nat,cntI on x n≤n
 | 0=>Jb _
 | n+1=>by
  have:=cntI_le on x n
  simp only [cntI]
  split <;> omega
section
variable {base:Nat}{w0 w w':World}{mb pb b0 b1 b2 b3 xb:Nat}{more:Int}{vs:Value}{slots:List Int}{tasks:Int}{R R':RSt}{p:Option Addr}{len cap a a' nt:Nat}{c:Nat→Int}
theorem mk_where (h:MK base w0 w mb pb b0 b1 b2 b3 xb more vs slots tasks R p len cap c a)(hR:RM more R slots nt){t:Nat}(ht:t<nt) :
  Calls Try.prog 19 #[.pointer (some ⟨pb,0,none⟩),.int .i64 (idOf more t)] w fun e w'=>e=.returned (.tuple #[.int .i64 (R.on.getD t (-1)),.int .i64 0])∧Below w.heap.size w w':=by
 obtain ⟨l0,l1,l2,l3,hp,hs⟩:=h.plan
 obtain ⟨hl,e⟩:=hR.task ht
 have:=where_at hs hl hp
 rw [e] at this
 exact this
structure WhI (w wr:World)(v:Value)(xs:List Int)(f:Nat→Int):Prop where
 below:Below w.heap.size w wr
 row:NRow (w.heap.size+1) wr v xs
 used:UsedAt wr w.heap.size f
theorem WhI.go {w wr w2:World}{v:Value}{xs:List Int}{f:Nat→Int}(h:WhI w wr v xs f)(hb:Below wr.heap.size wr w2):WhI w w2 v xs f:=⟨next2 h.below hb,h.row.below hb,h.used.move (hb.block _ h.used.lt)⟩
theorem WhI.took {w wr:World}{v:Value}{xs:List Int}{f g:Nat→Int}(h:WhI w wr v xs f){k:Nat}(hk:k<4){x:Int}(e:∀ j,j<4→g j=if j=k then x else f j):WhI w (wr.setCell ⟨w.heap.size,k,none⟩ (.int .i64 x)) v xs g:=⟨below_set h.below (Jb _),row_set h.row (by omega),h.used.set hk e⟩
theorem where_any (hM:MK base w0 w mb pb b0 b1 b2 b3 xb more vs slots tasks R p len cap c a)(hR:RM more R slots nt)(htk:tasks=nt) :
  Calls Try.prog 27 #[.pointer (some ⟨mb,0,none⟩)] w fun e w'=>∃ v,e=.returned (.tuple #[v,.bool true])∧NRow w.heap.size w' v (intL nt (nums more R slots.length))∧Below w.heap.size w w':=by
 subst htk
 have hfew:=hR.few
 obtain ⟨pv,cv,rfl⟩:=hM.row.sl'
 have H0:=hid' hM
 have HR:=hid' hR
 clear hM hR
 go_enter Try.func27,Try.ntmps27
 go_upto_region 3 with fail
 obtain ⟨W1,hW1⟩:∃ W1,w.alloc (.cells #[.int .i64 0,.int .i64 0,.int .i64 0,.int .i64 0] 102)=W1:=⟨_,rfl⟩
 have I1:WhI w W1 (.slice none 0 0) [] (fun j=>cntI (nums more R slots.length) j 0):=by
  rw [← hW1]
  refine ⟨(Jd _ _).alloc (Jb _) _,NRow.nil _ _,⟨_,heap_alloc_new w _,rfl,fun k hk=>?_⟩⟩
  rcases (show k=0∨k=1∨k=2∨k=3 by omega) with rfl | rfl | rfl | rfl <;> rfl
 rw [hW1]
 have H1:=hid' I1
 clear hW1 I1
 go_wp2_with fail
 go_loopg [4,6] nt (fun gk ov tv wr=>∃ (t:Nat) (v:Value),t≤nt∧nt - t≤gk∧ov=v∧tv=.int .i64 t∧Hid (WhI w wr v (intL t (nums more R slots.length)) (fun j=>cntI (nums more R slots.length) j t)))
 case atStart=>exact ⟨0,_,by omega,by omega,rfl,rfl,H1⟩
 case' round=>skip
 obtain ⟨t,v,htn,hgk,rfl,rfl,HL⟩:=hrel
 rename World=>Z0
 have MZ:=hid' (H0.out.of_below HL.out.below)
 obtain ⟨y0,y1,y2,y3⟩:=MZ.out.cs
 have y4:=MZ.out.lt
 by_cases ht:t<nt
 ·have htI:(t:Int)<(nt:Int):=by omega
  have hS0:S6 mb (.pointer (some ⟨pb,0,none⟩)) (.int .i64 more) Z0.drew:=S6.of MZ.out.drew
  have D1:=hid' (id_any Z0.drew more t (by omega) (by omega) H0.out.more0.1 (by have:=H0.out.more0; omega))
  obtain ⟨idv,hidv⟩:∃ x,R.on.getD t (-1)=x:=⟨_,rfl⟩
  have HID:=hid' hidv
  clear hidv
  go_upto_region 6 with fail
  clear y0 y1 y2 y3 y4
  refine wp_region_held_drew (S:=S6 mb (.pointer (some ⟨pb,0,none⟩)) (.int .i64 more)) (by kernel_rfl) hS0 (fun _=>?_)
  refine tkH (v:=?_) 0 21 hS0 ?_ ?_; rotate_left 1
  ·(rintro w' ⟨e0,e1,e2⟩; go_simp; try with_reducible rfl)
  simp only [Act.put,Jh,Ji,Jj]
  refine tkH (v:=?_) 1 22 hS0 ?_ ?_; rotate_left 1
  ·(rintro w' ⟨e0,e1,e2⟩; go_simp; try with_reducible rfl)
  simp only [Act.put,Jh,Ji,Jj]
  refine tkH (v:=?_) 2 23 hS0 ?_ ?_; rotate_left 1
  ·(rintro w' ⟨e0,e1,e2⟩; go_simp; try with_reducible rfl)
  simp only [Act.put,Jh,Ji,Jj]
  refine tkH (v:=?_) 3 24 hS0 ?_ ?_; rotate_left 1
  ·(rintro w' ⟨e0,e1,e2⟩; go_simp; try with_reducible rfl)
  simp only [Act.put,Jh,Ji,Jj]
  refine tkH (v:=?_) 4 25 hS0 ?_ ?_; rotate_left 1
  ·(rintro w' ⟨e0,e1,e2⟩; go_simp; try with_reducible rfl)
  simp only [Act.put,Jh,Ji,Jj]
  refine tkH (v:=?_) 5 26 hS0 ?_ ?_; rotate_left 1
  ·(rintro w' ⟨e0,e1,e2⟩; go_simp; try with_reducible rfl)
  simp only [Act.put,Jh,Ji,Jj]
  refine tkH (v:=?_) 6 27 hS0 ?_ ?_; rotate_left 1
  ·(rintro w' ⟨e0,e1,e2⟩; go_simp; try with_reducible rfl)
  simp only [Act.put,Jh,Ji,Jj]
  refine tkH (v:=?_) 7 28 hS0 ?_ ?_; rotate_left 1
  ·(rintro w' ⟨e0,e1,e2⟩; go_simp; try with_reducible rfl)
  simp only [Act.put,Jh,Ji,Jj]
  refine tkH (v:=?_) 8 29 hS0 ?_ ?_; rotate_left 1
  ·(rintro w' ⟨e0,e1,e2⟩; go_simp; try with_reducible rfl)
  simp only [Act.put,Jh,Ji,Jj]
  refine wpAnyH_ready (rs:=[9]) (by kernel_rfl) (by simp) ?_
  refine AllReadyH.cons rfl (fun K hK=>?_) AllReadyH.nil
  go_simp
  refine D1.out.mono ?_
  rintro e T1 ⟨rfl,bb⟩
  have F1:=hid' ((HL.out.go ((Jd _ _).drew)).go bb)
  clear bb
  have M1:=H0.out.of_below F1.out.below
  have hS1:=S6.of M1
  have D2:=mk_where M1 HR.out ht
  rw [HID.out] at D2
  have D2:=hid' D2
  refine hK.out _ _ hS1 (fun _=>?_)
  clear hK K D1 M1
  refine wpAnyH_ready (rs:=[10]) (by kernel_rfl) (by simp) ?_
  refine AllReadyH.cons rfl (fun K hK=>?_) AllReadyH.nil
  go_simp
  refine D2.out.mono ?_
  rintro e T2 ⟨rfl,bb⟩
  have F2:=hid' (F1.out.go bb)
  clear bb
  have hS2:=S6.of (H0.out.of_below F2.out.below)
  refine hK.out _ _ hS2 (fun _=>?_)
  clear hK K D2
  refine tkH (v:=?_) 11 20 hS2 ?_ ?_; rotate_left 1
  ·(rintro w' ⟨e0,e1,e2⟩; go_simp; try with_reducible rfl)
  simp only [Act.put,Jh,Ji,Jj]
  refine tkH (v:=?_) 12 32 hS2 ?_ ?_; rotate_left 1
  ·(rintro w' ⟨e0,e1,e2⟩; go_simp; try with_reducible rfl)
  simp only [Act.put,Jh,Ji,Jj]
  refine tkH (v:=?_) 13 33 hS2 ?_ ?_; rotate_left 1
  ·(rintro w' ⟨e0,e1,e2⟩; go_simp; try with_reducible rfl)
  simp only [Act.put,Jh,Ji,Jj]
  refine tkH (v:=?_) 14 7 hS2 ?_ ?_; rotate_left 1
  ·(rintro w' ⟨e0,e1,e2⟩; go_simp; try with_reducible rfl)
  simp only [Act.put,Jh,Ji,Jj]
  refine tkH (v:=?_) 15 8 hS2 ?_ ?_; rotate_left 1
  ·(rintro w' ⟨e0,e1,e2⟩; go_simp; try with_reducible rfl)
  simp only [Act.put,Jh,Ji,Jj]
  refine wpAnyH_done (by kernel_rfl) ?_ _
  clear hS0 hS1 hS2
  have HJ:=hid' (show WhI w T2 u4 (intL t (nums more R slots.length)) (usedK more R slots.length t 0) from ⟨F2.out.below,F2.out.row,F2.out.used.congr (fun j _=>usedK_zero _ _ _ _ j)⟩)
  clear F1 F2
  go_upto_region 8 with fail
  go_wp2_with fail
  go_loopg [9,10] slots.length (fun gk nv kv wr=>∃ k:Nat,k≤slots.length∧slots.length - k≤gk∧nv=.int .i64 (onK more idv k)∧kv=.int .i64 k∧Hid (WhI w wr u4 (intL t (nums more R slots.length)) (usedK more R slots.length t k)))
  case atStart=>exact ⟨0,by omega,by omega,rfl,rfl,HJ⟩
  case' round=>skip
  obtain ⟨k,hkn,hgk2,rfl,rfl,HI⟩:=hrel
  rename World=>Z1
  have MY:=hid' (H0.out.of_below HI.out.below)
  obtain ⟨y0,y1,y2,y3⟩:=MY.out.cs
  have y4:=MY.out.lt
  have hob:=onK_bounds more idv k
  by_cases hk:k<slots.length
  ·have hkI:(k:Int)<(slots.length:Int):=by omega
   have D3:=hid' (id_any Z1 more k (by omega) (by omega) H0.out.more0.1 (by have:=H0.out.more0; omega))
   by_cases he:idOf more k=idv
   ·have hb:=(HI.out.used.cell (k:=k) (by omega))
    have hcl:=cntI_le (nums more R slots.length) k t
    have hub:0≤usedK more R slots.length t k k∧usedK more R slots.length t k k≤6:=by
     unfold usedK
     rw [if_neg (by omega)]
     omega
    obtain ⟨X,hX⟩:∃ X,usedK more R slots.length t k k=X:=⟨_,rfl⟩
    rw [hX] at hub
    have HX:=hid' hX
    have hkk:=k
    clear hX hb hcl
    go_upto_region 12 with (first
     | (go_at_call 31; refine D3.out.mono ?_; rintro e Z2 ⟨rfl,bb⟩; have H2:=hid' (HI.out.go bb); rw [he]; clear bb D3)
     | fail)
    obtain ⟨c1,c2,c3⟩:=H2.out.used.cell (k:=k) (by omega)
    rw [HX.out] at c1
    clear y0 y1 y2 y3 y4
    go_wp2_with fail
    go_roundg (slots.length - (k+1))
    case measure=>omega
    case rel =>
     refine ⟨k+1,by omega,Jb _,?_,by go_num,(show WhI _ _ _ _ _ from H2.out.took (by omega) (fun j _=>?_))⟩
     ·show _=Value.int .i64 (if idOf more k=idv then (k:Int) else onK more idv k)
      rw [if_pos he]
     ·rw [usedK_take (by rw [HID.out]; exact he),HX.out]
   ·have heI:¬ (idOf more k == idv)=true:=by simpa using he
    go_upto_region 10 with (first
     | (go_at_call 31; refine D3.out.mono ?_; rintro e Z2 ⟨rfl,bb⟩; have H2:=hid' (HI.out.go bb); clear bb D3)
     | fail)
    clear y0 y1 y2 y3 y4
    go_wp2_with fail
    go_roundg (slots.length - (k+1))
    case measure=>omega
    case rel =>
     refine ⟨k+1,by omega,Jb _,?_,by go_num,(show WhI _ _ _ _ _ from ⟨H2.out.below,H2.out.row,H2.out.used.congr (fun j _=>usedK_skip (by rw [HID.out]; exact he) j)⟩)⟩
     show _=Value.int .i64 (if idOf more k=idv then (k:Int) else onK more idv k)
     rw [if_neg he]
  ·have hkI:¬ (k:Int)<(slots.length:Int):=by omega
   obtain rfl:k=slots.length:=by omega
   have hio:t<R.on.length:=by rw [H0.out.fits.2.1.lo,HR.out.len3]; exact ht
   have hcase:(idv=-1∧onK more idv slots.length=-1)∨0≤onK more idv slots.length:=by
    have h1:=HID.out
    rw [getD_at hio] at h1
    rcases HR.out.on_of H0.out.fits.2.2 hio with e | ⟨j,hj,e⟩
    ·rw [h1] at e
     subst e
     exact Jr ⟨rfl,onK_none _ _⟩
    ·rw [h1] at e
     subst e
     rw [onK_at hj (by omega)]
     exact Js (by omega)
   have hnum:onK more idv slots.length=nums more R slots.length t:=by
    unfold nums
    rw [HID.out]
   obtain ⟨X,hX⟩:∃ X,onK more idv slots.length=X:=⟨_,rfl⟩
   rw [hX] at hcase hob
   rw [hX] at hnum
   have HN:=hid' hnum
   simp only [hX]
   clear hX hnum y0 y1 y3
   have HU:=hid' (show WhI w Z1 u4 (intL t (nums more R slots.length)) (fun j=>cntI (nums more R slots.length) j (t+1)) from ⟨HI.out.below,HI.out.row,HI.out.used.congr (fun j _=>(usedK_all more R (by omega) t j).symm)⟩)
   have hz1:=HU.out.used.lt
   have hrA:NRow (w.heap.size+1) (Z1.alloc (.cells #[.int .i64 X] 3)) u4 (intL t (nums more R slots.length)):=HU.out.row.below ((Jd _ _).alloc (Jb _) _)
   have hln:(intL t (nums more R slots.length)).length≤1000000:=by rw [intL_length]; omega
   have hfin:∀ (v':Value) (T5:World),NRow (w.heap.size+1) T5 v' (intL t (nums more R slots.length) ++ [X])→(Z1.alloc (.cells #[.int .i64 X] 3)).grownBy T5 u4.ownBlock→WhI w T5 v' (intL (t+1) (nums more R slots.length)) (fun j=>cntI (nums more R slots.length) j (t+1)):=fun v' T5 hrow hg=>by
    have hz2:=HU.out.below.size
    refine ⟨below_push (HU.out.below.alloc (by omega) _) hg (fun b e=>by have:=hrA.base b e; omega) (by simp; omega),by rw [← intL_push,← HN.out]; exact hrow,HU.out.used.move ?_⟩
    rw [hg.block _ (by simp; omega) (fun e=>by have:=hrA.base _ e.symm; omega)]
    exact heap_alloc_old Z1 _ hz1
   have HFIN:=hid' hfin
   clear hfin
   rcases hcase with ⟨rfl,rfl⟩ | hx
   ·go_wp2_with (first
     | (at_builtin; refine wpList_push _ (w.heap.size+1) (-1) _ _ rfl _ _ rfl rfl hrA Z1.heap.size rfl (by simp) (by simp; omega) hln ?_; intro v' T5 hrow hg hloc; have HP:=hid' (HFIN.out v' T5 hrow hg); clear hrow hg hloc)
     | fail)
    go_roundg (nt - (t+1))
    case measure=>omega
    case rel=>exact ⟨t+1,_,by omega,Jb _,rfl,by go_num,HP⟩
   ·have hx':¬ X<0:=by omega
    go_wp2_with (first
     | (at_builtin; refine wpList_push _ (w.heap.size+1) X _ _ rfl _ _ rfl rfl hrA Z1.heap.size rfl (by simp) (by simp; omega) hln ?_; intro v' T5 hrow hg hloc; have HP:=hid' (HFIN.out v' T5 hrow hg); clear hrow hg hloc)
     | fail)
    go_roundg (nt - (t+1))
    case measure=>omega
    case rel=>exact ⟨t+1,_,by omega,Jb _,rfl,by go_num,HP⟩
 ·have htI:¬ (t:Int)<(nt:Int):=by omega
  obtain rfl:t=nt:=by omega
  go_upto_region 17 with fail
  clear y0 y1 y2 y3 y4
  go_wp2_with fail
  go_loopg [11] slots.length (fun gk kv wr=>∃ k:Nat,k≤slots.length∧slots.length - k≤gk∧kv=.int .i64 k∧Hid (Below Z0.heap.size Z0 wr))
  case atStart=>exact ⟨0,by omega,by omega,rfl,(show Below _ _ _ from Jd _ _)⟩
  case' round=>skip
  obtain ⟨k,hkn,hgk2,rfl,HI⟩:=hrel
  rename World=>Z1
  have MY:=hid' (MZ.out.of_below HI.out)
  obtain ⟨_,_,y2,_⟩:=MY.out.cs
  have y4:=MY.out.lt
  by_cases hk:k<slots.length
  ·have hkI:(k:Int)<(slots.length:Int):=by omega
   obtain ⟨c1,_,c3⟩:=(HL.out.go HI.out).used.cell (k:=k) (by omega)
   obtain ⟨gs,e1,s1,s2,_⟩:=MY.out.row.at' hk
   subst e1
   have hle:=HR.out.used MY.out.fits.1.more.cap (k:=k) (n:=t) hk (by rw [H0.out.fits.2.1.lo,HR.out.len3]; exact Jb _)
   obtain ⟨X,hX⟩:∃ X:Int,(cntI (nums more R slots.length) k t:Int)=X:=⟨_,rfl⟩
   obtain ⟨Y,hY⟩:∃ Y:Int,slots[k]=Y:=⟨_,rfl⟩
   rw [hX,hY] at hle
   rw [hX] at c1
   rw [hY] at s2
   clear hX hY
   have hle':¬ Y<X:=by omega
   go_upto_region 20 with fail
   go_quiet (fail)
   go_wp2_with fail
   go_roundg (slots.length - (k+1))
   case measure=>omega
   case rel=>exact ⟨k+1,by omega,Jb _,by go_num,below_drawnR HI.out⟩
  ·have hkI:¬ (k:Int)<(slots.length:Int):=by omega
   go_wp2_with fail
   go_ret2
   exact ⟨_,rfl,((HL.out.go HI.out).row.base_le (by omega)),(HL.out.go HI.out).below⟩
end
end
section
open Go.RowKit
theorem sum_any {w:World}{b b':Nat}{v u:Value}{vals:List Value}{more:Int}{R:RSt}{ns nt:Nat}{on:Nat→Int}(hT:Tab b w v vals (rowsT more R ns nt))(hO:NRow b' w u (intL nt on))(hn:nt≤6)(hns:ns≤4)
  (hon:∀ t,t<nt→-1≤on t∧on t<ns) (hb:∀ t j,t<nt→0≤tabF more R t j∧tabF more R t j≤1150) :
  Calls Try.prog 28 #[v,u] w fun e w'=>e=.returned (.int .i64 (sumT more R on nt))∧Below w.heap.size w w':=by
 obtain ⟨p1,c1,rfl⟩:=hT.sl
 obtain ⟨p2,c2,rfl⟩:=hO.sl'
 rw [rowsT_length] at hT
 rw [intL_length] at hO
 rw [rowsT_length,intL_length]
 have H0:=hid' (Jc hT (Jc hO (Jc hon hb)))
 clear hT hO hon hb
 go_enter Try.func28,Try.ntmps28
 go_upto_region 2 with fail
 go_wp2_with fail
 go_loopg [5,6] nt (fun gk sv tv wr=>∃ (t:Nat) (s:Int),t≤nt∧nt - t≤gk∧sv=.int .i64 s∧tv=.int .i64 t∧(0≤s∧s≤1150*(t:Int))∧Hid (s=sumT more R on t∧Below w.heap.size w wr))
 case atStart=>exact ⟨0,0,by omega,by omega,rfl,rfl,by omega,(show _∧_ from ⟨rfl,Jd _ _⟩)⟩
 case' round=>skip
 obtain ⟨t,s,htn,hgk,rfl,rfl,hsb,HL⟩:=hrel
 rename World=>Z0
 by_cases ht:t<nt
 ·have htI:(t:Int)<(nt:Int):=by omega
  have hot:=H0.out.2.2.1 t ht
  obtain ⟨j,hj⟩:∃ j:Nat,on t=(j:Int) - 1:=⟨(on t+1).toNat,by omega⟩
  have hjn:j<ns+1:=by omega
  have hjI:(j:Int)<(ns:Int)+1:=by omega
  obtain ⟨g1,r1,cr1,e1,x1,x2,x3,x4⟩:=(H0.out.1.below HL.out.2).get (i:=t) (by rw [rowsT_length]; exact ht) (by rw [rowsT_get ht,intL_length]; omega)
  rw [rowsT_get ht,intL_length] at x2 x4
  have x5:=x4 j hjn
  rw [getD_at (by rw [intL_length]; exact hjn),intL_get] at x5
  obtain ⟨g2,e2,y1,y2,_⟩:=(H0.out.2.1.below HL.out.2).at' (k:=t) (by rw [intL_length]; exact ht)
  rw [intL_get,hj] at y2
  subst e1 e2
  have hbt:=H0.out.2.2.2 t j ht
  have es:sumT more R on (t+1)=sumT more R on t+tabF more R t j:=by
   show sumN _ t+tabF more R t (on t+1).toNat=_
   rw [hj]
   congr 2
   omega
  obtain ⟨X,hX⟩:∃ X,tabF more R t j=X:=⟨_,rfl⟩
  rw [hX] at x5 hbt es
  have HE:=hid' es
  clear x4 hX es hj hot
  go_upto_region 5 with fail
  go_quiet (fail)
  go_wp2_with fail
  go_roundg (nt - (t+1))
  case measure=>omega
  case rel=>exact ⟨t+1,s+X,by omega,Jb _,rfl,by go_num,by omega,(show _∧_ from ⟨by rw [HE.out,HL.out.1],below_drawnR HL.out.2⟩)⟩
 ·have htI:¬ (t:Int)<(nt:Int):=by omega
  obtain rfl:t=nt:=by omega
  go_wp2_with fail
  go_ret
  exact ⟨ret_int HL.out.1,HL.out.2⟩
end
end Go.Proofs.Ytjdindfjfpdikaa
