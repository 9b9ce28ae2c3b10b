import Derived.Test.YtjdindfjfpdikaaB32
import Derived.Test.YtjdindfjfpdikaaPre
set_option maxRecDepth 100000
set_option maxHeartbeats 8000000
namespace Go.Proofs.Ytjdindfjfpdikaa
section
open Go.RowKit
section
variable {base:Nat}{w0 w w':World}{mb pb b0 b1 b2 b3 xb:Nat}{more:Int}{vs:Value}{slots:List Int}{tasks:Int}{R R':RSt}{p:Option Addr}{len cap a a' nt:Nat}{c:Nat→Int}
theorem MK.rest (h:MK base w0 w mb pb b0 b1 b2 b3 xb more vs slots tasks R p len cap c a)(ho:Only [pb,b0,b1,b2,b3] w w'):∀ (k:Nat)(cs:Array Value)(t:TypeId),w.heap[k]?=some (.cells cs t)→t=3∨t=35→w'.heap[k]?=w.heap[k]?:=fun k cs t q ht=>by
 obtain ⟨l0,l1,l2,l3,hp,_⟩:=h.plan
 refine ho.block k (Ja.1 q).1 (fun hm=>?_)
 rcases List.mem_cons.1 hm with rfl | hm
 ·obtain ⟨_,_,_,_,_,q'⟩:=hp.cells
  rw [q] at q'
  cases q'
  rcases ht with e | e <;> cases e
 ·exact hp.notmap q hm
theorem MK.restT {b:Nat}{v:Value}{vals:List Value}{rows:List (List Int)}(h:MK base w0 w mb pb b0 b1 b2 b3 xb more vs slots tasks R p len cap c a)(ho:Only [pb,b0,b1,b2,b3] w w')(hT:Tab b w v vals rows):Tab b w' v vals rows:=hT.keep (fun k cs t _ q ht=>h.rest ho k cs t q ht)
theorem MK.restN {b:Nat}{v:Value}{xs:List Int}(h:MK base w0 w mb pb b0 b1 b2 b3 xb more vs slots tasks R p len cap c a)(ho:Only [pb,b0,b1,b2,b3] w w')(hN:NRow b w v xs):NRow b w' v xs:=hN.keep (fun k _ _ ⟨cs,q⟩=>h.rest ho k cs 3 q (Jr rfl))
theorem stay_le (h:MK base w0 w mb pb b0 b1 b2 b3 xb more vs slots tasks R p len cap c a)(hR:RM more R slots nt){s:Int}(hL:LeastOf R s):s≤sumT more R (nums more R slots.length) nt:=by
 have h1:=hL.le (hR.stay h.fits.2.1 h.fits.1.more.cap)
 rw [hR.len3] at h1
 rw [sum_plc _ _ _ _ (fun t _=>(nums_bounds _ _ _ t).1)]
 exact h1
end
def Last (R:RSt)(last:Int):Prop:=∃ Q P,R=Rn Q P Q.t3.length∧RunFit Q∧PlaceOk Q.t1.length (sR Q) P Q.t3.length∧last=pcost (cR Q) P Q.t3.length
theorem Last.le {R:RSt}{last s:Int}(h:Last R last)(hL:LeastOf R s):s≤last:=by
 obtain ⟨Q,P,rfl,hf,hP,rfl⟩:=h
 exact again_less hf hP hL
theorem still_walk (w:World)(p:Option Addr)(len cap:Nat)(c:Nat→Int)(hc:DC w p len c)(hlen:len<1000000000000000) :
  Calls Try.prog 6 #[.slice p len cap] w fun e w'=>e=.returned (.bool true)∧Below w.heap.size w w':=by
 have A1:=hid' (made_any (base:=w.heap.size) (w0:=w) (more:=0) (dice_new (cap:=cap) hc hlen) (by simp) (BelowX.of _ ((Jd _ _).alloc (Jb _) _)) (by omega) hc.arg)
 clear hc hlen
 go_enter Try.func6,Try.ntmps6
 go_upto_region 3 with (first
  | (go_at_call 24; refine A1.out.mono ?_; rintro e W2 ⟨mb,pb,b0,b1,b2,b3,vs,slots,tasks,R0',a,rfl,M1,I1,_⟩; have H1:=hid' (Jc M1 I1); clear M1 I1 A1)
  | fail)
 have hfew:=H1.out.2.few
 obtain ⟨nt,hnt⟩:∃ nt:Nat,tasks=(nt:Int):=⟨tasks.toNat,by omega⟩
 subst hnt
 have RM0:=H1.out.2.rm
 rw [Jn] at RM0
 have H2:=hid' (Jc H1.out.1 RM0)
 clear RM0 H1
 go_upto_region 6 with fail
 go_wp2_with fail
 go_loopg [5,6] 3 (fun gk lv kv wr=>∃ (k:Nat) (R:RSt) (last:Int),k≤3∧3 - k≤gk∧lv=.int .i64 last∧kv=.int .i64 k∧Hid (MK w.heap.size w wr mb pb b0 b1 b2 b3 w.heap.size 0 vs slots nt R p len cap c a∧RM 0 R slots nt∧(0<k→Last R last)))
 case atStart=>exact ⟨0,R0',0,by omega,by omega,rfl,rfl,(show _∧_∧_ from ⟨H2.out.1,H2.out.2,fun h=>absurd h (by omega)⟩)⟩
 case' round=>skip
 obtain ⟨k,R,last,hk3,hgk,rfl,rfl,HL⟩:=hrel
 rename World=>Z0
 clear H2
 have hfit:=HL.out.1.fits.2.1
 have hbt:∀ t j,t<nt→0≤tabF 0 R t j∧tabF 0 R t j≤1150:=fun t j ht=>tabF_bound hfit (by rw [HL.out.2.1.len3]; exact ht) j
 have HB:=hid' (Jc hfit hbt)
 clear hfit hbt
 by_cases hk:k<3
 ·have T1:=hid' (table_any HL.out.1 HL.out.2.1 rfl)
  rcases (show k=0∨k=1∨k=2 by omega) with rfl | rfl | rfl
  ·go_upto_region 18 with (first
    | (go_at_call 25; refine T1.out.mono ?_; rintro e Z1 ⟨v,vals,rfl,Tb,bb⟩; have H3:=hid' (HL.out.1.of_below bb); clear Tb bb T1)
    | fail)
   obtain ⟨y0,_,_,_⟩:=H3.out.cs
   have y4:=H3.out.lt
   have Q1:=hid' (mk_solve H3.out)
   go_upto_region 19 with (first
    | (go_at_call 26; refine Q1.out.mono ?_; rintro e Z4 ⟨P,s,rfl,hs0,hL,hPl,MC,_⟩; have H6:=hid' (Jc MC (Jc hL (show Last (Rn R P R.t3.length) s from ⟨R,P,rfl,HB.out.1,hPl,hs0⟩))); clear hs0 hL hPl MC Q1)
    | fail)
   clear y0 y4
   go_wp2_with fail
   go_roundg (3 - (0+1))
   case measure=>omega
   case rel=>exact ⟨0+1,_,_,by omega,Jb _,rfl,by go_num,(show _∧_∧_ from ⟨H6.out.1,HL.out.2.1.rn _ _,fun _=>H6.out.2.2⟩)⟩
  ·go_upto_region 14 with (first
    | (go_at_call 25; refine T1.out.mono ?_; rintro e Z1 ⟨v,vals,rfl,Tb,bb⟩; have H4:=hid' (Jc Tb (HL.out.1.of_below bb)); clear Tb bb T1)
    | fail)
   have T2:=hid' (where_any H4.out.2 HL.out.2.1 rfl)
   go_upto_region 15 with (first
    | (go_at_call 27; refine T2.out.mono ?_; rintro e Z2 ⟨u,rfl,Nu,bb⟩; have H5:=hid' (Jc (H4.out.1.below bb) (Jc Nu (H4.out.2.of_below bb))); clear Nu bb T2)
    | fail)
   have T3:=hid' (sum_any H5.out.1 H5.out.2.1 (by omega) (by omega) (fun t _=>nums_bounds _ _ _ t) HB.out.2)
   obtain ⟨st,hst⟩:∃ x,sumT 0 R (nums 0 R slots.length) nt=x:=⟨_,rfl⟩
   rw [hst] at T3
   have HS:=hid' hst
   clear hst
   go_upto_region 18 with (first
    | (go_at_call 28; refine T3.out.mono ?_; rintro e Z3 ⟨rfl,bb⟩; have H3:=hid' (H5.out.2.2.of_below bb); clear bb T3)
    | fail)
   obtain ⟨y0,_,_,_⟩:=H3.out.cs
   have y4:=H3.out.lt
   have Q1:=hid' (mk_solve H3.out)
   go_upto_region 19 with (first
    | (go_at_call 26; refine Q1.out.mono ?_; rintro e Z4 ⟨P,s,rfl,hs0,hL,hPl,MC,_⟩; have H6:=hid' (Jc MC (Jc hL (show Last (Rn R P R.t3.length) s from ⟨R,P,rfl,HB.out.1,hPl,hs0⟩))); clear hs0 hL hPl MC Q1)
    | fail)
   clear y0 y4
   have hx1:¬ st<s:=by have h1:=stay_le H3.out HL.out.2.1 H6.out.2.1; rw [HS.out] at h1; omega
   go_wp2_with fail
   go_roundg (3 - (1+1))
   case measure=>omega
   case rel=>exact ⟨1+1,_,_,by omega,Jb _,rfl,by go_num,(show _∧_∧_ from ⟨H6.out.1,HL.out.2.1.rn _ _,fun _=>H6.out.2.2⟩)⟩
  ·go_upto_region 14 with (first
    | (go_at_call 25; refine T1.out.mono ?_; rintro e Z1 ⟨v,vals,rfl,Tb,bb⟩; have H4:=hid' (Jc Tb (HL.out.1.of_below bb)); clear Tb bb T1)
    | fail)
   have T2:=hid' (where_any H4.out.2 HL.out.2.1 rfl)
   go_upto_region 15 with (first
    | (go_at_call 27; refine T2.out.mono ?_; rintro e Z2 ⟨u,rfl,Nu,bb⟩; have H5:=hid' (Jc (H4.out.1.below bb) (Jc Nu (H4.out.2.of_below bb))); clear Nu bb T2)
    | fail)
   have T3:=hid' (sum_any H5.out.1 H5.out.2.1 (by omega) (by omega) (fun t _=>nums_bounds _ _ _ t) HB.out.2)
   obtain ⟨st,hst⟩:∃ x,sumT 0 R (nums 0 R slots.length) nt=x:=⟨_,rfl⟩
   rw [hst] at T3
   have HS:=hid' hst
   clear hst
   go_upto_region 18 with (first
    | (go_at_call 28; refine T3.out.mono ?_; rintro e Z3 ⟨rfl,bb⟩; have H3:=hid' (H5.out.2.2.of_below bb); clear bb T3)
    | fail)
   obtain ⟨y0,_,_,_⟩:=H3.out.cs
   have y4:=H3.out.lt
   have Q1:=hid' (mk_solve H3.out)
   go_upto_region 19 with (first
    | (go_at_call 26; refine Q1.out.mono ?_; rintro e Z4 ⟨P,s,rfl,hs0,hL,hPl,MC,_⟩; have H6:=hid' (Jc MC (Jc hL (show Last (Rn R P R.t3.length) s from ⟨R,P,rfl,HB.out.1,hPl,hs0⟩))); clear hs0 hL hPl MC Q1)
    | fail)
   clear y0 y4
   have hx1:¬ st<s:=by have h1:=stay_le H3.out HL.out.2.1 H6.out.2.1; rw [HS.out] at h1; omega
   have hx2:¬ last<s:=by have h1:=(HL.out.2.2 (by omega)).le H6.out.2.1; omega
   go_wp2_with fail
   go_roundg (3 - (2+1))
   case measure=>omega
   case rel=>exact ⟨2+1,_,_,by omega,Jb _,rfl,by go_num,(show _∧_∧_ from ⟨H6.out.1,HL.out.2.1.rn _ _,fun _=>H6.out.2.2⟩)⟩
 ·obtain rfl:k=3:=by omega
  have T1:=hid' (where_any HL.out.1 HL.out.2.1 rfl)
  go_upto_region 23 with (first
   | (go_at_call 27; refine T1.out.mono ?_; rintro e Z1 ⟨u,rfl,Nu,bb⟩; have H3:=hid' (Jc Nu (HL.out.1.of_below bb)); clear Nu bb T1)
   | fail)
  have T2:=hid' (table_any H3.out.2 HL.out.2.1 rfl)
  go_upto_region 24 with (first
   | (go_at_call 25; refine T2.out.mono ?_; rintro e Z2 ⟨v,vals,rfl,Tb,bb⟩; have H4:=hid' (Jc Tb (Jc (H3.out.1.below bb) (H3.out.2.of_below bb))); clear Tb bb T2)
   | fail)
  obtain ⟨y0,_,_,_⟩:=H4.out.2.2.cs
  have y4:=H4.out.2.2.lt
  have Q1:=hid' (mk_solve H4.out.2.2)
  go_upto_region 25 with (first
   | (go_at_call 26; refine Q1.out.mono ?_; rintro e Z4 ⟨P,s,rfl,hs0,hL,hPl,MC,ho⟩; have H6:=hid' (Jc MC (Jc hL (Jc (H4.out.2.2.restT ho H4.out.1) (H4.out.2.2.restN ho H4.out.2.1)))); clear hs0 hL hPl MC ho Q1)
   | fail)
  clear y0 y4
  have T3:=hid' (sum_any H6.out.2.2.1 H6.out.2.2.2 (by omega) (by omega) (fun t _=>nums_bounds _ _ _ t) HB.out.2)
  obtain ⟨st,hst⟩:∃ x,sumT 0 R (nums 0 R slots.length) nt=x:=⟨_,rfl⟩
  have hx1:s≤st:=by have h1:=stay_le H4.out.2.2 HL.out.2.1 H6.out.2.1; rw [hst] at h1; omega
  rw [hst] at T3
  clear hst
  go_wp2_with (first
   | (go_at_call 28; refine T3.out.mono ?_; rintro e Z5 ⟨rfl,bb⟩; have H7:=hid' (H6.out.1.of_below bb); clear bb T3)
   | fail)
  go_ret
  exact ⟨rfl,H7.out.below.below (Jb _)⟩
end
section
open Go.RowKit
def rivF (c:Nat→Int)(len:Nat)(slots:List Int):Nat→(Nat→Int)×Nat
 | 0=>(fun _=>-1,0)
 | t+1=>(fun s:(Nat→Int)×Nat=>((fun j=>if j=t then (if 0≤nv c len s.2 (slots.length+1) - 1∧(cntI s.1 (nv c len s.2 (slots.length+1) - 1) t:Int)=slots.getD (nv c len s.2 (slots.length+1) - 1).toNat 0 then -1 else nv c len s.2 (slots.length+1) - 1) else s.1 j),na len s.2)) (rivF c len slots t)
def rivO (c:Nat→Int)(len:Nat)(slots:List Int)(t:Nat):Nat→Int:=(rivF c len slots t).1
theorem rivO_old {c:Nat→Int}{len:Nat}{slots:List Int}{t j:Nat}(h:j≠t):rivO c len slots (t+1) j=rivO c len slots t j:=by
 show (if j=t then _ else _)=_
 rw [if_neg h]
 rfl
theorem rivO_new (c:Nat→Int)(len:Nat)(slots:List Int)(t:Nat):rivO c len slots (t+1) t=if 0≤nv c len (rivF c len slots t).2 (slots.length+1) - 1∧(cntI (rivO c len slots t) (nv c len (rivF c len slots t).2 (slots.length+1) - 1) t:Int)=slots.getD (nv c len (rivF c len slots t).2 (slots.length+1) - 1).toNat 0 then -1 else nv c len (rivF c len slots t).2 (slots.length+1) - 1:=by
 show (if t=t then _ else _)=_
 rw [if_pos rfl]
 rfl
theorem cntI_riv (c:Nat→Int)(len:Nat)(slots:List Int)(t:Nat)(x:Int):cntI (rivO c len slots (t+1)) x t=cntI (rivO c len slots t) x t:=cntI_congr (fun j hj=>rivO_old (by omega))
theorem riv_ok (c:Nat→Int)(len:Nat)(slots:List Int)(hs:∀ s∈slots,1≤s∧s≤3):∀ t:Nat,(∀ j,j<t→-1≤rivO c len slots t j∧rivO c len slots t j<slots.length)∧∀ k,(hk:k<slots.length)→(cntI (rivO c len slots t) k t:Int)≤slots[k]
 | 0=>⟨fun j hj=>by omega,fun k hk=>by have:=hs _ (Jl hk); simp only [cntI]; omega⟩
 | t+1=>by
  obtain ⟨h1,h2⟩:=riv_ok c len slots hs t
  have hb:=nv_bounds c len (rivF c len slots t).2 (n:=(slots.length:Int)+1) (by omega)
  have hn:=rivO_new c len slots t
  refine ⟨fun j hj=>?_,fun k hk=>?_⟩
  ·by_cases e:j=t
   ·subst e
    rw [hn]
    split <;> omega
   ·rw [rivO_old e]
    exact h1 j (by omega)
  ·have h3:=h2 k hk
   simp only [cntI]
   rw [cntI_riv]
   by_cases e:rivO c len slots (t+1) t=(k:Int)
   ·rw [if_pos e]
    rw [hn] at e
    split at e
    ·omega
    ·rename_i q
     rw [e] at q
     have hg:slots.getD ((k:Int)).toNat 0=slots[k]:=by rw [Jn,getD_at hk]
     rw [hg] at q
     have:¬ (cntI (rivO c len slots t) k t:Int)=slots[k]:=fun z=>q ⟨by omega,z⟩
     omega
   ·rw [if_neg e]
    omega
structure RvI (w wr:World)(v:Value)(xs:List Int)(f:Nat→Int)(p:Option Addr)(len cap:Nat)(c:Nat→Int)(a:Nat):Prop where
 below:Below w.heap.size w wr
 row:NRow (w.heap.size+2) wr v xs
 used:UsedAt wr (w.heap.size+1) f
 dice:DiceAt wr w.heap.size p len cap c a
section
variable {w wr w2:World}{v:Value}{xs:List Int}{f g:Nat→Int}{p:Option Addr}{len cap:Nat}{c:Nat→Int}{a a':Nat}
theorem RvI.go (h:RvI w wr v xs f p len cap c a)(hb:Below wr.heap.size wr w2):RvI w w2 v xs f p len cap c a:=⟨next2 h.below hb,h.row.below hb,h.used.move (hb.block _ h.used.lt),h.dice.cel (Cel.of_below hb)⟩
theorem RvI.thrown (h:RvI w wr v xs f p len cap c a)(hd:DiceAt w2 w.heap.size p len cap c a')(hs:Stir w.heap.size wr w2):RvI w w2 v xs f p len cap c a' :=
 ⟨Stir.below h.below hs (Jb _),h.row.keep (fun b hb _ _=>hs.block b (by omega)),h.used.move (hs.block _ (by omega)),hd⟩
theorem RvI.took (h:RvI w wr v xs f p len cap c a){k:Nat}(hk:k<4){x:Int}(e:∀ j,j<4→g j=if j=k then x else f j)(hp:∀ q,len≠0→p=some q→q.block<w.heap.size):RvI w (wr.setCell ⟨w.heap.size+1,k,none⟩ (.int .i64 x)) v xs g p len cap c a :=
 ⟨below_set h.below (by omega),row_set h.row (by omega),h.used.set hk e,h.dice.keep (Below.heap_setCell wr ⟨w.heap.size+1,k,none⟩ _ _ (by simp)) (fun q z e=>Below.heap_setCell wr ⟨w.heap.size+1,k,none⟩ _ _ (by have:=hp q z e; simp; omega))⟩
end
section
variable {base:Nat}{w0 w w':World}{mb pb b0 b1 b2 b3 xb:Nat}{more:Int}{vs:Value}{slots:List Int}{tasks:Int}{R R':RSt}{p:Option Addr}{len cap a a' nt:Nat}{c:Nat→Int}
theorem rival_any {q:Option Addr}{qlen qcap:Nat}{d:Nat→Int}(hM:MK base w0 w mb pb b0 b1 b2 b3 xb more vs slots tasks R p len cap c a)(hR:RM more R slots nt)(htk:tasks=nt)(hd:DC w q qlen d)(hql:qlen<1000000000000000) :
  Calls Try.prog 29 #[.pointer (some ⟨mb,0,none⟩),.slice q qlen qcap] w fun e w'=>∃ v,e=.returned v∧NRow w.heap.size w' v (intL nt (rivO d qlen slots nt))∧Below w.heap.size w w':=by
 subst htk
 have hfew:=hR.few
 have hok:=riv_ok d qlen slots hR.sl
 obtain ⟨pv,cv,rfl⟩:=hM.row.sl'
 obtain ⟨W1,hW1⟩:∃ W1,(w.alloc (.cells #[.slice q qlen qcap,.int .i64 0] 49)).alloc (.cells #[.int .i64 0,.int .i64 0,.int .i64 0,.int .i64 0] 102)=W1:=⟨_,rfl⟩
 have I1:RvI w W1 (.slice none 0 0) [] (fun j=>cntI (rivO d qlen slots 0) j 0) q qlen qcap d (rivF d qlen slots 0).2:=by
  rw [← hW1]
  refine ⟨((Jd _ _).alloc (Jb _) _).alloc (by simp) _,NRow.nil _ _,⟨_,by have:=heap_alloc_new (w.alloc (.cells #[.slice q qlen qcap,.int .i64 0] 49)) (.cells #[.int .i64 0,.int .i64 0,.int .i64 0,.int .i64 0] 102); simpa using this,rfl,fun k hk=>?_⟩,(dice_new hd hql).cel (Cel.of_below ((Jd _ _).alloc (Jb _) _))⟩
  rcases (show k=0∨k=1∨k=2∨k=3 by omega) with rfl | rfl | rfl | rfl <;> rfl
 have H0:=hid' (Jc hM hd.arg)
 have HR:=hid' (Jc hR hok)
 have H1:=hid' I1
 clear hM hR hd hok I1
 go_enter Try.func29,Try.ntmps29
 go_upto_region 4 with fail
 clear hW1
 go_wp2_with fail
 go_loopg [7,8] nt (fun gk ov tv wr=>∃ (t:Nat) (v:Value),t≤nt∧nt - t≤gk∧ov=v∧tv=.int .i64 t∧Hid (RvI w wr v (intL t (rivO d qlen slots t)) (fun j=>cntI (rivO d qlen slots t) j t) q qlen qcap d (rivF d qlen slots t).2))
 case atStart=>exact ⟨0,_,by omega,by omega,rfl,rfl,H1⟩
 case' round=>skip
 obtain ⟨t,v,htn,hgk,rfl,rfl,HL⟩:=hrel
 rename World=>Z0
 have MZ:=hid' (H0.out.1.of_below HL.out.below)
 obtain ⟨_,_,y2,y3⟩:=MZ.out.cs
 have y4:=MZ.out.lt
 by_cases ht:t<nt
 ·have htI:(t:Int)<(nt:Int):=by omega
  have D1:=hid' (next_any HL.out.dice ((slots.length:Int)+1) (by omega) (by omega))
  have hv:=nv_bounds d qlen (rivF d qlen slots t).2 (n:=(slots.length:Int)+1) (by omega)
  have hnew:=rivO_new d qlen slots t
  obtain ⟨V,hV⟩:∃ V,nv d qlen (rivF d qlen slots t).2 ((slots.length:Int)+1)=V:=⟨_,rfl⟩
  rw [hV] at D1 hv hnew
  have HV:=hid' hV
  clear hV
  obtain ⟨on,hon⟩:∃ on,rivO d qlen slots (t+1) t=on:=⟨_,rfl⟩
  rw [hon] at hnew
  have HN:=hid' (Jc hon hnew)
  clear hon hnew
  have hfinA:∀ (Z:World) (f:Nat→Int),RvI w Z u7 (intL t (rivO d qlen slots t)) f q qlen qcap d (na qlen (rivF d qlen slots t).2)→(∀ j,j<4→f j=cntI (rivO d qlen slots (t+1)) j (t+1))→∀ (v':Value) (T5:World),NRow (w.heap.size+2) T5 v' (intL t (rivO d qlen slots t) ++ [on])→(Z.alloc (.cells #[.int .i64 on] 3)).grownBy T5 u7.ownBlock→RvI w T5 v' (intL (t+1) (rivO d qlen slots (t+1))) (fun j=>cntI (rivO d qlen slots (t+1)) j (t+1)) q qlen qcap d (rivF d qlen slots (t+1)).2:=fun Z f hZ hf v' T5 hrow hg=>by
   have hz2:=hZ.below.size
   have hz3:=hZ.used.lt
   have hrb:=hZ.row.base
   have hbk:∀ b,b<w.heap.size+2→T5.heap[b]?=Z.heap[b]?:=fun b hb=>by
    rw [hg.block b (by simp; omega) (fun e=>by have:=hrb b e.symm; omega)]
    exact heap_alloc_old Z _ (by omega)
   have el:intL t (rivO d qlen slots t)=intL t (rivO d qlen slots (t+1)):=by
    unfold intL
    refine List.map_congr_left (fun j hj=>?_)
    have:j<t:=by simpa using hj
    exact (rivO_old (by omega)).symm
   refine ⟨below_push (hZ.below.alloc (by omega) _) hg (fun b e=>by have:=hrb b e; omega) (by simp; omega),?_,(hZ.used.congr (fun j hj=>(hf j hj).symm)).move (hbk _ (by omega)),hZ.dice.keep (hbk _ (by omega)) (fun r z e=>hbk _ (by have:=H0.out.2 r z e; omega))⟩
   rw [← intL_push,HN.out.1,← el]
   exact hrow
  have HF:=hid' hfinA
  clear hfinA
  have hln:(intL t (rivO d qlen slots t)).length≤1000000:=by rw [intL_length]; omega
  go_upto_region 8 with (first
   | (go_at_call 39; refine D1.out.mono ?_; rintro e Z1 ⟨rfl,hd1,st1⟩; have H2:=hid' (HL.out.thrown hd1 st1); clear hd1 st1 D1)
   | fail)
  have MY:=hid' (H0.out.1.of_below H2.out.below)
  clear y2 y3 y4
  obtain ⟨_,_,y2,y3⟩:=MY.out.cs
  have y4:=MY.out.lt
  have hz1:=H2.out.used.lt
  have H3:=hid' (fun nq=>H2.out.go (w2:=Z1.drewN nq) (below_drawnR (Jd _ _)))
  by_cases hneg:V - 1<0
  ·obtain rfl:V=0:=by omega
   have eon:on=-1:=by rw [HN.out.2,if_neg (by omega)]; rfl
   subst eon
   have hfc:∀ j,j<4→(fun j:Nat=>(cntI (rivO d qlen slots t) j t:Int)) j=cntI (rivO d qlen slots (t+1)) j (t+1):=fun j _=>by
    simp only [cntI]
    rw [cntI_riv,HN.out.1,if_neg (by omega)]
    simp
   go_quiet (fail)
   go_upto_region 12 with fail
   generalize hZ2:Z1.drewN _=Z2
   have H4:=hid' (hZ2 ▸ H3.out _)
   clear hZ2 y2 y3 y4
   have hrA:=H4.out.row.below ((Jd _ _).alloc (Jb _) (.cells #[.int .i64 (-1)] 3))
   have hz4:=H4.out.used.lt
   go_wp2_with (first
    | (at_builtin; refine wpList_push _ (w.heap.size+2) (-1) _ _ rfl _ _ rfl rfl hrA Z2.heap.size rfl (by simp) (by simp; omega) hln ?_; intro v' T5 hrow hg hloc; have HP:=hid' (HF.out _ _ H4.out hfc v' T5 hrow hg); clear hrow hg hloc)
    | fail)
   go_roundg (nt - (t+1))
   case measure=>omega
   case rel=>exact ⟨t+1,_,by omega,Jb _,rfl,by go_num,HP⟩
  ·obtain ⟨k,hk⟩:∃ k:Nat,V=(k:Int)+1:=⟨(V - 1).toNat,by omega⟩
   subst hk
   have hkl:k<slots.length:=by omega
   have hkI:(k:Int)<(slots.length:Int):=by omega
   obtain ⟨gs,e1,s1,s2,_⟩:=MY.out.row.at' hkl
   subst e1
   obtain ⟨c1,_,c3⟩:=H2.out.used.cell (k:=k) (by omega)
   have hle:=(HR.out.2 t).2 k hkl
   have hnn:=cntI_le (rivO d qlen slots t) k t
   have hget:slots.getD ((k:Int)+1 - 1).toNat 0=slots[k]:=by rw [show (k:Int)+1 - 1=(k:Int) by omega,Jn,getD_at hkl]
   have hkk:(k:Int)+1 - 1=(k:Int):=by omega
   have hdef:=HN.out.2
   rw [hget,hkk] at hdef
   clear hget hkk
   obtain ⟨X,hX⟩:∃ X:Int,(cntI (rivO d qlen slots t) k t:Int)=X:=⟨_,rfl⟩
   obtain ⟨Y,hY⟩:∃ Y:Int,slots[k]=Y:=⟨_,rfl⟩
   rw [hX,hY] at hle hdef
   rw [hX] at c1
   rw [hY] at s2
   have HX:=hid' hX
   have hXb:0≤X∧X≤6:=by omega
   clear hX hY hnn
   by_cases hfull:X=Y
   ·subst hfull
    have eon:on=-1:=by rw [hdef,if_pos ⟨by omega,rfl⟩]
    subst eon
    clear hdef
    have hfc:∀ j,j<4→(fun j:Nat=>(cntI (rivO d qlen slots t) j t:Int)) j=cntI (rivO d qlen slots (t+1)) j (t+1):=fun j _=>by
     simp only [cntI]
     rw [cntI_riv,HN.out.1,if_neg (by omega)]
     simp
    go_quiet (fail)
    go_upto_region 12 with fail
    generalize hZ2:Z1.drewN _=Z2
    have H4:=hid' (hZ2 ▸ H3.out _)
    clear hZ2 y2 y3 y4 c1 c3 s1 s2
    have hrA:=H4.out.row.below ((Jd _ _).alloc (Jb _) (.cells #[.int .i64 (-1)] 3))
    have hz4:=H4.out.used.lt
    go_wp2_with (first
     | (at_builtin; refine wpList_push _ (w.heap.size+2) (-1) _ _ rfl _ _ rfl rfl hrA Z2.heap.size rfl (by simp) (by simp; omega) hln ?_; intro v' T5 hrow hg hloc; have HP:=hid' (HF.out _ _ H4.out hfc v' T5 hrow hg); clear hrow hg hloc)
     | fail)
    go_roundg (nt - (t+1))
    case measure=>omega
    case rel=>exact ⟨t+1,_,by omega,Jb _,rfl,by go_num,HP⟩
   ·have eon:on=k:=by rw [hdef,if_neg (fun z=>hfull z.2)]
    subst eon
    clear hdef
    have hfc:∀ j,j<4→(fun j:Nat=>if j=k then X+1 else (cntI (rivO d qlen slots t) j t:Int)) j=cntI (rivO d qlen slots (t+1)) j (t+1):=fun j _=>by
     simp only [cntI]
     rw [cntI_riv,HN.out.1]
     by_cases e:j=k
     ·subst e
      rw [if_pos rfl,if_pos rfl,← HX.out]
      simp
     ·rw [if_neg e,if_neg (by omega)]
      simp
    have hfull':¬ (X == Y)=true:=by simpa using hfull
    go_quiet (fail)
    go_upto_region 10 with fail
    generalize hZ2:Z1.drewN _=Z2
    have H4:=hid' (hZ2 ▸ H3.out _)
    clear hZ2 y2 y3 y4 c1 c3 s1 s2
    obtain ⟨c1,c2,c3⟩:=H4.out.used.cell (k:=k) (by omega)
    rw [HX.out] at c1
    go_upto_region 12 with fail
    have H5:=hid' (H4.out.took (k:=k) (by omega) (x:=X+1) (g:=fun j:Nat=>if j=k then X+1 else (cntI (rivO d qlen slots t) j t:Int)) (fun j _=>rfl) H0.out.2)
    generalize hZ3:Z2.setCell _ _=Z3
    rw [hZ3] at H5
    clear hZ3 c1 c2 c3
    have hrA:=H5.out.row.below ((Jd _ _).alloc (Jb _) (.cells #[.int .i64 (k:Int)] 3))
    have hz4:=H5.out.used.lt
    go_wp2_with (first
     | (at_builtin; refine wpList_push _ (w.heap.size+2) (k:Int) _ _ rfl _ _ rfl rfl hrA Z3.heap.size rfl (by simp) (by simp; omega) hln ?_; intro v' T5 hrow hg hloc; have HP:=hid' (HF.out _ _ H5.out hfc v' T5 hrow hg); clear hrow hg hloc)
     | fail)
    go_roundg (nt - (t+1))
    case measure=>omega
    case rel=>exact ⟨t+1,_,by omega,Jb _,rfl,by go_num,HP⟩
 ·have htI:¬ (t:Int)<(nt:Int):=by omega
  obtain rfl:t=nt:=by omega
  go_wp2_with fail
  go_ret
  exact ⟨_,rfl,HL.out.row.base_le (by omega),HL.out.below⟩
end
end
section
open Go.RowKit
section
variable {more:Int}{R:RSt}{slots:List Int}{nt:Nat}
theorem RM.tick (h:RM more R slots nt):RM more (n8 R) slots nt:=⟨h.i0,h.i3,h.few,h.sl,h.all,h.each⟩
theorem RM.pref (h:RM more R slots nt)(t k i c:Int):RM more (n6 R t k i c) slots nt:=by
 unfold n6
 split
 ·exact ⟨h.i0,h.i3,h.few,h.sl,h.all,h.each⟩
 ·exact h
theorem RM.wish1 (h:RM more R slots nt)(c:Nat→Int)(len ns:Nat)(task:Int)(a:Nat):RM more (wish1 c len more ns task (R,a)).1 slots nt:=by
 unfold Ytjdindfjfpdikaa.wish1
 split
 ·exact h.pref _ _ _ _
 ·exact h.pref _ _ _ _
theorem RM.wishN (c:Nat→Int)(len ns:Nat)(task:Int):∀ (k:Nat)(s:RSt×Nat),RM more s.1 slots nt→RM more (wishN c len more ns task k s).1 slots nt
 | 0,_,h=>h
 | k+1,(_,a),h=>RM.wishN c len ns task k _ (RM.wish1 h c len ns task a)
theorem RM.wishT (h:RM more R slots nt)(c:Nat→Int)(len ns:Nat)(task:Int)(a:Nat):RM more (wishT c len more ns task (R,a)).1 slots nt:=RM.wishN c len ns task _ _ h
theorem RM.stirred (h:RM more R slots nt)(hf:Fit R)(hr:RunFit R){i r:Nat}(hi:i<slots.length)(hr2:r<2):RM more (n3 (n7 R 1 (idOf more i)) (idOf more i) (idOf more r) slots[i]) slots nt:=by
 obtain ⟨hl,e1,e2⟩:=h.pos hr hi
 have h4:=h.few
 have hid:=idOf_bounds more i
 have hat:atOf (idOf more i) R.t1=posM more R i:=by rw [← e1]; exact hr.at1 _ hl
 have hc7:c7 R 1 (idOf more i)=0:=by
  unfold c7
  rw [if_neg (by omega),if_neg (by show ¬ atOf _ R.t1<0; rw [hat]; omega),if_neg (by simp [busyR])]
 have hn7:n7 R 1 (idOf more i)={ R with t1:=R.t1.eraseIdx (posM more R i),ws:=R.ws.filter (fun x=>!goneW 1 (idOf more i) x),on:=R.on.map (off (idOf more i)) }:=by
  unfold n7
  rw [if_pos hc7,if_neg (by decide),if_pos rfl,hat,Jn]
 rw [hn7]
 have her:R.t1.eraseIdx (posM more R i)=R.t1.filter (fun x=>decide (x.1≠idOf more i)):=by rw [← e1]; exact erase_filter hf.nd1 hl
 have hsl:=h.sl _ (Jl hi)
 have hlen:(R.t1.eraseIdx (posM more R i)).length<8:=by
  have:=hf.len1
  rw [List.length_eraseIdx,if_pos hl]
  omega
 obtain ⟨l,hll⟩:∃ l,R.t1.eraseIdx (posM more R i)=l:=⟨_,rfl⟩
 rw [hll] at her hlen ⊢
 have hc3:c3 { R with t1:=l,ws:=R.ws.filter (fun x=>!goneW 1 (idOf more i) x),on:=R.on.map (off (idOf more i)) } (idOf more i) (idOf more r) slots[i]=0:=by
  have q1:atOf (idOf more i) l<0:=by
   rw [atOf_neg]
   intro x hx e
   rw [her] at hx
   have:=(List.mem_filter.1 hx).2
   simp [e] at this
  have q2:=at_ids h.i0 (by omega) hr2
  unfold c3 makeOf
  show (if _ then _ else if 0≤atOf (idOf more i) l then _ else if (8:Int)≤(l.length:Nat) then _ else if atOf (idOf more r) R.t0<0 then _ else _)=_
  rw [if_neg (by omega),if_neg (by omega),if_neg (by omega),if_neg (by omega),if_neg (by omega)]
 unfold n3
 rw [if_pos hc3]
 refine ⟨h.i0,h.i3,h.few,h.sl,fun x hx=>?_,fun k hk=>?_⟩
 ·rcases mem_snoc.1 hx with q | rfl
  ·rw [her] at q
   exact h.all x (List.mem_filter.1 q).1
  ·exact ⟨i,hi,rfl,rfl⟩
 ·by_cases e:k=i
  ·subst e
   exact ⟨_,mem_snoc.2 (Js rfl),rfl⟩
  ·obtain ⟨x,hx,ex⟩:=h.each k hk
   refine ⟨x,mem_snoc.2 (Jr ?_),ex⟩
   rw [her]
   refine List.mem_filter.2 ⟨hx,?_⟩
   have:x.1≠idOf more i:=fun q=>e (idOf_inj (by omega) (by omega) (ex.symm.trans q))
   simpa using this
end
def S7 (mb:Nat)(z0 z1 z2:Value)(gs i:Nat)(s:Int)(W:World):Prop:=W.cell? ⟨mb,0,none⟩=some z0∧W.cell? ⟨mb,1,none⟩=some z1∧W.cell? ⟨mb,2,none⟩=some z2∧mb<W.heap.size∧W.cell? ⟨gs,i,none⟩=some (.int .i64 s)∧gs<W.heap.size
section
variable {base:Nat}{w0 w w':World}{mb pb b0 b1 b2 b3 xb:Nat}{more:Int}{vs:Value}{slots:List Int}{tasks:Int}{R R':RSt}{p:Option Addr}{len cap a a' nt:Nat}{c:Nat→Int}
theorem S7.of {gs cv i:Nat}(h:MK base w0 w mb pb b0 b1 b2 b3 xb more (.slice (some ⟨gs,0,none⟩) slots.length cv) slots tasks R p len cap c a)(hi:i<slots.length):S7 mb (.pointer (some ⟨pb,0,none⟩)) (.int .i64 more) (.slice (some ⟨gs,0,none⟩) slots.length cv) gs i slots[i] w:=by
 obtain ⟨g,e,s1,s2,_⟩:=h.row.at' hi
 cases e
 exact ⟨h.cs.1,h.cs.2.1,h.cs.2.2.1,h.lt,s2,s1⟩
theorem stir_any (hM:MK base w0 w mb pb b0 b1 b2 b3 xb more vs slots tasks R p len cap c a)(hR:RM more R slots nt)(htk:tasks=nt) :
  Calls Try.prog 30 #[.pointer (some ⟨mb,0,none⟩),.pointer (some ⟨xb,0,none⟩)] w fun e w'=>e=.returned (.tuple #[])∧∃ R' a',MK base w0 w' mb pb b0 b1 b2 b3 xb more vs slots tasks R' p len cap c a'∧RM more R' slots nt:=by
 subst htk
 have hfew:=hR.few
 obtain ⟨pv,cv,rfl⟩:=hM.row.sl'
 obtain ⟨gs,e1,_⟩:=hM.row.at' (k:=0) (by omega)
 subst e1
 have A0:=hid' (mk_next hM 6 (by omega) (by omega))
 have hv6:=nv_bounds c len a (n:=6) (by omega)
 have HR0:=hid' hR
 clear hM hR
 go_enter Try.func30,Try.ntmps30
 go_upto_region 1 with (first
  | (go_at_call 39; refine A0.out.mono ?_; rintro e W1 ⟨rfl,M1,_⟩; have H1:=hid' M1; clear M1 A0)
  | fail)
 go_loopg [4] (nv c len a 6).toNat (fun gk kv wr=>∃ (k:Nat) (R:RSt) (a:Nat),k≤5∧k≤gk∧kv=.int .i64 k∧Hid (MK base w0 wr mb pb b0 b1 b2 b3 xb more (.slice (some ⟨gs,0,none⟩) slots.length cv) slots nt R p len cap c a∧RM more R slots nt))
 case atStart=>exact ⟨(nv c len a 6).toNat,R,_,by omega,Jb _,by rw [Int.toNat_of_nonneg hv6.1],(show _∧_ from ⟨H1.out,HR0.out⟩)⟩
 case' round=>skip
 obtain ⟨k,Q,b,hk5,hgk,rfl,HL⟩:=hrel
 rename World=>Z0
 clear H1 HR0 hv6
 by_cases hk:0<k
 ·have hkI:(0:Int)<(k:Int):=by omega
  obtain ⟨k',rfl⟩:∃ k',k=k'+1:=⟨k - 1,by omega⟩
  have A1:=hid' (mk_next HL.out.1 4 (by omega) (by omega))
  have hv4:=nv_bounds c len b (n:=4) (by omega)
  obtain ⟨v,hv⟩:∃ v,nv c len b 4=v:=⟨_,rfl⟩
  rw [hv] at A1 hv4
  clear hv
  rcases (show v=0∨(v=1∨v=2)∨v=3 by omega) with rfl | hv | rfl
  ·go_upto_region 8 with (first
    | (go_at_call 39; refine A1.out.mono ?_; rintro e Z1 ⟨rfl,M1,_⟩; have H2:=hid' M1; clear M1 A1)
    | fail)
   obtain ⟨y0,_,_,_⟩:=H2.out.cs
   have y4:=H2.out.lt
   have A2:=hid' (mk_tick H2.out)
   go_wp2_with (first
    | (go_at_call 16; refine A2.out.mono ?_; rintro e Z2 ⟨rfl,M2,_⟩; have H3:=hid' M2; clear M2 A2)
    | fail)
   go_roundg k'
   case measure=>omega
   case rel=>exact ⟨k',_,_,by omega,Jb _,by go_num,(show _∧_ from ⟨H3.out,HL.out.2.tick⟩)⟩
  ·rcases hv with rfl | rfl
   ·go_upto_region 11 with (first
     | (go_at_call 39; refine A1.out.mono ?_; rintro e Z1 ⟨rfl,M1,_⟩; have H2:=hid' M1; clear M1 A1)
     | fail)
    obtain ⟨_,_,_,y3⟩:=H2.out.cs
    have y4:=H2.out.lt
    have A2:=hid' (mk_next H2.out (nt:Int) (by omega) (by omega))
    have hvn:=nv_bounds c len (na len b) (n:=(nt:Int)) (by omega)
    go_wp2_with (first
     | (go_at_call 39; refine A2.out.mono ?_; rintro e Z2 ⟨rfl,M2,_⟩; have A3:=hid' (wish_any M2 (nv c len (na len b) (nt:Int)) hvn.1 (by omega) (by omega) (by omega)); clear M2 A2)
     | (go_at_call 40; refine A3.out.mono ?_; rintro e Z3 ⟨rfl,M3⟩; have H3:=hid' M3; clear M3 A3)
     | fail)
    go_roundg k'
    case measure=>omega
    case rel=>exact ⟨k',_,_,by omega,Jb _,by go_num,(show _∧_ from ⟨H3.out,HL.out.2.wishT c len slots.length _ _⟩)⟩
   ·go_upto_region 11 with (first
     | (go_at_call 39; refine A1.out.mono ?_; rintro e Z1 ⟨rfl,M1,_⟩; have H2:=hid' M1; clear M1 A1)
     | fail)
    obtain ⟨_,_,_,y3⟩:=H2.out.cs
    have y4:=H2.out.lt
    have A2:=hid' (mk_next H2.out (nt:Int) (by omega) (by omega))
    have hvn:=nv_bounds c len (na len b) (n:=(nt:Int)) (by omega)
    go_wp2_with (first
     | (go_at_call 39; refine A2.out.mono ?_; rintro e Z2 ⟨rfl,M2,_⟩; have A3:=hid' (wish_any M2 (nv c len (na len b) (nt:Int)) hvn.1 (by omega) (by omega) (by omega)); clear M2 A2)
     | (go_at_call 40; refine A3.out.mono ?_; rintro e Z3 ⟨rfl,M3⟩; have H3:=hid' M3; clear M3 A3)
     | fail)
    go_roundg k'
    case measure=>omega
    case rel=>exact ⟨k',_,_,by omega,Jb _,by go_num,(show _∧_ from ⟨H3.out,HL.out.2.wishT c len slots.length _ _⟩)⟩
  ·go_upto_region 5 with (first
    | (go_at_call 39; first | (refine A1.out.mono ?_; rintro e Z1 ⟨rfl,M1,_⟩; have H2:=hid' M1; obtain ⟨_,_,y2,_⟩:=M1.cs; have y4:=M1.lt; have A2:=hid' (mk_next M1 (slots.length:Int) (by omega) (by omega)); clear M1 A1) | (refine A2.out.mono ?_; rintro e Z2 ⟨rfl,M2,_⟩; have H3:=hid' M2; clear M2 A2 y2 y4))
    | fail)
   have hvi:=nv_bounds c len (na len b) (n:=(slots.length:Int)) (by omega)
   obtain ⟨i,hi⟩:∃ i:Nat,nv c len (na len b) (slots.length:Int)=(i:Int):=⟨(nv c len (na len b) (slots.length:Int)).toNat,by omega⟩
   rw [hi]
   rw [hi] at hvi
   clear hi
   have hil:i<slots.length:=by omega
   have hiI:(i:Int)<(slots.length:Int):=by omega
   have hS0:=S7.of H3.out.drew hil
   have D1:=hid' (mk_id H3.out.drew (i:Int) (by omega) (by omega))
   refine wp_region_held_drew (S:=S7 mb (.pointer (some ⟨pb,0,none⟩)) (.int .i64 more) (.slice (some ⟨gs,0,none⟩) slots.length cv) gs i slots[i]) (by kernel_rfl) hS0 (fun _=>?_)
   refine tkH (v:=?_) 0 21 hS0 ?_ ?_; rotate_left 1
   ·(rintro w' ⟨e0,e1,e2,e3,e4,e5⟩; go_simp; try with_reducible rfl)
   simp only [Act.put,Jh,Ji,Jj]
   refine tkH (v:=?_) 1 22 hS0 ?_ ?_; rotate_left 1
   ·(rintro w' ⟨e0,e1,e2,e3,e4,e5⟩; go_simp; try with_reducible rfl)
   simp only [Act.put,Jh,Ji,Jj]
   refine tkH (v:=?_) 2 23 hS0 ?_ ?_; rotate_left 1
   ·(rintro w' ⟨e0,e1,e2,e3,e4,e5⟩; go_simp; try with_reducible rfl)
   simp only [Act.put,Jh,Ji,Jj]
   refine tkH (v:=?_) 3 24 hS0 ?_ ?_; rotate_left 1
   ·(rintro w' ⟨e0,e1,e2,e3,e4,e5⟩; go_simp; try with_reducible rfl)
   simp only [Act.put,Jh,Ji,Jj]
   refine tkH (v:=?_) 4 25 hS0 ?_ ?_; rotate_left 1
   ·(rintro w' ⟨e0,e1,e2,e3,e4,e5⟩; go_simp; try with_reducible rfl)
   simp only [Act.put,Jh,Ji,Jj]
   refine tkH (v:=?_) 5 26 hS0 ?_ ?_; rotate_left 1
   ·(rintro w' ⟨e0,e1,e2,e3,e4,e5⟩; go_simp; try with_reducible rfl)
   simp only [Act.put,Jh,Ji,Jj]
   refine tkH (v:=?_) 6 27 hS0 ?_ ?_; rotate_left 1
   ·(rintro w' ⟨e0,e1,e2,e3,e4,e5⟩; go_simp; try with_reducible rfl)
   simp only [Act.put,Jh,Ji,Jj]
   refine tkH (v:=?_) 7 28 hS0 ?_ ?_; rotate_left 1
   ·(rintro w' ⟨e0,e1,e2,e3,e4,e5⟩; go_simp; try with_reducible rfl)
   simp only [Act.put,Jh,Ji,Jj]
   refine tkH (v:=?_) 8 29 hS0 ?_ ?_; rotate_left 1
   ·(rintro w' ⟨e0,e1,e2,e3,e4,e5⟩; go_simp; try with_reducible rfl)
   simp only [Act.put,Jh,Ji,Jj]
   refine wpAnyH_ready (rs:=[9]) (by kernel_rfl) (by simp) ?_
   refine AllReadyH.cons rfl (fun K hK=>?_) AllReadyH.nil
   go_simp
   refine D1.out.mono ?_
   rintro e T1 ⟨rfl,M1,_⟩
   have hS1:=S7.of M1 hil
   have D2:=hid' (mk_rem M1 1 (idOf more i))
   refine hK.out _ _ hS1 (fun _=>?_)
   clear hK K D1 M1
   refine wpAnyH_ready (rs:=[10]) (by kernel_rfl) (by simp) ?_
   refine AllReadyH.cons rfl (fun K hK=>?_) AllReadyH.nil
   go_simp
   refine D2.out.mono ?_
   rintro e T2 ⟨rfl,M2,_⟩
   have F2:=hid' M2
   have hS2:=S7.of M2 hil
   refine hK.out _ _ hS2 (fun _=>?_)
   clear hK K D2 M2
   refine wpAnyH_done (by kernel_rfl) ?_ _
   clear hS0 hS1 hS2
   have hv2:=nv_bounds c len (na len (na len b)) (n:=2) (by omega)
   obtain ⟨r,hr⟩:∃ r:Nat,nv c len (na len (na len b)) 2=(r:Int):=⟨(nv c len (na len (na len b)) 2).toNat,by omega⟩
   have hr2:r<2:=by omega
   have HRR:=hid' hr
   clear hr hv2
   go_upto_region 6 with fail
   have hS0:=S7.of F2.out.drew hil
   have D1:=hid' (mk_id F2.out.drew (i:Int) (by omega) (by omega))
   refine wp_region_held_drew (S:=S7 mb (.pointer (some ⟨pb,0,none⟩)) (.int .i64 more) (.slice (some ⟨gs,0,none⟩) slots.length cv) gs i slots[i]) (by kernel_rfl) hS0 (fun _=>?_)
   refine tkH (v:=?_) 0 32 hS0 ?_ ?_; rotate_left 1
   ·(rintro w' ⟨e0,e1,e2,e3,e4,e5⟩; go_simp; try with_reducible rfl)
   simp only [Act.put,Jh,Ji,Jj]
   refine tkH (v:=?_) 1 33 hS0 ?_ ?_; rotate_left 1
   ·(rintro w' ⟨e0,e1,e2,e3,e4,e5⟩; go_simp; try with_reducible rfl)
   simp only [Act.put,Jh,Ji,Jj]
   refine tkH (v:=?_) 2 34 hS0 ?_ ?_; rotate_left 1
   ·(rintro w' ⟨e0,e1,e2,e3,e4,e5⟩; go_simp; try with_reducible rfl)
   simp only [Act.put,Jh,Ji,Jj]
   refine tkH (v:=?_) 3 35 hS0 ?_ ?_; rotate_left 1
   ·(rintro w' ⟨e0,e1,e2,e3,e4,e5⟩; go_simp; try with_reducible rfl)
   simp only [Act.put,Jh,Ji,Jj]
   refine tkH (v:=?_) 4 36 hS0 ?_ ?_; rotate_left 1
   ·(rintro w' ⟨e0,e1,e2,e3,e4,e5⟩; go_simp; try with_reducible rfl)
   simp only [Act.put,Jh,Ji,Jj]
   refine tkH (v:=?_) 5 37 hS0 ?_ ?_; rotate_left 1
   ·(rintro w' ⟨e0,e1,e2,e3,e4,e5⟩; go_simp; try with_reducible rfl)
   simp only [Act.put,Jh,Ji,Jj]
   refine tkH (v:=?_) 6 38 hS0 ?_ ?_; rotate_left 1
   ·(rintro w' ⟨e0,e1,e2,e3,e4,e5⟩; go_simp; try with_reducible rfl)
   simp only [Act.put,Jh,Ji,Jj]
   refine tkH (v:=?_) 7 39 hS0 ?_ ?_; rotate_left 1
   ·(rintro w' ⟨e0,e1,e2,e3,e4,e5⟩; go_simp; try with_reducible rfl)
   simp only [Act.put,Jh,Ji,Jj]
   refine tkH (v:=?_) 8 40 hS0 ?_ ?_; rotate_left 1
   ·(rintro w' ⟨e0,e1,e2,e3,e4,e5⟩; go_simp; try with_reducible rfl)
   simp only [Act.put,Jh,Ji,Jj]
   refine tkH (v:=?_) 10 42 hS0 ?_ ?_; rotate_left 1
   ·(rintro w' ⟨e0,e1,e2,e3,e4,e5⟩; go_simp; try with_reducible rfl)
   simp only [Act.put,Jh,Ji,Jj]
   refine tkH (v:=?_) 11 43 hS0 ?_ ?_; rotate_left 1
   ·(rintro w' ⟨e0,e1,e2,e3,e4,e5⟩; go_simp; try with_reducible rfl)
   simp only [Act.put,Jh,Ji,Jj]
   refine tkH (v:=?_) 12 44 hS0 ?_ ?_; rotate_left 1
   ·(rintro w' ⟨e0,e1,e2,e3,e4,e5⟩; go_simp; try with_reducible rfl)
   simp only [Act.put,Jh,Ji,Jj]
   refine tkH (v:=?_) 13 45 hS0 ?_ ?_; rotate_left 1
   ·(rintro w' ⟨e0,e1,e2,e3,e4,e5⟩; go_simp; try with_reducible rfl)
   simp only [Act.put,Jh,Ji,Jj]
   refine tkH (v:=?_) 14 46 hS0 ?_ ?_; rotate_left 1
   ·(rintro w' ⟨e0,e1,e2,e3,e4,e5⟩; go_simp; try with_reducible rfl)
   simp only [Act.put,Jh,Ji,Jj]
   refine tkH (v:=?_) 17 49 hS0 ?_ ?_; rotate_left 1
   ·(rintro w' ⟨e0,e1,e2,e3,e4,e5⟩; go_simp; try with_reducible rfl)
   simp only [Act.put,Jh,Ji,Jj]
   refine tkH (v:=?_) 18 50 hS0 ?_ ?_; rotate_left 1
   ·(rintro w' ⟨e0,e1,e2,e3,e4,e5⟩; go_simp; try with_reducible rfl)
   simp only [Act.put,Jh,Ji,Jj]
   refine tkH (v:=?_) 19 51 hS0 ?_ ?_; rotate_left 1
   ·(rintro w' ⟨e0,e1,e2,e3,e4,e5⟩; go_simp; try with_reducible rfl)
   simp only [Act.put,Jh,Ji,Jj]
   refine tkH (v:=?_) 20 52 hS0 ?_ ?_; rotate_left 1
   ·(rintro w' ⟨e0,e1,e2,e3,e4,e5⟩; go_simp; try with_reducible rfl)
   simp only [Act.put,Jh,Ji,Jj]
   refine tkH (v:=?_) 21 53 hS0 ?_ ?_; rotate_left 1
   ·(rintro w' ⟨e0,e1,e2,e3,e4,e5⟩; go_simp; try with_reducible rfl)
   simp only [Act.put,Jh,Ji,Jj]
   refine tkH (v:=?_) 22 54 hS0 ?_ ?_; rotate_left 1
   ·(rintro w' ⟨e0,e1,e2,e3,e4,e5⟩; go_simp; try with_reducible rfl)
   simp only [Act.put,Jh,Ji,Jj]
   refine tkH (v:=?_) 23 55 hS0 ?_ ?_; rotate_left 1
   ·(rintro w' ⟨e0,e1,e2,e3,e4,e5⟩; go_simp; try with_reducible rfl)
   simp only [Act.put,Jh,Ji,Jj]
   refine wpAnyH_ready (rs:=[9]) (by kernel_rfl) (by simp) ?_
   refine AllReadyH.cons rfl (fun K hK=>?_) AllReadyH.nil
   go_simp
   refine D1.out.mono ?_
   rintro e T3 ⟨rfl,M1,_⟩
   have hS1:=S7.of M1 hil
   have D2:=mk_next M1 2 (by omega) (by omega)
   rw [HRR.out] at D2
   have D2:=hid' D2
   refine hK.out _ _ hS1 (fun _=>?_)
   clear hK K D1 M1
   refine wpAnyH_ready (rs:=[15]) (by kernel_rfl) (by simp) ?_
   refine AllReadyH.cons rfl (fun K hK=>?_) AllReadyH.nil
   go_simp
   refine D2.out.mono ?_
   rintro e T4 ⟨rfl,M2,_⟩
   have hS2:=S7.of M2 hil
   have D3:=hid' (mk_id M2 (r:Int) (by omega) (by omega))
   refine hK.out _ _ hS2 (fun _=>?_)
   clear hK K D2 M2
   refine wpAnyH_ready (rs:=[16]) (by kernel_rfl) (by simp) ?_
   refine AllReadyH.cons rfl (fun K hK=>?_) AllReadyH.nil
   go_simp
   refine D3.out.mono ?_
   rintro e T5 ⟨rfl,M3,_⟩
   have hS3:=S7.of M3 hil
   have D4:=hid' (mk_mach M3 (idOf more i) (idOf more r) slots[i])
   refine hK.out _ _ hS3 (fun _=>?_)
   clear hK K D3 M3
   refine wpAnyH_ready (rs:=[24]) (by kernel_rfl) (by simp) ?_
   refine AllReadyH.cons rfl (fun K hK=>?_) AllReadyH.nil
   go_simp
   refine D4.out.mono ?_
   rintro e T6 ⟨rfl,M4,_⟩
   have G4:=hid' M4
   have hS4:=S7.of M4 hil
   refine hK.out _ _ hS4 (fun _=>?_)
   clear hK K D4 M4
   refine wpAnyH_done (by kernel_rfl) ?_ _
   clear hS0 hS1 hS2 hS3 hS4
   go_wp2_with fail
   go_roundg k'
   case measure=>omega
   case rel=>exact ⟨k',_,_,by omega,Jb _,by go_num,(show _∧_ from ⟨G4.out,HL.out.2.stirred HL.out.1.fits.1 HL.out.1.fits.2.1 hil hr2⟩)⟩
 ·go_wp2_with fail
  go_end0
  exact ⟨rfl,Q,b,HL.out⟩
end
end
section
open Go.RowKit
theorem riv_le {more:Int}{R:RSt}{slots:List Int}{nt:Nat}(hR:RM more R slots nt)(hf:RunFit R)(d:Nat→Int)(qlen:Nat){s:Int}(hL:LeastOf R s):s≤sumT more R (rivO d qlen slots nt) nt:=by
 have hok:=riv_ok d qlen slots hR.sl nt
 have h1:=hL.le (hR.place hf hok.1 hok.2)
 rw [hR.len3] at h1
 rw [sum_plc _ _ _ _ (fun t ht=>(hok.1 t ht).1)]
 exact h1
theorem best_walk (w:World)(p:Option Addr)(len cap:Nat)(c:Nat→Int)(hc:DC w p len c)(hlen:len<1000000000000000)(p1:Option Addr)(len1 cap1:Nat)(d1:Nat→Int)(hd1:DC w p1 len1 d1)(hlen1:len1<1000000000000000)(p2:Option Addr)(len2 cap2:Nat)(d2:Nat→Int)(hd2:DC w p2 len2 d2)(hlen2:len2<1000000000000000) :
  Calls Try.prog 5 #[.slice p len cap,.slice p1 len1 cap1,.slice p2 len2 cap2] w fun e w'=>e=.returned (.bool true)∧Below w.heap.size w w':=by
 have A1:=hid' (made_any (base:=w.heap.size) (w0:=w) (more:=0) (dice_new (cap:=cap) hc hlen) (by simp) (BelowX.of _ ((Jd _ _).alloc (Jb _) _)) (by omega) hc.arg)
 have HD:=hid' (Jc hd1 (Jc hlen1 (Jc hd2 hlen2)))
 clear hc hlen hd1 hlen1 hd2 hlen2
 go_enter Try.func5,Try.ntmps5
 go_upto_region 3 with (first
  | (go_at_call 24; refine A1.out.mono ?_; rintro e W2 ⟨mb,pb,b0,b1,b2,b3,vs,slots,tasks,R0',a,rfl,M1,I1,_⟩; have H1:=hid' (Jc M1 I1); clear M1 I1 A1)
  | fail)
 have hfew:=H1.out.2.few
 obtain ⟨nt,hnt⟩:∃ nt:Nat,tasks=(nt:Int):=⟨tasks.toNat,by omega⟩
 subst hnt
 have RM0:=H1.out.2.rm
 rw [Jn] at RM0
 have H2:=hid' (Jc H1.out.1 RM0)
 clear RM0 H1
 go_upto_region 5 with fail
 go_wp2_with fail
 go_loopg [9] 2 (fun gk kv wr=>∃ (k:Nat) (R:RSt) (a:Nat),k≤2∧2 - k≤gk∧kv=.int .i64 k∧Hid (MK w.heap.size w wr mb pb b0 b1 b2 b3 w.heap.size 0 vs slots nt R p len cap c a∧RM 0 R slots nt))
 case atStart=>exact ⟨0,R0',a,by omega,by omega,rfl,(show _∧_ from H2.out)⟩
 case' round=>skip
 obtain ⟨k,R,a,hk3,hgk,rfl,HL⟩:=hrel
 rename World=>Z0
 clear H2
 by_cases hk:k<2
 ·have hkI:(k:Int)<2:=by omega
  have hfit:=HL.out.1.fits.2.1
  have hbt:∀ t j,t<nt→0≤tabF 0 R t j∧tabF 0 R t j≤1150:=fun t j ht=>tabF_bound hfit (by rw [HL.out.2.len3]; exact ht) j
  have HB:=hid' (Jc hfit hbt)
  clear hfit hbt
  have T1:=hid' (table_any HL.out.1 HL.out.2 rfl)
  go_upto_region 11 with (first
   | (go_at_call 25; refine T1.out.mono ?_; rintro e Z1 ⟨v,vals,rfl,Tb,bb⟩; have H4:=hid' (Jc Tb (HL.out.1.of_below bb)); clear Tb bb T1)
   | fail)
  obtain ⟨y0,_,_,_⟩:=H4.out.2.cs
  have y4:=H4.out.2.lt
  have Q1:=hid' (mk_solve H4.out.2)
  go_upto_region 12 with (first
   | (go_at_call 26; refine Q1.out.mono ?_; rintro e Z2 ⟨P,s,rfl,hs0,hL,hPl,MC,ho⟩; have H5:=hid' (Jc (H4.out.2.restT ho H4.out.1) (Jc MC (Jc hL (hs0.trans (HL.out.2.solved_sum HB.out.1 hPl).symm)))); clear hs0 hL hPl MC ho Q1)
   | fail)
  clear y0 y4
  have T2:=hid' (where_any H5.out.2.1 (HL.out.2.rn _ _) rfl)
  go_upto_region 13 with (first
   | (go_at_call 27; refine T2.out.mono ?_; rintro e Z3 ⟨u,rfl,Nu,bb⟩; have H6:=hid' (Jc (H5.out.1.below bb) (Jc Nu (H5.out.2.1.of_below bb))); clear Nu bb T2)
   | fail)
  have S1:=sum_any H6.out.1 H6.out.2.1 (by omega) (by omega) (fun t _=>nums_bounds _ _ _ t) HB.out.2
  rw [← H5.out.2.2.2] at S1
  have S1:=hid' S1
  have hx1:¬ sumT 0 R (rivO d1 len1 slots nt) nt<s:=by have:=riv_le HL.out.2 HB.out.1 d1 len1 H5.out.2.2.1; omega
  have hx2:¬ sumT 0 R (rivO d2 len2 slots nt) nt<s:=by have:=riv_le HL.out.2 HB.out.1 d2 len2 H5.out.2.2.1; omega
  have hok1:=hid' ((riv_ok d1 len1 slots HL.out.2.sl nt).1)
  have hok2:=hid' ((riv_ok d2 len2 slots HL.out.2.sl nt).1)
  obtain ⟨q1,hq1⟩:∃ x,sumT 0 R (rivO d1 len1 slots nt) nt=x:=⟨_,rfl⟩
  obtain ⟨q2,hq2⟩:∃ x,sumT 0 R (rivO d2 len2 slots nt) nt=x:=⟨_,rfl⟩
  rw [hq1] at hx1
  rw [hq2] at hx2
  have HQ:=hid' (Jc hq1 hq2)
  clear hq1 hq2
  go_upto_region 15 with (first
   | (go_at_call 28; refine S1.out.mono ?_; rintro e Z4 ⟨rfl,bb⟩; have H7:=hid' (Jc (H6.out.1.below bb) (H6.out.2.2.of_below bb)); have V1:=hid' (rival_any (qcap:=cap1) H7.out.2 (HL.out.2.rn P R.t3.length) rfl (HD.out.1.below (H7.out.2.below.below (Jb _))) HD.out.2.1); clear bb S1)
   | (go_at_call 29; refine V1.out.mono ?_; rintro e Z5 ⟨r1,rfl,Nr,bb⟩; have H8:=hid' (Jc (H7.out.1.below bb) (Jc Nr (H7.out.2.of_below bb))); have S2:=sum_any H8.out.1 H8.out.2.1 (by omega) (by omega) hok1.out HB.out.2; rw [HQ.out.1] at S2; have S2:=hid' S2; clear Nr bb V1)
   | (go_at_call 28; refine S2.out.mono ?_; rintro e Z6 ⟨rfl,bb⟩; have H9:=hid' (Jc (H8.out.1.below bb) (H8.out.2.2.of_below bb)); have V2:=hid' (rival_any (qcap:=cap2) H9.out.2 (HL.out.2.rn P R.t3.length) rfl (HD.out.2.2.1.below (H9.out.2.below.below (Jb _))) HD.out.2.2.2); clear bb S2)
   | (go_at_call 29; refine V2.out.mono ?_; rintro e Z7 ⟨r2,rfl,Nr,bb⟩; have H10:=hid' (Jc (H9.out.1.below bb) (Jc Nr (H9.out.2.of_below bb))); have S3:=sum_any H10.out.1 H10.out.2.1 (by omega) (by omega) hok2.out HB.out.2; rw [HQ.out.2] at S3; have S3:=hid' S3; clear Nr bb V2)
   | (go_at_call 28; refine S3.out.mono ?_; rintro e Z8 ⟨rfl,bb⟩; have H11:=hid' (H10.out.2.2.of_below bb); clear bb S3)
   | fail)
  have ST:=hid' (stir_any H11.out (HL.out.2.rn P R.t3.length) rfl)
  go_wp2_with (first
   | (go_at_call 30; refine ST.out.mono ?_; rintro e Z9 ⟨rfl,Rx,ax,Mx,RMx⟩; have H12:=hid' (Jc Mx RMx); clear Mx RMx ST)
   | fail)
  go_roundg (2 - (k+1))
  case measure=>omega
  case rel=>exact ⟨k+1,Rx,ax,by omega,Jb _,by go_num,(show _∧_ from H12.out)⟩
 ·have hkI:¬ (k:Int)<2:=by omega
  go_wp2_with fail
  go_ret
  exact ⟨rfl,HL.out.1.below.below (Jb _)⟩
end
end Go.Proofs.Ytjdindfjfpdikaa
