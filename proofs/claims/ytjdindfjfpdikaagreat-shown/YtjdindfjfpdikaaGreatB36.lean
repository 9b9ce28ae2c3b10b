import Derived.Deep.LoopGhost
import Derived.Test.YtjdindfjfpdikaaGreatB11
import Derived.Test.YtjdindfjfpdikaaGreatB12
import Derived.Test.YtjdindfjfpdikaaGreatB15
import Derived.Test.YtjdindfjfpdikaaGreatB35
import Derived.Test.YtjdindfjfpdikaaGreatPre
set_option maxRecDepth 100000
set_option maxHeartbeats 8000000
namespace Go.Proofs.YtjdindfjfpdikaaGreat
section
open Go.RowKit
theorem ZcW {w:World}{b:Nat}{z0 z1 z2 z3 z4 z5 z6 z7 z8 z9 z10:Value}{t:TypeId}(h:w.heap[b]?=some (.cells #[z0,z1,z2,z3,z4,z5,z6,z7,z8,z9,z10] t)) :
  w.cell? ⟨b,6,none⟩=some z6∧w.cell? ⟨b,7,none⟩=some z7∧w.cell? ⟨b,8,none⟩=some z8∧w.cell? ⟨b,9,none⟩=some z9∧w.cell? ⟨b,10,none⟩=some z10:=by simp [World.cell?,h]
theorem Zc3 {W:World}{g l:Nat}{F:Nat→Int}(h:Nums W g (l+8) (lentF l F)):Ints W (some ⟨g,0,none⟩) l F:=Js ⟨g,0,rfl,h.lt,fun i hi=>by rw [Nat.zero_add,h.cell (by omega)]; simp [lentF,hi]⟩
theorem ZfH {W:World}{g l:Nat}{A:Nat→Ar}{cs:Array Value}(h:ArcB W g (l+8) (lentG l A) cs):Arcs W (some ⟨g,0,none⟩) l A:=Js ⟨g,0,rfl,h.lt,fun i hi=>by
 have:=h.at (i:=i) (by omega)
 simp only [lentG,if_pos hi] at this
 simpa only [Nat.zero_add] using this⟩
theorem HoldsAt.below {w w':World}{wb:Nat}{vh:Value}{hs:List (Nat×List Nat)}(h:HoldsAt w wb vh hs)(hb:Below w.heap.size w w'):HoldsAt w' wb vh hs :=
 ⟨h.row.below hb,fun x hx=>(h.held x hx).move (fun b hm=>hb.block b ((h.held x hx).1 b hm)),h.ne⟩
theorem KeptMore.pre {w W w':World}{wb n k:Nat}{v vh vh':Value}{hs hs':List (Nat×List Nat)}(M:KeptMore W wb n v vh hs k w' vh' hs')(hb:Below w.heap.size w W)(hn:w.heap.size≤n):KeptMore w wb w.heap.size v vh hs k w' vh' hs' :=
 ⟨M.cells,M.holds,M.len,fun x hx=>(M.old x hx).imp_right (fun q b hb'=>Nat.le_trans hn (q b hb')),fun b h1 h2 h3=>(M.only b (by omega) h2 h3).trans (hb.block b h1),fun b e=>(M.loc b e).imp_right (fun q=>Nat.le_trans hn q),Nat.le_trans hb.size M.size,M.os.trans hb.os,M.tape.trans hb.tape,M.output.trans hb.output⟩
def SH (ob lb:Nat)(N:Int)(p q r s:Option Addr)(ls cs la ca lf cf lp cp g1 g2:Nat)(W':World):Prop :=
 (W'.cell? ⟨ob,6,none⟩=some (.int .i64 N)∧W'.cell? ⟨ob,7,none⟩=some (.slice p ls cs)∧W'.cell? ⟨ob,8,none⟩=some (.slice q la ca)∧W'.cell? ⟨ob,9,none⟩=some (.slice r lf cf)∧W'.cell? ⟨ob,10,none⟩=some (.slice s lp cp)) ∧
 W'.cell? ⟨lb,1,none⟩=some (.slice (some ⟨g1,0,none⟩) (lf+8) (lf+8))∧W'.cell? ⟨lb,2,none⟩=some (.slice (some ⟨g2,0,none⟩) (lp+8) (lp+8))
theorem ZgC (w:World)(wb:Nat)(v vh:Value)(hs:List (Nat×List Nat))(h:w.heap[wb]?=some (.cells #[v,vh] 29))(H:HoldsAt w wb vh hs)(hn:hs.length≤9000000000000)
  (k m a b c d N:Int) (p q r s:Option Addr) (ls cs la ca lf cf lp cp:Nat) (S:Nat→Int) (A:Nat→Ar) (F P:Nat→Int) (hS:Ints w p ls S) (hA:Arcs w q la A) (hF:Ints w r lf F) (hP:Ints w s lp P)
  (hl0:ls*8≤140737488351232) (hl1:lf*8≤140737488351232) (hl2:lp*8≤140737488351232) (hl3:la*32≤140737488351232) :
  Calls Tryz.prog 14 #[.pointer (some ⟨wb,0,none⟩),.agg #[.int .i64 k,.int .i64 m,.int .i64 a,.int .i64 b,.int .i64 c,.int .i64 d,.int .i64 N,.slice p ls cs,.slice q la ca,.slice r lf cf,.slice s lp cp]] w fun e w'=>e=.returned (.bool true)∧∃ vh' hs',KeptMore w wb w.heap.size v vh hs 4 w' vh' hs':=by
 obtain ⟨W1,hW1⟩:∃ W1,w.alloc (.cells #[.int .i64 k,.int .i64 m,.int .i64 a,.int .i64 b,.int .i64 c,.int .i64 d,.int .i64 N,.slice p ls cs,.slice q la ca,.slice r lf cf,.slice s lp cp] 37)=W1:=⟨_,rfl⟩
 have X1:W1.heap[w.heap.size]?=some (.cells #[.int .i64 k,.int .i64 m,.int .i64 a,.int .i64 b,.int .i64 c,.int .i64 d,.int .i64 N,.slice p ls cs,.slice q la ca,.slice r lf cf,.slice s lp cp] 37):=by rw [← hW1]; exact heap_alloc_new w _
 have b1:Below w.heap.size w W1:=by rw [← hW1]; exact (Jd _ _).alloc (Jb _) _
 have Z1:w.heap.size<W1.heap.size:=(Ja.1 X1).1
 obtain ⟨x6,x7,x8,x9,x10⟩:=ZcW X1
 have A1:=Zan (ZiR W1 N p q r s ls cs la ca lf cf lp cp S A F P (hS.below b1) (hA.below b1) (hF.below b1) (hP.below b1) (by omega) (by omega) (by omega) (by omega))
 have H1:=Zan hW1
 clear hW1
 go_enter Tryz.func14,Tryz.ntmps14
 go_upto_region 1 with fail
 rw [H1.out]
 go_wp2_with fail
 refine A1.out.mono ?_
 rintro e W2 ⟨lb,g0,g1,g2,g3,cs',rfl,Ln⟩
 have X2:=(Ln.below.block _ Z1).trans X1
 have Z2:w.heap.size<W2.heap.size:=(Ja.1 X2).1
 clear x6 x7 x8 x9 x10 A1 H1
 go_upto_region 2 with fail
 have L2a:Loan W1 W2.drew lb g0 g1 g2 g3 ls lf lp la S F P A cs':=Ln.keep (Jd _ _).drew
 have hS2a:SH w.heap.size lb N p q r s ls cs la ca lf cf lp cp g1 g2 W2.drew:=⟨ZcW (w:=W2.drew) X2,L2a.c1,L2a.c2⟩
 refine wp_region_held_drew (S:=SH w.heap.size lb N p q r s ls cs la ca lf cf lp cp g1 g2) (by kernel_rfl) hS2a (fun _=>?_)
 refine tkH (v:=?_) 0 16 hS2a ?_ ?_; rotate_left 1
 ·(rintro w ⟨⟨e6,e7,e8,e9,e10⟩,e1,e2⟩; go_simp; try with_reducible rfl)
 simp only [Act.put,Jh,Ji,Jj]
 refine tkH (v:=?_) 1 17 hS2a ?_ ?_; rotate_left 1
 ·(rintro w ⟨⟨e6,e7,e8,e9,e10⟩,e1,e2⟩; go_simp; try with_reducible rfl)
 simp only [Act.put,Jh,Ji,Jj]
 refine tkH (v:=?_) 2 18 hS2a ?_ ?_; rotate_left 1
 ·(rintro w ⟨⟨e6,e7,e8,e9,e10⟩,e1,e2⟩; go_simp; try with_reducible rfl)
 simp only [Act.put,Jh,Ji,Jj]
 refine tkH (v:=?_) 4 20 hS2a ?_ ?_; rotate_left 1
 ·(rintro w ⟨⟨e6,e7,e8,e9,e10⟩,e1,e2⟩; go_simp; try with_reducible rfl)
 simp only [Act.put,Jh,Ji,Jj]
 refine tkH (v:=?_) 5 21 hS2a ?_ ?_; rotate_left 1
 ·(rintro w ⟨⟨e6,e7,e8,e9,e10⟩,e1,e2⟩; go_simp; try with_reducible rfl)
 simp only [Act.put,Jh,Ji,Jj]
 refine tkH (v:=?_) 6 22 hS2a ?_ ?_; rotate_left 1
 ·(rintro w ⟨⟨e6,e7,e8,e9,e10⟩,e1,e2⟩; go_simp; try with_reducible rfl)
 simp only [Act.put,Jh,Ji,Jj]
 refine tkH (v:=?_) 7 23 hS2a ?_ ?_; rotate_left 1
 ·(rintro w ⟨⟨e6,e7,e8,e9,e10⟩,e1,e2⟩; go_simp; try with_reducible rfl)
 simp only [Act.put,Jh,Ji,Jj]
 refine tkH (v:=?_) 8 24 hS2a ?_ ?_; rotate_left 1
 ·(rintro w ⟨⟨e6,e7,e8,e9,e10⟩,e1,e2⟩; go_simp; try with_reducible rfl)
 simp only [Act.put,Jh,Ji,Jj]
 refine tkH (v:=?_) 9 25 hS2a ?_ ?_; rotate_left 1
 ·(rintro w ⟨⟨e6,e7,e8,e9,e10⟩,e1,e2⟩; go_simp; try with_reducible rfl)
 simp only [Act.put,Jh,Ji,Jj]
 refine tkH (v:=?_) 10 26 hS2a ?_ ?_; rotate_left 1
 ·(rintro w ⟨⟨e6,e7,e8,e9,e10⟩,e1,e2⟩; go_simp; try with_reducible rfl)
 simp only [Act.put,Jh,Ji,Jj]
 refine tkH (v:=?_) 11 27 hS2a ?_ ?_; rotate_left 1
 ·(rintro w ⟨⟨e6,e7,e8,e9,e10⟩,e1,e2⟩; go_simp; rw [if_pos (by omega)])
 simp only [Act.put,Jh,Ji,Jj]
 refine tkH (v:=?_) 12 28 hS2a ?_ ?_; rotate_left 1
 ·(rintro w ⟨⟨e6,e7,e8,e9,e10⟩,e1,e2⟩; go_simp; try with_reducible rfl)
 simp only [Act.put,Jh,Ji,Jj]
 refine tkH (v:=?_) 13 29 hS2a ?_ ?_; rotate_left 1
 ·(rintro w ⟨⟨e6,e7,e8,e9,e10⟩,e1,e2⟩; go_simp; try with_reducible rfl)
 simp only [Act.put,Jh,Ji,Jj]
 refine tkH (v:=?_) 14 30 hS2a ?_ ?_; rotate_left 1
 ·(rintro w ⟨⟨e6,e7,e8,e9,e10⟩,e1,e2⟩; go_simp; try with_reducible rfl)
 simp only [Act.put,Jh,Ji,Jj]
 refine tkH (v:=?_) 15 31 hS2a ?_ ?_; rotate_left 1
 ·(rintro w ⟨⟨e6,e7,e8,e9,e10⟩,e1,e2⟩; go_simp; try with_reducible rfl)
 simp only [Act.put,Jh,Ji,Jj]
 refine tkH (v:=?_) 16 32 hS2a ?_ ?_; rotate_left 1
 ·(rintro w ⟨⟨e6,e7,e8,e9,e10⟩,e1,e2⟩; go_simp; try with_reducible rfl)
 simp only [Act.put,Jh,Ji,Jj]
 refine tkH (v:=?_) 17 33 hS2a ?_ ?_; rotate_left 1
 ·(rintro w ⟨⟨e6,e7,e8,e9,e10⟩,e1,e2⟩; go_simp; try with_reducible rfl)
 simp only [Act.put,Jh,Ji,Jj]
 refine tkH (v:=?_) 18 34 hS2a ?_ ?_; rotate_left 1
 ·(rintro w ⟨⟨e6,e7,e8,e9,e10⟩,e1,e2⟩; go_simp; try with_reducible rfl)
 simp only [Act.put,Jh,Ji,Jj]
 refine tkH (v:=?_) 19 35 hS2a ?_ ?_; rotate_left 1
 ·(rintro w ⟨⟨e6,e7,e8,e9,e10⟩,e1,e2⟩; go_simp; rw [if_pos (by omega)])
 simp only [Act.put,Jh,Ji,Jj]
 refine wpAnyH_ready (rs:=[3]) (by kernel_rfl) (by simp) ?_
 refine AllReadyH.cons rfl (fun K hK=>?_) AllReadyH.nil
 go_simp
 refine (ZfJ _ N p q ls cs la ca lb g0 g1 g2 g3 (lf+8) (lp+8) L2a.cells).mono ?_
 rintro e W3 ⟨rfl,b3⟩
 have L3:=L2a.keep b3
 have X3:=(b3.block _ (show w.heap.size<W2.drew.heap.size from Z2)).trans (show W2.drew.heap[w.heap.size]?=_ from X2)
 have hS3a:SH w.heap.size lb N p q r s ls cs la ca lf cf lp cp g1 g2 W3:=⟨ZcW X3,L3.c1,L3.c2⟩
 refine hK.out _ _ hS3a (fun _=>?_)
 clear hK K
 refine wpAnyH_ready (rs:=[20]) (by kernel_rfl) (by simp) ?_
 refine AllReadyH.cons rfl (fun K hK=>?_) AllReadyH.nil
 go_simp
 refine (Zhq _ N _ _ _ _ ls _ la _ lf _ lp _ S A F P (Zc3 L3.supply) (ZfH L3.arcs) (Zc3 L3.flow) (Zc3 L3.prices)).mono ?_
 rintro e W4 ⟨c1,rfl,hc1,b4⟩
 have L4:=L3.keep b4
 have X4:=(b4.block _ (Ja.1 X3).1).trans X3
 have hS4a:SH w.heap.size lb N p q r s ls cs la ca lf cf lp cp g1 g2 W4:=⟨ZcW X4,L4.c1,L4.c2⟩
 refine hK.out _ _ hS4a (fun _=>?_)
 clear hK K
 refine tkH (v:=?_) 21 6 hS4a ?_ ?_; rotate_left 1
 ·(rintro w ⟨⟨e6,e7,e8,e9,e10⟩,e1,e2⟩; go_simp; try with_reducible rfl)
 simp only [Act.put,Jh,Ji,Jj]
 refine wpAnyH_done (by kernel_rfl) ?_ _
 have hb4:Below w.heap.size w W4:=Zal (Zal (Zal (Zal b1 Ln.below) (Jd _ _).drew) b3) b4
 have Z4:w.heap.size<W4.heap.size:=(Ja.1 X4).1
 obtain ⟨x6,x7,x8,x9,x10⟩:=ZcW X4
 have A3:=Zan (Zhd W1 W4 N p q r s ls cs la ca lf cf lp cp lb g0 g1 g2 g3 S F P A cs' L4 (hS.below hb4) (hA.below hb4) (hF.below hb4) (hP.below hb4) hl0 hl1 hl2 hl3)
 clear hS2a hS3a hS4a L2a L3 X3 b3 b4 X2 Z2
 go_upto_region 3 with fail
 go_wp2_with fail
 refine A3.out.mono ?_
 rintro e W5 ⟨rfl,b5⟩
 have L5:=L4.keep b5
 have X5:=(b5.block _ Z4).trans X4
 have hb5:Below w.heap.size w W5:=Zal hb4 b5
 have Z5:w.heap.size<W5.heap.size:=(Ja.1 X5).1
 clear x6 x7 x8 x9 x10 A3
 obtain ⟨x6,x7,x8,x9,x10⟩:=ZcW X5
 have A4:=Zan (Zei W5 N p q r s ls cs la ca lf cf lp cp S A F P (hS.below hb5) (hA.below hb5) (hF.below hb5) (hP.below hb5))
 go_wp2_with fail
 refine A4.out.mono ?_
 rintro e W6 ⟨c2,rfl,hc2,b6⟩
 obtain rfl:c1=c2:=hc1.same hc2
 have L6:=L5.keep b6
 have hb6:Below w.heap.size w W6:=Zal hb5 b6
 have h6:=(hb6.block wb (Ja.1 h).1).trans h
 have H6:=H.below hb6
 have hz1:w.heap.size≤W1.heap.size:=b1.size
 have A5:=Zan (Zio W1 W6 wb lb g0 g1 g2 g3 ls lf lp la S F P A cs' v vh hs L6 h6 H6 hn (fun x hx b hb'=>Jm ((H.held x hx).1 b hb') hz1) (by omega) (by omega) (by omega) (by omega))
 clear x6 x7 x8 x9 x10 A4
 go_wp2_with fail
 refine A5.out.mono ?_
 rintro e W7 ⟨rfl,vh',hs',M⟩
 clear A5
 go_wp2_with fail
 go_ret
 exact ⟨rfl,vh',hs',M.pre hb6 hz1⟩
end
section
open Go.RowKit
structure WH (w:World)(base wb:Nat)(v vh:Value)(xs:List Pr)(hs:List (Nat×List Nat)):Prop where
 plans:WAt w base wb v vh xs
 holds:HoldsAt w wb vh hs
 apart:∀ x∈hs,∀ b∈x.2,b∉FW wb v xs
 hv:∀ b,vh.ownBlock=some b→b∉FW wb v xs
 lh:∀ b,vh.ownBlock=some b→base≤b
section
variable {w w':World}{base wb:Nat}{v v' vh vh':Value}{xs xs':List Pr}{hs hs':List (Nat×List Nat)}
theorem WH.moved (h:WH w base wb v vh xs hs)(hw:WAt w' base wb v' vh xs')(ho:Only (FW wb v xs) w w')(hf:∀ b∈FW wb v' xs',b∈FW wb v xs∨w.heap.size≤b):WH w' base wb v' vh xs' hs:=by
 refine ⟨hw,⟨h.holds.row.mv (fun b e=>ho.block b (h.holds.row.lt e) (h.hv b e)),fun x hx=>(h.holds.held x hx).only ho (h.apart x hx),h.holds.ne⟩,fun x hx b hb hm=>?_,fun b e hm=>?_,h.lh⟩
 ·rcases hf b hm with h1 | h1
  ·exact h.apart x hx b hb h1
  ·have:=(h.holds.held x hx).1 b hb; omega
 ·rcases hf b hm with h1 | h1
  ·exact h.hv b e h1
  ·have:=h.holds.row.lt e; omega
theorem WH.below (h:WH w base wb v vh xs hs)(hb:Below w.heap.size w w'):WH w' base wb v vh xs hs :=
 h.moved (h.plans.below hb) (Only.of_below hb) (fun _ q=>Jr q)
theorem WH.checked {k:Nat}(h:WH w base wb v vh xs hs)(M:KeptMore w wb w.heap.size v vh hs k w' vh' hs'):WH w' base wb v vh' xs hs'∧Below base w w':=by
 have hF:=h.plans.foots
 have hbase:base≤w.heap.size:=by have:=(hF wb Jp); omega
 have hvw:∀ b,v.ownBlock=some b→b≠wb:=fun b e q=>by
  subst q
  obtain ⟨cur,hc⟩:=h.plans.row.elem e
  rw [h.plans.cells] at hc
  simp at hc
 have mv:∀ b∈FW wb v xs,b≠wb→w'.heap[b]?=w.heap[b]?:=fun b hb hne=>M.only b (hF b hb).2 hne (fun e=>h.hv b e hb)
 refine ⟨⟨⟨M.cells,h.plans.row.mv (fun b e=>mv b (Jk _ (Ju _ (by simpa using e))) (hvw b e)),fun x hx=>(h.plans.ok x hx).move (fun b hb=>mv b (Jk _ (Jt _ (List.mem_flatMap.2 ⟨x,hx,hb⟩))) (fun e=>h.plans.dw x hx (e ▸ hb))),h.plans.dis,h.plans.dw,h.plans.dv,h.plans.lw,h.plans.lv,h.plans.lx⟩,M.holds,fun x hx b hb hm=>?_,fun b e hm=>?_,fun b e=>?_⟩,⟨M.os,M.tape,M.output,M.size,fun b hb=>M.only b (by omega) (fun e=>?_) (fun e=>?_)⟩⟩
 ·rcases M.old x hx with h1 | h1
  ·exact h.apart x h1 b hb hm
  ·have h1':=h1 b hb; have:=(hF b hm).2; omega
 ·rcases M.loc b e with h1 | h1
  ·exact h.hv b h1 hm
  ·have:=(hF b hm).2; omega
 ·rcases M.loc b e with h1 | h1
  ·exact h.lh b h1
  ·omega
 ·have:=h.plans.lw; omega
 ·have:=h.lh b e; omega
theorem Zg8 (h:WH w base wb v vh xs hs)(hn:hs.length≤9000000000000)(m a b c d N:Int)(p q r s:Option Addr)(ls cs la ca lf cf lp cp:Nat)(S:Nat→Int)(A:Nat→Ar)(F P:Nat→Int)(hS:Ints w p ls S)(hA:Arcs w q la A)(hF:Ints w r lf F)(hP:Ints w s lp P)
  (hl0:ls*8≤140737488351232) (hl1:lf*8≤140737488351232) (hl2:lp*8≤140737488351232) (hl3:la*32≤140737488351232) :
  Calls Tryz.prog 11 #[.pointer (some ⟨wb,0,none⟩),.agg #[.int .i64 11,.int .i64 m,.int .i64 a,.int .i64 b,.int .i64 c,.int .i64 d,.int .i64 N,.slice p ls cs,.slice q la ca,.slice r lf cf,.slice s lp cp]] w fun e w'=>e=.returned (.bool true)∧∃ vh' hs',KeptMore w wb w.heap.size v vh hs 4 w' vh' hs':=by
 have hb1:Below w.heap.size w (w.alloc (.cells #[.int .i64 11,.int .i64 m,.int .i64 a,.int .i64 b,.int .i64 c,.int .i64 d,.int .i64 N,.slice p ls cs,.slice q la ca,.slice r lf cf,.slice s lp cp] 37)):=(Jd _ _).alloc (Jb _) _
 have h1:=h.below hb1
 have A1:=hid (ZgC _ wb v vh hs h1.plans.cells h1.holds hn 11 m a b c d N p q r s ls cs la ca lf cf lp cp S A F P (hS.below hb1) (hA.below hb1) (hF.below hb1) (hP.below hb1) hl0 hl1 hl2 hl3)
 have hlw:wb<w.heap.size:=(Ja.1 h.plans.cells).1
 have Hb:=hid hb1
 clear h1 hb1
 go_enter Tryz.func11,Tryz.ntmps11
 go_wp2_with fail
 refine A1.out.mono ?_
 rintro e w2 ⟨rfl,vh',hs',M⟩
 go_wp2_with fail
 go_ret
 exact ⟨rfl,vh',hs',M.pre Hb.out Hb.out.size⟩
structure Stepped (w:World)(base wb:Nat)(v vh:Value)(xs:List Pr)(hs:List (Nat×List Nat))(w':World)(v' vh':Value)(xs':List Pr)(hs':List (Nat×List Nat)):Prop where
 next:WH w' base wb v' vh' xs' hs'
 len:xs.length≤xs'.length∧xs'.length≤xs.length+1∧hs'.length≤hs.length+4
 below:Below base w w'
 other:∀ b,b<w.heap.size→b∉FW wb v xs→vh.ownBlock≠some b→w'.heap[b]?=w.heap[b]?
theorem ZlG (h:WH w base wb v vh xs hs)(hx:0<xs.length)(hlen:xs.length<1000000000000)(hn:hs.length≤9000000000000)(k m a b c d N:Int)(hk:k≤11)(p q r s:Option Addr)(ls cs la ca lf cf lp cp:Nat)(S:Nat→Int)(A:Nat→Ar)(F P:Nat→Int)(hS:Ints w p ls S)(hA:Arcs w q la A)(hF:Ints w r lf F)(hP:Ints w s lp P)
  (hl0:ls*8≤140737488351232) (hl1:lf*8≤140737488351232) (hl2:lp*8≤140737488351232) (hl3:la*32≤140737488351232) :
  Calls Tryz.prog 11 #[.pointer (some ⟨wb,0,none⟩),.agg #[.int .i64 k,.int .i64 m,.int .i64 a,.int .i64 b,.int .i64 c,.int .i64 d,.int .i64 N,.slice p ls cs,.slice q la ca,.slice r lf cf,.slice s lp cp]] w fun e w'=>e=.returned (.bool true)∧∃ v' vh' xs' hs',Stepped w base wb v vh xs hs w' v' vh' xs' hs':=by
 by_cases hk10:k≤10
 ·refine (ZjS h.plans hx hlen k m a b c d (.int .i64 N) (.slice p ls cs) (.slice q la ca) (.slice r lf cf) (.slice s lp cp) hk10).mono ?_
  rintro e w' ⟨rfl,v',xs',hw,h1,h2,ho,hf⟩
  exact ⟨rfl,v',vh,xs',hs,h.moved hw ho hf,⟨h1,h2,Nat.le_add_right _ _⟩,Zbn ho (fun b hb=>(h.plans.foots b hb).1) (by have:=(h.plans.foots wb Jp); omega),fun b hb h3 _=>ho.block b hb h3⟩
 ·obtain rfl:k=11:=by omega
  refine (Zg8 h hn m a b c d N p q r s ls cs la ca lf cf lp cp S A F P hS hA hF hP hl0 hl1 hl2 hl3).mono ?_
  rintro e w' ⟨rfl,vh',hs',M⟩
  obtain ⟨h1,h2⟩:=h.checked M
  exact ⟨rfl,v,vh',xs,hs',h1,⟨Jb _,Nat.le_succ _,by rw [M.len]; exact Jb _⟩,h2,fun b hb h3 h4=>M.only b hb (fun e=>h3 (e ▸ Jp)) h4⟩
end
end
section
open Go.RowKit
theorem wh0 {w:World}{base wb:Nat}{v:Value}{xs:List Pr}(h:WAt w base wb v (.slice none 0 0) xs):WH w base wb v (.slice none 0 0) xs [] :=
 ⟨h,⟨World.ownsRow_nil _ _ _ _,(fun x hx=>by cases hx),(fun x hx=>by cases hx)⟩,(fun x hx=>by cases hx),(fun b e=>by cases e),(fun b e=>by cases e)⟩
end
end Go.Proofs.YtjdindfjfpdikaaGreat
