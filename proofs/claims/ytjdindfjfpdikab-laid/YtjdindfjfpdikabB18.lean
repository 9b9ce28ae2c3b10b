import Derived.Deep.RegionHeld
import Derived.BigQuiet
import Derived.BigRegion
import Derived.Test.YtjdindfjfpdikabB01
import Derived.Test.YtjdindfjfpdikabB02
import Derived.Test.YtjdindfjfpdikabB10
import Derived.Test.YtjdindfjfpdikabPre
set_option maxRecDepth 100000
set_option maxHeartbeats 8000000
namespace Go.Proofs.Ytjdindfjfpdikab
section
open Go.RowKit
def TRow (b0:Nat)(w:World)(v:Value)(xs:List (Int×Int)):Prop:=w.ownsRow b0 79 2 v xs.length (flat xs)
theorem TRow.nil (b0:Nat)(w:World):TRow b0 w (.slice none 0 0) []:=World.ownsRow_nil _ _ _ _
theorem TRow.kept {b0:Nat}{w w':World}{v:Value}{xs:List (Int×Int)}{row:Option Nat}(h:TRow b0 w v xs)(hg:w.grownBy w' row)(hne:v.ownBlock=none∨v.ownBlock≠row):TRow b0 w' v xs:=World.ownsRow.kept h hg hne
theorem TRow.below {b0:Nat}{w w':World}{v:Value}{xs:List (Int×Int)}(h:TRow b0 w v xs)(hb:Below w.heap.size w w'):TRow b0 w' v xs:=h.kept (grown_of_below hb none) (by cases v.ownBlock <;> simp)
theorem TRow.base {b0:Nat}{w:World}{v:Value}{xs:List (Int×Int)}(h:TRow b0 w v xs):∀ b,v.ownBlock=some b→b0≤b:=fun b e=>(World.ownsRow.lt h b e).1
theorem TRow.lt {b0:Nat}{w:World}{v:Value}{xs:List (Int×Int)}(h:TRow b0 w v xs):∀ b,v.ownBlock=some b→b<w.heap.size:=fun b e=>(World.ownsRow.lt h b e).2
theorem TRow.elem {b0:Nat}{w:World}{v:Value}{xs:List (Int×Int)}(h:TRow b0 w v xs){b:Nat}(e:v.ownBlock=some b):∃ cur,w.heap[b]?=some (.cells cur 79):=by
 rcases h.2 with ⟨rfl,_⟩ | ⟨g,cap,cur,rfl,_,hg,_⟩
 ·cases e
 ·cases e; exact ⟨cur,hg⟩
theorem TRow.sl {b0:Nat}{w:World}{v:Value}{xs:List (Int×Int)}(h:TRow b0 w v xs):∃ p c,v=.slice p xs.length c:=by
 rcases h.2 with ⟨e1,e2⟩ | ⟨g,cap,cur,e1,_⟩
 ·exact ⟨none,0,by rw [e1,e2]⟩
 ·exact ⟨_,_,e1⟩
theorem TRow.snoc {b0:Nat}{w:World}{v:Value}{xs:List (Int×Int)}{a:Int×Int}(h:w.ownsRow b0 79 2 v (xs.length+1) (flat xs ++ [.int .i64 a.1,.int .i64 a.2])):TRow b0 w v (xs ++ [a]):=by
 unfold TRow
 rw [flat_append,Jo]
 simpa [flat] using h
theorem NRow.sl {b0:Nat}{w:World}{v:Value}{xs:List Int}(h:NRow b0 w v xs):∃ p c,v=.slice p xs.length c:=by
 rcases h.2 with ⟨e1,e2⟩ | ⟨g,cap,cur,e1,_⟩
 ·exact ⟨none,0,by rw [e1,e2]⟩
 ·exact ⟨_,_,e1⟩
theorem NRow.lt {b0:Nat}{w:World}{v:Value}{xs:List Int}(h:NRow b0 w v xs):∀ b,v.ownBlock=some b→b<w.heap.size:=fun b e=>(World.ownsRow.lt h b e).2
theorem ARow.lt {b0:Nat}{w:World}{v:Value}{xs:List Ar}(h:ARow b0 w v xs):∀ b,v.ownBlock=some b→b<w.heap.size:=fun b e=>(World.ownsRow.lt h b e).2
structure Ch where
 vs:Value
 va:Value
 vf:Value
 vt:Value
 N:Int
 sup:List Int
 al:List Ar
 fl:List Int
 nm:List ((Int×Int)×Int)
 ts:List (Int×Int)
def Ch.blocks (c:Ch):List Nat:=[c.vs,c.va,c.vf,c.vt].filterMap Value.ownBlock
def Ch.foot (c:Ch)(cb mb:Nat):List Nat:=cb :: mb :: c.blocks
structure Chart (B:Nat)(W:World)(cb mb:Nat)(c:Ch):Prop where
 cells:W.heap[cb]?=some (.cells #[.int .i64 c.N,c.vs,c.va,c.vf,.map (some mb),c.vt] 67)
 sup:NRow B W c.vs c.sup
 arcs:ARow B W c.va c.al
 flow:NRow B W c.vf c.fl
 things:TRow B W c.vt c.ts
 nodes:MapAt tv iv W mb c.nm
 apart:c.vs.ownBlock=none∨c.vs.ownBlock≠c.vf.ownBlock
 lb:B≤cb∧B≤mb
def CPost (B cb mb:Nat)(c c':Ch)(w w':World):Prop:=Chart B w' cb mb c'∧Only (c.foot cb mb) w w'∧∀ b∈c'.foot cb mb,b∈c.foot cb mb∨w.heap.size≤b
theorem mem_chblocks {c:Ch}{b:Nat}:b∈c.blocks↔c.vs.ownBlock=some b∨c.va.ownBlock=some b∨c.vf.ownBlock=some b∨c.vt.ownBlock=some b:=by
 unfold Ch.blocks
 simp only [List.mem_filterMap,List.mem_cons,List.not_mem_nil,or_false]
 constructor
 ·rintro ⟨v,rfl | rfl | rfl | rfl,e⟩
  ·exact Jr e
  ·exact Js (Jr e)
  ·exact Js (Js (Jr e))
  ·exact Js (Js (Js e))
 ·rintro (e | e | e | e)
  ·exact ⟨_,Jr rfl,e⟩
  ·exact ⟨_,Js (Jr rfl),e⟩
  ·exact ⟨_,Js (Js (Jr rfl)),e⟩
  ·exact ⟨_,Js (Js (Js rfl)),e⟩
section
variable {B:Nat}{W W':World}{cb mb:Nat}{c c' c'':Ch}
theorem Chart.lt (h:Chart B W cb mb c):cb<W.heap.size:=(Ja.1 h.cells).1
theorem Chart.keep (h:Chart B W cb mb c)(hb:Below W.heap.size W W'):Chart B W' cb mb c :=
 ⟨(hb.block _ h.lt).trans h.cells,h.sup.below hb,h.arcs.below hb,h.flow.below hb,h.things.below hb,h.nodes.below hb,h.apart,h.lb⟩
theorem Chart.cell (h:Chart B W cb mb c)(i:Nat):W.cell? ⟨cb,i,none⟩=#[.int .i64 c.N,c.vs,c.va,c.vf,.map (some mb),c.vt][i]?:=by simp [World.cell?,h.cells]
theorem Chart.c0 (h:Chart B W cb mb c):W.cell? ⟨cb,0,none⟩=some (.int .i64 c.N):=by rw [h.cell]; rfl
theorem Chart.c1 (h:Chart B W cb mb c):W.cell? ⟨cb,1,none⟩=some c.vs:=by rw [h.cell]; rfl
theorem Chart.c2 (h:Chart B W cb mb c):W.cell? ⟨cb,2,none⟩=some c.va:=by rw [h.cell]; rfl
theorem Chart.c3 (h:Chart B W cb mb c):W.cell? ⟨cb,3,none⟩=some c.vf:=by rw [h.cell]; rfl
theorem Chart.c4 (h:Chart B W cb mb c):W.cell? ⟨cb,4,none⟩=some (.map (some mb)):=by rw [h.cell]; rfl
theorem Chart.c5 (h:Chart B W cb mb c):W.cell? ⟨cb,5,none⟩=some c.vt:=by rw [h.cell]; rfl
theorem Chart.fz (h:Chart B W cb mb c)(i:Nat):W.frozen? ⟨cb,i,none⟩=false:=by simp [World.frozen?,h.cells]
theorem Chart.cm (h:Chart B W cb mb c):cb≠mb:=fun e=>by
 obtain ⟨es,k,hb,_⟩:=h.nodes
 rw [← e,h.cells] at hb
 cases hb
theorem Chart.nS (h:Chart B W cb mb c):c.vs.ownBlock≠some cb∧c.vs.ownBlock≠some mb:=⟨fun e=>by
 obtain ⟨cur,h1⟩:=h.sup.row.elem e
 rw [h.cells] at h1; simp at h1,fun e=>by
 obtain ⟨cur,h1⟩:=h.sup.row.elem e
 obtain ⟨es,k,hb,_⟩:=h.nodes
 rw [hb] at h1; cases h1⟩
theorem Chart.nF (h:Chart B W cb mb c):c.vf.ownBlock≠some cb∧c.vf.ownBlock≠some mb:=⟨fun e=>by
 obtain ⟨cur,h1⟩:=h.flow.row.elem e
 rw [h.cells] at h1; simp at h1,fun e=>by
 obtain ⟨cur,h1⟩:=h.flow.row.elem e
 obtain ⟨es,k,hb,_⟩:=h.nodes
 rw [hb] at h1; cases h1⟩
theorem Chart.nA (h:Chart B W cb mb c):c.va.ownBlock≠some cb∧c.va.ownBlock≠some mb:=⟨fun e=>by
 obtain ⟨cur,h1⟩:=h.arcs.elem e
 rw [h.cells] at h1; simp at h1,fun e=>by
 obtain ⟨cur,h1⟩:=h.arcs.elem e
 obtain ⟨es,k,hb,_⟩:=h.nodes
 rw [hb] at h1; cases h1⟩
theorem Chart.nT (h:Chart B W cb mb c):c.vt.ownBlock≠some cb∧c.vt.ownBlock≠some mb:=⟨fun e=>by
 obtain ⟨cur,h1⟩:=h.things.elem e
 rw [h.cells] at h1; simp at h1,fun e=>by
 obtain ⟨cur,h1⟩:=h.things.elem e
 obtain ⟨es,k,hb,_⟩:=h.nodes
 rw [hb] at h1; cases h1⟩
theorem Chart.foots (h:Chart B W cb mb c):∀ b∈c.foot cb mb,B≤b∧b<W.heap.size:=fun b hb=>by
 rcases List.mem_cons.1 hb with rfl | hb
 ·exact ⟨h.lb.1,h.lt⟩
 rcases List.mem_cons.1 hb with rfl | hb
 ·exact ⟨h.lb.2,h.nodes.lt⟩
 rcases mem_chblocks.1 hb with e | e | e | e
 ·exact ⟨h.sup.base b e,h.sup.lt b e⟩
 ·exact ⟨h.arcs.base b e,h.arcs.lt b e⟩
 ·exact ⟨h.flow.base b e,h.flow.lt b e⟩
 ·exact ⟨h.things.base b e,h.things.lt b e⟩
theorem apart_of {w:World}{v v':Value}{e e':Nat}(h:∀ b,v.ownBlock=some b→∃ cur,w.heap[b]?=some (.cells cur e))(h':∀ b,v'.ownBlock=some b→∃ cur,w.heap[b]?=some (.cells cur e'))(hne:e≠e'):v.ownBlock=none∨v.ownBlock≠v'.ownBlock:=by
 cases hq:v.ownBlock with
 | none=>exact Jr rfl
 | some b =>
  right
  intro q
  obtain ⟨cur,h1⟩:=h b hq
  obtain ⟨cur',h2⟩:=h' b q.symm
  rw [h1] at h2
  simp at h2
  exact hne h2.2
theorem Chart.eS (h:Chart B W cb mb c):∀ b,c.vs.ownBlock=some b→∃ cur,W.heap[b]?=some (.cells cur 3):=fun _ e=>h.sup.row.elem e
theorem Chart.eF (h:Chart B W cb mb c):∀ b,c.vf.ownBlock=some b→∃ cur,W.heap[b]?=some (.cells cur 3):=fun _ e=>h.flow.row.elem e
theorem Chart.eA (h:Chart B W cb mb c):∀ b,c.va.ownBlock=some b→∃ cur,W.heap[b]?=some (.cells cur 50):=fun _ e=>h.arcs.elem e
theorem Chart.eT (h:Chart B W cb mb c):∀ b,c.vt.ownBlock=some b→∃ cur,W.heap[b]?=some (.cells cur 79):=fun _ e=>h.things.elem e
theorem Chart.apart' (h:Chart B W cb mb c):c.vf.ownBlock=none∨c.vf.ownBlock≠c.vs.ownBlock:=by
 rcases h.apart with e | e
 ·rw [e]
  cases c.vf.ownBlock with
  | none=>exact Jr rfl
  | some b=>exact Js (by simp)
 ·exact Js (fun q=>e q.symm)
theorem Chart.wrote {W:World}(hc:W.heap[cb]?=some (.cells #[.int .i64 c.N,c.vs,c.va,c.vf,.map (some mb),c.vt] 67))(i:Nat)(x:Value)(he:(#[.int .i64 c.N,c.vs,c.va,c.vf,.map (some mb),c.vt]:Array Value).setIfInBounds i x=#[.int .i64 c'.N,c'.vs,c'.va,c'.vf,.map (some mb),c'.vt])
  (h1:NRow B W c'.vs c'.sup) (h2:ARow B W c'.va c'.al) (h3:NRow B W c'.vf c'.fl) (h4:TRow B W c'.vt c'.ts) (h5:MapAt tv iv W mb c'.nm) (h6:c'.vs.ownBlock=none∨c'.vs.ownBlock≠c'.vf.ownBlock) (hl:B≤cb∧B≤mb):Chart B (W.setCell ⟨cb,i,none⟩ x) cb mb c':=by
 have g:=grown_setCell W ⟨cb,i,none⟩ x
 have n:∀ {v:Value} {e:Nat},(∀ b,v.ownBlock=some b→∃ cur,W.heap[b]?=some (.cells cur e))→e≠67→v.ownBlock≠some cb:=fun h hne q=>by
  obtain ⟨cur,h1⟩:=h _ q
  rw [hc] at h1
  simp at h1
  exact hne h1.2.symm
 have hm:cb≠mb:=fun e=>by
  obtain ⟨es,k,hb,_⟩:=h5
  rw [← e,hc] at hb
  cases hb
 refine ⟨?_,h1.kept g (Js (n (fun _ e=>h1.row.elem e) (by decide))),h2.kept g (Js (n (fun _ e=>h2.elem e) (by decide))),h3.kept g (Js (n (fun _ e=>h3.row.elem e) (by decide))),h4.kept g (Js (n (fun _ e=>h4.elem e) (by decide))),h5.grown g (by simpa using hm.symm),h6,hl⟩
 rw [heap_setCell hc i x,he]
theorem foot_push {c c':Ch}{n:Nat}(h:∀ b,(c'.vs.ownBlock=some b∨c'.va.ownBlock=some b∨c'.vf.ownBlock=some b∨c'.vt.ownBlock=some b)→(c.vs.ownBlock=some b∨c.va.ownBlock=some b∨c.vf.ownBlock=some b∨c.vt.ownBlock=some b)∨n≤b):∀ b∈c'.foot cb mb,b∈c.foot cb mb∨n≤b:=fun b hb=>by
 rcases List.mem_cons.1 hb with rfl | hb
 ·exact Jr Jp
 rcases List.mem_cons.1 hb with rfl | hb
 ·exact Jr (Jk _ Jp)
 rcases h b (mem_chblocks.1 hb) with q | q
 ·exact Jr (Jk _ (Jk _ (mem_chblocks.2 q)))
 ·exact Js q
theorem CPost.refl (h:Chart B W cb mb c):CPost B cb mb c c W W:=⟨h,Only.of_below (Jd _ _),fun _ q=>Jr q⟩
theorem CPost.trans {w w' w'':World}(h:CPost B cb mb c c' w w')(k:CPost B cb mb c' c'' w' w''):CPost B cb mb c c'' w w'' :=
 ⟨k.1,h.2.1.chain k.2.1 h.2.2,fun b hb=>by
  rcases k.2.2 b hb with q | q
  ·exact h.2.2 b q
  ·exact Js (Nat.le_trans h.2.1.size q)⟩
theorem CPost.ahead {w w':World}(h:Chart B w cb mb c)(hb:Below w.heap.size w W)(k:CPost B cb mb c c' W w'):CPost B cb mb c c' w w' :=
 CPost.trans (c':=c) ⟨h.keep hb,Only.of_below hb,fun _ q=>Jr q⟩ k
theorem CPost.behind {w w':World}(h:CPost B cb mb c c' w W)(hb:Below W.heap.size W w'):CPost B cb mb c c' w w' :=
 h.trans ⟨h.1.keep hb,Only.of_below hb,fun _ q=>Jr q⟩
theorem Chart.pushA {w3:World}{va':Value}{al':List Ar}(h:Chart B W cb mb c)(hg:W.grownBy w3 c.va.ownBlock)(hr:ARow B w3 va' al')(hloc:va'.ownBlock=c.va.ownBlock∨va'.ownBlock=some W.heap.size) :
  w3.heap[cb]?=some (.cells #[.int .i64 c.N,c.vs,c.va,c.vf,.map (some mb),c.vt] 67)∧CPost B cb mb c { c with va:=va',al:=al' } W (w3.setCell ⟨cb,2,none⟩ va'):=by
 have c3:=(hg.block _ h.lt (fun e=>h.nA.1 e.symm)).trans h.cells
 refine ⟨c3,Chart.wrote c3 2 va' rfl (h.sup.kept hg (apart_of h.eS h.eA (by decide))) hr (h.flow.kept hg (apart_of h.eF h.eA (by decide))) (h.things.kept hg (apart_of h.eT h.eA (by decide))) (h.nodes.grown hg (fun e=>h.nA.2 e.symm)) h.apart h.lb,?_,foot_push (fun b q=>?_)⟩
 ·refine (Only.of_grown' hg (fun b e=>?_)).trans (Only.of_grown' (grown_setCell w3 _ _) (fun b e=>?_))
  ·exact Jk _ (Jk _ (mem_chblocks.2 (Js (Jr e))))
  ·cases e; exact Jp
 ·rcases q with q | q | q | q
  ·exact Jr (Jr q)
  ·rcases hloc with e | e
   ·exact Jr (Js (Jr (by rw [← e]; exact q)))
   ·exact Js (by have:va'.ownBlock=some b:=q; rw [e] at this; cases this; exact Jb _)
  ·exact Jr (Js (Js (Jr q)))
  ·exact Jr (Js (Js (Js q)))
theorem Chart.pushF {w3:World}{vf':Value}{fl':List Int}(h:Chart B W cb mb c)(hg:W.grownBy w3 c.vf.ownBlock)(hr:NRow B w3 vf' fl')(hloc:vf'.ownBlock=c.vf.ownBlock∨vf'.ownBlock=some W.heap.size) :
  w3.heap[cb]?=some (.cells #[.int .i64 c.N,c.vs,c.va,c.vf,.map (some mb),c.vt] 67)∧CPost B cb mb c { c with vf:=vf',fl:=fl' } W (w3.setCell ⟨cb,3,none⟩ vf'):=by
 have c3:=(hg.block _ h.lt (fun e=>h.nF.1 e.symm)).trans h.cells
 have hap:c.vs.ownBlock=none∨c.vs.ownBlock≠vf'.ownBlock:=by
  rcases hloc with e | e
  ·rw [e]; exact h.apart
  ·rw [e]
   cases hq:c.vs.ownBlock with
   | none=>exact Jr rfl
   | some b=>exact Js (fun q=>by cases q; have:=h.sup.lt _ hq; omega)
 refine ⟨c3,Chart.wrote c3 3 vf' rfl (h.sup.kept hg h.apart) (h.arcs.kept hg (apart_of h.eA h.eF (by decide))) hr (h.things.kept hg (apart_of h.eT h.eF (by decide))) (h.nodes.grown hg (fun e=>h.nF.2 e.symm)) hap h.lb,?_,foot_push (fun b q=>?_)⟩
 ·refine (Only.of_grown' hg (fun b e=>?_)).trans (Only.of_grown' (grown_setCell w3 _ _) (fun b e=>?_))
  ·exact Jk _ (Jk _ (mem_chblocks.2 (Js (Js (Jr e)))))
  ·cases e; exact Jp
 ·rcases q with q | q | q | q
  ·exact Jr (Jr q)
  ·exact Jr (Js (Jr q))
  ·rcases hloc with e | e
   ·exact Jr (Js (Js (Jr (by rw [← e]; exact q))))
   ·exact Js (by have:vf'.ownBlock=some b:=q; rw [e] at this; cases this; exact Jb _)
  ·exact Jr (Js (Js (Js q)))
theorem Chart.pushS {w3:World}{vs':Value}{sup':List Int}(h:Chart B W cb mb c)(hg:W.grownBy w3 c.vs.ownBlock)(hr:NRow B w3 vs' sup')(hloc:vs'.ownBlock=c.vs.ownBlock∨vs'.ownBlock=some W.heap.size) :
  w3.heap[cb]?=some (.cells #[.int .i64 c.N,c.vs,c.va,c.vf,.map (some mb),c.vt] 67)∧CPost B cb mb c { c with vs:=vs',sup:=sup' } W (w3.setCell ⟨cb,1,none⟩ vs'):=by
 have c3:=(hg.block _ h.lt (fun e=>h.nS.1 e.symm)).trans h.cells
 have hap:vs'.ownBlock=none∨vs'.ownBlock≠c.vf.ownBlock:=by
  rcases hloc with e | e
  ·rw [e]; exact h.apart
  ·rw [e]
   exact Js (fun q=>by have:=h.flow.lt _ q.symm; omega)
 refine ⟨c3,Chart.wrote c3 1 vs' rfl hr (h.arcs.kept hg (apart_of h.eA h.eS (by decide))) (h.flow.kept hg h.apart') (h.things.kept hg (apart_of h.eT h.eS (by decide))) (h.nodes.grown hg (fun e=>h.nS.2 e.symm)) hap h.lb,?_,foot_push (fun b q=>?_)⟩
 ·refine (Only.of_grown' hg (fun b e=>?_)).trans (Only.of_grown' (grown_setCell w3 _ _) (fun b e=>?_))
  ·exact Jk _ (Jk _ (mem_chblocks.2 (Jr e)))
  ·cases e; exact Jp
 ·rcases q with q | q | q | q
  ·rcases hloc with e | e
   ·exact Jr (Jr (by rw [← e]; exact q))
   ·exact Js (by have:vs'.ownBlock=some b:=q; rw [e] at this; cases this; exact Jb _)
  ·exact Jr (Js (Jr q))
  ·exact Jr (Js (Js (Jr q)))
  ·exact Jr (Js (Js (Js q)))
theorem Chart.pushT {w3:World}{vt':Value}{ts':List (Int×Int)}(h:Chart B W cb mb c)(hg:W.grownBy w3 c.vt.ownBlock)(hr:TRow B w3 vt' ts')(hloc:vt'.ownBlock=c.vt.ownBlock∨vt'.ownBlock=some W.heap.size) :
  w3.heap[cb]?=some (.cells #[.int .i64 c.N,c.vs,c.va,c.vf,.map (some mb),c.vt] 67)∧CPost B cb mb c { c with vt:=vt',ts:=ts' } W (w3.setCell ⟨cb,5,none⟩ vt'):=by
 have c3:=(hg.block _ h.lt (fun e=>h.nT.1 e.symm)).trans h.cells
 refine ⟨c3,Chart.wrote c3 5 vt' rfl (h.sup.kept hg (apart_of h.eS h.eT (by decide))) (h.arcs.kept hg (apart_of h.eA h.eT (by decide))) (h.flow.kept hg (apart_of h.eF h.eT (by decide))) hr (h.nodes.grown hg (fun e=>h.nT.2 e.symm)) h.apart h.lb,?_,foot_push (fun b q=>?_)⟩
 ·refine (Only.of_grown' hg (fun b e=>?_)).trans (Only.of_grown' (grown_setCell w3 _ _) (fun b e=>?_))
  ·exact Jk _ (Jk _ (mem_chblocks.2 (Js (Js (Js e)))))
  ·cases e; exact Jp
 ·rcases q with q | q | q | q
  ·exact Jr (Jr q)
  ·exact Jr (Js (Jr q))
  ·exact Jr (Js (Js (Jr q)))
  ·rcases hloc with e | e
   ·exact Jr (Js (Js (Js (by rw [← e]; exact q))))
   ·exact Js (by have:vt'.ownBlock=some b:=q; rw [e] at this; cases this; exact Jb _)
theorem Chart.setN (h:Chart B W cb mb c)(n:Int):CPost B cb mb c { c with N:=n } W (W.setCell ⟨cb,0,none⟩ (.int .i64 n)) :=
 ⟨Chart.wrote h.cells 0 (.int .i64 n) rfl h.sup h.arcs h.flow h.things h.nodes h.apart h.lb,Only.of_grown' (grown_setCell W _ _) (fun b e=>by cases e; exact Jp),fun _ q=>Jr q⟩
theorem Chart.putM (h:Chart B W cb mb c)(a:Int×Int)(n:Int):CPost B cb mb c { c with nm:=put a n c.nm } W (upd Try.prog 64 mb (tv a) (iv n) W):=by
 obtain ⟨_,h2,h3⟩:=run_put kt79 Try.underlying64 h.nodes a n
 have n:∀ {v:Value},v.ownBlock≠some mb→v.ownBlock=none∨v.ownBlock≠some mb:=fun q=>Js q
 refine ⟨⟨(h3.block _ h.lt (by simpa using h.cm)).trans h.cells,h.sup.kept h3 (n h.nS.2),h.arcs.kept h3 (n h.nA.2),h.flow.kept h3 (n h.nF.2),h.things.kept h3 (n h.nT.2),h2,h.apart,h.lb⟩,Only.of_grown' h3 (fun b e=>by cases e; exact Jk _ Jp),fun _ q=>Jr q⟩
end
end
section
open Go.RowKit
theorem cellC {w:World}{b:Nat}{cs:Array Value}{t:TypeId}(h:w.heap[b]?=some (.cells cs t))(i:Nat):w.cell? ⟨b,i,none⟩=cs[i]?:=by simp [World.cell?,h]
theorem frozenC {w:World}{b:Nat}{cs:Array Value}{t:TypeId}(h:w.heap[b]?=some (.cells cs t))(i:Nat):w.frozen? ⟨b,i,none⟩=false:=by simp [World.frozen?,h]
theorem chBoxes {w w2:World}{o1 o2:Obj}(hb:Below ((w.alloc o1).alloc o2).heap.size ((w.alloc o1).alloc o2) w2) :
  w2.heap[w.heap.size]?=some o1∧w2.heap[w.heap.size+1]?=some o2∧w.heap.size<w2.heap.size∧w.heap.size+1<w2.heap.size:=by
 have hz:((w.alloc o1).alloc o2).heap.size=w.heap.size+1+1:=by simp
 have hs:=hb.size
 rw [hz] at hs
 refine ⟨?_,?_,by omega,by omega⟩
 ·rw [hb.block _ (by omega),Below.heap_alloc _ _ _ (by simp)]
  exact (MapKept.heap_alloc w o1).1
 ·rw [hb.block _ (by omega)]
  have:=(MapKept.heap_alloc (w.alloc o1) o2).1
  rwa [show (w.alloc o1).heap.size=w.heap.size+1 by simp] at this
def nodeT (nm:List ((Int×Int)×Int))(t:Int×Int):Int:=(get t nm).getD 0
structure SArc (cb mb s:Nat)(nm:List ((Int×Int)×Int))(f1 f2 t1 t2 n1 n2:Int)(w:World):Prop where
 e1:w.cell? ⟨cb,4,none⟩=some (.map (some mb))
 map:MapAt tv iv w mb nm
 b1:w.cell? ⟨s,0,none⟩=some (.int .i64 f1)
 b2:w.cell? ⟨s,1,none⟩=some (.int .i64 f2)
 b3:w.cell? ⟨s+1,0,none⟩=some (.int .i64 t1)
 b4:w.cell? ⟨s+1,1,none⟩=some (.int .i64 t2)
 m1:nodeT nm (f1,f2)=n1
 m2:nodeT nm (t1,t2)=n2
theorem SArc.look1 {cb mb s:Nat}{nm:List ((Int×Int)×Int)}{f1 f2 t1 t2 n1 n2:Int}{w:World}(h:SArc cb mb s nm f1 f2 t1 t2 n1 n2 w):(Instr.lookup 64 (.map (some mb)) (.agg #[.int .i64 f1,.int .i64 f2]) false).run Try.prog w=.ok (.int .i64 n1) w:=by rw [← h.m1]; exact look2 h.map (f1,f2)
theorem SArc.look2 {cb mb s:Nat}{nm:List ((Int×Int)×Int)}{f1 f2 t1 t2 n1 n2:Int}{w:World}(h:SArc cb mb s nm f1 f2 t1 t2 n1 n2 w):(Instr.lookup 64 (.map (some mb)) (.agg #[.int .i64 t1,.int .i64 t2]) false).run Try.prog w=.ok (.int .i64 n2) w:=by rw [← h.m2]; exact Go.Proofs.Ytjdindfjfpdikab.look2 h.map (t1,t2)
theorem SArc.grown {cb mb s:Nat}{nm:List ((Int×Int)×Int)}{f1 f2 t1 t2 n1 n2:Int}{w w':World}{row:Option Nat}(h:SArc cb mb s nm f1 f2 t1 t2 n1 n2 w)(hg:w.grownBy w' row)(h1:some cb≠row)(h2:some mb≠row)(h3:some s≠row)(h4:some (s+1)≠row):SArc cb mb s nm f1 f2 t1 t2 n1 n2 w' :=
 ⟨hg.cell h.e1 h1,h.map.grown hg h2,hg.cell h.b1 h3,hg.cell h.b2 h3,hg.cell h.b3 h4,hg.cell h.b4 h4,h.m1,h.m2⟩
theorem SArc.wrote {cb mb s:Nat}{nm:List ((Int×Int)×Int)}{f1 f2 t1 t2 n1 n2:Int}{w:World}(h:SArc cb mb s nm f1 f2 t1 t2 n1 n2 w)(h2:cb≠mb)(h3:cb≠s)(h4:cb≠s+1)(v:Value):SArc cb mb s nm f1 f2 t1 t2 n1 n2 (w.setCell ⟨cb,2,none⟩ v):=by
 have far:∀ {b i:Nat} {x:Value},cb≠b→w.cell? ⟨b,i,none⟩=some x→(w.setCell ⟨cb,2,none⟩ v).cell? ⟨b,i,none⟩=some x:=fun hne e=>(World.cell?_setCell_other w _ _ v (fun q=>hne (by cases q; rfl))).trans e
 exact ⟨(World.cell?_setCell_other w _ _ v (fun q=>by cases q)).trans h.e1,h.map.grown (grown_setCell w ⟨cb,2,none⟩ v) (fun e=>h2 (by cases e; rfl)),far h3 h.b1,far h3 h.b2,far h4 h.b3,far h4 h.b4,h.m1,h.m2⟩
section
variable {B:Nat}{w:World}{cb mb:Nat}
theorem addArc_any {c:Ch}(h:Chart B w cb mb c)(f1 f2 t1 t2 most cost:Int)(hal:c.al.length≤100000)(hfl:c.fl.length≤100000)(hB:B≤w.heap.size) :
  Calls Try.prog 54 #[.pointer (some ⟨cb,0,none⟩),.agg #[.int .i64 f1,.int .i64 f2],.agg #[.int .i64 t1,.int .i64 t2],.int .i64 most,.int .i64 cost] w fun e w'=>e=.returned (.tuple #[])∧∃ va vf,CPost B cb mb c { c with va:=va,al:=c.al ++ [⟨nodeT c.nm (f1,f2),nodeT c.nm (t1,t2),most,cost⟩],vf:=vf,fl:=c.fl ++ [0] } w w':=by
 obtain ⟨vs,va,vf,vt,N,sup,al,fl,nm,ts⟩:=c
 obtain ⟨i9,hi9,hy0,hy1,hy2⟩:=info_parts infoR91
 obtain ⟨n1,hn1⟩:∃ x,nodeT nm (f1,f2)=x:=⟨_,rfl⟩
 obtain ⟨n2,hn2⟩:∃ x,nodeT nm (t1,t2)=x:=⟨_,rfl⟩
 show Calls _ _ _ _ fun e w'=>e=.returned (.tuple #[])∧∃ va' vf',CPost B cb mb _ { vs:=vs,va:=va',vf:=vf',vt:=vt,N:=N,sup:=sup,al:=al ++ [⟨nodeT nm (f1,f2),nodeT nm (t1,t2),most,cost⟩],fl:=fl ++ [0],nm:=nm,ts:=ts } w w'
 rw [hn1,hn2]
 have hal':al.length≤100000:=hal
 have hfl':fl.length≤100000:=hfl
 obtain ⟨W1,hW1⟩:∃ W1,(w.alloc (.cells #[.int .i64 f1,.int .i64 f2] 79)).alloc (.cells #[.int .i64 t1,.int .i64 t2] 79)=W1:=⟨_,rfl⟩
 have b1:Below w.heap.size w W1:=by rw [← hW1]; exact ((Jd _ _).alloc (Jb _) _).alloc (by simp) _
 have z1:W1.heap.size=w.heap.size+1+1:=by rw [← hW1]; simp
 have x0:W1.cell? ⟨w.heap.size,0,none⟩=some (.int .i64 f1)∧W1.cell? ⟨w.heap.size,1,none⟩=some (.int .i64 f2)∧W1.cell? ⟨w.heap.size+1,0,none⟩=some (.int .i64 t1)∧W1.cell? ⟨w.heap.size+1,1,none⟩=some (.int .i64 t2):=by
  obtain ⟨o1,o2,_,_⟩:=chBoxes (w:=w) (o1:=.cells #[.int .i64 f1,.int .i64 f2] 79) (o2:=.cells #[.int .i64 t1,.int .i64 t2] 79) (w2:=W1) (by rw [hW1]; exact Jd _ _)
  exact ⟨by rw [cellC o1]; rfl,by rw [cellC o1]; rfl,by rw [cellC o2]; rfl,by rw [cellC o2]; rfl⟩
 obtain ⟨x1,x2,x3,x4⟩:=x0
 have g0:=h.keep b1
 have gx:=g0.keep (Jd _ _).drew
 have l1:(Instr.lookup 64 (.map (some mb)) (.agg #[.int .i64 f1,.int .i64 f2]) false).run Try.prog W1.drew=.ok (.int .i64 n1) W1.drew:=by rw [← hn1]; exact look2 gx.nodes (f1,f2)
 have l2:(Instr.lookup 64 (.map (some mb)) (.agg #[.int .i64 t1,.int .i64 t2]) false).run Try.prog W1.drew=.ok (.int .i64 n2) W1.drew:=by rw [← hn2]; exact look2 gx.nodes (t1,t2)
 have q2:W1.cell? ⟨cb,2,none⟩=some va:=g0.c2
 have q4:W1.cell? ⟨cb,4,none⟩=some (.map (some mb)):=g0.c4
 have qz:cb<W1.heap.size:=g0.lt
 have bA:Below W1.drew.heap.size W1.drew (W1.drew.alloc (.cells #[.int .i64 n1,.int .i64 n2,.int .i64 most,.int .i64 cost] 50)):=(Jd _ _).alloc (Jb _) _
 have gA:=gx.keep bA
 have q2A:(W1.alloc (.cells #[.int .i64 n1,.int .i64 n2,.int .i64 most,.int .i64 cost] 50)).cell? ⟨cb,2,none⟩=some va:=gA.c2
 have q3A:cb<W1.heap.size+1:=by omega
 have hz1:w.heap.size<W1.heap.size:=by omega
 have hz2:w.heap.size+1<W1.heap.size:=by omega
 have hBW:B≤W1.heap.size:=by omega
 obtain ⟨pva,cva,hva⟩:∃ p c,va=.slice p al.length c:=by
  rcases h.arcs.2 with ⟨e1,e2⟩ | ⟨g,cap,cur,e1,_⟩
  ·exact ⟨none,0,by have e1:va=.slice none 0 0:=e1; have e2:al.length=0:=e2; rw [e1,e2]⟩
  ·exact ⟨_,_,e1⟩
 subst hva
 have hrA:(W1.drew.alloc (.cells #[.int .i64 n1,.int .i64 n2,.int .i64 most,.int .i64 cost] 50)).ownsRow B 50 4 (.slice pva al.length cva) al.length (al.flatMap cellsAr):=gA.arcs
 have H1:=hid (Jc hW1 (Jc b1 (Jc h gA)))
 have hS0:SArc cb mb w.heap.size nm f1 f2 t1 t2 n1 n2 W1.drew:=⟨q4,gx.nodes,x1,x2,x3,x4,hn1,hn2⟩
 have HS:=hid (show SArc cb mb w.heap.size nm f1 f2 t1 t2 n1 n2 (W1.drew.alloc (.cells #[.int .i64 n1,.int .i64 n2,.int .i64 most,.int .i64 cost] 50))∧some w.heap.size≠(Value.slice pva al.length cva).ownBlock∧some (w.heap.size+1)≠(Value.slice pva al.length cva).ownBlock∧cb≠mb∧cb≠w.heap.size∧cb≠w.heap.size+1 from ⟨hS0.grown (World.grownBy_alloc _ _ none) (by simp) (by simp) (by simp) (by simp),fun e=>by have:=h.arcs.lt _ e.symm; omega,fun e=>by have:=h.arcs.lt _ e.symm; omega,h.cm,by have:=h.lt; omega,by have:=h.lt; omega⟩)
 clear hW1 b1 gx g0 bA hn1 hn2 z1 h l1 l2
 go_enter Try.func54,Try.ntmps54
 go_upto_region 1 with fail
 rw [H1.out.1]
 refine wp_region_held_drew (S:=SArc cb mb w.heap.size nm f1 f2 t1 t2 n1 n2) (by kernel_rfl) hS0 (fun _=>?_)
 refine tkH (v:=?_) 0 10 hS0 ?_ ?_; rotate_left 1
 ·(rintro w' hq; have e1:=hq.e1; have e2:=hq.look1; have e3:=hq.look2; have e4:=hq.b1; have e5:=hq.b2; have e6:=hq.b3; have e7:=hq.b4; clear hq; go_simp; try with_reducible rfl)
 simp only [Act.put,Jh,Ji,Jj]
 refine tkH (v:=?_) 1 11 hS0 ?_ ?_; rotate_left 1
 ·(rintro w' hq; have e1:=hq.e1; have e2:=hq.look1; have e3:=hq.look2; have e4:=hq.b1; have e5:=hq.b2; have e6:=hq.b3; have e7:=hq.b4; clear hq; go_simp; try with_reducible rfl)
 simp only [Act.put,Jh,Ji,Jj]
 refine tkH (v:=?_) 2 12 hS0 ?_ ?_; rotate_left 1
 ·(rintro w' hq; have e1:=hq.e1; have e2:=hq.look1; have e3:=hq.look2; have e4:=hq.b1; have e5:=hq.b2; have e6:=hq.b3; have e7:=hq.b4; clear hq; go_simp; try with_reducible rfl)
 simp only [Act.put,Jh,Ji,Jj]
 refine tkH (v:=?_) 3 13 hS0 ?_ ?_; rotate_left 1
 ·(rintro w' hq; have e1:=hq.e1; have e2:=hq.look1; have e3:=hq.look2; have e4:=hq.b1; have e5:=hq.b2; have e6:=hq.b3; have e7:=hq.b4; clear hq; go_simp; try with_reducible rfl)
 simp only [Act.put,Jh,Ji,Jj]
 refine tkH (v:=?_) 4 14 hS0 ?_ ?_; rotate_left 1
 ·(rintro w' hq; have e1:=hq.e1; have e2:=hq.look1; have e3:=hq.look2; have e4:=hq.b1; have e5:=hq.b2; have e6:=hq.b3; have e7:=hq.b4; clear hq; go_simp; try with_reducible rfl)
 simp only [Act.put,Jh,Ji,Jj]
 refine tkH (v:=?_) 6 16 hS0 ?_ ?_; rotate_left 1
 ·(rintro w' hq; have e1:=hq.e1; have e2:=hq.look1; have e3:=hq.look2; have e4:=hq.b1; have e5:=hq.b2; have e6:=hq.b3; have e7:=hq.b4; clear hq; go_simp; try with_reducible rfl)
 simp only [Act.put,Jh,Ji,Jj]
 refine tkH (v:=?_) 7 17 hS0 ?_ ?_; rotate_left 1
 ·(rintro w' hq; have e1:=hq.e1; have e2:=hq.look1; have e3:=hq.look2; have e4:=hq.b1; have e5:=hq.b2; have e6:=hq.b3; have e7:=hq.b4; clear hq; go_simp; try with_reducible rfl)
 simp only [Act.put,Jh,Ji,Jj]
 refine tkH (v:=?_) 8 18 hS0 ?_ ?_; rotate_left 1
 ·(rintro w' hq; have e1:=hq.e1; have e2:=hq.look1; have e3:=hq.look2; have e4:=hq.b1; have e5:=hq.b2; have e6:=hq.b3; have e7:=hq.b4; clear hq; go_simp; try with_reducible rfl)
 simp only [Act.put,Jh,Ji,Jj]
 refine tkH (v:=?_) 9 19 hS0 ?_ ?_; rotate_left 1
 ·(rintro w' hq; have e1:=hq.e1; have e2:=hq.look1; have e3:=hq.look2; have e4:=hq.b1; have e5:=hq.b2; have e6:=hq.b3; have e7:=hq.b4; clear hq; go_simp; try with_reducible rfl)
 simp only [Act.put,Jh,Ji,Jj]
 refine tkH (v:=?_) 10 20 hS0 ?_ ?_; rotate_left 1
 ·(rintro w' hq; have e1:=hq.e1; have e2:=hq.look1; have e3:=hq.look2; have e4:=hq.b1; have e5:=hq.b2; have e6:=hq.b3; have e7:=hq.b4; clear hq; go_simp; try with_reducible rfl)
 simp only [Act.put,Jh,Ji,Jj]
 refine tkH (v:=?_) 11 21 hS0 ?_ ?_; rotate_left 1
 ·(rintro w' hq; have e1:=hq.e1; have e2:=hq.look1; have e3:=hq.look2; have e4:=hq.b1; have e5:=hq.b2; have e6:=hq.b3; have e7:=hq.b4; clear hq; go_simp; try with_reducible rfl)
 simp only [Act.put,Jh,Ji,Jj]
 refine tkH (v:=?_) 12 22 hS0 ?_ ?_; rotate_left 1
 ·(rintro w' hq; have e1:=hq.e1; have e2:=hq.look1; have e3:=hq.look2; have e4:=hq.b1; have e5:=hq.b2; have e6:=hq.b3; have e7:=hq.b4; clear hq; go_simp; try with_reducible rfl)
 simp only [Act.put,Jh,Ji,Jj]
 refine tkH (v:=?_) 13 23 hS0 ?_ ?_; rotate_left 1
 ·(rintro w' hq; have e1:=hq.e1; have e2:=hq.look1; have e3:=hq.look2; have e4:=hq.b1; have e5:=hq.b2; have e6:=hq.b3; have e7:=hq.b4; clear hq; go_simp; try with_reducible rfl)
 simp only [Act.put,Jh,Ji,Jj]
 refine tkH (v:=?_) 14 24 hS0 ?_ ?_; rotate_left 1
 ·(rintro w' hq; have e1:=hq.e1; have e2:=hq.look1; have e3:=hq.look2; have e4:=hq.b1; have e5:=hq.b2; have e6:=hq.b3; have e7:=hq.b4; clear hq; go_simp; try with_reducible rfl)
 simp only [Act.put,Jh,Ji,Jj]
 refine tkH (v:=?_) 15 25 hS0 ?_ ?_; rotate_left 1
 ·(rintro w' hq; have e1:=hq.e1; have e2:=hq.look1; have e3:=hq.look2; have e4:=hq.b1; have e5:=hq.b2; have e6:=hq.b3; have e7:=hq.b4; clear hq; go_simp; try with_reducible rfl)
 simp only [Act.put,Jh,Ji,Jj]
 refine tkH (v:=?_) 16 26 hS0 ?_ ?_; rotate_left 1
 ·(rintro w' hq; have e1:=hq.e1; have e2:=hq.look1; have e3:=hq.look2; have e4:=hq.b1; have e5:=hq.b2; have e6:=hq.b3; have e7:=hq.b4; clear hq; go_simp; try with_reducible rfl)
 simp only [Act.put,Jh,Ji,Jj]
 refine tkH (v:=?_) 17 27 hS0 ?_ ?_; rotate_left 1
 ·(rintro w' hq; have e1:=hq.e1; have e2:=hq.look1; have e3:=hq.look2; have e4:=hq.b1; have e5:=hq.b2; have e6:=hq.b3; have e7:=hq.b4; clear hq; go_simp; try with_reducible rfl)
 simp only [Act.put,Jh,Ji,Jj]
 refine tkH (v:=?_) 18 28 hS0 ?_ ?_; rotate_left 1
 ·(rintro w' hq; have e1:=hq.e1; have e2:=hq.look1; have e3:=hq.look2; have e4:=hq.b1; have e5:=hq.b2; have e6:=hq.b3; have e7:=hq.b4; clear hq; go_simp; try with_reducible rfl)
 simp only [Act.put,Jh,Ji,Jj]
 refine tkH (v:=?_) 19 29 hS0 ?_ ?_; rotate_left 1
 ·(rintro w' hq; have e1:=hq.e1; have e2:=hq.look1; have e3:=hq.look2; have e4:=hq.b1; have e5:=hq.b2; have e6:=hq.b3; have e7:=hq.b4; clear hq; go_simp; try with_reducible rfl)
 simp only [Act.put,Jh,Ji,Jj]
 refine tkH (v:=?_) 20 30 hS0 ?_ ?_; rotate_left 1
 ·(rintro w' hq; have e1:=hq.e1; have e2:=hq.look1; have e3:=hq.look2; have e4:=hq.b1; have e5:=hq.b2; have e6:=hq.b3; have e7:=hq.b4; clear hq; go_simp; try with_reducible rfl)
 simp only [Act.put,Jh,Ji,Jj]
 refine wpAnyH_ready (rs:=[5,21]) (by kernel_rfl) (by simp) ?_
 refine (AllReadyH.cons rfl (fun K hK=>?_) (AllReadyH.cons rfl (fun K hK=>?_) AllReadyH.nil))
 ·go_simp
  refine hK.out _ _ hS0 (fun _=>?_)
  clear hK K
  refine wpAnyH_ready (rs:=[21]) (by kernel_rfl) (by simp) ?_
  refine (AllReadyH.cons rfl (fun K hK=>?_) AllReadyH.nil)
  go_simp
  refine hK.out _ _ HS.out.1 (fun _=>?_)
  clear hK K
  refine wpAnyH_ready (rs:=[22]) (by kernel_rfl) (by simp) ?_
  refine AllReadyH.cons rfl (fun K hK=>?_) AllReadyH.nil
  refine step_app rfl _ _ 37 rfl B 50 i9 (.agg #[.int .i64 0,.int .i64 0,.int .i64 0,.int .i64 0]) 4 32 Try.underlying37 hi9 hy0 hy1 hy2 rfl (by decide) _ _ _ rfl hrA ⟨W1.heap.size,0,none⟩ 1 1 [.int .i64 n1,.int .i64 n2,.int .i64 most,.int .i64 cost] rfl rfl (new4R W1.drew _ _ _ _ _) (by intro u hu; simp at hu; rcases hu with rfl | rfl | rfl | rfl <;> rfl) (by unfold maxLen; omega) (by omega) (by simp; omega) ?_
  intro va' Z5 hrow hg hloc
  obtain ⟨pu,cu,hvu⟩:=ownsRow_shape hrow
  subst hvu
  obtain ⟨d3,HN⟩:=H1.out.2.2.2.pushA hg (ARow.snoc (a:=⟨n1,n2,most,cost⟩) hrow) hloc
  have hS5:SArc cb mb w.heap.size nm f1 f2 t1 t2 n1 n2 Z5:=HS.out.1.grown hg (fun e=>H1.out.2.2.2.nA.1 e.symm) (fun e=>H1.out.2.2.2.nA.2 e.symm) HS.out.2.1 HS.out.2.2.1
  have k2:=cellC d3 2
  simp only [Jg,Jf,Je] at k2
  have k3:=frozenC d3 2
  have k4:=(Ja.1 d3).1
  have HX:=hid HN
  clear HN hrow hg hloc d3
  refine hK.out _ _ hS5 (fun _=>?_)
  clear hK K
  refine tkH (v:=?_) 23 33 hS5 ?_ ?_; rotate_left 1
  ·(rintro w' hq; have e1:=hq.e1; have e2:=hq.look1; have e3:=hq.look2; have e4:=hq.b1; have e5:=hq.b2; have e6:=hq.b3; have e7:=hq.b4; clear hq; go_simp; try with_reducible rfl)
  refine tkH (v:=?_) 24 34 hS5 ?_ ?_; rotate_left 1
  ·(rintro w' hq; have e1:=hq.e1; have e2:=hq.look1; have e3:=hq.look2; have e4:=hq.b1; have e5:=hq.b2; have e6:=hq.b3; have e7:=hq.b4; clear hq; go_simp; try with_reducible rfl)
  refine tkH (v:=?_) 25 35 hS5 ?_ ?_; rotate_left 1
  ·(rintro w' hq; have e1:=hq.e1; have e2:=hq.look1; have e3:=hq.look2; have e4:=hq.b1; have e5:=hq.b2; have e6:=hq.b3; have e7:=hq.b4; clear hq; go_simp; try with_reducible rfl)
  refine wpAnyH_ready (rs:=[26]) (by kernel_rfl) (by simp) ?_
  refine AllReadyH.cons rfl (fun K hK=>?_) AllReadyH.nil
  go_simp
  refine hK.out _ _ (hS5.wrote HS.out.2.2.2.1 HS.out.2.2.2.2.1 HS.out.2.2.2.2.2 _) (fun _=>?_)
  clear hK K
  refine wpAnyH_done (by kernel_rfl) ?_ _
  have Hc:=hid (HX.out.1)
  have p3:=Hc.out.c3
  have p4:=Hc.out.lt
  simp only at p3
  clear k2 k3 k4
  obtain ⟨Z6,hZ6⟩:∃ Z6,Z5.setCell ⟨cb,2,none⟩ (.slice pu (al.length+1) cu)=Z6:=⟨_,rfl⟩
  rw [hZ6] at HX Hc p3 p4 ⊢
  have b7:Below Z6.heap.size Z6 (Z6.alloc (.cells #[.int .i64 0] 3)):=(Jd _ _).alloc (Jb _) _
  have g7:=Hc.out.keep b7
  have hrF:NRow B (Z6.alloc (.cells #[.int .i64 0] 3)) vf fl:=g7.flow
  have hB6:B≤Z6.heap.size:=Nat.le_trans Hc.out.lb.1 (by omega)
  obtain ⟨pf,cf,hvf⟩:=hrF.sl
  subst hvf
  have H7:=hid (Jc g7 b7)
  clear g7 b7 hZ6
  go_wp2_with (first
   | (at_builtin; refine wpList_push _ B 0 _ _ rfl _ _ rfl rfl hrF Z6.heap.size rfl (by simp) (by simp; omega) (by omega) ?_; intro vf' Z8 hrow8 hg8 hloc8; obtain ⟨pw,cw,hvw⟩:=hrow8.sl; subst hvw; obtain ⟨d8,HN8⟩:=H7.out.1.pushF hg8 hrow8 hloc8; rw [Jo,List.length_singleton] at HN8; have k2:=cellC d8 3; simp only [Jg,Jf,Je] at k2; have k3:=frozenC d8 3; have k4:=(Ja.1 d8).1)
   | fail)
  go_end0
  refine ⟨rfl,_,_,CPost.ahead H1.out.2.2.1 (next2 (next2 H1.out.2.1 (Jd _ _).drew) ((Jd _ _).alloc (Jb _) _)) (CPost.trans HX.out (CPost.trans ⟨H7.out.1,Only.of_below H7.out.2,fun _ q=>Jr q⟩ HN8))⟩
 ·go_simp
  refine hK.out _ _ HS.out.1 (fun _=>?_)
  clear hK K
  refine wpAnyH_ready (rs:=[5]) (by kernel_rfl) (by simp) ?_
  refine (AllReadyH.cons rfl (fun K hK=>?_) AllReadyH.nil)
  go_simp
  refine hK.out _ _ HS.out.1 (fun _=>?_)
  clear hK K
  refine wpAnyH_ready (rs:=[22]) (by kernel_rfl) (by simp) ?_
  refine AllReadyH.cons rfl (fun K hK=>?_) AllReadyH.nil
  refine step_app rfl _ _ 37 rfl B 50 i9 (.agg #[.int .i64 0,.int .i64 0,.int .i64 0,.int .i64 0]) 4 32 Try.underlying37 hi9 hy0 hy1 hy2 rfl (by decide) _ _ _ rfl hrA ⟨W1.heap.size,0,none⟩ 1 1 [.int .i64 n1,.int .i64 n2,.int .i64 most,.int .i64 cost] rfl rfl (new4R W1.drew _ _ _ _ _) (by intro u hu; simp at hu; rcases hu with rfl | rfl | rfl | rfl <;> rfl) (by unfold maxLen; omega) (by omega) (by simp; omega) ?_
  intro va' Z5 hrow hg hloc
  obtain ⟨pu,cu,hvu⟩:=ownsRow_shape hrow
  subst hvu
  obtain ⟨d3,HN⟩:=H1.out.2.2.2.pushA hg (ARow.snoc (a:=⟨n1,n2,most,cost⟩) hrow) hloc
  have hS5:SArc cb mb w.heap.size nm f1 f2 t1 t2 n1 n2 Z5:=HS.out.1.grown hg (fun e=>H1.out.2.2.2.nA.1 e.symm) (fun e=>H1.out.2.2.2.nA.2 e.symm) HS.out.2.1 HS.out.2.2.1
  have k2:=cellC d3 2
  simp only [Jg,Jf,Je] at k2
  have k3:=frozenC d3 2
  have k4:=(Ja.1 d3).1
  have HX:=hid HN
  clear HN hrow hg hloc d3
  refine hK.out _ _ hS5 (fun _=>?_)
  clear hK K
  refine tkH (v:=?_) 23 33 hS5 ?_ ?_; rotate_left 1
  ·(rintro w' hq; have e1:=hq.e1; have e2:=hq.look1; have e3:=hq.look2; have e4:=hq.b1; have e5:=hq.b2; have e6:=hq.b3; have e7:=hq.b4; clear hq; go_simp; try with_reducible rfl)
  refine tkH (v:=?_) 24 34 hS5 ?_ ?_; rotate_left 1
  ·(rintro w' hq; have e1:=hq.e1; have e2:=hq.look1; have e3:=hq.look2; have e4:=hq.b1; have e5:=hq.b2; have e6:=hq.b3; have e7:=hq.b4; clear hq; go_simp; try with_reducible rfl)
  refine tkH (v:=?_) 25 35 hS5 ?_ ?_; rotate_left 1
  ·(rintro w' hq; have e1:=hq.e1; have e2:=hq.look1; have e3:=hq.look2; have e4:=hq.b1; have e5:=hq.b2; have e6:=hq.b3; have e7:=hq.b4; clear hq; go_simp; try with_reducible rfl)
  refine wpAnyH_ready (rs:=[26]) (by kernel_rfl) (by simp) ?_
  refine AllReadyH.cons rfl (fun K hK=>?_) AllReadyH.nil
  go_simp
  refine hK.out _ _ (hS5.wrote HS.out.2.2.2.1 HS.out.2.2.2.2.1 HS.out.2.2.2.2.2 _) (fun _=>?_)
  clear hK K
  refine wpAnyH_done (by kernel_rfl) ?_ _
  have Hc:=hid (HX.out.1)
  have p3:=Hc.out.c3
  have p4:=Hc.out.lt
  simp only at p3
  clear k2 k3 k4
  obtain ⟨Z6,hZ6⟩:∃ Z6,Z5.setCell ⟨cb,2,none⟩ (.slice pu (al.length+1) cu)=Z6:=⟨_,rfl⟩
  rw [hZ6] at HX Hc p3 p4 ⊢
  have b7:Below Z6.heap.size Z6 (Z6.alloc (.cells #[.int .i64 0] 3)):=(Jd _ _).alloc (Jb _) _
  have g7:=Hc.out.keep b7
  have hrF:NRow B (Z6.alloc (.cells #[.int .i64 0] 3)) vf fl:=g7.flow
  have hB6:B≤Z6.heap.size:=Nat.le_trans Hc.out.lb.1 (by omega)
  obtain ⟨pf,cf,hvf⟩:=hrF.sl
  subst hvf
  have H7:=hid (Jc g7 b7)
  clear g7 b7 hZ6
  go_wp2_with (first
   | (at_builtin; refine wpList_push _ B 0 _ _ rfl _ _ rfl rfl hrF Z6.heap.size rfl (by simp) (by simp; omega) (by omega) ?_; intro vf' Z8 hrow8 hg8 hloc8; obtain ⟨pw,cw,hvw⟩:=hrow8.sl; subst hvw; obtain ⟨d8,HN8⟩:=H7.out.1.pushF hg8 hrow8 hloc8; rw [Jo,List.length_singleton] at HN8; have k2:=cellC d8 3; simp only [Jg,Jf,Je] at k2; have k3:=frozenC d8 3; have k4:=(Ja.1 d8).1)
   | fail)
  go_end0
  refine ⟨rfl,_,_,CPost.ahead H1.out.2.2.1 (next2 (next2 H1.out.2.1 (Jd _ _).drew) ((Jd _ _).alloc (Jb _) _)) (CPost.trans HX.out (CPost.trans ⟨H7.out.1,Only.of_below H7.out.2,fun _ q=>Jr q⟩ HN8))⟩
end
end
section
open Go.RowKit
def addNm (nm:List ((Int×Int)×Int)):Nat→List (Int×Int)→List ((Int×Int)×Int)
 | _,[]=>nm
 | n,x :: r=>addNm (put x (n:Int) nm) (n+1) r
theorem addNm_snoc (x:Int×Int):∀ (ys:List (Int×Int))(nm:List ((Int×Int)×Int))(n:Nat),addNm nm n (ys ++ [x])=put x ((n+ys.length:Nat):Int) (addNm nm n ys)
 | [],nm,n=>rfl
 | y :: r,nm,n=>by
  show addNm (put y (n:Int) nm) (n+1) (r ++ [x])=put x ((n+(r.length+1):Nat):Int) (addNm (put y (n:Int) nm) (n+1) r)
  rw [addNm_snoc x r _ (n+1),show n+1+r.length=n+(r.length+1) by omega]
theorem infoT:(Try.prog.info? 79).map (fun i=>(i.zero,i.size,i.bytes))=some (some (.agg #[.int .i64 0,.int .i64 0]),2,16):=by kernel_rfl
theorem new2R (w:World)(x y:Value)(t:TypeId):∀ (j:Nat)(q:Value),[x,y][j]?=some q→(w.alloc (.cells #[x,y] t)).cell? ((⟨w.heap.size,0,none⟩:Addr).add j)=some q:=by
 intro j q hj
 rw [Addr.add_lit,Nat.zero_add]
 simp only [World.cell?,heap_alloc_new]
 simpa using hj
theorem TRow.cells {b0:Nat}{w:World}{p:Option Addr}{n c:Nat}{xs:List (Int×Int)}(h:TRow b0 w (.slice p n c) xs){k:Nat}(hk:k<xs.length):∃ g,p=some ⟨g,0,none⟩∧g<w.heap.size∧w.cell? ⟨g,k*2,none⟩=some (.int .i64 xs[k].1)∧w.cell? ⟨g,k*2+1,none⟩=some (.int .i64 xs[k].2):=by
 rcases h.2 with ⟨_,e⟩ | ⟨g,cap,cur,e,_,hg,_,_,_,ht⟩
 ·omega
 ·cases e
  have:=row_cell hg ht hk
  exact ⟨g,rfl,(Ja.1 hg).1,this.1,this.2⟩
def chNodes (c:Ch)(vs vt:Value)(supply:Int)(xs:List (Int×Int)):Ch:={ c with vs:=vs,vt:=vt,sup:=c.sup ++ List.replicate xs.length supply,nm:=addNm c.nm c.ts.length xs,ts:=c.ts ++ xs }
section
variable {B:Nat}{w:World}{cb mb:Nat}
theorem addNodes_any {c:Ch}(h:Chart B w cb mb c)(supply:Int)(va:Value)(xs:List (Int×Int))(b9:Nat)(hx:TRow b9 w va xs)(hd:∀ b,va.ownBlock=some b→b∉c.foot cb mb)(hts:c.ts.length+xs.length≤10000)(hsl:c.sup.length+xs.length≤10000) :
  Calls Try.prog 38 #[.pointer (some ⟨cb,0,none⟩),.int .i64 supply,va] w fun e w'=>e=.returned (.tuple #[])∧∃ vs vt,CPost B cb mb c { chNodes c vs vt supply xs with N:=((c.ts.length+xs.length:Nat):Int) } w w':=by
 obtain ⟨pa,ca,hva⟩:=hx.sl
 subst hva
 obtain ⟨iT,hiT,ht0,ht1,ht2⟩:=info_parts infoT
 have H0:=hid (Jc h (Jc hx hd))
 clear h hx hd
 go_enter Try.func38,Try.ntmps38
 go_wp2_with fail
 go_loopg [10] xs.length (fun gk iv wr=>∃ (k:Nat) (vs vt:Value),k≤xs.length∧xs.length - k≤gk∧iv=.int .i64 k∧Hid (CPost B cb mb c (chNodes c vs vt supply (xs.take k)) w wr))
 case atStart=>exact ⟨0,c.vs,c.vt,Jq _,by omega,rfl,(show CPost B cb mb c (chNodes c c.vs c.vt supply (xs.take 0)) w w from by have:=CPost.refl H0.out.1; simpa [chNodes,addNm] using this)⟩
 case' round=>skip
 obtain ⟨k,vs,vt,hk,hgk,rfl,H1⟩:=hrel
 rename World=>Z0
 by_cases hlt:k<xs.length
 ·have hx0:TRow b9 Z0 (.slice pa xs.length ca) xs:=by
   have h1:=H0.out.2.1
   refine ⟨h1.1,?_⟩
   rcases h1.2 with q | ⟨g,cap,cur,e,e0,hg,q⟩
   ·exact Jr q
   ·exact Js ⟨g,cap,cur,e,e0,(H1.out.2.1.block g (Ja.1 hg).1 (H0.out.2.2 g (by rw [e]; rfl))).trans hg,q⟩
  obtain ⟨g,rfl,hgl,q0,q1⟩:=hx0.cells hlt
  obtain ⟨x1,x2,hxk⟩:∃ x1 x2,xs[k]=(x1,x2):=⟨_,_,rfl⟩
  rw [hxk] at q0 q1
  have hkI:(k:Int)<(xs.length:Int):=by omega
  obtain ⟨c1,hc1⟩:∃ c1,chNodes c vs vt supply (xs.take k)=c1:=⟨_,rfl⟩
  obtain ⟨vs1,va1,vf1,vt1,N1,sup1,al1,fl1,nm1,ts1⟩:=c1
  obtain ⟨m,hm⟩:∃ m:Nat,c.ts.length+k=m:=⟨_,rfl⟩
  have hts1:ts1.length=m:=by have:=congrArg (fun c=>c.ts.length) hc1; simp [chNodes] at this; omega
  have hsl1:sup1.length≤10000:=by have:=congrArg (fun c=>c.sup.length) hc1; simp [chNodes] at this; omega
  have P1:=H1.out
  rw [hc1] at P1
  obtain ⟨pt,ct,hvt⟩:∃ p c,vt1=.slice p m c:=by obtain ⟨p,c,e⟩:=P1.1.things.sl; exact ⟨p,c,by rw [← hts1]; exact e⟩
  subst hvt
  obtain ⟨ps,cs,hvs⟩:∃ p c,vs1=.slice p sup1.length c:=P1.1.sup.sl
  subst hvs
  obtain ⟨Z1,hZ1⟩:∃ Z1,Z0.alloc (.cells #[.int .i64 x1,.int .i64 x2] 79)=Z1:=⟨_,rfl⟩
  have b1:Below Z0.heap.size Z0 Z1:=by rw [← hZ1]; exact (Jd _ _).alloc (Jb _) _
  have X1:Z1.heap[Z0.heap.size]?=some (.cells #[.int .i64 x1,.int .i64 x2] 79):=by rw [← hZ1]; exact heap_alloc_new Z0 _
  have P2:=P1.behind b1
  have P2d:=P2.behind (Jd _ _).drew
  have y4:Z1.cell? ⟨cb,4,none⟩=some (.map (some mb)):=P2.1.c4
  have y5:Z1.cell? ⟨cb,5,none⟩=some (.slice pt m ct):=P2.1.c5
  have yx0:=cellC X1 0
  have yx1:=cellC X1 1
  simp only [Jg,Jf,Je] at yx0 yx1
  have yz:Z0.heap.size<Z1.heap.size:=(Ja.1 X1).1
  have yc:cb<Z1.heap.size:=P2.1.lt
  have eu:(Instr.mapUpdate 64 (.map (some mb)) (.agg #[.int .i64 x1,.int .i64 x2]) (.int .i64 (m:Int))).run Try.prog Z1.drew=.ok () (upd Try.prog 64 mb (tv (x1,x2)) (iv (m:Int)) Z1.drew):=(run_put kt79 Try.underlying64 P2d.1.nodes (x1,x2) _).1
  have P3:=P2d.trans (P2d.1.putM (x1,x2) (m:Int))
  have hne:mb≠Z0.heap.size:=by have:=P1.1.nodes.lt; omega
  have HP:=hid (Jc P3 (Jc hZ1 (Jc X1 (Jc hc1 P2d.1.nodes))))
  clear P1 P2 P2d P3 X1 hc1 H1 hx0
  go_upto_region 3 with fail
  go_region
  obtain ⟨Z2,hZ2⟩:∃ Z2,upd Try.prog 64 mb (tv (x1,x2)) (iv (m:Int)) Z1.drew=Z2:=⟨_,rfl⟩
  rw [hZ2]
  have P3:=HP.out.1
  rw [hZ2] at P3
  have hg2:=(run_put kt79 Try.underlying64 (HP.out.2.2.2.2) (x1,x2) (m:Int)).2.2
  rw [hZ2] at hg2
  have X2:Z2.heap[Z0.heap.size]?=some (.cells #[.int .i64 x1,.int .i64 x2] 79):=(hg2.block _ (by have:Z1.drew.heap.size=Z1.heap.size:=rfl; omega) (by simpa using hne.symm)).trans HP.out.2.2.1
  have r0:=cellC X2 0
  have r1:=cellC X2 1
  simp only [Jg,Jf,Je] at r0 r1
  have r5:Z2.cell? ⟨cb,5,none⟩=some (.slice pt m ct):=P3.1.c5
  have rz:cb<Z2.heap.size:=P3.1.lt
  have rz0:Z0.heap.size<Z2.heap.size:=(Ja.1 X2).1
  have bA:Below Z2.drew.heap.size Z2.drew (Z2.drew.alloc (.cells #[.int .i64 x1,.int .i64 x2] 79)):=(Jd _ _).alloc (Jb _) _
  have PA:=(P3.behind (Jd _ _).drew).behind bA
  have r5A:(Z2.alloc (.cells #[.int .i64 x1,.int .i64 x2] 79)).cell? ⟨cb,5,none⟩=some (.slice pt m ct):=PA.1.c5
  have rzA:cb<Z2.heap.size+1:=by omega
  have hrT:(Z2.drew.alloc (.cells #[.int .i64 x1,.int .i64 x2] 79)).ownsRow B 79 2 (.slice pt m ct) m (flat ts1):=by
   have:=PA.1.things
   unfold TRow at this
   rw [show (Ch.mk (.slice ps sup1.length cs) va1 vf1 (.slice pt m ct) N1 sup1 al1 fl1 (put (x1,x2) (m:Int) nm1) ts1).ts.length=m from hts1] at this
   exact this
  have hBZ:B≤Z2.heap.size:=Nat.le_trans P3.1.lb.1 (by omega)
  have HA:=hid (Jc PA X2)
  clear P3 hg2 X2 bA PA hZ2 yx0 yx1 y4 y5 eu
  go_upto_region 4 with fail
  go_region_law (first
   | (refine step_app rfl _ _ 65 rfl B 79 iT (.agg #[.int .i64 0,.int .i64 0]) 2 16 Try.underlying65 hiT ht0 ht1 ht2 rfl (by decide) _ _ _ rfl hrT ⟨_,0,none⟩ 1 1 _ rfl rfl (new2R _ _ _ _) (by intro u hu; simp at hu; rcases hu with rfl | rfl <;> rfl) (by unfold maxLen; omega) (by omega) (by simp; omega) ?_; intro vt' Z5 hrow hg hloc; obtain ⟨pu,cu,hvu⟩:=ownsRow_shape hrow; subst hvu; obtain ⟨d5,HN⟩:=HA.out.1.1.pushT hg (TRow.snoc (a:=(x1,x2)) (xs:=ts1) (by rw [hts1]; exact hrow)) hloc; have k2:=cellC d5 5; simp only [Jg,Jf,Je] at k2; have k3:=frozenC d5 5; have k4:=(Ja.1 d5).1; have HX:=hid (CPost.trans HA.out.1 HN); clear HN hrow hg hloc d5)
   | fail)
  all_goals
   obtain ⟨Z6,hZ6⟩:∃ Z6,Z5.setCell ⟨cb,5,none⟩ (.slice pu (m+1) cu)=Z6:=⟨_,rfl⟩
   rw [hZ6] at HX ⊢
   have p1:Z6.cell? ⟨cb,1,none⟩=some (.slice ps sup1.length cs):=HX.out.1.c1
   have p4:cb<Z6.heap.size:=HX.out.1.lt
   have b7:Below Z6.heap.size Z6 (Z6.alloc (.cells #[.int .i64 supply] 3)):=(Jd _ _).alloc (Jb _) _
   have g7:=HX.out.behind b7
   have hrS:NRow B (Z6.alloc (.cells #[.int .i64 supply] 3)) (.slice ps sup1.length cs) sup1:=g7.1.sup
   have hB6:B≤Z6.heap.size:=Nat.le_trans HX.out.1.lb.1 (by omega)
   have H7:=hid g7
   clear g7 b7 hZ6 k2 k3 k4 r0 r1 r5 r5A
   go_wp2_with (first
    | (at_builtin; refine wpList_push _ B supply _ _ rfl _ _ rfl rfl hrS Z6.heap.size rfl (by simp) (by simp; omega) (by omega) ?_; intro vs' Z8 hrow8 hg8 hloc8; obtain ⟨pw,cw,hvw⟩:=hrow8.sl; subst hvw; obtain ⟨d8,HN8⟩:=H7.out.1.pushS hg8 hrow8 hloc8; have H8:=hid (CPost.trans H7.out HN8); have k2:=cellC d8 1; simp only [Jg,Jf,Je] at k2; have k3:=frozenC d8 1; have k4:=(Ja.1 d8).1; clear HN8 d8 hg8 hloc8 hrow8)
    | fail)
   go_roundg (xs.length - (k+1))
   case measure=>omega
   case rel =>
    refine ⟨k+1,.slice pw (sup1.length+1) cw,.slice pu (m+1) cu,by omega,Jb _,by go_num,?_⟩
    have hq:=H8.out
    have e9:chNodes c (.slice pw (sup1.length+1) cw) (.slice pu (m+1) cu) supply (xs.take (k+1))={ vs:=.slice pw (sup1.length+1) cw,va:=va1,vf:=vf1,vt:=.slice pu (m+1) cu,N:=N1,sup:=sup1 ++ [supply],al:=al1,fl:=fl1,nm:=put (x1,x2) (m:Int) nm1,ts:=ts1 ++ [(x1,x2)] }:=by
     have h0:=HP.out.2.2.2.1
     unfold chNodes at h0 ⊢
     simp only [Ch.mk.injEq] at h0
     obtain ⟨_,q2,q3,_,q5,q6,q7,q8,q9,q10⟩:=h0
     have htk:xs.take (k+1)=xs.take k ++ [(x1,x2)]:=by rw [List.take_succ_eq_append_getElem hlt,hxk]
     have hlk:(xs.take k).length=k:=by rw [List.length_take]; omega
     rw [htk,addNm_snoc,hlk,hm,q9]
     simp only [Ch.mk.injEq,true_and]
     refine ⟨q2,q3,q5,?_,q7,q8,?_⟩
     ·rw [← q6,Jo,hlk,List.length_singleton,List.replicate_succ',List.append_assoc]
     ·rw [← q10,List.append_assoc]
    rw [Jo,List.length_singleton] at hq
    rw [e9]
    exact hq
 ·obtain rfl:k=xs.length:=by omega
  have P1:=H1.out
  rw [List.take_length] at P1
  obtain ⟨c1,hc1⟩:∃ c1,chNodes c vs vt supply xs=c1:=⟨_,rfl⟩
  rw [hc1] at P1
  obtain ⟨vs1,va1,vf1,vt1,N1,sup1,al1,fl1,nm1,ts1⟩:=c1
  obtain ⟨m,hm⟩:∃ m:Nat,c.ts.length+xs.length=m:=⟨_,rfl⟩
  have hts1:ts1.length=m:=by have:=congrArg (fun c=>c.ts.length) hc1; simp [chNodes] at this; omega
  obtain ⟨pt,ct,hvt⟩:∃ p c,vt1=.slice p m c:=by obtain ⟨p,c,e⟩:=P1.1.things.sl; exact ⟨p,c,by rw [← hts1]; exact e⟩
  subst hvt
  have y5:Z0.cell? ⟨cb,5,none⟩=some (.slice pt m ct):=P1.1.c5
  have y0:Z0.cell? ⟨cb,0,none⟩=some (.int .i64 N1):=P1.1.c0
  have yf:Z0.frozen? ⟨cb,0,none⟩=false:=P1.1.fz 0
  have yc:cb<Z0.heap.size:=P1.1.lt
  have H2:=hid (Jc (P1.trans (P1.1.setN (m:Int))) (Jc hc1 hm))
  clear P1 H1 hc1
  go_wp2_with fail
  go_end0
  refine ⟨rfl,vs,vt,?_⟩
  have:=H2.out.1
  rw [H2.out.2.1]
  exact this
end
end
end Go.Proofs.Ytjdindfjfpdikab
